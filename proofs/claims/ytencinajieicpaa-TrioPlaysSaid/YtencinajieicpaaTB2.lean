/- Part 2 of what the walks rest on: RefDisk, OwnV, PadStr, Ints, DiskCrash. -/
import Derived.Test.YtencinajieicpaaTB1
namespace Go.Proofs.Ytencinajieicpaa
open Go.RowKit
set_option linter.unusedVariables false

/-- The document's Fuse, or none. -/
def RFzO (w : World) (fu : Option Nat) (k : Option Nat) : Prop := match fu with
  | none => k = none
  | some f => RFz w f k
theorem RFzO.up {S : Nat → Prop} {w w' : World} {fu k : Option Nat} (h : RFzO w fu k) (u : Up S w w') (hs : ∀ f, fu = some f → ¬ S f) : RFzO w' fu k := by
  cases fu with
  | none => exact h
  | some f => exact RFz.up h u (hs f rfl)
theorem rdead_any (f : Nat) (k : Option Nat) (w : World) (h : RFz w f k) :
    Calls Try.prog 66 #[.pointer (some ⟨f, 0, none⟩)] w fun e w' => e = .returned (.bool (k == some 0)) ∧ w' = w := by
  rcases k with _ | _ | n
  · have c0 : w.cell? ⟨f, 0, none⟩ = some (.bool true) := RFz.c0 h
    clear h
    go_enter Try.func66, Try.ntmps66
    go_wp2
    go_ret
    exact ⟨rfl, rfl⟩
  · have c0 : w.cell? ⟨f, 0, none⟩ = some (.bool false) := RFz.c0 h
    have c1 : w.cell? ⟨f, 1, none⟩ = some (.int .i64 0) := RFz.c1 h
    clear h
    go_enter Try.func66, Try.ntmps66
    go_wp2
    go_ret
    exact ⟨rfl, rfl⟩
  · have c0 : w.cell? ⟨f, 0, none⟩ = some (.bool false) := RFz.c0 h
    have c1 : w.cell? ⟨f, 1, none⟩ = some (.int .i64 ((n + 1 : Nat) : Int)) := RFz.c1 h
    have e : (some (n + 1) == some 0) = false := by simp
    rw [e]
    clear h
    generalize hm : n + 1 = m at c1
    have i1 : ¬ (m : Int) = 0 := by omega
    clear hm e
    go_enter Try.func66, Try.ntmps66
    go_wp2
    go_ret
    exact ⟨by simp; omega, rfl⟩
theorem RFz.set {w : World} {f m : Nat} (h : RFz w f (some (m + 1))) : RFz (w.setCell ⟨f, 1, none⟩ (.int .i64 (m : Int))) f (some m) :=
  ⟨heap_setCell_same w f 1 _ _ _ h.heap, by have := h.le; simp at this ⊢; omega⟩
theorem rspend_dead (f : Nat) (w : World) (h : RFz w f (some 0)) :
    Calls Try.prog 65 #[.pointer (some ⟨f, 0, none⟩)] w fun e w' => e = .returned (.bool false) ∧ w' = w := by
  have c0 : w.cell? ⟨f, 0, none⟩ = some (.bool false) := RFz.c0 h
  have c1 : w.cell? ⟨f, 1, none⟩ = some (.int .i64 0) := RFz.c1 h
  clear h
  go_enter Try.func65, Try.ntmps65
  go_wp2
  go_ret
  exact ⟨rfl, rfl⟩
theorem rspend_live (f : Nat) (k : Option Nat) (w : World) (h : RFz w f k) (hk : k ≠ some 0) :
    Calls Try.prog 65 #[.pointer (some ⟨f, 0, none⟩)] w fun e w' => e = .returned (.bool true) ∧ RFz w' f (less k) ∧ Up (One f) w w' := by
  rcases k with _ | _ | n
  · have HF : Hid (RFz w f none) := h
    have c0 : w.cell? ⟨f, 0, none⟩ = some (.bool true) := RFz.c0 h
    clear h hk
    go_enter Try.func65, Try.ntmps65
    go_wp2
    go_ret
    exact ⟨rfl, HF.out, Up.refl _ _⟩
  · exact absurd rfl hk
  · have HF : Hid (RFz w f (some (n + 1))) := h
    have c0 : w.cell? ⟨f, 0, none⟩ = some (.bool false) := RFz.c0 h
    have c1 : w.cell? ⟨f, 1, none⟩ = some (.int .i64 ((n + 1 : Nat) : Int)) := RFz.c1 h
    have f1 := RFz.fr h 1
    have hle : n + 1 ≤ 9223372036854775807 := HF.out.le
    have HS := hid HF.out.set
    have i1 : ((n + 1 : Nat) : Int) - 1 = (n : Int) := by omega
    obtain ⟨m, hm⟩ : ∃ m, m = n + 1 := ⟨_, rfl⟩
    rw [← hm] at c1 i1
    have i3 : ((m : Int) == 0) = false := by simp; omega
    have i4 : IntKind.i64.wrap ((m : Int) - 1) = (n : Int) := by rw [i1]; exact IntWalk.i64_in _ (by omega)
    have i5 : wrap64 ((m : Int) - 1) = (n : Int) := by rw [← IntWalk.i64_left]; exact i4
    have i6 : wrap64 (n : Int) = (n : Int) := by rw [i1] at i5; exact i5
    clear hk hm hle h
    go_enter Try.func65, Try.ntmps65
    go_wp2
    go_ret
    exact ⟨rfl, HS.out, (Up.refl (One f) _).put rfl _ _⟩
theorem rnewFuse_any (k : Int) (w : World) (hk : k ≤ 9223372036854775807) :
    Calls Try.prog 26 #[.int .i64 k] w fun e w' => ∃ f, e = .returned (.pointer (some ⟨f, 0, none⟩)) ∧ RFz w' f (ofk k) ∧ Up Nul w w' ∧ w.heap.size ≤ f := by
  by_cases h1 : 1 ≤ k
  · have HE : Hid (RFz (w.alloc (.cells #[.bool false, .int .i64 k] 71)) w.heap.size (ofk k)) := by
      refine ⟨?_, by rw [ofk, if_pos h1]; simp; omega⟩
      rw [ofk, if_pos h1, heap_alloc_new]
      simp
      omega
    have i1 : max k 0 = k := by omega
    have i2 : ¬ k < 1 := by omega
    have HU := hid ((Up.refl Nul w).alloc (.cells #[.bool false, .int .i64 k] 71))
    go_enter Try.func26, Try.ntmps26
    go_wp2
    go_ret
    exact ⟨_, rfl, HE.out, HU.out, Nat.le_refl _⟩
  · have HE : Hid (RFz (w.alloc (.cells #[.bool true, .int .i64 0] 71)) w.heap.size (ofk k)) := by
      refine ⟨?_, by rw [ofk, if_neg h1]; simp⟩
      rw [ofk, if_neg h1, heap_alloc_new]
      simp
    have i1 : max k 0 = 0 := by omega
    have i2 : k < 1 := by omega
    have HU := hid ((Up.refl Nul w).alloc (.cells #[.bool true, .int .i64 0] 71))
    go_enter Try.func26, Try.ntmps26
    go_wp2
    go_ret
    exact ⟨_, rfl, HE.out, HU.out, Nat.le_refl _⟩

/-- The slice v, of the call's own, holds the values xs, a cell each. -/
def OwnV (T : TypeId) (base : Nat) (w : World) (v : Value) (xs : List Value) : Prop := w.ownsRow base T 1 v xs.length xs
theorem OwnV.nil (T : TypeId) (base : Nat) (w : World) : OwnV T base w (.slice none 0 0) [] := World.ownsRow_nil _ _ _ _
theorem OwnV.alloc {T : TypeId} {base : Nat} {w : World} {v : Value} {xs : List Value} (h : OwnV T base w v xs) (o : Obj) : OwnV T base (w.alloc o) v xs := World.ownsRow.alloc h o
theorem OwnV.drewN {T : TypeId} {base : Nat} {w : World} {v : Value} {xs : List Value} (h : OwnV T base w v xs) (n : Nat) : OwnV T base (w.drewN n) v xs := h
theorem OwnV.up {T : TypeId} {S : Nat → Prop} {base : Nat} {w w' : World} {v : Value} {xs : List Value} (h : OwnV T base w v xs) (u : Up S w w') (hs : ∀ k, base ≤ k → k < w.heap.size → ¬ S k) : OwnV T base w' v xs := by
  refine ⟨h.1, ?_⟩
  rcases h.2 with hn | ⟨g, cap, cur, h1, h2, h3, h4⟩
  · exact .inl hn
  · have hl := (Array.getElem?_eq_some_iff.1 h3).1
    exact .inr ⟨g, cap, cur, h1, h2, (u.block g hl (hs g h2 hl)).trans h3, h4⟩
theorem OwnV.base {T : TypeId} {base : Nat} {w : World} {v : Value} {xs : List Value} (h : OwnV T base w v xs) : ∀ k, v.ownBlock = some k → base ≤ k := fun k hk => (World.ownsRow.lt h k hk).1
theorem OwnV.shape {T : TypeId} {base : Nat} {w : World} {v : Value} {xs : List Value} (h : OwnV T base w v xs) : ∃ a cap, v = .slice a xs.length cap := by
  rcases h.2 with ⟨e, e0⟩ | ⟨g, cap, cur, e, _⟩
  · exact ⟨none, 0, by rw [e, e0]⟩
  · exact ⟨_, _, e⟩
theorem OwnV.row {T : TypeId} {base : Nat} {w : World} {v : Value} {xs : List Value} (h : OwnV T base w v xs) (h0 : 0 < xs.length) :
    ∃ g cap, v = .slice (some ⟨g, 0, none⟩) xs.length cap ∧ base ≤ g ∧ g < w.heap.size ∧ (∀ i x, xs[i]? = some x → w.cell? ⟨g, i, none⟩ = some x) ∧ (∀ i, w.frozen? ⟨g, i, none⟩ = false) ∧ xs.length ≤ cap := by
  rcases h.2 with ⟨_, hn⟩ | ⟨g, cap, cur, h1, h2, h3, h4, h5, h6, h7⟩
  · omega
  · refine ⟨g, cap, h1, h2, (Array.getElem?_eq_some_iff.1 h3).1, fun i x hi => ?_, fun i => by simp [World.frozen?, h3], h4⟩
    have hl : i < xs.length := by
      rcases Nat.lt_or_ge i xs.length with h | h
      · exact h
      · rw [List.getElem?_eq_none h] at hi; cases hi
    have hc : cur[i]? = some x := by
      have e : (cur.toList.take (xs.length * 1))[i]? = some x := by rw [h7]; exact hi
      rw [List.getElem?_take, if_pos (by omega)] at e
      simpa using e
    simp only [World.cell?, h3]
    exact hc
/-- append(v, y...). -/
theorem wpList_append_vals {t T : TypeId} {zr : Value} {by_ : Nat} (ht : Try.prog.underlying t = some (.slice T)) (hinf : (Try.prog.info? T).map (fun i => (i.zero, i.size, i.bytes)) = some (some zr, 1, by_)) (hz1 : zr.cells.size = 1) (hby : by_ ≤ 24)
    {w : World} {ops : Array Oper} {rest : List Oper} {o : Oper} {a : Act} {Q : Exit → Act → World → Prop} (hgd : o.guard = none) (s x : Operand)
    (ho : o.op = .call { callee := .builtin .append, args := #[s, x], argTypes := #[t, t] }) (base : Nat) (v : Value) (xs : List Value) (hs : a.eval s = v) (hown : OwnV T base w v xs)
    (ad : Addr) (n cap : Nat) (ys : List Value) (hx : a.eval x = .slice (some ad) n cap) (hc : ∀ j u, ys[j]? = some u → w.cell? (ad.add j) = some u) (h1 : ∀ u ∈ ys, u.oneCell' = true) (hy : ys.length = n) (hl : xs.length + n ≤ 1000000) (hbase : base ≤ w.heap.size)
    (h : ∀ v' w', Hid (OwnV T base w' v' (xs ++ ys)) → Hid (w.grownBy w' v.ownBlock) → wpList Try.prog ops Q rest (a.put o.dst v') w') : wpList Try.prog ops Q (o :: rest) a w := by
  obtain ⟨i0, hi, hz0, hz2, hz3⟩ := info_parts hinf
  refine wpList_append_own w hgd s x t ho base T i0 zr 1 by_ ht hi hz0 hz2 hz3 hz1 (by decide) v xs.length xs hs hown ad n cap ys hx (by rw [hy, Nat.mul_one]) hc h1 (by unfold maxLen; omega) ?_ hbase fun v' w' g1 g2 _ => h v' w' ?_ g2
  · have := Nat.mul_le_mul (show xs.length + n ≤ 1000000 from hl) hby
    omega
  · show w'.ownsRow base T 1 v' (xs ++ ys).length (xs ++ ys)
    rw [List.length_append, hy]
    exact g1
/-- Two rows of the same strings. -/
structure St2 (w : World) (g n : Nat) (R : Nat → List Nat) : Prop where
  cells : ∀ i, i < n → w.cell? ⟨g, i, none⟩ = some (.string (strOf (R i)))
  lt : g < w.heap.size
theorem St2.up {w w' : World} {g n : Nat} {R : Nat → List Nat} (h : St2 w g n R) (u : Up Nul w w') : St2 w' g n R :=
  ⟨fun i hi => (u.cell (p := ⟨g, i, none⟩) h.lt id).trans (h.cells i hi), Nat.lt_of_lt_of_le h.lt u.size⟩
theorem slice_to (s : ByteArray) (k : Nat) (h : k ≤ s.size) (W : World) : (Instr.slice 9 (.string s) none (some (.int .i64 (k : Int))) none).run Try.prog W = .ok (.string (s.extract 0 k)) W := by
  rw [run_slice_string_h (P := Try.prog) W 9 s Try.underlying9 .i64 k (by omega) (by omega)]
  simp

/-- A slice of ints that came in: each of its cells holds f there, in every world that is as w was. -/
structure SlI (w : World) (a : Option Addr) (n : Nat) (f : Nat → Int) : Prop where
  row : n = 0 ∨ ∃ g o, a = some ⟨g, o, none⟩ ∧ g < w.heap.size ∧ ∀ i, i < n → w.cell? ⟨g, o + i, none⟩ = some (.int .i64 (f i))
  le : n ≤ 9223372036854775807
theorem SlI.nxt {w w' : World} {a : Option Addr} {n : Nat} {f : Nat → Int} (h : SlI w a n f) (u : Up Nul w w') : SlI w' a n f := by
  refine ⟨?_, h.le⟩
  rcases h.row with e | ⟨g, o, e, l, r⟩
  · exact .inl e
  · exact .inr ⟨g, o, e, Nat.lt_of_lt_of_le l u.size, fun i hi => (u.cell (p := ⟨g, o + i, none⟩) l id).trans (r i hi)⟩
/-- What the row's step knows of a slice of ints. -/
abbrev CameI (w : World) (a : Option Addr) (len cap : Nat) (zs : List Int) : Prop :=
  (a = none ∧ len = 0 ∧ cap = 0 ∧ zs = []) ∨
  ∃ x, a = some x ∧ len ≤ cap ∧ cap ≤ maxLen ∧ zs.length = cap ∧ (∀ i, i < zs.length → w.cell? (x.add i) = some (.int .i64 (zs.getD i 0))) ∧ ∀ n ∈ zs, (Lit.int .i64 n).wf = true
theorem SlI.of {w : World} {a : Option Addr} {len cap : Nat} {zs : List Int} (h : CameI w a len cap zs) : ∃ f, SlI w a len f := by
  rcases h with ⟨_, h, _⟩ | ⟨x, rfl, hl, hm, hz, hc, hw⟩
  · exact ⟨fun _ => 0, .inl h, by omega⟩
  · unfold maxLen at hm
    by_cases h0 : len = 0
    · exact ⟨fun _ => 0, .inl h0, by omega⟩
    · obtain ⟨b, o, spot⟩ := x
      have hc0 := hc 0 (by omega)
      have hs : spot = none := by simpa [Addr.add] using World.cell?_spot hc0
      subst hs
      refine ⟨fun i => zs.getD i 0, .inr ⟨b, o, rfl, lt_of_cell hc0, fun i hi => ?_⟩, by omega⟩
      have := hc i (by omega)
      rw [add_off] at this
      exact this
/-- A pending write taken back, but its first t bytes. -/
def und (p : Nat × List Nat) (t : Nat) (z : List Nat) : List Nat := over z (p.1 * 96 + t) (p.2.drop t)
/-- The slots, n of the pending writes taken back, the last ones first. -/
def crs (ps : List (Nat × List Nat)) (keep torn : Nat) (z : List Nat) : Nat → List Nat
  | 0 => z
  | n + 1 => und (ps.getD (ps.length - 1 - n) (0, [])) (if ps.length - 1 - n = keep then torn else 0) (crs ps keep torn z n)
/-- The slots behind a crash. -/
def crash (ps : List (Nat × List Nat)) (keep torn : Nat) (z : List Nat) : List Nat := crs ps keep torn z (ps.length - keep)
theorem wpList_store_new {ops : Array Oper} {rest : List Oper} {op : Oper} {a : Act} {w : World} {Q : Exit → Act → World → Prop} (hgd : op.guard = none) (ty : TypeId) (x y : Operand) (ho : op.op = .store ty x y) (c c' : Array Value) (hx : a.eval x = .pointer (some ⟨w.heap.size, 0, none⟩)) (hy : a.eval y = .agg c')
    (hi : (Try.prog.info? ty).map (·.size) = some c'.size) (hs : c.size = c'.size) (h1 : c'.all (·.oneCell') = true)
    (h : wpList Try.prog ops Q rest (a.put op.dst undef) (w.alloc (.cells c' ty))) : wpList Try.prog ops Q (op :: rest) a (w.alloc (.cells c ty)) :=
  wpList_plain hgd fun _ hK => by
    unfold Oper.wp execOp
    simp only [ho, hx, hy, Sem.run_bind, run_storeAt_new (P := Try.prog) w ty c c' hi hs h1, Result.andThen_ok]
    exact hK _ _ h
end Go.Proofs.Ytencinajieicpaa
