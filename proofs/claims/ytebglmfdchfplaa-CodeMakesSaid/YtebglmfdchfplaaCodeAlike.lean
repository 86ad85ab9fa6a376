/- 'alike' of rows of bytes; rows of values that a call appends to. -/
import Derived.Test.YtebglmfdchfplaaCodeWorld
namespace Go.Proofs.Ytebglmfdchfplaa
open Go.RowKit
set_option linter.unusedVariables false

/-- A length that may not be, or that is not the first one. -/
def UL (l : Nat → Nat) (i : Nat) : Prop := 64 < l i ∨ l i ≠ l 0
theorem unl_yes (A g o m cm n l0 c c0 : Nat) (a a0 : Option Addr) (w : World) (hA : w.cell? ⟨A, 0, none⟩ = some (.slice (some ⟨g, o, none⟩) m cm)) (hm : 0 < m) (h0 : w.cell? ⟨g, o, none⟩ = some (.slice a0 l0 c0)) (h : 64 < n ∨ n ≠ l0) :
    Calls Try.prog 55 #[.slice a n c, .pointer (some ⟨A, 0, none⟩)] w fun e w' => e = .returned (.bool true) ∧ w' = w := by
  have i1 : (0 : Int) < (m : Int) := by omega
  by_cases h1 : 64 < n
  · clear h
    have e1 : (64 : Int) < (n : Int) := by omega
    go_enter Try.func55, Try.ntmps55
    go_wp2
    go_ret
    exact ⟨rfl, rfl⟩
  · have h2 : n ≠ l0 := by omega
    have e1 : ¬ (64 : Int) < (n : Int) := by omega
    have e2 : ((n : Int) == (l0 : Int)) = false := by simp; omega
    have e3 : ((n : Int) != (l0 : Int)) = true := by simp; omega
    clear h
    go_enter Try.func55, Try.ntmps55
    go_wp2
    go_ret
    exact ⟨rfl, rfl⟩
theorem unl_no (A g o m cm n c c0 : Nat) (a a0 : Option Addr) (w : World) (hA : w.cell? ⟨A, 0, none⟩ = some (.slice (some ⟨g, o, none⟩) m cm)) (hm : 0 < m) (h0 : w.cell? ⟨g, o, none⟩ = some (.slice a0 n c0)) (h : n ≤ 64) :
    Calls Try.prog 55 #[.slice a n c, .pointer (some ⟨A, 0, none⟩)] w fun e w' => e = .returned (.bool false) ∧ w' = w := by
  have i1 : (0 : Int) < (m : Int) := by omega
  have e1 : ¬ (64 : Int) < (n : Int) := by omega
  go_enter Try.func55, Try.ntmps55
  go_wp2
  go_ret
  exact ⟨rfl, rfl⟩

set_option maxHeartbeats 400000 in
theorem indexU_any (A g o n cap cm : Nat) (l : Nat → Nat) (w : World) (hA : w.cell? ⟨A, 0, none⟩ = some (.slice (some ⟨g, o, none⟩) n cm)) (hl : RowL w g o n l) (hn : n ≤ 9223372036854775807) :
    Calls Try.prog 71 #[.slice (some ⟨g, o, none⟩) n cap, .func (.func 55) #[] #[.pointer (some ⟨A, 0, none⟩)]] w
      fun e w' => (∃ x : Int, e = .returned (.int .i64 x) ∧ ((0 ≤ x ∧ ∃ i, i < n ∧ UL l i) ∨ (x < 0 ∧ ∀ i, i < n → ¬ UL l i))) ∧ w' = w := by
  have HL := hid hl
  clear hl
  go_enter Try.func71, Try.ntmps71
  go_wp2
  go_loopw [8] (fun i wr => ∃ k : Nat, k ≤ n ∧ i = .int .i64 k ∧ wr = w ∧ ∀ i, i < k → ¬ UL l i) (fun i _ => n - (intOf i).toNat)
  case atStart => exact ⟨0, by omega, rfl, rfl, fun _ h => absurd h (Nat.not_lt_zero _)⟩
  case round =>
    obtain ⟨k, hk, rfl, rfl, hg⟩ := hrel
    have HG := hid hg
    clear hg
    by_cases hlt : k < n
    · obtain ⟨a, c, hc⟩ := HL.out k hlt
      obtain ⟨a0, c0, h0⟩ := HL.out 0 (by omega)
      rw [Nat.add_zero] at h0
      obtain ⟨x, X⟩ : ∃ x, Hid (l k = x) := ⟨_, rfl⟩
      obtain ⟨y, Y⟩ : ∃ x, Hid (l 0 = x) := ⟨_, rfl⟩
      rw [X.out] at hc
      rw [Y.out] at h0
      by_cases hb : 64 < x ∨ x ≠ y
      · have HB := hid (unl_yes A g o n cm x y c c0 a a0 _ hA (by omega) h0 hb)
        have HU : Hid (UL l k) := by show 64 < l k ∨ l k ≠ l 0; rw [X.out, Y.out]; exact hb
        clear hb h0
        go_wp2_with ((go_at_call 55; (with_reducible refine HB.out.mono ?_); rintro e w1 ⟨rfl, rfl⟩))
        go_ret
        exact ⟨⟨_, rfl, .inl ⟨by omega, k, hlt, HU.out⟩⟩, rfl⟩
      · have hxy : x = y := by omega
        have HB := hid (unl_no A g o n cm x c c0 a a0 _ hA (by omega) (by rw [hxy]; exact h0) (by omega))
        have HU : Hid (¬ UL l k) := by show ¬ (64 < l k ∨ l k ≠ l 0); rw [X.out, Y.out]; exact hb
        clear hb h0 hxy
        go_wp2_with ((go_at_call 55; (with_reducible refine HB.out.mono ?_); rintro e w1 ⟨rfl, rfl⟩))
        go_roundw
        case rel => exact ⟨k + 1, by omega, by go_num, trivial, fun i hi => by
          by_cases e : i = k
          · rw [e]; exact HU.out
          · exact HG.out i (by omega)⟩
        case measure => simp [intOf]; omega
    · obtain rfl : n = k := by omega
      go_wp2
      go_ret
      exact ⟨⟨_, rfl, .inr ⟨by omega, HG.out⟩⟩, rfl⟩
theorem containsU_any (A g o n cap cm : Nat) (l : Nat → Nat) (w : World) (hA : w.cell? ⟨A, 0, none⟩ = some (.slice (some ⟨g, o, none⟩) n cm)) (hl : RowL w g o n l) (hn : n ≤ 9223372036854775807) :
    Calls Try.prog 56 #[.slice (some ⟨g, o, none⟩) n cap, .func (.func 55) #[] #[.pointer (some ⟨A, 0, none⟩)]] w
      fun e w' => ((e = .returned (.bool true) ∧ ∃ i, i < n ∧ UL l i) ∨ (e = .returned (.bool false) ∧ ∀ i, i < n → ¬ UL l i)) ∧ w' = w := by
  have H := hid (indexU_any A g o n cap cm l w hA hl hn)
  clear hA hl hn
  go_enter Try.func56, Try.ntmps56
  go_wp2_with fail
  refine H.out.mono ?_
  rintro e w1 ⟨⟨x, rfl, ⟨h0, hb⟩ | ⟨h0, hb⟩⟩, rfl⟩
  · have HB := hid hb
    clear hb
    go_wp2
    go_ret
    exact ⟨.inl ⟨by simp, HB.out⟩, rfl⟩
  · have HB := hid hb
    have h1 : ¬ 0 ≤ x := by omega
    clear hb
    go_wp2
    go_ret
    exact ⟨.inr ⟨by simp [h1], HB.out⟩, rfl⟩
theorem alike_any (g o n cap : Nat) (l : Nat → Nat) (w : World) (hl : RowL w g o n l) (hg : g < w.heap.size) (hn : n ≤ 9223372036854775807) :
    Calls Try.prog 35 #[.slice (some ⟨g, o, none⟩) n cap] w
      fun e w' => ((e = .returned (.bool true) ∧ ∀ i, i < n → ¬ UL l i) ∨ (e = .returned (.bool false) ∧ ∃ i, i < n ∧ UL l i)) ∧ Up Nul w w' := by
  have hmf : ∀ (fn : Fn) (first cap : Array Value) (w : World), (Instr.makeFunc fn first cap).run Try.prog w = .ok (.func fn first cap) w := fun _ _ _ _ => rfl
  have hnot : ∀ (x : Bool) (w : World), (Op.unary .not (.bool x)).run Try.prog w = .ok (.bool (!x)) w := fun _ _ => rfl
  have hu : Up Nul w (w.alloc (.cells #[.slice (some ⟨g, o, none⟩) n cap] 33)) := (Up.refl _ _).alloc _
  have hA : (w.alloc (.cells #[.slice (some ⟨g, o, none⟩) n cap] 33)).cell? ⟨w.heap.size, 0, none⟩ = some (.slice (some ⟨g, o, none⟩) n cap) := World.cell?_alloc_new w _ _ 0
  have H := hid (containsU_any w.heap.size g o n cap cap l _ hA (hl.up hu hg id) hn)
  have HU := hid hu
  clear hl hg hn hu
  go_enter Try.func35, Try.ntmps35
  go_wp2_with fail
  refine H.out.mono ?_
  rintro e w1 ⟨⟨rfl, hb⟩ | ⟨rfl, hb⟩, rfl⟩
  · have HB := hid hb
    clear hb
    go_wp2
    go_ret
    exact ⟨.inr ⟨rfl, HB.out⟩, HU.out⟩
  · have HB := hid hb
    clear hb
    go_wp2
    go_ret
    exact ⟨.inl ⟨rfl, HB.out⟩, HU.out⟩

/-! ### Rows of values -/
/-- The slice v, of the call's own, holds the values xs, a cell each. -/
def OwnV (T : TypeId) (base : Nat) (w : World) (v : Value) (xs : List Value) : Prop := w.ownsRow base T 1 v xs.length xs
theorem OwnV.nil (T : TypeId) (base : Nat) (w : World) : OwnV T base w (.slice none 0 0) [] := World.ownsRow_nil _ _ _ _
theorem OwnV.alloc {T : TypeId} {base : Nat} {w : World} {v : Value} {xs : List Value} (h : OwnV T base w v xs) (o : Obj) : OwnV T base (w.alloc o) v xs := World.ownsRow.alloc h o
theorem OwnV.drewN {T : TypeId} {base : Nat} {w : World} {v : Value} {xs : List Value} (h : OwnV T base w v xs) (n : Nat) : OwnV T base (w.drewN n) v xs := h
theorem OwnV.up {T : TypeId} {S : Nat → Prop} {base : Nat} {w w' : World} {v : Value} {xs : List Value} (h : OwnV T base w v xs) (u : Up S w w') (hs : ∀ k, base ≤ k → k < w.heap.size → ¬ S k) : OwnV T base w' v xs := by
  refine ⟨h.1, ?_⟩
  rcases h.2 with hn | ⟨g, cap, cur, h1, h2, h3, h4⟩
  · exact .inl hn
  · have hl := (Array.getElem?_eq_some_iff.1 h3).1
    exact .inr ⟨g, cap, cur, h1, h2, (u.block g hl (hs g h2 hl)).trans h3, h4⟩
theorem OwnV.base {T : TypeId} {base : Nat} {w : World} {v : Value} {xs : List Value} (h : OwnV T base w v xs) : ∀ k, v.ownBlock = some k → base ≤ k := fun k hk => (World.ownsRow.lt h k hk).1
theorem OwnV.shape {T : TypeId} {base : Nat} {w : World} {v : Value} {xs : List Value} (h : OwnV T base w v xs) : ∃ a cap, v = .slice a xs.length cap := by
  rcases h.2 with ⟨e, e0⟩ | ⟨g, cap, cur, e, _⟩
  · exact ⟨none, 0, by rw [e, e0]⟩
  · exact ⟨_, _, e⟩
theorem OwnV.row {T : TypeId} {base : Nat} {w : World} {v : Value} {xs : List Value} (h : OwnV T base w v xs) (h0 : 0 < xs.length) :
    ∃ g cap, v = .slice (some ⟨g, 0, none⟩) xs.length cap ∧ base ≤ g ∧ g < w.heap.size ∧ (∀ i x, xs[i]? = some x → w.cell? ⟨g, i, none⟩ = some x) ∧ (∀ i, w.frozen? ⟨g, i, none⟩ = false) ∧ xs.length ≤ cap := by
  rcases h.2 with ⟨_, hn⟩ | ⟨g, cap, cur, h1, h2, h3, h4, h5, h6, h7⟩
  · omega
  · refine ⟨g, cap, h1, h2, (Array.getElem?_eq_some_iff.1 h3).1, fun i x hi => ?_, fun i => by simp [World.frozen?, h3], h4⟩
    have hl : i < xs.length := by
      rcases Nat.lt_or_ge i xs.length with h | h
      · exact h
      · rw [List.getElem?_eq_none h] at hi; cases hi
    have hc : cur[i]? = some x := by
      have e : (cur.toList.take (xs.length * 1))[i]? = some x := by rw [h7]; exact hi
      rw [List.getElem?_take, if_pos (by omega)] at e
      simpa using e
    simp only [World.cell?, h3]
    exact hc
/-- append(v, y...). -/
theorem wpList_append_vals {t T : TypeId} {zr : Value} {by_ : Nat} (ht : Try.prog.underlying t = some (.slice T)) (hinf : (Try.prog.info? T).map (fun i => (i.zero, i.size, i.bytes)) = some (some zr, 1, by_)) (hz1 : zr.cells.size = 1) (hby : by_ ≤ 24)
    {w : World} {ops : Array Oper} {rest : List Oper} {o : Oper} {a : Act} {Q : Exit → Act → World → Prop} (hgd : o.guard = none) (s x : Operand)
    (ho : o.op = .call { callee := .builtin .append, args := #[s, x], argTypes := #[t, t] }) (base : Nat) (v : Value) (xs : List Value) (hs : a.eval s = v) (hown : OwnV T base w v xs)
    (ad : Addr) (n cap : Nat) (ys : List Value) (hx : a.eval x = .slice (some ad) n cap) (hc : ∀ j u, ys[j]? = some u → w.cell? (ad.add j) = some u) (h1 : ∀ u ∈ ys, u.oneCell' = true) (hy : ys.length = n) (hl : xs.length + n ≤ 1000000) (hbase : base ≤ w.heap.size)
    (h : ∀ v' w', Hid (OwnV T base w' v' (xs ++ ys)) → Hid (w.grownBy w' v.ownBlock) → wpList Try.prog ops Q rest (a.put o.dst v') w') : wpList Try.prog ops Q (o :: rest) a w := by
  obtain ⟨i0, hi, hz0, hz2, hz3⟩ := info_parts hinf
  refine wpList_append_own w hgd s x t ho base T i0 zr 1 by_ ht hi hz0 hz2 hz3 hz1 (by decide) v xs.length xs hs hown ad n cap ys hx (by rw [hy, Nat.mul_one]) hc h1 (by unfold maxLen; omega) ?_ hbase fun v' w' g1 g2 _ => h v' w' ?_ g2
  · have := Nat.mul_le_mul (show xs.length + n ≤ 1000000 from hl) hby
    omega
  · show w'.ownsRow base T 1 v' (xs ++ ys).length (xs ++ ys)
    rw [List.length_append, hy]
    exact g1
theorem info_int : (Try.prog.info? 3).map (fun i => (i.zero, i.size, i.bytes)) = some (some (.int .i64 0), 1, 8) := by kernel_rfl
/-- append(v, one int). -/
theorem wpList_append_int {w : World} {ops : Array Oper} {rest : List Oper} {o : Oper} {a : Act} {Q : Exit → Act → World → Prop} (hgd : o.guard = none) (s x : Operand)
    (ho : o.op = .call { callee := .builtin .append, args := #[s, x], argTypes := #[53, 53] }) (base : Nat) (v : Value) (xs : List Value) (hs : a.eval s = v) (hown : OwnV 3 base w v xs)
    (ad : Addr) (cap : Nat) (y : Int) (hx : a.eval x = .slice (some ad) 1 cap) (hc : w.cell? ad = some (.int .i64 y)) (hl : xs.length + 1 ≤ 1000000) (hbase : base ≤ w.heap.size)
    (h : ∀ v' w', Hid (OwnV 3 base w' v' (xs ++ [.int .i64 y])) → Hid (w.grownBy w' v.ownBlock) → wpList Try.prog ops Q rest (a.put o.dst v') w') : wpList Try.prog ops Q (o :: rest) a w :=
  wpList_append_vals Try.underlying53 info_int rfl (by omega) hgd s x ho base v xs hs hown ad 1 cap [.int .i64 y] hx (fun j u hj => by
    match j, hj with
    | 0, hj => simp at hj; subst hj; simpa [Addr.add] using hc) (fun u hu => by simp at hu; subst hu; rfl) rfl hl hbase h
end Go.Proofs.Ytebglmfdchfplaa
