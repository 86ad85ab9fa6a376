/- A source of bytes: 'next', 'number'. -/
import Derived.Test.YtpdkcpjofofkoaaDoorRcBase
import Derived.Deep.RegionLaw
namespace Go.Proofs.YtpdkcpjofofkoaaDoor
open Go.RowKit
set_option linter.unusedVariables false
set_option linter.unusedSimpArgs false

/-- The next m bytes, noughts in the place of what is lacking. -/
def nx (m : Nat) (z : List Nat) : List Nat := z.take m ++ zer (m - z.length)
theorem nx_length (m : Nat) (z : List Nat) : (nx m z).length = m := by
  unfold nx
  rw [List.length_append, List.length_take, zer_length]
  omega
theorem nx_small {m : Nat} {z : List Nat} (h : ∀ x ∈ z, x < 256) : ∀ x ∈ nx m z, x < 256 := by
  intro x hx
  rcases List.mem_append.1 hx with hx | hx
  · exact h x (List.mem_of_mem_take hx)
  · exact zer_small _ x hx
theorem Row.part {w : World} {b o : Nat} {z : List Nat} (h : Row w b o z) (k : Nat) : Row w b o (z.take k) := by
  refine ⟨fun i hi => ?_, fun i => ?_⟩
  · rw [List.length_take] at hi
    rw [h.cells i (by omega)]
    simp [List.getD_eq_getElem?_getD, List.getElem?_take, show i < k by omega]
  · have := h.small i
    simp only [List.getD_eq_getElem?_getD, List.getElem?_take] at this ⊢
    split
    · exact this
    · decide
/-- copy of as many as there are into noughts. -/
theorem copy_min (w : World) (ty : TypeId) (g m : Nat) (ad : Option Addr) (n sCap : Nat) (z : List Nat) (hg : Blk w g (zer m)) (hz : SlN w ad n z) :
    ∃ w', (Builtin.copy_ #[32, 32] ty #[.slice (some ⟨g, 0, none⟩) m m, .slice ad n sCap]).run Tryd.prog w = .ok (goInt ((Nat.min n m : Nat) : Int)) w' ∧ Blk w' g (nx m z) ∧ Up (One g) w w' := by
  have hl := hz.len
  rcases hz.row with rfl | ⟨b, so, rfl, hb, r⟩
  · obtain rfl : z = [] := List.eq_nil_of_length_eq_zero hz.len
    refine ⟨w, ?_, by simpa [nx] using hg, Up.refl _ _⟩
    have := run_copy_none (P := Tryd.prog) (ty := ty) w 32 32 5 (some ⟨g, 0, none⟩) ad m m 0 sCap Tryd.underlying32 info_u8_size (Nat.zero_min _)
    rw [this, show Nat.min 0 m = 0 from Nat.zero_min _]
    rfl
  · have rp := r.part m
    obtain ⟨k, hk⟩ : ∃ k, k = Nat.min n m := ⟨_, rfl⟩
    have hkl : (z.take m).length = k := by rw [List.length_take, hl, hk, Nat.min_comm]
    have hkm : k ≤ m := by rw [hk]; exact Nat.min_le_right _ _
    have hsrc : ∀ (j : Nat) (v : Value), ((z.take m).map fun (n : Nat) => Value.int .u8 (n : Int))[j]? = some v → w.cell? (Addr.add ⟨b, so, none⟩ j) = some v := by
      intro j v hv
      rw [List.getElem?_map] at hv
      have hj : j < (z.take m).length := by
        rcases Nat.lt_or_ge j (z.take m).length with h | h
        · exact h
        · rw [List.getElem?_eq_none h] at hv; cases hv
      rw [List.getElem?_eq_getElem hj] at hv
      have hc := rp.cells j hj
      rw [List.getD_eq_getElem?_getD, List.getElem?_eq_getElem hj] at hc
      rw [add_off, hc]
      exact hv
    have hlm : ((z.take m).map fun (n : Nat) => Value.int .u8 (n : Int)).length = k := by rw [List.length_map, hkl]
    have h := run_copy_row (P := Tryd.prog) w 32 32 ty 5 g 0 m m ⟨b, so, none⟩ n sCap (bys (zer m)) 5 ((z.take m).map fun (n : Nat) => Value.int .u8 (n : Int)) Tryd.underlying32 info_u8_size hg.heap
      (by rw [hlm]; exact hk) hsrc (by rw [hlm, bys_size, zer_length]; omega) (fun v hv => by
        obtain ⟨k, _, rfl⟩ := List.mem_map.1 hv
        rfl)
    rw [hlm] at h
    rw [← hk]
    refine ⟨_, h, ⟨?_, nx_small fun x hx => ?_⟩, ⟨rfl, rfl, rfl, by simp [World.setRow], fun k hk hs => setRow_other w g k _ hs⟩⟩
    · have e : ((bys (zer m)).toList.take 0 ++ ((z.take m).map fun (n : Nat) => Value.int .u8 (n : Int)) ++ (bys (zer m)).toList.drop (0 + k)).toArray = bys (nx m z) := by
        have e2 : m - k = m - z.length := by rw [hl, hk]; unfold Nat.min; simp only [Nat.min_def]; split <;> omega
        unfold bys nx
        rw [List.take_zero, List.nil_append, Nat.zero_add, List.map_append]
        congr 2
        simp [zer, e2]
      rw [e]
      exact setRow_heap w g _ _ _ _ hg.heap
    · obtain ⟨i, hi, rfl⟩ := List.mem_iff_getElem.1 hx
      have := r.small i
      rwa [List.getD_eq_getElem?_getD, List.getElem?_eq_getElem hi] at this
/-- A source of the bytes b at block q; its bytes lie below block B. -/
structure So (B : Nat) (w : World) (q : Nat) (b : List Nat) : Prop where
  ex : ∃ a c, w.heap[q]? = some (.cells #[.slice a b.length c] 83 (0, 0)) ∧ (b.length = 0 ∨ ∃ g o, a = some ⟨g, o, none⟩ ∧ g < B ∧ Row w g o b) ∧ b.length ≤ c
  le : b.length ≤ 9223372036854775807
  bq : B ≤ q
theorem So.lt {B : Nat} {w : World} {q : Nat} {b : List Nat} (h : So B w q b) : q < w.heap.size := by
  obtain ⟨a, c, h, _⟩ := h.ex
  exact (Array.getElem?_eq_some_iff.1 h).1
theorem So.keep {B : Nat} {T : Nat → Prop} {w w' : World} {q : Nat} {b : List Nat} (h : So B w q b) (u : Up T w w') (hT : ∀ k, k < w.heap.size → T k → B ≤ k ∧ k ≠ q) : So B w' q b := by
  have hl := h.lt
  obtain ⟨⟨a, c, h1, h2, h3⟩, h4, h5⟩ := h
  refine ⟨⟨a, c, (u.block q hl (fun e => (hT q hl e).2 rfl)).trans h1, ?_, h3⟩, h4, h5⟩
  rcases h2 with h2 | ⟨g, o, e, hg, r⟩
  · exact .inl h2
  · have hgl : g < w.heap.size := by omega
    exact .inr ⟨g, o, e, hg, r.up u hgl (fun e => by have := (hT g hgl e).1; omega)⟩
theorem So.nxt {B : Nat} {w w' : World} {q : Nat} {b : List Nat} (h : So B w q b) (u : Up Nul w w') : So B w' q b := h.keep u fun _ _ h => h.elim
theorem atOff_len {a : Option Addr} {n c k : Nat} : True := trivial
/-- s[k:] -/
theorem run_behind (a : Option Addr) (n cap k : Nat) (hk : k ≤ n) (w : World) :
    (Instr.slice 32 (.slice a n cap) (some (.int .i64 (k : Int))) none none).run Tryd.prog w = .ok (.slice (atOff a k cap) (n - k) (cap - k)) w := by
  rw [run_slice_l (P := Tryd.prog) (w := w) 32 a n cap (by kernel_rfl) .i64 k (by omega) (by omega), size_byte]
  simp only [Result.andThen, sliced, Int.toNat_natCast, Nat.mul_one, atOff]
/-- A copy whose run is known. -/
theorem step_copy_eqv {w w' : World} {ops : Array Oper} {o : Oper} {a : Act} {K : Act → World → Prop} {Q : Exit → Act → World → Prop} {E : Prop} (hgd : o.guard = none) (s x : Operand) (t : TypeId)
    (ho : o.op = .call { callee := .builtin .copy, args := #[s, x], argTypes := #[t, t] }) (v y v' : Value) (hs : a.eval s = v) (hx : a.eval x = y) (hrun : (Builtin.copy_ #[t, t] o.type #[v, y]).run Tryd.prog w = .ok v' w') (h : K (a.put o.dst v') w') : if Region.wanted o (yielded ops a.tmps) = true then Oper.wp Tryd.prog o a w K Q else E := by
  rw [if_pos (by simp [Region.wanted, hgd])]
  unfold Oper.wp
  simp [execOp, ho, resolve, invoke, builtin, hs, hx, hrun, Result.andThen]
  exact h
set_option maxHeartbeats 1000000 in
theorem next_any (B : Nat) (w : World) (q m : Nat) (b : List Nat) (h : So B w q b) (hm : m ≤ 1000) :
    Calls Tryd.prog 47 #[.pointer (some ⟨q, 0, none⟩), .int .i64 (m : Nat)] w fun e w' => ∃ g, e = .returned (.slice (some ⟨g, 0, none⟩) m m) ∧ Blk w' g (nx m b) ∧ So B w' q (b.drop m) ∧ Up (One q) w w' ∧ w.heap.size ≤ g := by
  have hq0 := h.lt
  obtain ⟨⟨a, c, hq, hr, hc⟩, hle, hBq⟩ := h
  have hs : SlN w a b.length b := ⟨rfl, hr.imp id fun ⟨g, o, e, hg, r⟩ => ⟨g, o, e, by omega, r⟩, hle⟩
  obtain ⟨n, N⟩ : ∃ n, Hid (b.length = n) := ⟨_, rfl⟩
  rw [N.out] at hq hs hc hle
  have hmk := make_bytes w m (by omega)
  have hql := (Array.getElem?_eq_some_iff.1 hq).1
  obtain ⟨W1, hW1⟩ : ∃ W, W = w.alloc (.cells (bys (zer m)) 5) := ⟨_, rfl⟩
  have UA : Up Nul w W1 := by rw [hW1]; exact (Up.refl Nul w).alloc _
  have HB : Blk W1 w.heap.size (zer m) := by rw [hW1]; exact Blk.new w (zer m) (zer_small m)
  have hq1 := (UA.block q hql id).trans hq
  rw [← hW1] at hmk
  obtain ⟨W2, hcp, h1, h2⟩ := copy_min W1.drew 3 w.heap.size m a n c b HB.drew (hs.nxt UA.drew)
  obtain ⟨k, K⟩ : ∃ k, Hid (Nat.min n m = k) := ⟨_, rfl⟩
  rw [K.out] at hcp
  have hkn : k ≤ n := by rw [← K.out]; exact Nat.min_le_left _ _
  have hne : q ≠ w.heap.size := by omega
  have hq2 : W2.heap[q]? = some (.cells #[.slice a n c] 83 (0, 0)) := (h2.block q (Nat.lt_of_lt_of_le hql UA.size) hne).trans hq1
  have hsl := run_behind a n c k hkn
  have x1 : W1.cell? ⟨q, 0, none⟩ = some (.slice a n c) := by simp [World.cell?, hq1]
  have x2 : W2.cell? ⟨q, 0, none⟩ = some (.slice a n c) := by simp [World.cell?, hq2]
  have x3 : W2.frozen? ⟨q, 0, none⟩ = false := by simp [World.frozen?, hq2]
  obtain ⟨g, G⟩ : ∃ g, Hid (w.heap.size = g) := ⟨_, rfl⟩
  rw [G.out] at hmk hcp h1 h2
  have HR : Hid (Blk (W2.setCell ⟨q, 0, none⟩ (.slice (atOff a k c) (n - k) (c - k))) g (nx m b) ∧ So B (W2.setCell ⟨q, 0, none⟩ (.slice (atOff a k c) (n - k) (c - k))) q (b.drop m) ∧ Up (One q) w (W2.setCell ⟨q, 0, none⟩ (.slice (atOff a k c) (n - k) (c - k)))) := by
    have hgq : g ≠ q := by rw [← G.out]; omega
    have U12 : Up (One g) w W2 := (Up.mono UA.nul fun _ _ h => h).trans ⟨h2.os, h2.tape, h2.output, h2.size, h2.block⟩
    have U13 : Up (One q) w W2 := ⟨U12.os, U12.tape, U12.output, U12.size, fun k hk hs => U12.block k hk (fun e => by have e : k = g := e; rw [← G.out] at e; omega)⟩
    have hkb : b.drop k = b.drop m := by
      rcases Nat.le_total n m with h | h
      · have : k = n := by rw [← K.out]; exact Nat.min_eq_left h
        rw [List.drop_of_length_le (by rw [N.out]; omega), List.drop_of_length_le (by rw [N.out]; omega)]
      · have : k = m := by rw [← K.out]; exact Nat.min_eq_right h
        rw [this]
    have hlen : (b.drop m).length = n - k := by rw [← hkb, List.length_drop, N.out]
    refine ⟨h1.other (fun e => hgq e) _, ⟨⟨atOff a k c, c - k, ?_, ?_, by rw [hlen]; omega⟩, by rw [hlen]; omega, hBq⟩, U13.put rfl 0 _⟩
    · rw [hlen, heap_set_same hq2]
      rfl
    · rw [hlen]
      rcases Nat.eq_zero_or_pos (n - k) with e | e
      · exact .inl e
      · obtain ⟨g0, o0, ea, hg0, r⟩ := hr.resolve_left (by rw [N.out]; omega)
        have r2 : Row W2 g0 o0 b := r.up U13 (by omega) (fun e => by have e : g0 = q := e; omega)
        refine .inr ⟨g0, o0 + k, ?_, hg0, ?_⟩
        · rw [atOff, if_neg (by omega), ea]
          exact congrArg some (add_off g0 o0 k)
        · rw [← hkb]
          refine ⟨fun i hi => ?_, fun i => ?_⟩
          · rw [List.length_drop] at hi
            have hne0 : ¬ g0 = q := by omega
            rw [World.cell?_of_block (w := W2) (Below.heap_setCell _ _ _ _ (fun e => hne0 e)), Nat.add_assoc, r2.cells (k + i) (by omega)]
            simp [List.getD_eq_getElem?_getD, List.getElem?_drop]
          · have := r.small (k + i)
            simp only [List.getD_eq_getElem?_getD, List.getElem?_drop] at this ⊢
            exact this
  clear h1 h2 hq2 hq1 HB UA hs hq hc hr hle hBq hq0
  have hw : w.heap.size ≤ g := by rw [G.out]; exact Nat.le_refl _
  have HW := hid hw
  rw [show (goInt ((k : Nat) : Int)) = .int .i64 (k : Int) from rfl] at hcp
  clear hw hm hql hne hW1
  go_enter Tryd.func47, Tryd.ntmps47
  go_wp2_with fail
  go_region_law (first | (refine step_copy_eqv (by rfl) (.tmp 13) (.tmp 17) 32 (by rfl) (.slice (some ⟨g, 0, none⟩) m m) (.slice a n c) (.int .i64 (k : Int)) (by rfl) (by rfl) hcp ?_) | fail)
  all_goals
    go_wp2
    go_ret
    exact ⟨g, rfl, HR.out.1, HR.out.2.1, HR.out.2.2, HW.out⟩
end Go.Proofs.YtpdkcpjofofkoaaDoor
