/- How Place puts its disks in order: the comparison, and slices.SortFunc over it. -/
import Derived.Test.YtcejdobmgbielaaRkDrawn
import Derived.Test.YtcejdobmgbielaaRkLay
import Derived.Lib.SortBridge
namespace Go.Proofs.Ytcejdobmgbielaa
open Go.RowKit
set_option linter.unusedVariables false

/-! ### 'cmp.Or' -/
/-- The first that is not nought. -/
def orV (v : Nat → Int) : Nat → Nat → Int
  | 0, _ => 0
  | k + 1, t => if v t = 0 then orV v k (t + 1) else v t
theorem orV_two (v : Nat → Int) : orV v 2 0 = if v 0 = 0 then v 1 else v 0 := by
  show (if v 0 = 0 then (if v 1 = 0 then (0 : Int) else v 1) else v 0) = _
  by_cases h : v 0 = 0
  · rw [if_pos h, if_pos h]
    by_cases h1 : v 1 = 0
    · rw [if_pos h1, h1]
    · rw [if_neg h1]
  · rw [if_neg h, if_neg h]
theorem ror_any (g L c : Nat) (v : Nat → Int) (w : World) (hL : L ≤ 1000) (hc : ∀ i, i < L → w.cell? ⟨g, i, none⟩ = some (.int .i64 (v i))) :
    Calls Try.prog 33 #[.slice (some ⟨g, 0, none⟩) L c] w fun e w' => e = .returned (.int .i64 (orV v L 0)) ∧ w' = w := by
  have HC := hid hc
  have HL : Hid ((L : Int) ≤ 1000) := by show _ ≤ _; omega
  clear hc hL
  go_enter Try.func33, Try.ntmps33
  go_wp2_with fail
  go_loopw [8] (fun i wr => ∃ t k : Nat, t + k = L ∧ i = .int .i64 (t : Nat) ∧ orV v L 0 = orV v k t ∧ wr = w) (fun i _ => L - (intOf i).toNat)
  case atStart => exact ⟨0, L, Nat.zero_add L, rfl, rfl, rfl⟩
  case round =>
    obtain ⟨t, k, ht, rfl, ho, rfl⟩ := hrel
    have HO := hid ho
    clear ho
    have i0 : (0 : Int) ≤ (t : Int) := by omega
    have i2 := HL.out
    by_cases hlt : t < L
    · obtain ⟨k', rfl⟩ : ∃ k', k = k' + 1 := ⟨k - 1, by omega⟩
      have i1 : (t : Int) < (L : Int) := by omega
      have k1 := HC.out t hlt
      have HT := hid hlt
      have HE : Hid (t + 1 + k' = L) := by show _ = _; omega
      clear hlt ht
      by_cases hv : v t = 0
      · have HN : Hid (orV v L 0 = orV v k' (t + 1)) := by show _ = _; rw [HO.out]; show (if v t = 0 then _ else _) = _; rw [if_pos hv]
        have hb : (v t == 0) = true := by simp [hv]
        clear hv
        go_wp2_with fail
        go_roundw
        case rel => exact ⟨t + 1, k', HE.out, by go_num, HN.out, by first | rfl | trivial⟩
        case measure => have := HT.out; simp [intOf]; omega
      · have HN : Hid (orV v L 0 = v t) := by show _ = _; rw [HO.out]; show (if v t = 0 then _ else _) = _; rw [if_neg hv]
        have hb : (v t == 0) = false := by simp [hv]
        clear hv
        go_wp2_with fail
        go_ret
        exact ⟨by rw [HN.out]; rfl, rfl⟩
    · have i1 : ¬ (t : Int) < (L : Int) := by omega
      obtain rfl : k = 0 := by omega
      have HN : Hid (orV v L 0 = 0) := HO.out
      clear hlt ht
      go_wp2_with fail
      go_ret
      exact ⟨by rw [HN.out]; rfl, rfl⟩
/-! ### The order -/
def cfR (F : Nat → Nat) (x y : Nat) : Int := if Go.Lib.compareInt (F y : Nat) (F x : Nat) = 0 then Go.Lib.compareInt (x : Nat) (y : Nat) else Go.Lib.compareInt (F y : Nat) (F x : Nat)
theorem cfR_lt (F : Nat → Nat) (x y : Nat) : cfR F x y < 0 ↔ Bef F x y := by
  unfold cfR Go.Lib.compareInt Bef
  by_cases h1 : F y < F x
  · simp [h1]
  · by_cases h2 : F x < F y
    · have e : ¬ F x = F y := by omega
      have e2 : ¬ F y < F x := h1
      simp [h1, h2, e]
    · have e : F x = F y := by omega
      by_cases h3 : x < y
      · simp [e, h3]
      · by_cases h4 : y < x
        · simp [e, h3, h4]
        · simp [e, h3, h4]
theorem Bef.trans {F : Nat → Nat} {x y z : Nat} (h : Bef F x y) (k : Bef F y z) : Bef F x z := by
  rcases h with h | ⟨h, h'⟩ <;> rcases k with k | ⟨k, k'⟩
  · exact .inl (by omega)
  · exact .inl (by omega)
  · exact .inl (by omega)
  · exact .inr ⟨by omega, by omega⟩
theorem Bef.total {F : Nat → Nat} {x y : Nat} (h : ¬ x = y) : Bef F x y ∨ Bef F y x := by
  unfold Bef
  omega
def encF (n : Nat) (x : Fin n) : Value := .int .i64 (x.val : Nat)
theorem ltR {n : Nat} (F : Nat → Nat) (x y : Fin n) : ltOf (fun x y : Fin n => cfR F x.val y.val) x y = true ↔ Bef F x.val y.val := by
  unfold ltOf
  rw [decide_eq_true_iff, cfR_lt]
theorem ltR_no {n : Nat} (F : Nat → Nat) (x y : Fin n) : ltOf (fun x y : Fin n => cfR F x.val y.val) x y = false ↔ ¬ Bef F x.val y.val := by
  rw [← ltR, Bool.not_eq_true]
theorem swoR {n : Nat} (F : Nat → Nat) : Go.Sort.SWO (ltOf fun x y : Fin n => cfR F x.val y.val) where
  irrefl x := by rw [ltR_no]; exact Bef.irrefl
  trans x y z h1 h2 := by rw [ltR] at *; exact h1.trans h2
  ntrans x y z h1 h2 := by
    rw [ltR_no] at *
    intro h
    unfold Bef at *
    omega
theorem totR {n : Nat} (F : Nat → Nat) (x y : Fin n) (h1 : ltOf (fun x y : Fin n => cfR F x.val y.val) x y = false) (h2 : ltOf (fun x y : Fin n => cfR F x.val y.val) y x = false) : x = y := by
  rw [ltR_no] at *
  apply Fin.ext
  by_cases e : x.val = y.val
  · exact e
  · rcases Bef.total (F := F) e with h | h
    · exact absurd h h1
    · exact absurd h h2
section
variable {w w' : World} {r bb n m cap nx : Nat} {fu k : Option Nat} {D : Nat → DS} {T : Nat → Prop}
/-! ### The closure -/
set_option maxHeartbeats 1600000 in
theorem rclos_any (h : RK w r n m fu D nx T) (tb : Nat) (htb : w.cell? ⟨tb, 0, none⟩ = some (.pointer (some ⟨r, 0, none⟩))) {x y : Nat} (hx : x < n) (hy : y < n) :
    Calls Try.prog 31 #[.int .i64 (x : Nat), .int .i64 (y : Nat), .pointer (some ⟨tb, 0, none⟩)] w fun e w' => e = .returned (.int .i64 (cfR (fun d => fre m (D d)) x y)) ∧ Ud w w' := by
  obtain ⟨bb, cap, T0, h1, hm, _⟩ := h.ex
  obtain ⟨G, g1, _, _⟩ := hm.ex
  obtain ⟨qx, QX⟩ : ∃ q, Hid ((D x).q = q) := ⟨_, rfl⟩
  obtain ⟨qy, QY⟩ : ∃ q, Hid ((D y).q = q) := ⟨_, rfl⟩
  obtain ⟨fx, FX⟩ : ∃ q, Hid (fre m (D x) = q) := ⟨_, rfl⟩
  obtain ⟨fy, FY⟩ : ∃ q, Hid (fre m (D y) = q) := ⟨_, rfl⟩
  have HFX : Hid (∀ W, Ud w W → Calls Try.prog 21 #[.pointer (some ⟨qx, 0, none⟩)] W fun e w' => e = .returned (.int .i64 (fx : Nat)) ∧ Ud W w') := fun W u => by
    rw [← QX.out, ← FX.out]; exact dk_freeD ((g1 x hx).up u.up fun _ _ => id)
  have HFY : Hid (∀ W, Ud w W → Calls Try.prog 21 #[.pointer (some ⟨qy, 0, none⟩)] W fun e w' => e = .returned (.int .i64 (fy : Nat)) ∧ Ud W w') := fun W u => by
    rw [← QY.out, ← FY.out]; exact dk_freeD ((g1 y hy).up u.up fun _ _ => id)
  have HC : Hid (∀ W, Ud w W → W.cell? ⟨tb, 0, none⟩ = some (.pointer (some ⟨r, 0, none⟩)) ∧ W.cell? ⟨r, 0, none⟩ = some (.slice (some ⟨bb, 0, none⟩) n cap) ∧ W.cell? ⟨bb, x, none⟩ = some (.pointer (some ⟨qx, 0, none⟩)) ∧ W.cell? ⟨bb, y, none⟩ = some (.pointer (some ⟨qy, 0, none⟩))) := fun W u => by
    have k1 := h1.nxt u.up
    exact ⟨(u.up.cell (p := ⟨tb, 0, none⟩) (lt_of_cell htb) id).trans htb, k1.c0, by rw [← QX.out]; exact k1.cell hx, by rw [← QY.out]; exact k1.cell hy⟩
  obtain ⟨z1, Z1⟩ : ∃ z, Hid (Go.Lib.compareInt (fy : Nat) (fx : Nat) = z) := ⟨_, rfl⟩
  obtain ⟨z2, Z2⟩ : ∃ z, Hid (Go.Lib.compareInt (x : Nat) (y : Nat) = z) := ⟨_, rfl⟩
  have HZ : Hid (cfR (fun d => fre m (D d)) x y = orV (fun i => if i = 0 then z1 else z2) 2 0) := by
    show _ = _
    rw [orV_two]
    unfold cfR
    simp only [FX.out, FY.out, Z1.out, Z2.out]
    rfl
  have HK1 : Hid (∀ W, Calls Try.prog 32 #[.int .i64 (fy : Nat), .int .i64 (fx : Nat)] W fun e w' => e = .returned (.int .i64 z1) ∧ w' = W) := fun W => by
    rw [← Z1.out]; exact AnyG.cmp_Compare_int Try.cmpL _ _ W
  have HK2 : Hid (∀ W, Calls Try.prog 32 #[.int .i64 (x : Nat), .int .i64 (y : Nat)] W fun e w' => e = .returned (.int .i64 z2) ∧ w' = W) := fun W => by
    rw [← Z2.out]; exact AnyG.cmp_Compare_int Try.cmpL _ _ W
  have HR0 : Hid (Ud w w) := Ud.refl _
  rw [HZ.out]
  have i1 : (x : Int) < (n : Int) := by omega
  have i2 : (y : Int) < (n : Int) := by omega
  have i3 : (0 : Int) ≤ (x : Int) := by omega
  have i4 : (0 : Int) ≤ (y : Int) := by omega
  clear h h1 hm g1 htb hx hy HZ
  go_enter Try.func31, Try.ntmps31
  go_wp2_with fail
  go_region_held3 (fun W => Ud w W ∧ W.cell? ⟨tb, 0, none⟩ = some (.pointer (some ⟨r, 0, none⟩)) ∧ W.cell? ⟨r, 0, none⟩ = some (.slice (some ⟨bb, 0, none⟩) n cap) ∧ W.cell? ⟨bb, x, none⟩ = some (.pointer (some ⟨qx, 0, none⟩)) ∧ W.cell? ⟨bb, y, none⟩ = some (.pointer (some ⟨qy, 0, none⟩)))
    (first | exact ⟨by assumption, HC.out _ (by assumption)⟩ | exact ⟨HR0.out.drew, HC.out _ HR0.out.drew⟩)
    (first
      | (go_at_call 21; (with_reducible refine (HFX.out _ (by first | exact HR0.out.drew | assumption)).mono ?_); rintro e wb ⟨rfl, kb⟩; have ob : Ud w wb := (by first | exact HR0.out.drew.trans kb | exact Ud.trans (by assumption) kb); clear kb)
      | (go_at_call 21; (with_reducible refine (HFY.out _ (by first | exact HR0.out.drew | assumption)).mono ?_); rintro e wb ⟨rfl, kb⟩; have ob : Ud w wb := (by first | exact HR0.out.drew.trans kb | exact Ud.trans (by assumption) kb); clear kb)
      | (go_at_call 32; (with_reducible refine (HK1.out _).mono ?_); rintro e wb ⟨rfl, rfl⟩)
      | fail)
  all_goals
    have OB := hid ob
    clear ob
    go_wp2_with (first | (go_at_call 32; refine (HK2.out _).mono ?_; rintro e w2 ⟨rfl, rfl⟩) | fail)
    refine (ror_any w2.heap.size 2 2 (fun i => if i = 0 then z1 else z2) _ (by omega) fun i hi => ?_).mono ?_
    · match i, hi with
      | 0, _ => exact World.cell?_alloc_new _ _ _ 0
      | 1, _ => exact World.cell?_alloc_new _ _ _ 1
    · rintro e w3 ⟨rfl, rfl⟩
      go_wp2_with fail
      go_ret
      exact ⟨rfl, OB.out.alloc _⟩
/-! ### The sort -/
theorem heap_putRow {α : Type} [Inhabited α] (enc : α → Value) (w : World) (g : Nat) (d : Array α) (q : Nat) (os : Array Obj) {cur : Array Value} {t : TypeId} (hg : w.heap[g]? = some (.cells cur t (0, 0))) :
    (sortWorld enc w g 0 q d os).heap[g]? = some (.cells (Go.Sort.putCells enc 0 d cur) t (0, 0)) := by
  have hl := (Array.getElem?_eq_some_iff.1 hg).1
  unfold sortWorld
  rw [Go.Sort.heap_grow_old _ _ (by simpa [Go.Sort.putRow, Go.Sort.mapBlock, Go.Sort.ahead] using hl)]
  unfold Go.Sort.putRow Go.Sort.mapBlock Go.Sort.ahead
  rw [Array.getElem?_modify, if_pos rfl, hg]
  rfl
theorem up_sortWorld {α : Type} [Inhabited α] (enc : α → Value) (w : World) (g : Nat) (d : Array α) (q : Nat) (os : Array Obj) : Up (One g) w (sortWorld enc w g 0 q d os) := by
  unfold sortWorld
  refine ⟨rfl, rfl, rfl, by simp [Go.Sort.putRow, Go.Sort.mapBlock, Go.Sort.ahead], fun k hk hn => ?_⟩
  have hn : ¬ k = g := hn
  rw [Go.Sort.heap_grow_old _ _ (by simpa [Go.Sort.putRow, Go.Sort.mapBlock, Go.Sort.ahead] using hk)]
  unfold Go.Sort.putRow Go.Sort.mapBlock Go.Sort.ahead
  rw [Array.getElem?_modify, if_neg (fun e => hn e.symm)]
theorem rsort_any (h : RK w r n m fu D nx T) (L : List Nat) (hL : ∀ i ∈ L, i < n) (hnd : L.Nodup) (h0 : 0 < L.length) (base g cap : Nat) (ho : OwnV 3 base w (.slice (some ⟨g, 0, none⟩) L.length cap) (intV L)) (tb : Nat) (htb : w.cell? ⟨tb, 0, none⟩ = some (.pointer (some ⟨r, 0, none⟩))) :
    Calls Try.prog 30 #[.slice (some ⟨g, 0, none⟩) L.length cap, .func (.func 31) #[] #[.pointer (some ⟨tb, 0, none⟩)]] w fun e w' =>
      e = .returned (.tuple #[]) ∧ ∃ M : List Nat, M.Perm L ∧ M.Pairwise (Bef fun d => fre m (D d)) ∧ OwnV 3 base w' (.slice (some ⟨g, 0, none⟩) L.length cap) (intV M) ∧ Up (One g) w w' := by
  obtain ⟨n', rfl⟩ : ∃ n', n = n' + 1 := ⟨n - 1, by have := h.le; omega⟩
  have hlen : (intV L).length = L.length := by simp [intV]
  obtain ⟨g', cap', cur, e, hb, hg, hle, hmx, hcs, htk⟩ := ho.2.resolve_left fun e => by rw [hlen] at e; omega
  injection e with e1 _ e3
  injection e1 with e1
  injection e1 with e1 _ _
  subst e1 e3
  have hgl := (Array.getElem?_eq_some_iff.1 hg).1
  have hfz : ∀ i, w.frozen? ⟨g, i, none⟩ = false := fun i => by simp [World.frozen?, hg]
  have hcell : ∀ i x, L[i]? = some x → w.cell? ⟨g, i, none⟩ = some (.int .i64 (x : Nat)) := fun i x hi => by
    have hi' : i < L.length := (List.getElem?_eq_some_iff.1 hi).1
    have e : (cur.toList.take (L.length * 1))[i]? = some (.int .i64 (x : Nat)) := by
      rw [hlen] at htk
      rw [htk]
      simp [intV, hi]
    rw [List.getElem?_take, if_pos (by omega)] at e
    simp only [World.cell?, hg]
    simpa using e
  obtain ⟨d, hd⟩ : ∃ d : List (Fin (n' + 1)), d.map Fin.val = L := ⟨L.pmap (fun i hi => ⟨i, hi⟩) hL, by rw [List.map_pmap]; simp⟩
  have hdl : d.length = L.length := by rw [← hd, List.length_map]
  have hH : Go.Sort.Holds (encF (n' + 1)) w g 0 d.toArray := fun j hj => by
    have hj : j < d.length := by simpa using hj
    refine ⟨?_, by rw [Nat.zero_add]; exact hfz j⟩
    rw [Nat.zero_add, getElem!_pos d.toArray j (by simpa using hj)]
    refine (hcell j d[j].val ?_).trans ?_
    · rw [← hd, List.getElem?_map, List.getElem?_eq_getElem hj]; rfl
    · simp [encF]
  have hgT : ¬ T g := fun e => (h.ty e).ne hg int_tr
  have htg : tb ≠ g := by
    rintro rfl
    have e := hH 0 (by simpa using (by omega : 0 < d.length))
    rw [Nat.zero_add, htb] at e
    have e := e.1
    unfold encF at e
    cases e
  have hcmp : CmpLays1 Try.prog 31 #[.pointer (some ⟨tb, 0, none⟩)] (encF (n' + 1)) (fun x y : Fin (n' + 1) => cfR (fun d => fre m (D d)) x.val y.val) g 0 d.toArray.size w := fun q os dk _ x y => by
    have u := up_sortWorld (encF (n' + 1)) w g dk q os
    have hW : RK (sortWorld (encF (n' + 1)) w g 0 q dk os) r (n' + 1) m fu D nx T := h.keep u fun x hx e => hgT (by have e : x = g := e; exact e ▸ hx)
    have htW := (u.cell (p := ⟨tb, 0, none⟩) (lt_of_cell htb) fun e => htg e).trans htb
    refine (rclos_any hW tb htW x.isLt y.isLt).mono ?_
    rintro e w' ⟨rfl, ud⟩
    exact ⟨rfl, ud.grow⟩
  have hs := Any.slices_SortFunc_total Try.sortL (encF (n' + 1)) (fun _ => rfl) _ (swoR fun d => fre m (D d)) 31 #[.pointer (some ⟨tb, 0, none⟩)] g 0 cap d.toArray w (enters_of Try.func31 (by kernel_rfl) rfl) hcmp hH hgl (by
    have h24 := h.le
    have hsub := hnd.length_le_of_subset (l₂ := List.range (n' + 1)) fun i hi => List.mem_range.2 (hL i hi)
    rw [List.length_range] at hsub
    simpa using (by omega : d.length < 4611686018427387904)) (totR _)
  rw [show d.toArray.size = L.length by simpa using hdl] at hs
  refine hs.mono ?_
  rintro e w' ⟨rfl, q, os, rfl⟩
  refine ⟨rfl, ?_⟩
  obtain ⟨S, hS⟩ : ∃ S, S = d.mergeSort fun x y => !(ltOf fun x y : Fin (n' + 1) => cfR (fun d => fre m (D d)) x.val y.val) y x := ⟨_, rfl⟩
  have hperm : S.Perm d := hS ▸ List.mergeSort_perm _ _
  have hSl : S.length = L.length := hperm.length_eq.trans hdl
  have hpm : (S.map Fin.val).Perm L := hd ▸ hperm.map _
  have hpw : S.Pairwise fun x y => ¬ Bef (fun d => fre m (D d)) y.val x.val := by
    have hp := List.pairwise_mergeSort (le := fun x y => !(ltOf fun x y : Fin (n' + 1) => cfR (fun d => fre m (D d)) x.val y.val) y x) (fun a b c h1 h2 => by
      simp only [Bool.not_eq_true'] at h1 h2 ⊢
      exact (swoR _).ntrans _ _ _ h2 h1) (fun a b => by
      cases e : ltOf (fun x y : Fin (n' + 1) => cfR (fun d => fre m (D d)) x.val y.val) b a with
      | false => rfl
      | true =>
        have h1 := (ltR _ _ _).1 e
        have h2 : ltOf (fun x y : Fin (n' + 1) => cfR (fun d => fre m (D d)) x.val y.val) a b = false := (ltR_no _ _ _).2 fun h2 => (h1.trans h2).irrefl
        rw [h2]; rfl) d
    rw [← hS] at hp
    exact hp.imp fun hxy => by
      simp only [Bool.not_eq_true'] at hxy
      exact (ltR_no _ _ _).1 hxy
  have hnS : (S.map Fin.val).Nodup := hpm.nodup_iff.2 hnd
  have hbef : (S.map Fin.val).Pairwise (Bef fun d => fre m (D d)) := by
    have h1 : (S.map Fin.val).Pairwise fun x y => ¬ Bef (fun d => fre m (D d)) y x := List.pairwise_map.2 hpw
    refine (h1.and hnS).imp fun ⟨a, b⟩ => ?_
    rcases Bef.total (F := fun d => fre m (D d)) b with e | e
    · exact e
    · exact absurd e a
  have hgS := heap_putRow (encF (n' + 1)) w g S.toArray q os hg
  refine ⟨S.map Fin.val, hpm, hbef, ⟨by simp [intV], .inr ⟨g, cap, _, by simp [intV, hSl], hb, by rw [hS] at hgS; exact hgS, by simp [intV, hSl]; rw [hlen] at hle; exact hle, hmx, ?_, ?_⟩⟩, up_sortWorld _ _ _ _ _ _⟩
  · rw [← hS]; simp [Go.Sort.putCells, hcs]
  · rw [← hS]
    apply List.ext_getElem?
    intro i
    rw [List.getElem?_take]
    have hlM : (intV (S.map Fin.val)).length = L.length := by simp [intV, hSl]
    rw [hlM]
    by_cases hi : i < L.length
    · rw [if_pos (by omega)]
      have hic : i < cur.size := by rw [hcs]; rw [hlen] at hle; omega
      have hiS : i < S.length := by omega
      simp only [Go.Sort.putCells, Array.getElem?_toList, Array.getElem?_mapIdx, Array.getElem?_eq_getElem hic, Option.map_some, intV, List.map_map, List.getElem?_map, List.getElem?_eq_getElem hiS]
      rw [if_pos ⟨Nat.zero_le _, by simpa using hiS⟩, Nat.sub_zero, getElem!_pos S.toArray i (by simpa using hiS)]
      simp [encF]
    · rw [if_neg (by omega), List.getElem?_eq_none (by omega)]
end
end Go.Proofs.Ytcejdobmgbielaa
