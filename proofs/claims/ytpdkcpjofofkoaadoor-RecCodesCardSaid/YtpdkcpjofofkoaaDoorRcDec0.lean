/- What is encoded is read again. -/
import Derived.Test.YtpdkcpjofofkoaaDoorRcRead0
namespace Go.Proofs.YtpdkcpjofofkoaaDoor
open Go.RowKit
set_option linter.unusedVariables false

theorem strOf_nums (s : ByteArray) : strOf (nums s) = s := by
  apply ByteArray.ext
  simp only [strOf, nums, List.map_map]
  have : (UInt8.ofNat ∘ UInt8.toNat) = id := by funext x; simp
  rw [this, List.map_id]
theorem nx_app (z l : List Nat) : nx z.length (z ++ l) = z := by
  unfold nx
  rw [List.take_left', show z.length - (z ++ l).length = 0 by rw [List.length_append]; omega]
  · simp [zer]
  · rfl
theorem num1_cons (x : Nat) (l : List Nat) : num 1 (x :: l) = x := by
  have := nx_app [x] l
  show fold8 (nx 1 (x :: l)) = x
  rw [show nx 1 (x :: l) = [x] from this]
  simp [fold8]
theorem num4_app (v : Nat) (h : v < 4294967296) (l : List Nat) : num 4 (w4 v ++ l) = v := by
  have := nx_app (w4 v) l
  show fold8 (nx 4 (w4 v ++ l)) = v
  rw [show nx 4 (w4 v ++ l) = w4 v from this]
  simp only [fold8, w4, List.foldl_cons, List.foldl_nil]
  omega
theorem drop4_app (v : Nat) (l : List Nat) : (w4 v ++ l).drop 4 = l := by
  have : (w4 v).length = 4 := rfl
  rw [← this, List.drop_left]
theorem wds_cons (x : Int) (l : List Int) : wds (x :: l) = w4 x.toNat ++ wds l := by simp [wds]
theorem los_cons (x : Lo) (l : List Lo) : los (x :: l) = loB x ++ los l := by simp [los]
theorem rdInts_succ (c : Nat) (b : List Nat) : rdInts (c + 1) b = ((num 4 b : Nat) : Int) :: rdInts c (b.drop 4) := by
  simp only [rdInts, List.range_succ_eq_map, List.map_cons, List.map_map, Nat.mul_zero, List.drop_zero]
  congr 1
  apply List.map_congr_left
  intro i _
  simp only [Function.comp, List.drop_drop]
  rw [show 4 * (i + 1) = 4 + 4 * i by omega]
theorem rdInts_app : ∀ (zs : List Int) (l : List Nat), (∀ x ∈ zs, 0 ≤ x ∧ x ≤ 4294967295) → rdInts zs.length (wds zs ++ l) = zs ∧ (wds zs ++ l).drop (4 * zs.length) = l := by
  intro zs
  induction zs with
  | nil => intro l _; exact ⟨rfl, rfl⟩
  | cons x zs ih =>
    intro l h
    have hx := h x (by simp)
    obtain ⟨i1, i2⟩ := ih l fun y hy => h y (by simp [hy])
    rw [wds_cons, List.append_assoc, List.length_cons]
    refine ⟨?_, ?_⟩
    · rw [rdInts_succ, num4_app _ (by omega), drop4_app, i1, Int.toNat_of_nonneg hx.1]
    · rw [show 4 * (zs.length + 1) = 4 + 4 * zs.length by omega, ← List.drop_drop, drop4_app, i2]
theorem rdLocs_succ (c : Nat) (b : List Nat) : rdLocs (c + 1) b = locOf b :: rdLocs c (b.drop 6) := by
  simp only [rdLocs, List.range_succ_eq_map, List.map_cons, List.map_map, Nat.mul_zero, List.drop_zero]
  congr 1
  apply List.map_congr_left
  intro i _
  simp only [Function.comp, List.drop_drop]
  rw [show 6 * (i + 1) = 6 + 6 * i by omega]
theorem locOf_app (x : Lo) (l : List Nat) (h : (0 ≤ x.d ∧ x.d ≤ 23) ∧ (0 ≤ x.s ∧ x.s ≤ 63) ∧ 1 ≤ x.i ∧ x.i ≤ 2147483647) : locOf (loB x ++ l) = x ∧ (loB x ++ l).drop 6 = l := by
  obtain ⟨d, s, i⟩ := x
  obtain ⟨⟨a1, a2⟩, ⟨a3, a4⟩, a5, a6⟩ := h
  simp only at a1 a2 a3 a4 a5 a6
  have e : loB ⟨d, s, i⟩ ++ l = d.toNat :: s.toNat :: (w4 i.toNat ++ l) := by simp [loB]
  rw [e]
  refine ⟨?_, ?_⟩
  · unfold locOf
    rw [num1_cons, show (d.toNat :: s.toNat :: (w4 i.toNat ++ l)).drop 1 = s.toNat :: (w4 i.toNat ++ l) from rfl, num1_cons, show (d.toNat :: s.toNat :: (w4 i.toNat ++ l)).drop 2 = w4 i.toNat ++ l from rfl, num4_app _ (by omega)]
    rw [Int.toNat_of_nonneg a1, Int.toNat_of_nonneg a3, Int.toNat_of_nonneg (by omega)]
  · rw [show (6 : Nat) = 2 + 4 from rfl, ← List.drop_drop]
    exact drop4_app _ _
theorem rdLocs_app : ∀ (ls : List Lo) (l : List Nat), (∀ x ∈ ls, (0 ≤ x.d ∧ x.d ≤ 23) ∧ (0 ≤ x.s ∧ x.s ≤ 63) ∧ 1 ≤ x.i ∧ x.i ≤ 2147483647) → rdLocs ls.length (los ls ++ l) = ls ∧ (los ls ++ l).drop (6 * ls.length) = l := by
  intro ls
  induction ls with
  | nil => intro l _; exact ⟨rfl, rfl⟩
  | cons x ls ih =>
    intro l h
    obtain ⟨i1, i2⟩ := ih l fun y hy => h y (by simp [hy])
    obtain ⟨j1, j2⟩ := locOf_app x (los ls ++ l) (h x (by simp))
    rw [los_cons, List.append_assoc, List.length_cons]
    refine ⟨?_, ?_⟩
    · rw [rdLocs_succ, j1, j2, i1]
    · rw [show 6 * (ls.length + 1) = 6 + 6 * ls.length by omega, ← List.drop_drop, j2, i2]
theorem tabOf_app (t : Tb) (l : List Nat) (h : ∀ x ∈ t.l, 0 ≤ x ∧ x ≤ 4294967295) : tabOf (wds t.l ++ l) = t := by
  obtain ⟨a, b, c, d, e, f⟩ := t
  have h1 := h a (by simp [Tb.l])
  have h2 := h b (by simp [Tb.l])
  have h3 := h c (by simp [Tb.l])
  have h4 := h d (by simp [Tb.l])
  have h5 := h e (by simp [Tb.l])
  have h6 := h f (by simp [Tb.l])
  have e0 : wds (Tb.l ⟨a, b, c, d, e, f⟩) ++ l = w4 a.toNat ++ (w4 b.toNat ++ (w4 c.toNat ++ (w4 d.toNat ++ (w4 e.toNat ++ (w4 f.toNat ++ l))))) := by simp [Tb.l, wds]
  rw [e0]
  unfold tabOf
  rw [show (20 : Nat) = 4 + (4 + (4 + (4 + 4))) from rfl, show (16 : Nat) = 4 + (4 + (4 + 4)) from rfl, show (12 : Nat) = 4 + (4 + 4) from rfl, show (8 : Nat) = 4 + 4 from rfl]
  simp only [← List.drop_drop, drop4_app]
  rw [num4_app _ (by omega), num4_app _ (by omega), num4_app _ (by omega), num4_app _ (by omega), num4_app _ (by omega), num4_app _ (by omega)]
  rw [Int.toNat_of_nonneg h1.1, Int.toNat_of_nonneg h2.1, Int.toNat_of_nonneg h3.1, Int.toNat_of_nonneg h4.1, Int.toNat_of_nonneg h5.1, Int.toNat_of_nonneg h6.1]
theorem opt_pos {h : Int} {l : List Nat} (e : 0 < h) : opt h l = l := if_pos e
theorem opt_neg {h : Int} {l : List Nat} (e : ¬ 0 < h) : opt h l = [] := if_neg e
/-- What is encoded is read again. -/
theorem read_enc {r : Rc} (F : OkF r) : readR (encR r) = r := by
  have hk1 := F.k1
  have hk8 := F.k8
  have hkk := F.kk
  have hB := sh_bounds (kn r) (by omega)
  have hn := F.n
  have hs := F.sid
  have hc := F.co
  have hkey := F.key
  obtain ⟨T8, hT8⟩ : ∃ T, T = opt (sh (kn r) 14) (wds r.t.l) := ⟨_, rfl⟩
  obtain ⟨T7, hT7⟩ : ∃ T, T = los r.locs ++ T8 := ⟨_, rfl⟩
  obtain ⟨T6, hT6⟩ : ∃ T, T = opt (sh (kn r) 12) [r.locs.length] ++ T7 := ⟨_, rfl⟩
  obtain ⟨T5, hT5⟩ : ∃ T, T = wds r.sids ++ T6 := ⟨_, rfl⟩
  obtain ⟨T4, hT4⟩ : ∃ T, T = opt (sh (kn r) 7) [r.colour.toNat] ++ T5 := ⟨_, rfl⟩
  obtain ⟨T3, hT3⟩ : ∃ T, T = opt (sh (kn r) 5) (wds [r.sid]) ++ T4 := ⟨_, rfl⟩
  obtain ⟨T2, hT2⟩ : ∃ T, T = opt (sh (kn r) 3) [r.n.toNat] ++ T3 := ⟨_, rfl⟩
  obtain ⟨T1, hT1⟩ : ∃ T, T = opt (sh (kn r) 1) (r.key.size :: nums r.key) ++ T2 := ⟨_, rfl⟩
  have hE : encR r = kn r :: T1 := by
    unfold encR
    rw [show r.kind.toNat = kn r from rfl, hT1, hT2, hT3, hT4, hT5, hT6, hT7, hT8]
    simp only [List.append_assoc, List.cons_append, List.nil_append]
  have e2 : b2 (kn r) T1 = T2 ∧ rdKey (kn r) T1 = r.key := by
    unfold b2 rsKey rdKey
    by_cases h : 0 < sh (kn r) 1
    · rw [if_pos h, if_pos h, hT1, opt_pos h]
      rw [List.cons_append, num1_cons, List.drop_one, List.tail_cons]
      have hl := nums_length r.key
      refine ⟨?_, ?_⟩
      · rw [← hl, List.drop_left]
      · rw [← hl, nx_app, strOf_nums]
    · rw [if_neg h, if_neg h, hT1, opt_neg h]
      refine ⟨rfl, ?_⟩
      have : r.key.size = 0 := by omega
      apply ByteArray.ext
      have h0 : r.key.data.size = 0 := this
      exact (Array.size_eq_zero_iff.1 h0).symm
  have e3 : b3 (kn r) T1 = T3 ∧ ((rdNum (sh (kn r) 3) 1 (b2 (kn r) T1) : Nat) : Int) = r.n := by
    unfold b3 rsNum rdNum
    rw [e2.1]
    by_cases h : 0 < sh (kn r) 3
    · rw [if_pos h, if_pos h, hT2, opt_pos h, List.singleton_append, num1_cons]
      exact ⟨rfl, Int.toNat_of_nonneg (by omega)⟩
    · rw [if_neg h, if_neg h, hT2, opt_neg h]
      exact ⟨rfl, by omega⟩
  have e4 : b4 (kn r) T1 = T4 ∧ ((rdNum (sh (kn r) 5) 4 (b3 (kn r) T1) : Nat) : Int) = r.sid := by
    unfold b4 rsNum rdNum
    rw [e3.1]
    by_cases h : 0 < sh (kn r) 5
    · have hw : wds [r.sid] = w4 r.sid.toNat := by simp [wds]
      rw [if_pos h, if_pos h, hT3, opt_pos h, hw, num4_app _ (by omega), drop4_app]
      exact ⟨rfl, Int.toNat_of_nonneg (by omega)⟩
    · rw [if_neg h, if_neg h, hT3, opt_neg h]
      exact ⟨rfl, by omega⟩
  have e5 : b5 (kn r) T1 = T5 ∧ ((rdNum (sh (kn r) 7) 1 (b4 (kn r) T1) : Nat) : Int) = r.colour := by
    unfold b5 rsNum rdNum
    rw [e4.1]
    by_cases h : 0 < sh (kn r) 7
    · rw [if_pos h, if_pos h, hT4, opt_pos h, List.singleton_append, num1_cons]
      exact ⟨rfl, Int.toNat_of_nonneg (by omega)⟩
    · rw [if_neg h, if_neg h, hT4, opt_neg h]
      exact ⟨rfl, by omega⟩
  have hns : (sh (kn r) 8).toNat = r.sids.length := by have := F.ns; omega
  have e6 := rdInts_app r.sids T6 fun x hx => by have := F.sids x hx; omega
  rw [← hT5] at e6
  have e6b : b6 (kn r) T1 = T6 := by unfold b6; rw [e5.1, hns]; exact e6.2
  have e7 : b7 (kn r) T1 = T7 ∧ rdCnt (kn r) (b6 (kn r) T1) = r.locs.length := by
    unfold b7 rsNum rdCnt
    rw [e6b]
    have hnl := F.nl
    by_cases h : 0 < sh (kn r) 12
    · rw [if_pos h, if_pos h, hT6, opt_pos h, List.singleton_append, num1_cons]
      exact ⟨rfl, rfl⟩
    · rw [if_neg h, if_neg h, hT6, opt_neg h]
      have h0 : sh (kn r) 12 = 0 := by omega
      rw [h0, Int.zero_mul] at hnl
      exact ⟨rfl, by omega⟩
  have e8 := rdLocs_app r.locs T8 F.locs
  rw [← hT7] at e8
  have e8b : b8 (kn r) T1 = T8 := by unfold b8; rw [e7.1, e7.2]; exact e8.2
  have e9 : rdTab (sh (kn r) 14) T8 = r.t := by
    unfold rdTab
    by_cases h : 0 < sh (kn r) 14
    · rw [if_pos h, hT8, opt_pos h]
      have := tabOf_app r.t [] fun x hx => by have := F.t x hx; omega
      rwa [List.append_nil] at this
    · rw [if_neg h]
      have ht := F.t
      have hz : ∀ x ∈ r.t.l, x = 0 := fun x hx => by have := ht x hx; omega
      generalize r.t = t at hz
      obtain ⟨a, b, c, d, e, f⟩ := t
      simp [Tb.l] at hz
      obtain ⟨rfl, rfl, rfl, rfl, rfl, rfl⟩ := hz
      rfl
  unfold readR
  rw [hE, num1_cons, if_pos ⟨hk1, hk8⟩, List.drop_one, List.tail_cons]
  unfold readK
  rw [e2.2, e3.2, e4.2, e5.2, e5.1, e7.2, e7.1, e8b, e9, hns, e6.1, e8.1, ← hkk]
/-- What Decode tells. -/
def decR (z : List Nat) : Option Rc := if okR (readR z) = true ∧ encR (readR z) = z then some (readR z) else none
theorem decR_iff {z : List Nat} {r : Rc} : decR z = some r ↔ OkF r ∧ encR r = z := by
  unfold decR
  constructor
  · intro h
    split at h
    · next c => cases h; exact ⟨okR_iff.1 c.1, c.2⟩
    · cases h
  · rintro ⟨F, rfl⟩
    rw [read_enc F, if_pos ⟨okR_iff.2 F, rfl⟩]
/-- Unlike records have unlike bytes. -/
theorem enc_inj {r q : Rc} (F : OkF r) (G : OkF q) (h : encR r = encR q) : r = q := by rw [← read_enc F, h, read_enc G]
end Go.Proofs.YtpdkcpjofofkoaaDoor
