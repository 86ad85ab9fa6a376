/- 'Size', 'Coef' of a Code; the document's own 'Coef'. -/
import Derived.Test.YtebglmfdchfplaaCodeMay
namespace Go.Proofs.Ytebglmfdchfplaa
open Go.RowKit
set_option linter.unusedVariables false

theorem csize_any {FS : List Nat} {w : World} {c F k r pp pq sp sq : Nat} {Z : List Nat} (hc : CD FS w c F k r pp pq sp sq Z) :
    Calls Try.prog 20 #[.pointer (some ⟨c, 0, none⟩)] w fun e w' => e = .returned (.tuple #[.int .i64 k, .int .i64 r]) ∧ ∃ n, w' = w.drewN n := by
  have h1 := hc.k0
  have h2 := hc.r0
  clear hc
  go_enter Try.func20, Try.ntmps20
  go_wp2_with fail
  go_region
  go_wp2
  go_ret2
  exact ⟨rfl, 1, rfl⟩
/-- The coefficient that a document's code names; nought outside. -/
def cfo (k r : Nat) (X Y : List Nat) (j i : Int) : Nat := if 0 ≤ j ∧ j < r ∧ 0 ≤ i ∧ i < k then GfM.inv (Y.getD j.toNat 0 ^^^ X.getD i.toNat 0) else 0
theorem coef_raw {FS : List Nat} {w : World} {c F k r pp pq sp sq : Nat} {X Y : List Nat} (hc : CD FS w c F k r pp pq sp sq (coefZ k r X Y)) (j i : Int) :
    Calls Try.prog 21 #[.pointer (some ⟨c, 0, none⟩), .int .i64 j, .int .i64 i] w fun e w' => e = .returned (.int .u8 (cfo k r X Y j i : Nat)) ∧ ∃ n, w' = w.drewN n := by
  have h1 := hc.p0
  have HM := hid hc.par.mat
  clear hc
  by_cases h : 0 ≤ j ∧ j < r ∧ 0 ≤ i ∧ i < k
  · obtain ⟨hj0, hj, hi0, hi⟩ := h
    obtain ⟨J, rfl⟩ := Int.eq_ofNat_of_zero_le hj0
    obtain ⟨I, rfl⟩ := Int.eq_ofNat_of_zero_le hi0
    have HE : Hid ((coefZ k r X Y).getD (J * k + I) 0 = cfo k r X Y J I) := by
      show _ = _
      unfold cfo
      rw [coefZ_at (by omega) (by omega), if_pos ⟨hj0, hj, hi0, hi⟩]
      simp
    go_enter Try.func21, Try.ntmps21
    go_wp2_with fail
    refine (at_some pp pq F r k J I _ w HM.out (by omega) (by omega)).mono ?_
    rintro e w1 ⟨rfl, n, rfl⟩
    rw [HE.out]
    go_wp2
    go_ret
    exact ⟨rfl, n, rfl⟩
  · have HE : Hid (cfo k r X Y j i = 0) := by show _ = _; unfold cfo; rw [if_neg h]
    have H := hid (at_none pp pq F r k j i _ w HM.out (by omega))
    rw [HE.out]
    clear h
    go_enter Try.func21, Try.ntmps21
    go_wp2_with fail
    refine H.out.mono ?_
    rintro e w1 ⟨rfl, rfl⟩
    clear H
    go_wp2
    go_ret
    exact ⟨rfl, 0, rfl⟩
set_option maxRecDepth 100000 in
set_option maxHeartbeats 800000 in
theorem refCoef_raw (FS : List Nat) (gx ox cx gy oy cy k r : Nat) (X Y : List Nat) (w : World) (rX : LR FS w gx ox X) (rY : LR FS w gy oy Y) (lX : X.length = k) (lY : Y.length = r) (j i : Int) :
    Calls Try.prog 22 #[.agg #[.slice (some ⟨gx, ox, none⟩) k cx, .slice (some ⟨gy, oy, none⟩) r cy], .int .i64 j, .int .i64 i] w
      fun e w' => e = .returned (.int .u8 (cfo k r X Y j i : Nat)) ∧ Up Nul w w' := by
  have c0 : (w.alloc (.cells #[.slice (some ⟨gx, ox, none⟩) k cx, .slice (some ⟨gy, oy, none⟩) r cy] 25)).cell? ⟨w.heap.size, 0, none⟩ = some (.slice (some ⟨gx, ox, none⟩) k cx) := World.cell?_alloc_new w _ _ 0
  have c1 : (w.alloc (.cells #[.slice (some ⟨gx, ox, none⟩) k cx, .slice (some ⟨gy, oy, none⟩) r cy] 25)).cell? ⟨w.heap.size, 1, none⟩ = some (.slice (some ⟨gy, oy, none⟩) r cy) := World.cell?_alloc_new w _ _ 1
  have U := hid ((Up.refl Nul w).alloc (.cells #[.slice (some ⟨gx, ox, none⟩) k cx, .slice (some ⟨gy, oy, none⟩) r cy] 25))
  by_cases h1 : j < 0
  · have HE : Hid (cfo k r X Y j i = 0) := by show _ = _; unfold cfo; rw [if_neg (by omega)]
    rw [HE.out]
    go_enter Try.func22, Try.ntmps22
    go_wp2
    go_ret
    exact ⟨rfl, U.out⟩
  by_cases h2 : (r : Int) ≤ j
  · have HE : Hid (cfo k r X Y j i = 0) := by show _ = _; unfold cfo; rw [if_neg (by omega)]
    rw [HE.out]
    go_enter Try.func22, Try.ntmps22
    go_wp2
    go_ret
    exact ⟨rfl, U.out⟩
  by_cases h3 : i < 0
  · have HE : Hid (cfo k r X Y j i = 0) := by show _ = _; unfold cfo; rw [if_neg (by omega)]
    rw [HE.out]
    go_enter Try.func22, Try.ntmps22
    go_wp2
    go_ret
    exact ⟨rfl, U.out⟩
  by_cases h4 : (k : Int) ≤ i
  · have HE : Hid (cfo k r X Y j i = 0) := by show _ = _; unfold cfo; rw [if_neg (by omega)]
    rw [HE.out]
    go_enter Try.func22, Try.ntmps22
    go_wp2
    go_ret
    exact ⟨rfl, U.out⟩
  obtain ⟨J, rfl⟩ := Int.eq_ofNat_of_zero_le (show 0 ≤ j by omega)
  obtain ⟨I, rfl⟩ := Int.eq_ofNat_of_zero_le (show 0 ≤ i by omega)
  have HE : Hid (cfo k r X Y J I = GfM.inv (Y.getD J 0 ^^^ X.getD I 0)) := by show _ = _; unfold cfo; rw [if_pos (by omega)]; simp
  have x1 := (rX.row.up U.out rX.lt id).cells I (by omega)
  have y1 := (rY.row.up U.out rY.lt id).cells J (by omega)
  have sx := rX.row.small I
  have sy := rY.row.small J
  rw [HE.out]
  generalize X.getD I 0 = xi at *
  generalize Y.getD J 0 = yj at *
  have hxx := u8_xor_nat yj xi sy sx
  have HLT : Hid (yj ^^^ xi < 256) := GfM.xor_lt sy sx
  generalize yj ^^^ xi = v at *
  clear rX rY HE sx sy
  go_enter Try.func22, Try.ntmps22
  go_wp2_with fail
  generalize w.alloc (.cells #[.slice (some ⟨gx, ox, none⟩) k cx, .slice (some ⟨gy, oy, none⟩) r cy] 25) = wa at *
  generalize w.heap.size = q at *
  have d0 : wa.drew.cell? ⟨q, 0, none⟩ = some (.slice (some ⟨gx, ox, none⟩) k cx) := c0
  have d1 : wa.drew.cell? ⟨q, 1, none⟩ = some (.slice (some ⟨gy, oy, none⟩) r cy) := c1
  have d2 : wa.drew.cell? ⟨gx, ox + I, none⟩ = some (.int .u8 xi) := x1
  have d3 : wa.drew.cell? ⟨gy, oy + J, none⟩ = some (.int .u8 yj) := y1
  go_region_held3 (fun w' => w'.cell? ⟨q, 0, none⟩ = some (.slice (some ⟨gx, ox, none⟩) k cx) ∧ w'.cell? ⟨q, 1, none⟩ = some (.slice (some ⟨gy, oy, none⟩) r cy) ∧ w'.cell? ⟨gx, ox + I, none⟩ = some (.int .u8 xi) ∧ w'.cell? ⟨gy, oy + J, none⟩ = some (.int .u8 yj))
    (first | exact ⟨by assumption, by assumption, by assumption, by assumption⟩ | go_keep)
    ((go_at_call 44; (with_reducible refine (refInv_any _ _ HLT.out).mono ?_); rintro e w1 ⟨rfl, rfl⟩))
  go_wp2
  go_ret
  exact ⟨rfl, U.out.drew⟩
end Go.Proofs.Ytebglmfdchfplaa
