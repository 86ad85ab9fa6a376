/- Of three narrow stripes and of all their data the same wide one is made. -/
import Derived.Test.YtmaffnadmfphpaaGreatConvMerged
import Derived.Test.YtmaffnadmfphpaaGreatConvStored
import Derived.Test.YtmaffnadmfphpaaGreatConvTwoWalk
namespace Go.Proofs.YtmaffnadmfphpaaGreat
open Go.RowKit
set_option linter.unusedVariables false

theorem xs_blocks (f : Nat → Nat) : GfM.xs 3 (fun t => GfM.xs 4 fun s => f (4 * t + s)) = GfM.xs 12 f := by
  simp [GfM.xs, Nat.xor_assoc]
theorem dat14_stp (L : Nat) (z : List Nat) (i : Nat) : dat14 L (stp L z) i = if i < 12 then dat L z i else zer L := by
  unfold dat14
  split
  · rw [stp_low (Nat.mod_lt _ (by omega)), Nat.div_add_mod]
  · rfl
theorem wide_sum (L : Nat) (z : List Nat) {j : Nat} (hj : j < 2) : sumK 3 L (stp L z) j = acrZ 14 L widZ (dat14 L (stp L z)) j := by
  unfold sumK acrZ
  refine tab_congr fun u hu => ?_
  have e1 : (GfM.xs 3 fun i => (stp L z i (4 + j)).getD u 0) = GfM.xs 3 fun t => GfM.xs 4 fun s => (fun i => GfM.mul (GfM.inv ((14 + j) ^^^ i)) ((dat L z i).getD u 0)) (4 * t + s) := GfM.xs_congr fun t ht => by
    rw [stp_high, acrZ_at hu]
    refine GfM.xs_congr fun s hs => ?_
    rw [coefZ_at hj hs, ris_at hj, ris_at hs]
  refine e1.trans ((xs_blocks fun i => GfM.mul (GfM.inv ((14 + j) ^^^ i)) ((dat L z i).getD u 0)).trans ?_)
  have e2 : ∀ i, i < 14 → (widZ.getD (j * 14 + i) 0) = GfM.inv ((14 + j) ^^^ i) := fun i hi => by
    rw [coefZ_at (by omega) hi, ris_at (by omega), ris_at hi, Nat.zero_add]
  have e3 : (GfM.xs 14 fun s => GfM.mul (widZ.getD (j * 14 + s) 0) ((dat14 L (stp L z) s).getD u 0)) = GfM.xs 14 fun i => if i < 12 then GfM.mul (GfM.inv ((14 + j) ^^^ i)) ((dat L z i).getD u 0) else 0 := GfM.xs_congr fun i hi => by
    rw [e2 i hi, dat14_stp]
    split
    · rfl
    · rw [zer_at, GfM.mul_zero]
  rw [e3]
  have e4 : (GfM.xs 12 fun i => if i < 12 then GfM.mul (GfM.inv ((14 + j) ^^^ i)) ((dat L z i).getD u 0) else 0) = GfM.xs 12 fun i => GfM.mul (GfM.inv ((14 + j) ^^^ i)) ((dat L z i).getD u 0) := GfM.xs_congr fun i hi => if_pos hi
  show _ = (GfM.xs 12 (fun i => if i < 12 then GfM.mul (GfM.inv ((14 + j) ^^^ i)) ((dat L z i).getD u 0) else 0) ^^^ 0) ^^^ 0
  rw [e4, Nat.xor_zero, Nat.xor_zero]
/-- All shards of the wide stripe. -/
def wst (L : Nat) (z : List Nat) : Nat → List Nat := full 14 L widZ (dat14 L (stp L z))
theorem merged_wide (L : Nat) (z : List Nat) (j : Nat) : (if j < 2 then sumK 3 L (stp L z) j else acrZ 14 L widZ (dat14 L (stp L z)) j) = wst L z (14 + j) := by
  unfold wst
  rw [full_high (by omega), Nat.add_sub_cancel_left]
  split
  · exact wide_sum L z (by assumption)
  · rfl
end Go.Proofs.YtmaffnadmfphpaaGreat
