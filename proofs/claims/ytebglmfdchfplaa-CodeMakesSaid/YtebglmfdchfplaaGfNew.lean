/- gf.New: a new block that holds a new Field. Then inverses, quotients, powers, the count. -/
import Derived.Test.YtebglmfdchfplaaGfCalls
namespace Go.Proofs.Ytebglmfdchfplaa
open Go.RowKit

/-- The cells of a new Field. -/
def fldZero : Array Value := ⟨.int .u32 0 :: .int .i32 0 :: .int .u32 0 :: .int .i32 0 :: List.replicate 511 (.int .u8 0)⟩
/-- A new block holds a new Field. -/
structure Newed (w w' : World) : Prop where
  below : Below w.heap.size w w'
  size : w'.heap.size = w.heap.size + 1
  fresh : Fresh w.heap.size w'

theorem fldZero_size : fldZero.size = 515 := by kernel_rfl
theorem fldZero_0 : fldZero[0]? = some (.int .u32 0) := by kernel_rfl
theorem fldZero_1 : fldZero[1]? = some (.int .i32 0) := by kernel_rfl
theorem fldZero_3 : fldZero[3]? = some (.int .i32 0) := by kernel_rfl
theorem newed_alloc (w : World) (T : TypeId) : Newed w (w.alloc (.cells fldZero T)) := by
  have hc : ∀ j, (w.alloc (.cells fldZero T)).cell? ⟨w.heap.size, j, none⟩ = fldZero[j]? := fun j => World.cell?_alloc_new w _ _ j
  refine ⟨(Below.refl _ _).alloc (Nat.le_refl _) _, by simp, ⟨⟨by simp, fun j hj => ?_, fun j => World.frozen?_alloc_new w _ _ j⟩, ?_, ?_, ?_⟩⟩
  · rw [hc]
    exact ⟨_, Array.getElem?_eq_getElem (by rw [fldZero_size]; exact hj)⟩
  · rw [hc]; exact fldZero_1
  · rw [hc]; exact fldZero_0
  · rw [hc]; exact fldZero_3

theorem zero_field (w : World) : (zeroValue 91).run Try.prog w = .ok (.agg fldZero) w := by kernel_rfl

theorem new_any (w : World) :
    Calls Try.prog 11 #[] w fun e w' => e = .returned (.pointer (some ⟨w.heap.size, 0, none⟩)) ∧ Newed w w' := by
  have hz := zero_field
  go_enter Try.func11, Try.ntmps11
  go_wp2
  go_ret
  exact ⟨rfl, newed_alloc _ _⟩

theorem inv_zero (b : Nat) (w : World) (hf : Fld b w) :
    Calls Try.prog 53 #[.pointer (some ⟨b, 0, none⟩), .int .u8 0] w fun e w' => e = .returned (.tuple #[.int .u8 0, .bool false]) ∧ Kept b w w' := by
  go_enter Try.func53, Try.ntmps53
  go_wp2
  go_ret2
  exact ⟨rfl, Kept.refl hf⟩

theorem ret_u8b {a b : Int} (h : a = b) (c : Bool) : Ending.returned (.tuple #[.int .u8 a, .bool c]) = .returned (.tuple #[.int .u8 b, .bool c]) := by rw [h]
theorem inv_any (b x : Nat) (w : World) (hf : Fld b w) (h0 : x ≠ 0) (hx : x < 256) :
    Calls Try.prog 53 #[.pointer (some ⟨b, 0, none⟩), .int .u8 x] w fun e w' => e = .returned (.tuple #[.int .u8 (GfM.inv x), .bool true]) ∧ Kept b w w' := by
  have hd : ((x : Int) == 0) = false := by simpa using h0
  have hgx := GfM.glog_lt h0 hx
  have H0 : Hid _ := h0
  clear h0
  go_enter Try.func53, Try.ntmps53
  go_wp2_with fail
  refine (logOf_any b x _ hf H0.out hx).mono ?_
  rintro e w1 ⟨rfl, k1⟩
  go_wp2_with fail
  refine (expOf_any b _ _ k1.fld).mono ?_
  rintro e w3 ⟨rfl, k3⟩
  go_wp2
  go_ret2
  refine ⟨ret_u8b ?_ _, k1.kept.trans k3.kept⟩
  unfold GfM.inv
  rw [if_neg H0.out]
  congr 2
  omega

end Go.Proofs.Ytebglmfdchfplaa
