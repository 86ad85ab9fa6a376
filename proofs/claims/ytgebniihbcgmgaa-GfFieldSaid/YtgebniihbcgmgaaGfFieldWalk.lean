/- The law GfField, walked: three bytes, whatever they are. -/
import Derived.Test.YtgebniihbcgmgaaGfMade
import Derived.Test.YtgebniihbcgmgaaGfAlg
import Derived.Laws.BitsAllLaws
namespace Go.Proofs.Ytgebniihbcgmgaa
open Go.RowKit

set_option maxRecDepth 100000 in
set_option maxHeartbeats 1600000 in
theorem field_zero (a b c : Nat) (w : World) (ha : a < 256) (hb : b < 256) (hc : c < 256) (hd : ((b : Int) == 0) = true) :
    Calls Try.prog 6 #[.int .u8 a, .int .u8 b, .int .u8 c] w fun e w' => e = .returned (.bool true) ∧ Below w.heap.size w w' := by
  have hmf : ∀ (fn : Fn) (first cap : Array Value) (w : World), (Instr.makeFunc fn first cap).run Try.prog w = .ok (.func fn first cap) w := fun _ _ _ _ => rfl
  have hx := u8_xor_nat b c hb hc
  have hy := u8_xor_nat (GfM.mul a b) (GfM.mul a c) (GfM.mul_lt a b) (GfM.mul_lt a c)
  go_enter Try.func6, Try.ntmps6
  go_wp2_with fail
  refine (new_any _).mono ?_
  rintro e w1 ⟨rfl, k1⟩
  go_wp2_with fail
  refine (mul_any w.heap.size a b _ k1.fld ha hb).mono ?_
  rintro e w2 ⟨he, k2⟩
  subst he
  go_wp2_with fail
  refine (mul_any w.heap.size b a _ k2.2 hb ha).mono ?_
  rintro e w3 ⟨he, k3⟩
  rw [GfM.mul_comm b a] at he
  subst he
  go_wp2_with fail
  refine (mul_any w.heap.size b c _ k3.2 hb hc).mono ?_
  rintro e w4 ⟨he, k4⟩
  subst he
  go_wp2_with fail
  refine (mul_any w.heap.size a (GfM.mul b c) _ k4.2 ha (GfM.mul_lt _ _)).mono ?_
  rintro e w5 ⟨he, k5⟩
  rw [← GfM.mul_assoc a b c] at he
  subst he
  go_wp2_with fail
  refine (mul_any w.heap.size a b _ k5.2 ha hb).mono ?_
  rintro e w6 ⟨he, k6⟩
  subst he
  go_wp2_with fail
  refine (mul_any w.heap.size (GfM.mul a b) c _ k6.2 (GfM.mul_lt _ _) hc).mono ?_
  rintro e w7 ⟨he, k7⟩
  subst he
  go_wp2_with fail
  refine (mul_any w.heap.size a (b ^^^ c) _ k7.2 ha (GfM.xor_lt hb hc)).mono ?_
  rintro e w8 ⟨he, k8⟩
  rw [GfM.mul_xor a hb hc] at he
  subst he
  go_wp2_with fail
  refine (mul_any w.heap.size a b _ k8.2 ha hb).mono ?_
  rintro e w9 ⟨he, k9⟩
  subst he
  go_wp2_with fail
  refine (mul_any w.heap.size a c _ k9.2 ha hc).mono ?_
  rintro e w10 ⟨he, k10⟩
  subst he
  go_wp2_with fail
  refine (mul_any w.heap.size a 1 _ k10.2 ha (by omega)).mono ?_
  rintro e w11 ⟨he, k11⟩
  rw [GfM.mul_one ha] at he
  subst he
  go_wp2_with fail
  refine (mul_any w.heap.size a 0 _ k11.2 ha (by omega)).mono ?_
  rintro e w12 ⟨he, k12⟩
  rw [GfM.mul_zero a] at he
  subst he
  go_wp2_with fail
  refine (awake_any _).mono ?_
  rintro e w13 ⟨rfl, hb9⟩
  go_wp2
  go_ret
  have hk := k1.below.trans (((((((((((k2.trans k3).trans k4).trans k5).trans k6).trans k7).trans k8).trans k9).trans k10).trans k11).trans k12).below (Nat.le_refl _))
  exact ⟨rfl, hk.trans (hb9.mono hk.size)⟩

set_option maxRecDepth 100000 in
set_option maxHeartbeats 1600000 in
theorem field_any (a b c : Nat) (w : World) (ha : a < 256) (hb : b < 256) (hc : c < 256) (h0 : b ≠ 0) :
    Calls Try.prog 6 #[.int .u8 a, .int .u8 b, .int .u8 c] w fun e w' => e = .returned (.bool true) ∧ Below w.heap.size w w' := by
  have hmf : ∀ (fn : Fn) (first cap : Array Value) (w : World), (Instr.makeFunc fn first cap).run Try.prog w = .ok (.func fn first cap) w := fun _ _ _ _ => rfl
  have hx := u8_xor_nat b c hb hc
  have hy := u8_xor_nat (GfM.mul a b) (GfM.mul a c) (GfM.mul_lt a b) (GfM.mul_lt a c)
  have hd : ((b : Int) == 0) = false := by simpa using h0
  have H0 : Hid _ := h0
  clear h0
  go_enter Try.func6, Try.ntmps6
  go_wp2_with fail
  refine (new_any _).mono ?_
  rintro e w1 ⟨rfl, k1⟩
  go_wp2_with fail
  refine (mul_any w.heap.size a b _ k1.fld ha hb).mono ?_
  rintro e w2 ⟨he, k2⟩
  subst he
  go_wp2_with fail
  refine (mul_any w.heap.size b a _ k2.2 hb ha).mono ?_
  rintro e w3 ⟨he, k3⟩
  rw [GfM.mul_comm b a] at he
  subst he
  go_wp2_with fail
  refine (mul_any w.heap.size b c _ k3.2 hb hc).mono ?_
  rintro e w4 ⟨he, k4⟩
  subst he
  go_wp2_with fail
  refine (mul_any w.heap.size a (GfM.mul b c) _ k4.2 ha (GfM.mul_lt _ _)).mono ?_
  rintro e w5 ⟨he, k5⟩
  rw [← GfM.mul_assoc a b c] at he
  subst he
  go_wp2_with fail
  refine (mul_any w.heap.size a b _ k5.2 ha hb).mono ?_
  rintro e w6 ⟨he, k6⟩
  subst he
  go_wp2_with fail
  refine (mul_any w.heap.size (GfM.mul a b) c _ k6.2 (GfM.mul_lt _ _) hc).mono ?_
  rintro e w7 ⟨he, k7⟩
  subst he
  go_wp2_with fail
  refine (mul_any w.heap.size a (b ^^^ c) _ k7.2 ha (GfM.xor_lt hb hc)).mono ?_
  rintro e w8 ⟨he, k8⟩
  rw [GfM.mul_xor a hb hc] at he
  subst he
  go_wp2_with fail
  refine (mul_any w.heap.size a b _ k8.2 ha hb).mono ?_
  rintro e w9 ⟨he, k9⟩
  subst he
  go_wp2_with fail
  refine (mul_any w.heap.size a c _ k9.2 ha hc).mono ?_
  rintro e w10 ⟨he, k10⟩
  subst he
  go_wp2_with fail
  refine (mul_any w.heap.size a 1 _ k10.2 ha (by omega)).mono ?_
  rintro e w11 ⟨he, k11⟩
  rw [GfM.mul_one ha] at he
  subst he
  go_wp2_with fail
  refine (mul_any w.heap.size a 0 _ k11.2 ha (by omega)).mono ?_
  rintro e w12 ⟨he, k12⟩
  rw [GfM.mul_zero a] at he
  subst he
  go_wp2_with fail
  refine (mul_any w.heap.size a b _ k12.2 ha hb).mono ?_
  rintro e w13 ⟨he, k13⟩
  subst he
  go_wp2_with fail
  refine (div_any w.heap.size (GfM.mul a b) b _ k13.2 (GfM.mul_lt _ _) H0.out hb).mono ?_
  rintro e w14 ⟨he, k14⟩
  rw [GfM.mul_div H0.out ha hb] at he
  subst he
  go_wp2_with fail
  refine (inv_any w.heap.size b _ k14.2 H0.out hb).mono ?_
  rintro e w15 ⟨he, k15⟩
  subst he
  go_wp2_with fail
  refine (mul_any w.heap.size b (GfM.inv b) _ k15.2 hb (GfM.inv_lt _)).mono ?_
  rintro e w16 ⟨he, k16⟩
  rw [GfM.mul_inv H0.out hb] at he
  subst he
  go_wp2_with fail
  refine (awake_any _).mono ?_
  rintro e w17 ⟨rfl, hb9⟩
  go_wp2
  go_ret
  have hk := k1.below.trans (((((((((((((((k2.trans k3).trans k4).trans k5).trans k6).trans k7).trans k8).trans k9).trans k10).trans k11).trans k12).trans k13).trans k14).trans k15).trans k16).below (Nat.le_refl _))
  exact ⟨rfl, hk.trans (hb9.mono hk.size)⟩

theorem field_walk (a0 a1 a2 : Int) (w0 : (Lit.int .u8 a0).wf = true) (w1 : (Lit.int .u8 a1).wf = true) (w2 : (Lit.int .u8 a2).wf = true) (w : World) :
    Calls Try.prog 6 #[.int .u8 a0, .int .u8 a1, .int .u8 a2] w fun e w' => e = .returned (.bool true) ∧ Below w.heap.size w w' := by
  obtain ⟨a, rfl, ha⟩ := u8_nat w0
  obtain ⟨b, rfl, hb⟩ := u8_nat w1
  obtain ⟨c, rfl, hc⟩ := u8_nat w2
  by_cases h0 : b = 0
  · exact field_zero a b c w ha hb hc (by simpa using h0)
  · exact field_any a b c w ha hb hc h0
end Go.Proofs.Ytgebniihbcgmgaa
