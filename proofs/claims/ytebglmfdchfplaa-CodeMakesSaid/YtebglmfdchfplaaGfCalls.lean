/- The calls of a Field, each a contract: what it answers, and that nothing outside the Field's block turns. -/
import Derived.Test.YtebglmfdchfplaaGfDo
namespace Go.Proofs.Ytebglmfdchfplaa
open Go.RowKit

/-- Behind a call that needed the tables. -/
def After (b : Nat) (w w' : World) : Prop := Out b w w' ∧ Full b w'
/-- Behind any call. -/
def Kept (b : Nat) (w w' : World) : Prop := Out b w w' ∧ Fld b w'
theorem After.kept {b : Nat} {w w' : World} (h : After b w w') : Kept b w w' := ⟨h.1, .inr h.2⟩
theorem Kept.refl {b : Nat} {w : World} (h : Fld b w) : Kept b w w := ⟨Out.refl _ _, h⟩
theorem Kept.trans {b : Nat} {u v w : World} (h : Kept b u v) (k : Kept b v w) : Kept b u w := ⟨h.1.trans k.1, k.2⟩
theorem After.trans {b : Nat} {u v w : World} (h : Kept b u v) (k : After b v w) : After b u w := ⟨h.1.trans k.1, k.2⟩
theorem After.fld {b : Nat} {u v : World} (h : After b u v) : Fld b v := .inr h.2

theorem lg_at {b : Nat} {w : World} (h : Full b w) {a : Nat} (h0 : a ≠ 0) (ha : a < 256) : w.cell? ⟨b, 259 + a, none⟩ = some (.int .u8 (GfM.glog a)) := by
  have := h.tabs.lg (GfM.glog a) (GfM.glog_lt h0 ha)
  rw [GfM.gexp_glog h0 ha] at this
  exact this

theorem logOf_any (b a : Nat) (w : World) (hf : Fld b w) (h0 : a ≠ 0) (ha : a < 256) :
    Calls Try.prog 70 #[.pointer (some ⟨b, 0, none⟩), .int .u8 a] w fun e w' => e = .returned (.int .i64 (GfM.glog a)) ∧ After b w w' := by
  have hg := GfM.glog_lt h0 ha
  have H0 : Hid _ := h0
  clear h0
  have hmf : ∀ (fn : Fn) (first cap : Array Value) (w : World), (Instr.makeFunc fn first cap).run Try.prog w = .ok (.func fn first cap) w := fun _ _ _ _ => rfl
  go_enter Try.func70, Try.ntmps70
  go_wp2_with (go_at_call 79; refine (do_any b _ hf).mono ?_; rintro e w1 ⟨rfl, hw⟩; have hc := lg_at hw.2 H0.out ha; have HW : Hid _ := hw; clear hw)
  go_ret
  exact ⟨rfl, HW.out⟩

theorem tmod_nonneg (n : Int) (h : 0 ≤ n.tmod 255) : n % 255 = n.tmod 255 := by
  have h1 := Int.mul_tdiv_add_tmod n 255
  have h2 := Int.tmod_lt_of_pos n (b := 255) (by omega)
  omega
theorem tmod_neg (n : Int) (h : n.tmod 255 < 0) : n % 255 = n.tmod 255 + 255 := by
  have h1 := Int.mul_tdiv_add_tmod n 255
  have h2 := Int.lt_tmod_of_pos n (b := 255) (by omega)
  omega
theorem ex_at {b : Nat} {w : World} (h : Full b w) (r : Int) (h0 : 0 ≤ r) (h1 : r < 255) : w.cell? ⟨b, 4 + r.toNat, none⟩ = some (.int .u8 (GfM.gexp r.toNat)) := h.tabs.ex r.toNat (by omega)
theorem ret_u8 {a b : Int} (h : a = b) : Ending.returned (.int .u8 a) = .returned (.int .u8 b) := by rw [h]

theorem expOf_any (b : Nat) (n : Int) (w : World) (hf : Fld b w) :
    Calls Try.prog 69 #[.pointer (some ⟨b, 0, none⟩), .int .i64 n] w fun e w' => e = .returned (.int .u8 (GfM.gexp (n % 255).toNat)) ∧ After b w w' := by
  have hmf : ∀ (fn : Fn) (first cap : Array Value) (w : World), (Instr.makeFunc fn first cap).run Try.prog w = .ok (.func fn first cap) w := fun _ _ _ _ => rfl
  have ht := Int.tmod_lt_of_pos n (b := 255) (by omega)
  have hl := Int.lt_tmod_of_pos n (b := 255) (by omega)
  by_cases hr : 0 ≤ n.tmod 255
  · have E : Hid _ := tmod_nonneg n hr
    go_enter Try.func69, Try.ntmps69
    go_wp2_with (go_at_call 79; refine (do_any b _ hf).mono ?_; rintro e w1 ⟨rfl, hw⟩; have hc := ex_at hw.2 (n.tmod 255) hr ht; have HW : Hid _ := hw; clear hw)
    go_ret
    exact ⟨ret_u8 (by rw [E.out]), HW.out⟩
  · have hr' : n.tmod 255 < 0 := by omega
    have hr2 : 0 ≤ n.tmod 255 + 255 := by omega
    have hr3 : n.tmod 255 + 255 < 255 := by omega
    have E : Hid _ := tmod_neg n hr'
    clear hr
    go_enter Try.func69, Try.ntmps69
    go_wp2_with (go_at_call 79; refine (do_any b _ hf).mono ?_; rintro e w1 ⟨rfl, hw⟩; have hc := ex_at hw.2 (n.tmod 255 + 255) hr2 hr3; have HW : Hid _ := hw; clear hw)
    go_ret
    exact ⟨ret_u8 (by rw [E.out]), HW.out⟩

/-- Products. -/
theorem mul_any (b x y : Nat) (w : World) (hf : Fld b w) (hx : x < 256) (hy : y < 256) :
    Calls Try.prog 81 #[.pointer (some ⟨b, 0, none⟩), .int .u8 x, .int .u8 y] w fun e w' => e = .returned (.int .u8 (GfM.mul x y)) ∧ Kept b w w' := by
  by_cases h0 : x = 0
  · subst h0
    go_enter Try.func81, Try.ntmps81
    go_wp2
    go_ret
    exact ⟨rfl, Kept.refl hf⟩
  · by_cases h1 : y = 0
    · subst h1
      have hd : ((x : Int) == 0) = false := by simpa using h0
      go_enter Try.func81, Try.ntmps81
      go_wp2
      go_ret
      exact ⟨ret_u8 (by simp [GfM.mul]), Kept.refl hf⟩
    · have hd : ((x : Int) == 0) = false := by simpa using h0
      have hd2 : ((y : Int) == 0) = false := by simpa using h1
      have hgx := GfM.glog_lt h0 hx
      have hgy := GfM.glog_lt h1 hy
      have H0 : Hid _ := h0
      have H1 : Hid _ := h1
      clear h0 h1
      go_enter Try.func81, Try.ntmps81
      go_wp2_with fail
      refine (logOf_any b x _ hf H0.out hx).mono ?_
      rintro e w1 ⟨rfl, k1⟩
      go_wp2_with fail
      refine (logOf_any b y _ k1.fld H1.out hy).mono ?_
      rintro e w2 ⟨rfl, k2⟩
      go_wp2_with fail
      refine (expOf_any b _ _ k2.fld).mono ?_
      rintro e w3 ⟨rfl, k3⟩
      go_wp2
      go_ret
      refine ⟨ret_u8 ?_, (k1.kept.trans k2.kept).trans k3.kept⟩
      unfold GfM.mul
      rw [if_neg (by intro h; rcases h with h | h; exact H0.out h; exact H1.out h)]
      congr 2
end Go.Proofs.Ytebglmfdchfplaa
