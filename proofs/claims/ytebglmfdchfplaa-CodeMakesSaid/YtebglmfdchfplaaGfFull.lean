/- A Field with its tables: its calls leave the world as it was. -/
import Derived.Test.YtebglmfdchfplaaGfNew
namespace Go.Proofs.Ytebglmfdchfplaa
open Go.RowKit

theorem do_full (b : Nat) (w : World) (fv : Value) (hf : Full b w) :
    Calls Try.prog 79 #[.pointer (some ⟨b, 0, none⟩), fv] w fun e w' => e = .returned (.tuple #[]) ∧ w' = w := by
  have h0 := hf.done
  have hnot : ∀ (x : Bool) (w : World), (Op.unary .not (.bool x)).run Try.prog w = .ok (.bool (!x)) w := fun _ _ => rfl
  clear hf
  go_enter Try.func79, Try.ntmps79
  go_wp2_with (go_at_call 85; refine (bool_load ⟨b, 0, none⟩ 1 _ h0).mono ?_; rintro e w' ⟨rfl, rfl⟩)
  go_end0
  exact ⟨rfl, rfl⟩

theorem logOf_full (b a : Nat) (w : World) (hf : Full b w) (h0 : a ≠ 0) (ha : a < 256) :
    Calls Try.prog 70 #[.pointer (some ⟨b, 0, none⟩), .int .u8 a] w fun e w' => e = .returned (.int .i64 (GfM.glog a)) ∧ w' = w := by
  have hg := GfM.glog_lt h0 ha
  have hc := lg_at hf h0 ha
  clear h0
  have HF : Hid _ := hf
  clear hf
  have hmf : ∀ (fn : Fn) (first cap : Array Value) (w : World), (Instr.makeFunc fn first cap).run Try.prog w = .ok (.func fn first cap) w := fun _ _ _ _ => rfl
  go_enter Try.func70, Try.ntmps70
  go_wp2_with (go_at_call 79; refine (do_full b _ _ HF.out).mono ?_; rintro e w1 ⟨rfl, rfl⟩)
  go_ret
  exact ⟨rfl, rfl⟩

theorem expOf_full (b : Nat) (n : Int) (w : World) (hf : Full b w) :
    Calls Try.prog 69 #[.pointer (some ⟨b, 0, none⟩), .int .i64 n] w fun e w' => e = .returned (.int .u8 (GfM.gexp (n % 255).toNat)) ∧ w' = w := by
  have hmf : ∀ (fn : Fn) (first cap : Array Value) (w : World), (Instr.makeFunc fn first cap).run Try.prog w = .ok (.func fn first cap) w := fun _ _ _ _ => rfl
  have ht := Int.tmod_lt_of_pos n (b := 255) (by omega)
  have hl := Int.lt_tmod_of_pos n (b := 255) (by omega)
  by_cases hr : 0 ≤ n.tmod 255
  · have E : Hid _ := tmod_nonneg n hr
    have hc := ex_at hf (n.tmod 255) hr ht
    have HF : Hid _ := hf
    clear hf
    go_enter Try.func69, Try.ntmps69
    go_wp2_with (go_at_call 79; refine (do_full b _ _ HF.out).mono ?_; rintro e w1 ⟨rfl, rfl⟩)
    go_ret
    exact ⟨ret_u8 (by rw [E.out]), rfl⟩
  · have hr' : n.tmod 255 < 0 := by omega
    have hr2 : 0 ≤ n.tmod 255 + 255 := by omega
    have hr3 : n.tmod 255 + 255 < 255 := by omega
    have E : Hid _ := tmod_neg n hr'
    have hc := ex_at hf (n.tmod 255 + 255) hr2 hr3
    have HF : Hid _ := hf
    clear hr hf
    go_enter Try.func69, Try.ntmps69
    go_wp2_with (go_at_call 79; refine (do_full b _ _ HF.out).mono ?_; rintro e w1 ⟨rfl, rfl⟩)
    go_ret
    exact ⟨ret_u8 (by rw [E.out]), rfl⟩

/-- Products, the tables being there. -/
theorem mul_full (b x y : Nat) (w : World) (hf : Full b w) (hx : x < 256) (hy : y < 256) :
    Calls Try.prog 81 #[.pointer (some ⟨b, 0, none⟩), .int .u8 x, .int .u8 y] w fun e w' => e = .returned (.int .u8 (GfM.mul x y)) ∧ w' = w := by
  by_cases h0 : x = 0
  · subst h0
    clear hf
    go_enter Try.func81, Try.ntmps81
    go_wp2
    go_ret
    exact ⟨rfl, rfl⟩
  · by_cases h1 : y = 0
    · subst h1
      have hd : ((x : Int) == 0) = false := by simpa using h0
      clear hf
      go_enter Try.func81, Try.ntmps81
      go_wp2
      go_ret
      exact ⟨ret_u8 (by simp [GfM.mul]), rfl⟩
    · have hd : ((x : Int) == 0) = false := by simpa using h0
      have hd2 : ((y : Int) == 0) = false := by simpa using h1
      have hgx := GfM.glog_lt h0 hx
      have hgy := GfM.glog_lt h1 hy
      have H0 : Hid _ := h0
      have H1 : Hid _ := h1
      have HF : Hid _ := hf
      clear h0 h1 hf
      go_enter Try.func81, Try.ntmps81
      go_wp2_with fail
      refine (logOf_full b x _ HF.out H0.out hx).mono ?_
      rintro e w1 ⟨rfl, rfl⟩
      go_wp2_with fail
      refine (logOf_full b y _ HF.out H1.out hy).mono ?_
      rintro e w2 ⟨rfl, rfl⟩
      go_wp2_with fail
      refine (expOf_full b _ _ HF.out).mono ?_
      rintro e w3 ⟨rfl, rfl⟩
      go_wp2
      go_ret
      refine ⟨ret_u8 ?_, rfl⟩
      unfold GfM.mul
      rw [if_neg (by intro h; rcases h with h | h; exact H0.out h; exact H1.out h)]
      congr 2

/-- Inverses: behind one the tables are there. -/
theorem inv_after (b x : Nat) (w : World) (hf : Fld b w) (h0 : x ≠ 0) (hx : x < 256) :
    Calls Try.prog 53 #[.pointer (some ⟨b, 0, none⟩), .int .u8 x] w fun e w' => e = .returned (.tuple #[.int .u8 (GfM.inv x), .bool true]) ∧ After b w w' := by
  have hd : ((x : Int) == 0) = false := by simpa using h0
  have hgx := GfM.glog_lt h0 hx
  have H0 : Hid _ := h0
  clear h0
  go_enter Try.func53, Try.ntmps53
  go_wp2_with fail
  refine (logOf_any b x _ hf H0.out hx).mono ?_
  rintro e w1 ⟨rfl, k1⟩
  go_wp2_with fail
  refine (expOf_any b _ _ k1.fld).mono ?_
  rintro e w3 ⟨rfl, k3⟩
  go_wp2
  go_ret2
  refine ⟨ret_u8b ?_ _, After.trans k1.kept k3⟩
  unfold GfM.inv
  rw [if_neg H0.out]
  congr 2
  omega
end Go.Proofs.Ytebglmfdchfplaa
