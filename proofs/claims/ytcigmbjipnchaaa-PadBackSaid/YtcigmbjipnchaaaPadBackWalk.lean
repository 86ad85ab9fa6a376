/- The law PadBack, walked. -/
import Derived.Test.YtcigmbjipnchaaaPadFit
namespace Go.Proofs.Ytcigmbjipnchaaa
open Go.RowKit
set_option linter.unusedVariables false

theorem i64_mask8 (n : Int) : ∃ k : Nat, bits .and .i64 n 255 = (k : Int) ∧ k < 256 := by
  have key : (BitVec.ofInt 64 n &&& BitVec.ofInt 64 255).toNat = (n % ((2 ^ 64 : Nat) : Int)).toNat % 2 ^ 8 := by
    rw [BitVec.toNat_and, BitVec.toNat_ofInt, show (BitVec.ofInt 64 255).toNat = 2 ^ 8 - 1 by decide, Nat.and_two_pow_sub_one_eq_mod]
  refine ⟨(n % ((2 ^ 64 : Nat) : Int)).toNat % 2 ^ 8, ?_, by omega⟩
  show IntKind.i64.wrap ((BitVec.ofInt 64 n &&& BitVec.ofInt 64 255).toNat : Nat) = _
  rw [key, IntKind.wrap_i64]
  omega
theorem rem_nat (a n : Nat) : ∃ b : Nat, (a : Int) % ((n : Int) + 1) = (b : Int) ∧ b ≤ n := ⟨a % (n + 1), by rw [Int.natCast_emod]; rfl, by have := Nat.mod_lt a (show 0 < n + 1 by omega); omega⟩
theorem rem_sub (a n b : Nat) (h : b ≤ n) : ∃ c : Nat, (a : Int) % ((n : Int) - (b : Int) + 1) = (c : Int) ∧ b + c ≤ n := by
  obtain ⟨c, hc, hl⟩ := rem_nat a (n - b)
  exact ⟨c, by rw [← hc]; congr 1; omega, by omega⟩
/-- A part of a part. -/
theorem part_part (z : List Nat) (a n b m : Nat) (h : b + m ≤ n) : (((z.drop a).take n).drop b).take m = (z.drop (a + b)).take m := by
  rw [List.drop_take, List.drop_drop, List.take_take, Nat.min_eq_left (by omega)]
theorem flatB_quart (z : List Nat) (h : z.length ≤ 64) : flatB (quart z) 4 = ful z := by
  have hl := ful_length h
  have e : flatB (quart z) 4 = quart z 0 ++ (quart z 1 ++ (quart z 2 ++ quart z 3)) := by
    simp [flatB, List.range_succ]
  rw [e]
  unfold quart
  have t : ∀ k, (ful z).drop k = ((ful z).drop k).take 16 ++ (ful z).drop (k + 16) := fun k => by
    rw [← List.drop_drop]
    exact (List.take_append_drop 16 _).symm
  have t0 := t 0
  have t1 := t 16
  have t2 := t 32
  have t3 := t 48
  rw [List.drop_eq_nil_of_le (show (ful z).length ≤ 48 + 16 by omega), List.append_nil] at t3
  rw [List.drop_zero] at t0
  show (ful z).take 16 ++ (((ful z).drop 16).take 16 ++ (((ful z).drop 32).take 16 ++ ((ful z).drop 48).take 16)) = ful z
  rw [← t3, ← t2, ← t1, List.take_append_drop]
theorem back_long (a : Option Addr) (n cap : Nat) (x1 x2 x3 x4 : Int) (w : World) (h : 64 < n) :
    Calls Try.prog 3 #[.slice a n cap, .int .i64 x1, .int .i64 x2, .int .i64 x3, .int .i64 x4] w fun e w' => e = .returned (.bool true) ∧ Below w.heap.size w w' := by
  have i1 : (64 : Int) < (n : Int) := by omega
  go_enter Try.func3, Try.ntmps3
  go_wp2_with fail
  refine (awake_any _).mono ?_
  rintro e w2 ⟨rfl, k2⟩
  go_wp2
  go_ret
  exact ⟨rfl, k2.below (Nat.le_refl _) fun _ _ => id⟩
set_option maxRecDepth 100000 in
set_option maxHeartbeats 3200000 in
theorem back_short (a : Option Addr) (n cap : Nat) (z : List Nat) (x1 x2 x3 x4 : Int) (w : World) (h : n ≤ 64) (hc : n ≤ cap) (ha : a = none → n = 0) (hz : SlN w a n z) :
    Calls Try.prog 3 #[.slice a n cap, .int .i64 x1, .int .i64 x2, .int .i64 x3, .int .i64 x4] w fun e w' => e = .returned (.bool true) ∧ Below w.heap.size w w' := by
  have HZ := hid hz
  have HA := hid ha
  have HCP := hid hc
  have HL : Hid (z.length ≤ 64) := by show _ ≤ _; rw [hz.len]; exact h
  have HZL := hid hz.len
  have i1 : ¬ (64 : Int) < (n : Int) := by omega
  obtain ⟨a1, ha1, b1⟩ := i64_mask8 x1
  obtain ⟨a2, ha2, b2⟩ := i64_mask8 x2
  obtain ⟨a3, ha3, b3⟩ := i64_mask8 x3
  obtain ⟨a4, ha4, b4⟩ := i64_mask8 x4
  obtain ⟨at_, hr1, l1⟩ := rem_nat a1 n
  obtain ⟨n', hr2, l2⟩ := rem_sub a2 n at_ l1
  obtain ⟨on, hr3, l3⟩ := rem_nat a3 n'
  obtain ⟨m, hr4, l4⟩ := rem_sub a4 n' on l3
  have HLE : Hid (at_ + n' ≤ n ∧ on + m ≤ n') := ⟨l2, l4⟩
  have k1 : (at_ : Int) ≤ (n : Int) := by omega
  have k2 : (on : Int) ≤ (n' : Int) := by omega
  have k3 : (n' : Int) ≤ (n : Int) := by omega
  have k4 : (at_ : Int) + (n' : Int) ≤ (n : Int) := by omega
  clear hz ha hc l1 l2 l3 l4
  go_enter Try.func3, Try.ntmps3
  go_wp2_with fail
  refine (cut_good a n cap z w HZ.out h).mono ?_
  rintro e w1 ⟨g, rfl, sr, _, u1⟩
  have H1 := hid u1
  have HSR := hid sr
  have HJ := hid (join_any (some ⟨g, 0, none⟩) 4 4 (quart z) (n : Int) w1 (.inr ⟨g, 0, rfl, sr⟩))
  clear sr u1
  go_wp2_with fail
  go_loopw [13] (fun i wr => ∃ k : Nat, k ≤ 4 ∧ i = .int .i64 k ∧ wr = w1) (fun i _ => 4 - (intOf i).toNat)
  case atStart => exact ⟨0, by omega, rfl, rfl⟩
  case round =>
    obtain ⟨k, hk, rfl, rfl⟩ := hrel
    by_cases hlt : k < 4
    · obtain ⟨ak, ck, x0, _⟩ := HSR.out.cells k hlt
      rw [quart_length HL.out hlt, Nat.zero_add] at x0
      have j1 : (0 : Int) ≤ (k : Int) := by omega
      have j2 : (k : Int) < (4 : Int) := by omega
      go_wp2
      go_roundw
      case rel => exact ⟨k + 1, by omega, by go_num, trivial⟩
      case measure => simp [intOf]; omega
    · obtain rfl : k = 4 := by omega
      go_wp2_with fail
      refine HJ.out.mono ?_
      rintro e w2 (⟨hf, k', hm, hk', c2, c2', rfl, k2'⟩ | ⟨hf, rfl, _⟩)
      rotate_left
      · exact absurd ⟨rfl, by omega, by omega, fun i hi => quart_length HL.out hi⟩ hf
      obtain rfl : n = k' := by omega
      have hx := k2'.sl
      rw [flatB_quart z HL.out, ← HZL.out, ful_take HL.out, HZL.out] at hx
      have HX := hid hx
      have H2 := hid (H1.out.trans k2'.up)
      clear hf hm hk' k2' hx HJ HSR
      go_wp2_with fail
      refine (part_good a n cap at_ n' z w2 (HZ.out.nxt H2.out) HCP.out HA.out HLE.out.1 (by have := HLE.out; omega)).mono ?_
      rintro e w3 ⟨ap, cp, rfl, kp⟩
      have H3 := hid (H2.out.trans kp.up)
      have KP := hid kp
      clear kp
      go_wp2_with fail
      refine (part_good ap n' cp on m _ w3 KP.out.sl KP.out.cap KP.out.nil HLE.out.2 (by have := HLE.out; omega)).mono ?_
      rintro e w4 ⟨aq, cq, rfl, kq⟩
      have H4 := hid (H3.out.trans kq.up)
      have KQ := hid kq
      clear kq
      have HPR : Hid (Calls Try.prog 10 #[.slice a n cap, .int .i64 ((at_ : Int) + (on : Int)), .int .i64 m] w4 fun e w' => ∃ a' c, e = .returned (.tuple #[.slice a' m c, .bool true]) ∧ Got w4 w' a' m c ((z.drop (at_ + on)).take m)) := by
        have := part_good a n cap (at_ + on) m z w4 (HZ.out.nxt H4.out) HCP.out HA.out (by have := HLE.out; omega) (by have := HLE.out; omega)
        rwa [Int.natCast_add] at this
      go_wp2_with fail
      refine HPR.out.mono ?_
      rintro e w5 ⟨ar, cr, rfl, kr⟩
      have H5 := hid (H4.out.trans kr.up)
      have HPP : Hid (((((z.drop at_).take n').drop on).take m) = (z.drop (at_ + on)).take m) := part_part z at_ n' on m HLE.out.2
      have U45 := kr.up
      have U34 := KQ.out.up
      have U23 := KP.out.up
      have sx := ((HX.out.nxt U23).nxt U34).nxt U45
      have sp := (KP.out.sl.nxt U34).nxt U45
      have sq := KQ.out.sl.nxt U45
      rw [HPP.out] at sq
      have sr := kr.sl
      have sb := HZ.out.nxt H5.out
      have sm := sb.mid at_ n' cap HLE.out.1 HCP.out
      have C1 : Hid (∀ W, Up Nul w5 W → (convert 22 9 (.slice c2 n c2')).run Try.prog W = .ok (.string (strOf z)) W) := fun W u => (sx.nxt u).conv c2'
      have C2 : Hid (∀ W, Up Nul w5 W → (convert 22 9 (.slice a n cap)).run Try.prog W = .ok (.string (strOf z)) W) := fun W u => (sb.nxt u).conv cap
      have C3 : Hid (∀ W, Up Nul w5 W → (convert 22 9 (.slice aq m cq)).run Try.prog W = .ok (.string (strOf ((z.drop (at_ + on)).take m))) W) := fun W u => (sq.nxt u).conv cq
      have C4 : Hid (∀ W, Up Nul w5 W → (convert 22 9 (.slice ar m cr)).run Try.prog W = .ok (.string (strOf ((z.drop (at_ + on)).take m))) W) := fun W u => (sr.nxt u).conv cr
      have C5 : Hid (∀ W, Up Nul w5 W → (convert 22 9 (.slice ap n' cp)).run Try.prog W = .ok (.string (strOf ((z.drop at_).take n'))) W) := fun W u => (sp.nxt u).conv cp
      have C6 : Hid (∀ W, Up Nul w5 W → (convert 22 9 (.slice (atOff a at_ cap) n' (cap - at_))).run Try.prog W = .ok (.string (strOf ((z.drop at_).take n'))) W) := fun W u => (sm.nxt u).conv (cap - at_)
      have hs : ∀ W, (Instr.slice 22 (.slice a n cap) (some (.int .i64 (at_ : Int))) (some (.int .i64 ((at_ : Int) + (n' : Int)))) none).run Try.prog W = .ok (.slice (atOff a at_ cap) n' (cap - at_)) W := fun W => by
        have := run_part a n cap at_ (at_ + n') n' rfl (by have := HLE.out; have := HCP.out; omega) W
        rwa [Int.natCast_add] at this
      have hw : IntKind.i64.wrap ((at_ : Int) + (n' : Int)) = (at_ : Int) + (n' : Int) := IntWalk.i64_in _ (by have := HLE.out; omega)
      have hw2 : wrap64 ((at_ : Int) + (n' : Int)) = (at_ : Int) + (n' : Int) := by rw [← IntWalk.i64_left]; exact hw
      have q1 : ((strOf z).toList == (strOf z).toList) = true := by simp
      have q2 : ((strOf ((z.drop (at_ + on)).take m)).toList == (strOf ((z.drop (at_ + on)).take m)).toList) = true := by simp
      have q3 : ((strOf ((z.drop at_).take n')).toList == (strOf ((z.drop at_).take n')).toList) = true := by simp
      generalize strOf ((z.drop (at_ + on)).take m) = t2 at C3 C4 q2
      generalize strOf ((z.drop at_).take n') = t3 at C5 C6 q3
      generalize strOf z = t1 at C1 C2 q1
      generalize atOff a at_ cap = am at C6 hs
      generalize cap - at_ = cm at C6 hs
      clear sx sp sq sr sb sm U45 U34 U23 kr HPR HPP KP KQ HX
      go_wp2_with fail
      have HR0 : Hid (Up Nul w5 w5) := Up.refl _ _
      go_region_held3 (fun w' => Up Nul w5 w' ∧ (convert 22 9 (.slice c2 n c2')).run Try.prog w' = .ok (.string t1) w' ∧ (convert 22 9 (.slice a n cap)).run Try.prog w' = .ok (.string t1) w' ∧ (convert 22 9 (.slice aq m cq)).run Try.prog w' = .ok (.string t2) w' ∧ (convert 22 9 (.slice ar m cr)).run Try.prog w' = .ok (.string t2) w' ∧ (convert 22 9 (.slice ap n' cp)).run Try.prog w' = .ok (.string t3) w' ∧ (convert 22 9 (.slice am n' cm)).run Try.prog w' = .ok (.string t3) w')
        (first | exact ⟨by assumption, C1.out _ (by assumption), C2.out _ (by assumption), C3.out _ (by assumption), C4.out _ (by assumption), C5.out _ (by assumption), C6.out _ (by assumption)⟩ | exact ⟨HR0.out.drew, C1.out _ HR0.out.drew, C2.out _ HR0.out.drew, C3.out _ HR0.out.drew, C4.out _ HR0.out.drew, C5.out _ HR0.out.drew, C6.out _ HR0.out.drew⟩)
        ((go_at_call 7; (with_reducible refine (awake_any _).mono ?_); rintro e w6 ⟨rfl, k6⟩; have oi : Up Nul w5 w6 := (by first | exact HR0.out.drew.trans k6 | exact Up.trans (by assumption) k6); clear k6))
      have H6 := hid (H5.out.trans oi)
      go_wp2
      go_ret
      exact ⟨rfl, H6.out.below (Nat.le_refl _) fun _ _ => id⟩
theorem back_walk (a : Option Addr) (n cap : Nat) (zs : List Int) (x1 x2 x3 x4 : Int) (w : World) (h : CameIn w a n cap zs) :
    Calls Try.prog 3 #[.slice a n cap, .int .i64 x1, .int .i64 x2, .int .i64 x3, .int .i64 x4] w fun e w' => e = .returned (.bool true) ∧ Below w.heap.size w w' := by
  by_cases hn : n ≤ 64
  · obtain ⟨z, hz⟩ := SlN.of h
    exact back_short a n cap z x1 x2 x3 x4 w hn (came_cap h) (fun e => by
      rcases h with ⟨_, h2, _⟩ | ⟨_, h1, _⟩
      · exact h2
      · rw [e] at h1; cases h1) hz
  · exact back_long a n cap x1 x2 x3 x4 w (by omega)
end Go.Proofs.Ytcigmbjipnchaaa
