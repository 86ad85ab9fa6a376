/- 'MetaNext'. -/
import Derived.Test.YtmhmlfgikmeejaaDoorMtAwakeW
import Derived.Test.YtmhmlfgikmeejaaDoorMtKey
import Derived.Laws.BitsAllLaws
namespace Go.Proofs.YtmhmlfgikmeejaaDoor
open Go.RowKit Go.Maps
set_option linter.unusedVariables false

namespace MxL
theorem i64_mask (m : Nat) (hm : m < 63) (n : Int) : ∃ k : Nat, bits .and .i64 n ((2 ^ m - 1 : Nat) : Int) = (k : Int) ∧ k < 2 ^ m := by
  have hp : 2 ^ m ≤ 2 ^ 62 := Nat.pow_le_pow_right (by omega) (by omega)
  have key : (BitVec.ofInt 64 n &&& BitVec.ofInt 64 ((2 ^ m - 1 : Nat) : Int)).toNat = (n % ((2 ^ 64 : Nat) : Int)).toNat % 2 ^ m := by
    have e : (BitVec.ofInt 64 ((2 ^ m - 1 : Nat) : Int)).toNat = 2 ^ m - 1 := by
      rw [BitVec.toNat_ofInt]
      have : (((2 ^ m - 1 : Nat) : Int) % ((2 ^ 64 : Nat) : Int)) = ((2 ^ m - 1 : Nat) : Int) := Int.emod_eq_of_lt (by omega) (by omega)
      rw [this]
      omega
    rw [BitVec.toNat_and, BitVec.toNat_ofInt, e, Nat.and_two_pow_sub_one_eq_mod]
  refine ⟨(n % ((2 ^ 64 : Nat) : Int)).toNat % 2 ^ m, ?_, Nat.mod_lt _ (Nat.two_pow_pos m)⟩
  show IntKind.i64.wrap ((BitVec.ofInt 64 n &&& BitVec.ofInt 64 ((2 ^ m - 1 : Nat) : Int)).toNat : Nat) = _
  rw [key, IntKind.wrap_i64]
  have := Nat.mod_lt (n % ((2 ^ 64 : Nat) : Int)).toNat (Nat.two_pow_pos m)
  generalize (n % ((2 ^ 64 : Nat) : Int)).toNat % 2 ^ m = x at this ⊢
  omega
theorem mask2 (n : Int) : ∃ k : Nat, bits .and .i64 n 3 = (k : Int) ∧ k < 4 := i64_mask 2 (by omega) n
theorem mask3 (n : Int) : ∃ k : Nat, bits .and .i64 n 7 = (k : Int) ∧ k < 8 := i64_mask 3 (by omega) n
theorem mask16 (n : Int) : ∃ k : Nat, bits .and .i64 n 65535 = (k : Int) ∧ k < 65536 := i64_mask 16 (by omega) n
end MxL
theorem ok_putR {k : ByteArray} (hk : (1 ≤ k.size ∧ k.size ≤ 16) ∧ ∀ c ∈ nums k, 33 ≤ c ∧ c ≤ 126) {s : Int} (hs : 1 ≤ s ∧ s ≤ 2147483647) : okR ⟨1, k, 0, s, [], 0, locs3, tb0⟩ = true := by
  refine okR_iff.2 ⟨(by decide : (1 : Nat) ≤ 1), (by decide : (1 : Nat) ≤ 8), rfl, ?_, hk.2, (by decide : sh 1 2 ≤ (0 : Int) ∧ (0 : Int) ≤ sh 1 3), ?_, (by decide : sh 1 6 ≤ (0 : Int) ∧ (0 : Int) ≤ sh 1 7), (by decide : (((0 : Nat) : Int) = sh 1 8)), fun x hx => (by cases hx), (by decide : (((3 : Nat) : Int) = sh 1 11 + sh 1 12 * ((0 : Nat) : Int))), ?_, (by decide : ∀ x ∈ tb0.l, sh 1 13 ≤ x ∧ x ≤ sh 1 14)⟩
  · show (1 : Int) ≤ ((k.size : Nat) : Int) ∧ ((k.size : Nat) : Int) ≤ 16
    omega
  · show (1 : Int) ≤ s ∧ s ≤ 2147483647
    exact hs
  · intro l hl
    have hl : l ∈ locs3 := hl
    simp only [locs3, List.mem_cons, List.not_mem_nil, or_false] at hl
    rcases hl with rfl | rfl | rfl <;> decide
theorem last_del (M : MM) (k : ByteArray) : (M.step ⟨2, k, 0, 0, [], 0, [], tb0⟩).2.last = M.last := by
  have hd : (M.drop k).2.last = M.last := by
    unfold MM.drop
    cases M.b k with
    | none => rfl
    | some x => dsimp only; cases M.s x.sid <;> rfl
  unfold MM.step MM.app
  split
  · rfl
  · show (if (M.drop k).1 = 0 then { (M.drop k).2 with last := M.last } else (M.drop k).2 : MM).last = M.last
    split
    · rfl
    · exact hd
theorem step_put {M : MM} {k : ByteArray} {s : Int} (hok : okR ⟨1, k, 0, s, [], 0, locs3, tb0⟩ = true) : (s ≤ M.last → M.step ⟨1, k, 0, s, [], 0, locs3, tb0⟩ = (11, M)) ∧ (¬ s ≤ M.last → (M.step ⟨1, k, 0, s, [], 0, locs3, tb0⟩).1 = 0 ∧ (M.step ⟨1, k, 0, s, [], 0, locs3, tb0⟩).2.last = s) := by
  have e : M.step ⟨1, k, 0, s, [], 0, locs3, tb0⟩ = M.app2 (M.put ⟨1, k, 0, s, [], 0, locs3, tb0⟩) (rise M.last [s]) := by
    unfold MM.step MM.app
    rw [hok]
    rfl
  refine ⟨fun h => ?_, fun h => ?_⟩
  · rw [e]
    unfold rise
    rw [if_pos h]
    rfl
  · rw [e]
    unfold rise
    rw [if_neg h]
    exact ⟨rfl, rfl⟩
set_option maxRecDepth 10000 in
set_option maxHeartbeats 4000000 in
theorem mnext_any (a0 : Option Addr) (l0 c0 : Nat) (f : Nat → Int) (w : World) (hS : Shp w) (w0 : SlI w a0 l0 f) :
    Calls Tryd.prog 3 #[.slice a0 l0 c0] w fun e w' => e = .returned (.bool true) ∧ Up Nul w w' := by
  have HS := hid hS
  have HC := hid w0
  clear hS w0
  go_enter Tryd.func3, Tryd.ntmps3
  go_wp2_with fail
  refine (new_any w).mono ?_
  rintro e w1 ⟨p, bm, bs, rfl, h1, u1⟩
  have H1 : Hid (MtL w w1 p 0 MM.new bm bs (fun _ => undef) (Fresh w w1)) := ⟨h1, fun k hk => hk.2, fun k hk => hk.1, u1⟩
  clear h1 u1
  go_wp2_with fail
  go_loopw [4, 5] (fun nx i wr => ∃ (t : Nat) (N : Int) (M : MM) (Q : Int → Value) (F : Nat → Prop), t ≤ 40 ∧ i = .int .i64 (t : Nat) ∧ nx = .int .i64 N ∧ M.last + 1 = N ∧ N ≤ 1 + 5 * (t : Int) ∧ M.Inv3 ∧ MtL w wr p (6 * t) M bm bs Q F) (fun _ i _ => 40 - (intOf i).toNat)
  case atStart => exact ⟨0, 1, MM.new, _, _, by omega, rfl, rfl, rfl, by omega, inv_new, H1.out⟩
  case round =>
    obtain ⟨t, N, M, Q, F, ht, rfl, rfl, hN, hN2, hI, hm⟩ := hrel
    have HI := hid hI
    have HM := hid hm
    have HN := hid hN
    have HN2 := hid hN2
    have i0 : (0 : Int) ≤ (t : Int) := by omega
    have i9 : (t : Int) ≤ 40 := by omega
    clear hI hm
    by_cases hlt : t < l0
    · by_cases ht40 : t < 40
      · obtain ⟨g, o, rfl, _, hcell⟩ := (HC.out.nxt HM.out.up).row.resolve_left (by omega)
        have x1 := hcell t hlt
        generalize f t = z at x1
        obtain ⟨X, hX, hX2⟩ := MxL.mask16 z
        obtain ⟨A, hA, hA2⟩ := MxL.mask2 (X : Int)
        obtain ⟨B, hB, hB2⟩ := MxL.mask2 ((X : Int) / 4)
        obtain ⟨C, hC, hC2⟩ := MxL.mask3 ((X : Int) / 16)
        have i2 : (t : Int) < (l0 : Int) := by omega
        have i3 : (t : Int) < 40 := by omega
        have HKEY := hid (fun W => key_any A (by omega) W)
        have HKO := hid (keyL_ok A (by omega))
        have hl0 := HI.out.l
        have hNb : 1 ≤ N ∧ N ≤ 201 := by omega
        have HNB := hid hNb
        have HCC : Hid (C < 8) := hC2
        have HTT := hid hlt
        clear hcell hX2 hA2 hB2 hC2 ht hN hN2 hl0
        have w1' : wrap64 (N + (C : Int)) = N + C := by rw [← IntWalk.i64_left]; exact IntWalk.i64_in _ (by have := HCC.out; omega)
        have w2' : wrap64 (N + (C : Int) - 3) = N + C - 3 := by rw [← IntWalk.i64_left]; exact IntWalk.i64_in _ (by have := HCC.out; omega)
        obtain ⟨S, HS0⟩ : ∃ S, Hid (max (N + (C : Int) - 3) 1 = S) := ⟨_, rfl⟩
        have hSw : max (wrap64 (wrap64 (N + (C : Int)) - 3)) 1 = S := by rw [w1', w2']; exact HS0.out
        have HSB : Hid (1 ≤ S ∧ S ≤ N + 4) := by have h1 := HS0.out; have h2 := HCC.out; have h3 := HNB.out; constructor <;> omega
        clear w1' w2' hNb
        by_cases hB0 : B = 0
        · have hb : ((B : Int) == 0) = true := by rw [hB0]; rfl
          clear hB0 hSw
          go_wp2_with fail
          refine (HKEY.out _).mono ?_
          rintro e w2 ⟨rfl, u2⟩
          have HM2 := hid (HM.out.nxt u2)
          clear u2
          go_wp2_with fail
          refine (step12_any HS.out HM2.out HI.out ⟨2, keyL A, 0, 0, [], 0, [], tb0⟩ (.inr rfl) none none 0 0 ⟨.inl rfl, .inl rfl, Nat.zero_le _, Nat.zero_le _⟩ (by have := HKO.out.1.2; show (keyL A).size ≤ 100000; omega) (by omega)).mono ?_
          rintro e w3 ⟨rfl, ⟨Q3, F3, h3, _⟩, u3⟩
          have HI3 := hid (inv_12 HI.out ⟨2, keyL A, 0, 0, [], 0, [], tb0⟩ (.inr rfl))
          have HL3 := hid (last_del M (keyL A))
          have H3 := hid h3
          clear h3 u3
          generalize M.step ⟨2, keyL A, 0, 0, [], 0, [], tb0⟩ = Z at HI3 HL3 H3
          have HNX := hid (next_any H3.out.m (by have := HI3.out.l; omega))
          rw [HL3.out, HN.out] at HNX
          go_wp2_with fail
          refine HNX.out.mono ?_
          rintro e w4 ⟨rfl, rfl⟩
          go_wp2_with fail
          go_roundw
          case rel => exact ⟨t + 1, N, Z.2, Q3, F3, by omega, by go_num, rfl, by rw [HL3.out]; exact HN.out, by have := HN2.out; omega, HI3.out, H3.out⟩
          case measure => simp [intOf]; omega
        · have hb : ((B : Int) == 0) = false := by rw [beq_eq_false_iff_ne]; omega
          have HOK := hid (ok_putR HKO.out (s := S) (by have := HSB.out; have := HNB.out; omega))
          clear hB0
          go_wp2_with fail
          refine (HKEY.out _).mono ?_
          rintro e w2 ⟨rfl, u2⟩
          have HM2 := hid (HM.out.nxt u2)
          clear u2
          go_wp2_with fail
          obtain ⟨w3, hw3⟩ : ∃ W, W = w2.alloc (.cells #[.int .i64 0, .int .i64 0, .int .i64 1, .int .i64 0, .int .i64 0, .int .i64 2, .int .i64 0, .int .i64 0, .int .i64 3] 36) := ⟨_, rfl⟩
          have u3 : Up Nul w2 w3 := by rw [hw3]; exact (Up.refl _ _).alloc _
          have b3 : w3.heap[w2.heap.size]? = some (.cells #[.int .i64 0, .int .i64 0, .int .i64 1, .int .i64 0, .int .i64 0, .int .i64 2, .int .i64 0, .int .i64 0, .int .i64 3] 36 (0, 0)) := by rw [hw3]; exact heap_alloc_new _ _
          have HM3 := hid (HM2.out.nxt u3)
          have HR3 := hid (rowL3 b3)
          rw [← hw3]
          clear hw3 u3 b3
          refine (step12_any HS.out HM3.out HI.out ⟨1, keyL A, 0, S, [], 0, locs3, tb0⟩ (.inl rfl) none (some ⟨w2.heap.size, 0, none⟩) 0 3 ⟨.inl rfl, HR3.out, Nat.zero_le _, by show 3 ≤ 100000; omega⟩ (by have := HKO.out.1.2; show (keyL A).size ≤ 100000; omega) (by omega)).mono ?_
          rintro e w4 ⟨rfl, ⟨Q4, F4, h4, _⟩, u4⟩
          have HI4 := hid (inv_12 HI.out ⟨1, keyL A, 0, S, [], 0, locs3, tb0⟩ (.inl rfl))
          have HST := hid (step_put (M := M) HOK.out)
          have H4 := hid h4
          clear h4 u4
          by_cases hSl : S ≤ M.last
          · have h5 := HST.out.1 hSl
            rw [h5] at H4 HI4 ⊢
            have hge : ¬ N ≤ S := by have := HN.out; omega
            have HNX := hid (next_any H4.out.m (by have := HI4.out.l; omega))
            rw [HN.out] at HNX
            clear hSl h5 HST
            go_wp2_with fail
            refine HNX.out.mono ?_
            rintro e w5 ⟨rfl, rfl⟩
            go_wp2_with fail
            go_roundw
            case rel => exact ⟨t + 1, N, M, Q4, F4, by omega, by go_num, rfl, HN.out, by have := HN2.out; omega, HI4.out, H4.out⟩
            case measure => simp [intOf]; omega
          · obtain ⟨h5, h6⟩ := HST.out.2 hSl
            have hge : N ≤ S := by have := HN.out; omega
            have HS6 := hid h6
            generalize M.step ⟨1, keyL A, 0, S, [], 0, locs3, tb0⟩ = Z at H4 HI4 h5 HS6 ⊢
            rw [h5]
            have HNX := hid (next_any H4.out.m (by have := HI4.out.l; omega))
            rw [HS6.out] at HNX
            have w3' : wrap64 (S + 1) = S + 1 := by rw [← IntWalk.i64_left]; exact IntWalk.i64_in _ (by have := HSB.out; have := HNB.out; omega)
            clear hSl h5 h6 HST
            go_wp2_with fail
            refine HNX.out.mono ?_
            rintro e w5 ⟨rfl, rfl⟩
            go_wp2_with fail
            go_roundw
            case rel => exact ⟨t + 1, S + 1, Z.2, Q4, F4, by omega, by go_num, rfl, by rw [HS6.out], by have := HSB.out; have := HN2.out; omega, HI4.out, H4.out⟩
            case measure => simp [intOf]; omega
      · have i2 : (t : Int) < (l0 : Int) := by omega
        have i3 : ¬ (t : Int) < 40 := by omega
        clear ht hN hN2 ht40 hlt
        go_wp2_with fail
        refine (awake_any wr (HS.out.nxt HM.out.up)).mono ?_
        rintro e w2 ⟨rfl, u2⟩
        have HU := hid (HM.out.up.trans u2)
        go_wp2
        go_ret
        exact ⟨rfl, HU.out⟩
    · have i2 : ¬ (t : Int) < (l0 : Int) := by omega
      clear ht hN hN2 hlt
      go_wp2_with fail
      refine (awake_any wr (HS.out.nxt HM.out.up)).mono ?_
      rintro e w2 ⟨rfl, u2⟩
      have HU := hid (HM.out.up.trans u2)
      go_wp2
      go_ret
      exact ⟨rfl, HU.out⟩
theorem mnext_walk (a0 : Option Addr) (l0 c0 : Nat) (z0 : List Int) (w : World) (hS : Shp w) (w0 : CameI w a0 l0 c0 z0) :
    Calls Tryd.prog 3 #[.slice a0 l0 c0] w fun e w' => e = .returned (.bool true) ∧ Below w.heap.size w w' := by
  obtain ⟨f, hf⟩ := SlI.of w0
  exact (mnext_any a0 l0 c0 f w hS hf).mono fun e w' ⟨h, u⟩ => ⟨h, u.below (Nat.le_refl _) fun _ _ h => h⟩
end Go.Proofs.YtmhmlfgikmeejaaDoor
