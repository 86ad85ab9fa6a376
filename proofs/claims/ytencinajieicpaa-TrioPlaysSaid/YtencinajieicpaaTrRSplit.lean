/- The document's Split. -/
import Derived.Test.YtencinajieicpaaTrStr
import Derived.Test.YtencinajieicpaaTrMath
namespace Go.Proofs.Ytencinajieicpaa
open Go.RowKit
set_option linter.unusedVariables false

theorem idx_str (s : ByteArray) (p c : Nat) (hp : p < s.size) (hc : s[p].toNat = c) (W : World) : (Instr.index 9 (.string s) (.int .i64 (p : Nat))).run Try.prog W = .ok (.int .u8 (c : Nat)) W := by
  subst hc
  simp [Instr.index, run_underlying Try.underlying9, asIntOf, hp]
theorem mid_str (s : ByteArray) (k l : Nat) (h : k ≤ l) (h2 : l ≤ s.size) (W : World) : (Instr.slice 9 (.string s) (some (.int .i64 (k : Int))) (some (.int .i64 (l : Int))) none).run Try.prog W = .ok (.string (s.extract k l)) W := by
  rw [run_slice_string (P := Try.prog) W 9 s .i64 .i64 k l Try.underlying9 (by omega) (by omega) (by omega)]
  simp
set_option maxRecDepth 100000 in
set_option maxHeartbeats 1600000 in
theorem rsplit_any (w : World) (z : List Nat) (hb : ∀ i, z.getD i 0 < 256) (hl : z.length ≤ 100000) :
    Calls Try.prog 24 #[.string (strOf z)] w fun e w' => ∃ v, e = .returned (.tuple #[v, .int .i64 ((flt (spl z)).length : Nat)]) ∧ OwnV 9 w.heap.size w' v (SrV (spl z)) ∧ Up Nul w w' := by
  have hsz : (strOf z).size = z.length := strOf_size z
  have HNU := hid (nums_strOf hb)
  have HEX := hid (strOf_extract z)
  obtain ⟨s, HS⟩ : ∃ s, Hid (strOf z = s) := ⟨_, rfl⟩
  rw [HS.out] at hsz ⊢
  obtain ⟨l, hll⟩ : ∃ l, z.length = l := ⟨_, rfl⟩
  rw [hll] at hsz hl
  have HL := hid (And.intro hll (And.intro hl hb))
  have i8 : (l : Int) ≤ 100000 := by omega
  clear hll hl hb
  go_enter Try.func24, Try.ntmps24
  go_wp2_with fail
  go_loopw [4, 5] (fun v i wr => ∃ (p : Nat) (D : List (List Nat)) (R : List Nat), i = .int .i64 (p : Nat) ∧ z = flt D ++ R ∧ spl z = D ++ spl R ∧ p = (flt D).length ∧ D.length ≤ p ∧ OwnV 9 w.heap.size wr v (SrV D) ∧ Up Nul w wr) (fun _ i _ => l - (intOf i).toNat)
  case atStart => exact ⟨0, [], z, rfl, rfl, rfl, rfl, Nat.le_refl _, OwnV.nil _ _ _, Up.refl _ _⟩
  case round =>
    obtain ⟨p, D, R, rfl, hz, hs, hp, hD, hr, hu⟩ := hrel
    have HR := hid hr
    have HU := hid hu
    have hlp : l = p + R.length := by rw [← HL.out.1, hz, List.length_append, hp]
    have i0 : (0 : Int) ≤ (p : Int) := by omega
    have i9 : (p : Int) ≤ 100000 := by have := HL.out.2.1; omega
    have HD := hid (And.intro hz (And.intro hs (And.intro hp (And.intro hD hlp))))
    cases R with
    | nil =>
      obtain rfl : l = p := by simpa using hlp
      have HE : Hid (spl z = D ∧ (flt D).length = l) := ⟨by rw [HD.out.2.1]; simp [spl_nil], hp.symm⟩
      clear hz hs hp hr hu hlp hD
      go_wp2_with fail
      go_ret2
      rw [HE.out.1, HE.out.2]
      exact ⟨_, rfl, HR.out, HU.out⟩
    | cons c b =>
      have hpl : p < l := by rw [hlp]; simp
      have i1 : (p : Int) < (l : Int) := by omega
      have hget : z.getD p 0 = c := by
        rw [hz, hp, List.getD_eq_getElem?_getD, List.getElem?_append_right (Nat.le_refl _), Nat.sub_self]
        rfl
      have hc256 : c < 256 := by have := HL.out.2.2 p; rw [hget] at this; exact this
      have hix := idx_str s p c (by omega) (by
        have h1 := nums_at s p (by omega)
        have h2 := HNU.out
        rw [HS.out] at h2
        rw [h2, hget] at h1
        exact h1.symm)
      have hlb : b.length = l - p - 1 := by rw [hlp, List.length_cons]; omega
      have hspl := spl_cons c b
      have HX := hid (And.intro hspl (And.intro hlb hpl))
      have i4 : wrap64 ((l : Int) - (p : Int)) = (l : Int) - (p : Int) := by rw [← IntWalk.i64_left]; exact IntWalk.i64_in _ (by omega)
      have i5 : wrap64 ((l : Int) - (p : Int) - 1) = (l : Int) - (p : Int) - 1 := by rw [← IntWalk.i64_left]; exact IntWalk.i64_in _ (by omega)
      clear hspl hget hz hs hp hr hu hlp hD hlb
      by_cases h0 : c = 0
      · have HE : Hid (spl z = D ∧ (flt D).length = p) := ⟨by rw [HD.out.2.1, HX.out.1, if_pos (.inl h0)]; simp, HD.out.2.2.1.symm⟩
        subst h0
        clear hpl
        go_wp2_with fail
        go_ret2
        rw [HE.out.1, HE.out.2]
        exact ⟨_, rfl, HR.out, HU.out⟩
      · have k0 : ((c : Int) == 0) = false := by simp; omega
        by_cases h250 : 250 < c
        · have HE : Hid (spl z = D ∧ (flt D).length = p) := ⟨by rw [HD.out.2.1, HX.out.1, if_pos (.inr (.inl h250))]; simp, HD.out.2.2.1.symm⟩
          have k1 : (250 : Int) < (c : Int) := by omega
          clear hpl h0 h250
          go_wp2_with fail
          go_ret2
          rw [HE.out.1, HE.out.2]
          exact ⟨_, rfl, HR.out, HU.out⟩
        · have k1 : ¬ (250 : Int) < (c : Int) := by omega
          by_cases hroom : b.length < c
          · have HE : Hid (spl z = D ∧ (flt D).length = p) := ⟨by rw [HD.out.2.1, HX.out.1, if_pos (.inr (.inr hroom))]; simp, HD.out.2.2.1.symm⟩
            have k2 : (l : Int) - (p : Int) - 1 < (c : Int) := by have := HX.out.2.1; omega
            clear hpl h0 h250 hroom
            go_wp2_with fail
            go_ret2
            rw [HE.out.1, HE.out.2]
            exact ⟨_, rfl, HR.out, HU.out⟩
          · have k2 : ¬ (l : Int) - (p : Int) - 1 < (c : Int) := by have := HX.out.2.1; omega
            have HE : Hid (spl (c :: b) = b.take c :: spl (b.drop c)) := by
              show _ = _
              rw [HX.out.1, if_neg (by omega)]
            have hdr : z.drop (p + 1) = b := by
              rw [HD.out.1, HD.out.2.2.1, List.drop_append, List.drop_of_length_le (by omega), List.nil_append, show (flt D).length + 1 - (flt D).length = 1 by omega]
              rfl
            have hyl : (b.take c).length = c := by rw [List.length_take]; omega
            have hsl : ∀ W, (Instr.slice 9 (.string s) (some (.int .i64 ((p : Int) + 1))) (some (.int .i64 ((p : Int) + 1 + (c : Int)))) none).run Try.prog W = .ok (.string (strOf (b.take c))) W := fun W => by
              have h1 := mid_str s (p + 1) (p + 1 + c) (by omega) (by have := HX.out.2.1; omega) W
              rw [← HS.out, HEX.out, HS.out, hdr, show p + 1 + c - (p + 1) = c by omega] at h1
              rw [show (p : Int) + 1 = ((p + 1 : Nat) : Int) by omega, show ((p + 1 : Nat) : Int) + (c : Int) = ((p + 1 + c : Nat) : Int) by omega]
              exact h1
            have HTD : Hid (z = flt (D ++ [b.take c]) ++ b.drop c) := by
              show _ = _
              rw [HD.out.1, flt_append, flt_one, List.append_assoc]
              unfold enc
              rw [hyl, List.cons_append, List.take_append_drop]
            have HYL := hid hyl
            have HSV : Hid (SrV (D ++ [b.take c]) = SrV D ++ [.string (strOf (b.take c))]) := by show _ = _; rw [SrV_append]; rfl
            have HPL := hid (And.intro hpl (And.intro h0 (And.intro h250 hroom)))
            have HLN : Hid ((SrV D).length + 1 ≤ 1000000) := by show _ ≤ _; rw [SrV_length]; have := HD.out.2.2.2.1; omega
            generalize b.take c = y at HE hsl HTD HYL HSV
            generalize strOf y = sy at hsl HSV
            have i6 : (c : Int) ≤ 250 := by omega
            have i7 : (0 : Int) ≤ (c : Int) := by omega
            clear hpl h0 h250 hroom hdr hyl
            go_wp2_with (first
              | (at_builtin; refine wpList_append_vals Try.underlying29 info_strT rfl (by omega) rfl (.tmp 30) (.tmp 39) rfl w.heap.size _ (SrV D) rfl (OwnV.alloc HR.out _) ⟨wr.heap.size, 0, none⟩ 1 1 [.string sy] rfl (fun j u hj => by
                  match j, hj with
                  | 0, hj => cases hj; exact World.cell?_alloc_new wr _ _ 0) (fun u hu => by cases hu with | head => rfl | tail _ h => cases h) rfl HLN.out (by have := HU.out.size; simp; omega) ?_; intro v2 w2 G1 G2)
              | fail)
            have HFO : Hid (OwnV 9 w.heap.size w2 v2 (SrV (D ++ [y]))) := by show OwnV _ _ _ _ _; rw [HSV.out]; exact G1.out
            have HFU : Hid (Up Nul w w2) := (HU.out.alloc _).grown G2.out fun q hq => HR.out.base q hq
            clear G1 G2 HSV
            go_wp2_with fail
            go_roundw
            case rel => exact ⟨p + (1 + c), D ++ [y], b.drop c, by go_num, HTD.out, by
                rw [HD.out.2.1, HE.out, List.append_assoc]; rfl, by
                rw [flt_append, flt_one, List.length_append, enc_length, HYL.out, ← HD.out.2.2.1]; omega, by
                rw [List.length_append]; have := HD.out.2.2.2.1; simp only [List.length_cons, List.length_nil]; omega, HFO.out, HFU.out⟩
            case measure => have := HPL.out; simp [intOf]; omega
end Go.Proofs.Ytencinajieicpaa
