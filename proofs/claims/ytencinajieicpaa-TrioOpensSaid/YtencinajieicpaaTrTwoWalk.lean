/- The law TrioTwo, walked, whatever the program's Trio is. -/
import Derived.Test.YtencinajieicpaaTrAwake
import Derived.Deep.CutBlock
namespace Go.Proofs.Ytencinajieicpaa
open Go.RowKit
set_option linter.unusedVariables false

theorem sln_off {P : Nat → Prop} {w : World} {a : Option Addr} {l : Nat} {z : List Nat} (h : SlN w a l z) : Off P w a l := by
  rcases h.row with e | ⟨b, o, e, hb, _⟩
  · exact .inl e
  · exact .inr fun x hx => .inr (by rw [e] at hx; cases hx; exact hb)
theorem nlv_one {S : Nat → TS} {x : Nat} (hx : x < 3) (h : ∀ i, i < 3 → (S i).live = decide (i = x)) : nlv S = 1 := by
  unfold nlv
  rw [h 0 (by omega), h 1 (by omega), h 2 (by omega)]
  match x, hx with
  | 0, _ => rfl
  | 1, _ => rfl
  | 2, _ => rfl
theorem frm_one {S : Nat → TS} {x : Nat} (hx : x < 3) (h : ∀ i, i < 3 → (S i).live = decide (i = x)) : frm S x = none := by
  unfold frm
  rw [List.find?_eq_none]
  intro i hi
  have hi := List.mem_range.1 hi
  rw [h i hi]
  simp
theorem two_opn {S : Nat → TS} {x : Nat} (hx : x < 3) (h : ∀ i, i < 3 → (S i).live = decide (i = x)) : tOpn S none = (8, [], S, none) := by
  unfold tOpn
  rw [if_pos (by rw [nlv_one hx h]; omega)]
theorem two_app {S : Nat → TS} {x : Nat} (hx : x < 3) (h : ∀ i, i < 3 → (S i).live = decide (i = x)) : tApp S none [1] = (8, S, none) := by
  unfold tApp
  rw [if_neg (by simp), if_pos (by rw [nlv_one hx h]; omega)]
theorem two_mnd {S : Nat → TS} {x : Nat} (hx : x < 3) (h : ∀ i, i < 3 → (S i).live = decide (i = x)) : tMnd S none (x : Nat) = (8, S, none) := by
  unfold tMnd
  rw [Int.toNat_natCast, if_neg (by rw [h x hx]; simp; omega), frm_one hx h]
theorem bit_any (b : Bool) (w : World) : Calls Try.prog 22 #[.bool b] w fun e w' => e = .returned (.int .i64 (if b then 1 else 0)) ∧ w' = w := by
  cases b
  · go_enter Try.func22, Try.ntmps22
    go_wp2
    go_ret
    exact ⟨rfl, rfl⟩
  · go_enter Try.func22, Try.ntmps22
    go_wp2
    go_ret
    exact ⟨rfl, rfl⟩
/-- Where the law stands behind its first record. -/
structure TwS (O : TrioOps) (w w' : World) (t : Nat) (q : Nat → Nat) (N : Nat) (S : Nat → TS) : Prop where
  h : QH O Nul w w' t q N none none S
  live : ∀ i, i < 3 → (S i).live = true
set_option maxRecDepth 100000 in
set_option maxHeartbeats 3200000 in
theorem ttwo_walk (O : TrioOps) (a0 : Int) (a1 : Option Addr) (l1 c1 : Nat) (z1 : List Int) (w : World) (w1 : CameIn w a1 l1 c1 z1) :
    Calls Try.prog 4 #[.int .i64 a0, .slice a1 l1 c1] w fun e w' => e = .returned (.bool true) ∧ Below w.heap.size w w' := by
  obtain ⟨z, hz⟩ := SlN.of w1
  have hc := came_cap w1
  have HN := hid (qh_new (fu := none) (k := none) O (Up.refl Nul w) rfl (fun f e => by cases e))
  by_cases hl : 600 < l1
  · have i1 : (600 : Int) < (l1 : Int) := by omega
    clear hz hc hl w1
    go_enter Try.func4, Try.ntmps4
    go_wp2_with fail
    refine HN.out.mono ?_
    rintro e w2 ⟨t, q, rfl, h1, u1⟩
    have U1 := hid u1
    clear h1 u1 HN
    go_wp2_with fail
    refine (qawake_any O _).mono ?_
    rintro e w3 ⟨rfl, k2⟩
    have H2 := hid (U1.out.trans k2)
    clear k2
    go_wp2
    go_ret
    exact ⟨rfl, H2.out.below (Nat.le_refl _) fun _ _ h => h⟩
  · have i1 : ¬ (600 : Int) < (l1 : Int) := by omega
    have HZ := hid hz
    have HC := hid hc
    have HL : Hid (z.length = l1 ∧ l1 ≤ 600) := ⟨hz.len, by omega⟩
    obtain ⟨m, hm, hm2⟩ := FrL.i64_mask 8 (by omega) a0
    have hm : bits .and .i64 a0 255 = (m : Int) := hm
    obtain ⟨x, hx, hx3⟩ := FrL.rem_lit m 3 (by omega)
    have hx : (m : Int) % 3 = (x : Int) := hx
    have HX := hid hx3
    clear hz hc hl w1 hm2 hx3
    obtain ⟨r, N, S, HA⟩ : ∃ (r : Int) (N : Nat) (S : Nat → TS), Hid (tApp (fun _ => ⟨[], 0, true⟩) none z = (r, S, none) ∧ (∀ i, i < 3 → (S i).live = true) ∧ N = (if r = 0 then 0 + 1 else 0) ∧ ((1 ≤ l1 ∧ l1 ≤ 250 ∧ r = 0 ∧ N = 1) ∨ (¬ 1 ≤ l1 ∧ r = 1 ∧ N = 0) ∨ (1 ≤ l1 ∧ ¬ l1 ≤ 250 ∧ r = 1 ∧ N = 0))) := by
      by_cases hr : 1 ≤ l1 ∧ l1 ≤ 250
      · obtain ⟨S, e, hS⟩ := app_none (S := fun _ => ⟨[], 0, true⟩) (z := z) (by unfold Rec; rw [HL.out.1]; exact hr) (by decide) (fun i hi _ => by show 0 + (z.length + 1) ≤ 65536; rw [HL.out.1]; omega)
        exact ⟨0, 1, S, e, fun i hi => by rw [hS i hi]; rfl, rfl, .inl ⟨hr.1, hr.2, rfl, rfl⟩⟩
      · refine ⟨1, 0, _, by unfold tApp; rw [if_pos (by rw [HL.out.1]; omega)], fun i hi => rfl, rfl, .inr ?_⟩
        by_cases h1 : 1 ≤ l1
        · exact .inr ⟨h1, by omega, rfl, rfl⟩
        · exact .inl ⟨h1, rfl, rfl⟩
    have HO := hid (sln_off (P := Nul) HZ.out)
    rcases HA.out.2.2.2 with ⟨j1, j2, rfl, rfl⟩ | ⟨j1, rfl, rfl⟩ | ⟨j1, j2, rfl, rfl⟩
    all_goals
      first
        | (have i2 : (1 : Int) ≤ (l1 : Int) := by omega)
        | (have i2 : ¬ (1 : Int) ≤ (l1 : Int) := by omega)
      try first
        | (have i3 : (l1 : Int) ≤ 250 := by omega)
        | (have i3 : ¬ (l1 : Int) ≤ 250 := by omega)
      clear j1
      try clear j2
      go_enter Try.func4, Try.ntmps4
      go_wp2_with fail
      refine HN.out.mono ?_
      rintro e w2 ⟨t, q, rfl, h1, u1⟩
      have H1 := hid h1
      clear h1 u1
      go_wp2_with fail
      refine (qh_appendE H1.out (by omega) c1 (HZ.out.nxt H1.out.up) HC.out (by have := HL.out; omega) HO.out HA.out.1).mono ?_
      rintro e w3 ⟨rfl, h2, _⟩
      first
        | (have H2 : Hid (QH O Nul w w3 t q 1 none none S) := h2)
        | (have H2 : Hid (QH O Nul w w3 t q 0 none none S) := h2)
      clear h2 H1
      go_wp2_with fail
      refine (qh_records H2.out).mono ?_
      rintro e w4 ⟨rfl, h3, _⟩
      have H3 := hid h3
      clear h3 H2
      go_wp2_with fail
      refine (bit_any _ _).mono ?_
      rintro e w5 ⟨rfl, rfl⟩
      go_wp2_with fail
      refine (qh_tapes H3.out).mono ?_
      rintro e w6 ⟨rfl, h4, _⟩
      have H4 := hid h4
      clear h4 H3
      unfold tri
      have HL3 : Hid (L3 (w6.alloc (.cells #[.pointer (some ⟨q 0, 0, none⟩), .pointer (some ⟨q 1, 0, none⟩), .pointer (some ⟨q 2, 0, none⟩)] 27)) w6.heap.size q) := l3_new w6 q
      have H5 : Hid (∃ S, QH O (fun x => x = w6.heap.size) w (w6.alloc (.cells #[.pointer (some ⟨q 0, 0, none⟩), .pointer (some ⟨q 1, 0, none⟩), .pointer (some ⟨q 2, 0, none⟩)] 27)) t q _ none none S ∧ ∀ i, i < 3 → (S i).live = decide (i = x ∨ 0 ≤ i)) :=
        ⟨S, H4.out.owns ((Up.refl _ _).alloc _) fun x hx => .inr ⟨by omega, by rw [hx]; simp⟩, fun i hi => by rw [HA.out.2.1 i hi]; simp⟩
      clear H4
      go_wp2_with fail
      generalize World.alloc w6 _ = w7 at HL3 H5 ⊢
      generalize w6.heap.size = lb at HL3 H5 ⊢
      go_loopw [8] (fun i wr => ∃ k : Nat, k ≤ 3 ∧ i = .int .i64 (k : Nat) ∧ L3 wr lb q ∧ ∃ S, QH O (fun x => x = lb) w wr t q _ none none S ∧ ∀ i, i < 3 → (S i).live = decide (i = x ∨ k ≤ i)) (fun i _ => 3 - (intOf i).toNat)
      case atStart => exact ⟨0, Nat.zero_le _, rfl, HL3.out, H5.out⟩
      case round =>
        obtain ⟨k, hk, rfl, hl3, S', hq, hlv⟩ := hrel
        have HQ := hid hq
        have HLV := hid hlv
        have HL4 := hid hl3
        clear hq hlv hl3 H5 HL3
        have i0 : (0 : Int) ≤ (k : Int) := by omega
        by_cases hlt : k < 3
        · have i4 : (k : Int) < 3 := by omega
          have HK := hid hlt
          have ck := HL4.out.cell k hlt
          by_cases hkx : k = x
          · have HKX := hid hkx
            have i5 : ((k : Int) == (x : Int)) = true := by simp [hkx]
            clear hkx hlt hk
            go_wp2_with fail
            go_roundw
            case rel => exact ⟨k + 1, HK.out, by go_num, HL4.out, S', HQ.out, fun i hi => by
              rw [HLV.out i hi, decide_eq_decide]
              have := HKX.out
              omega⟩
            case measure => have := HK.out; simp [intOf]; omega
          · have HKX := hid hkx
            have i5 : ((k : Int) == (x : Int)) = false := by simp; omega
            clear hkx hlt hk
            go_wp2_with fail
            refine (qh_fail HQ.out HK.out).mono ?_
            rintro e w8 ⟨rfl, h8, tp⟩
            have HL8 := hid (HL4.out.tp tp rfl)
            have H8 := hid h8
            clear h8 tp HQ HL4
            go_wp2_with fail
            go_roundw
            case rel => exact ⟨k + 1, HK.out, by go_num, HL8.out, _, H8.out, fun i hi => by
              by_cases e : i = k
              · subst e
                rw [updT_same]
                have := HKX.out
                exact (decide_eq_false (by omega)).symm
              · rw [updT_other _ _ e, HLV.out i hi, decide_eq_decide]
                omega⟩
            case measure => have := HK.out; simp [intOf]; omega
        · obtain rfl : k = 3 := by omega
          have HLV3 : Hid (∀ i, i < 3 → (S' i).live = decide (i = x)) := fun i hi => by
            rw [HLV.out i hi, decide_eq_decide]
            omega
          have i4 : ¬ ((3 : Nat) : Int) < 3 := by omega
          have c0 := HL4.out.cell 0 (by omega)
          have c1' := HL4.out.cell 1 (by omega)
          have c2 := HL4.out.cell 2 (by omega)
          have HOP := hid (qh_openNo HQ.out (two_opn HX.out HLV3.out) (by decide))
          unfold tri at HOP
          clear hlt hk HLV
          go_wp2_with fail
          refine HOP.out.mono ?_
          rintro e w8 ⟨oa, oc, rfl, h8, tp⟩
          have H8 := hid h8
          clear h8 tp HOP HQ c0 c1' c2 HL4
          have H9 : Hid (QH O (fun x => x = w8.heap.size) w (w8.alloc (.cells #[.int .u8 1] 5)) t q _ none none S') := (H8.out.less (Q := Nul) fun _ h => h.elim).owns ((Up.refl _ _).alloc _) fun x hx => .inr ⟨by omega, by rw [hx]; simp⟩
          have HSV : Hid (SlN (w8.alloc (.cells #[.int .u8 1] 5)) (some ⟨w8.heap.size, 0, none⟩) 1 [1]) := slm_mark w8 [1] _ (by decide) (by decide) _ rfl
          clear H8
          go_wp2_with fail
          refine (qh_appendE H9.out (by omega) 1 HSV.out (by omega) (by omega) (.inr fun x hx => by cases hx; exact .inl rfl) (two_app HX.out HLV3.out)).mono ?_
          rintro e w9 ⟨rfl, h9, _⟩
          have H10 : Hid (QH O (fun x => x = w8.heap.size) w w9 t q _ none none S') := h9
          clear h9 H9 HSV
          have HMD := hid (qh_mend H10.out (x : Nat))
          rw [two_mnd HX.out HLV3.out] at HMD
          go_wp2_with fail
          refine HMD.out.mono ?_
          rintro e w10 ⟨rfl, h11, _⟩
          have U10 := hid h11.up
          clear h11 HMD H10
          go_wp2_with fail
          refine (qawake_any O _).mono ?_
          rintro e w11 ⟨rfl, k2⟩
          have UE := hid (U10.out.trans k2)
          clear k2
          go_wp2
          go_ret
          exact ⟨rfl, UE.out.below (Nat.le_refl _) fun _ _ h => h⟩
end Go.Proofs.Ytencinajieicpaa
