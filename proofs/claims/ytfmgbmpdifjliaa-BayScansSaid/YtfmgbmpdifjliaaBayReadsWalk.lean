/- The law BayReads, walked, whatever the program's Bay is. -/
import Derived.Test.YtfmgbmpdifjliaaBayHold
import Derived.Deep.CutBlock
namespace Go.Proofs.Ytfmgbmpdifjliaa
open Go.RowKit
set_option linter.unusedVariables false

namespace BaL
theorem mask24 (n : Int) : ∃ k : Nat, bits .and .i64 n 16777215 = (k : Int) ∧ k < 16777216 := FrL.i64_mask 24 (by omega) n
/-- One bit as a byte. -/
theorem bit_byte {j : Nat} (hj : j < 8) : ∃ c : Nat, (2 : Int) ^ j % 256 = (c : Int) ∧ c < 256 ∧ c = 2 ^ j := by
  have hp : 2 ^ j < 256 := Nat.pow_lt_pow_right (by omega) (show j < 8 from hj)
  refine ⟨2 ^ j, ?_, hp, rfl⟩
  rw [Int.natCast_pow]
  exact Int.emod_eq_of_lt (by have := Int.pow_pos (n := 2) (m := j) (by decide); omega) (by
    have : (((2 ^ j : Nat)) : Int) < 256 := by omega
    rwa [Int.natCast_pow] at this)
end BaL
theorem tk_zer : FrM.tk (zer 96) = none := tk_head (by rw [zer_at]; decide)
set_option maxRecDepth 100000 in
theorem breads_long (O : BayOps) (a0 : Int) (a1 : Option Addr) (l1 c1 : Nat) (a2 : Int) (a3 : Option Addr) (l3 c3 : Nat) (a4 : Int) (w : World) (h : 64 < l1 ∨ 64 < l3) :
    Calls Try.prog 7 #[.int .i64 a0, .slice a1 l1 c1, .int .i64 a2, .slice a3 l3 c3, .int .i64 a4] w fun e w' => e = .returned (.bool true) ∧ Below w.heap.size w w' := by
  by_cases h1 : 64 < l1
  · have i1 : (64 : Int) < (l1 : Int) := by omega
    clear h
    go_enter Try.func7, Try.ntmps7
    go_wp2_with fail
    refine (bawake_any O _).mono ?_
    rintro e w2 ⟨rfl, k2⟩
    go_wp2
    go_ret
    exact ⟨rfl, k2.below (Nat.le_refl _) fun _ _ => id⟩
  · have i1 : ¬ (64 : Int) < (l1 : Int) := by omega
    have i2 : (64 : Int) < (l3 : Int) := by omega
    clear h
    go_enter Try.func7, Try.ntmps7
    go_wp2_with fail
    refine (bawake_any O _).mono ?_
    rintro e w2 ⟨rfl, k2⟩
    go_wp2
    go_ret
    exact ⟨rfl, k2.below (Nat.le_refl _) fun _ _ => id⟩
set_option maxRecDepth 100000 in
set_option maxHeartbeats 3200000 in
theorem breads_short (O : BayOps) (a0 : Int) (a1 : Option Addr) (l1 c1 : Nat) (z1 : List Nat) (a2 : Int) (a3 : Option Addr) (l3 c3 : Nat) (z3 : List Nat) (a4 : Int) (w : World) (h1 : l1 ≤ 64) (h3 : l3 ≤ 64) (hc1 : l1 ≤ c1) (hc3 : l3 ≤ c3) (hz1 : SlN w a1 l1 z1) (hz3 : SlN w a3 l3 z3) :
    Calls Try.prog 7 #[.int .i64 a0, .slice a1 l1 c1, .int .i64 a2, .slice a3 l3 c3, .int .i64 a4] w fun e w' => e = .returned (.bool true) ∧ Below w.heap.size w w' := by
  obtain ⟨x, hx, hx2⟩ := BaL.mask24 a0
  obtain ⟨y, hy, hy2⟩ := BaL.mask24 a2
  obtain ⟨mm, hm, _⟩ := FrL.mask16 a4
  obtain ⟨p, hp, hp2⟩ := FrL.rem_lit mm 768 (by omega)
  have hp : (mm : Int) % 768 = (p : Int) := hp
  obtain ⟨qi, QI⟩ : ∃ q, Hid (p / 8 = q) := ⟨_, rfl⟩
  obtain ⟨ji, JI⟩ : ∃ q, Hid (p % 8 = q) := ⟨_, rfl⟩
  have qi1 : (p : Int) / 8 = (qi : Int) := by rw [← QI.out]; rfl
  have ji1 : (p : Int) % 8 = (ji : Int) := by rw [← JI.out]; rfl
  have HQ : Hid (qi < 96 ∧ ji < 8) := ⟨by rw [← QI.out]; omega, by rw [← JI.out]; omega⟩
  obtain ⟨cb, hcb, cb8, hcp⟩ := BaL.bit_byte HQ.out.2
  have HX : Hid (x < 4294967296) := by show _ < _; omega
  have HY : Hid (y < 4294967296) := by show _ < _; omega
  have H1 := hid h1
  have H3 := hid h3
  have C1 := hid hc1
  have C3 := hid hc3
  have HZ1 := hid hz1
  have HZ3 := hid hz3
  have HL1 : Hid (z1.length ≤ 64) := by show _ ≤ _; rw [hz1.len]; exact h1
  have HL3 : Hid (z3.length ≤ 64) := by show _ ≤ _; rw [hz3.len]; exact h3
  have HB8 := hid cb8
  have HBIT : Hid (FrM.tk (turn (FrM.fr x z1) qi cb) = none) := by
    show _ = _
    unfold turn
    rw [hcp]
    exact FrM.tk_one HL1.out hz1.small HQ.out.1 HQ.out.2
  have i1 : ¬ (64 : Int) < (l1 : Int) := by omega
  have i2 : ¬ (64 : Int) < (l3 : Int) := by omega
  have I3 : Hid (wrap64 ((x : Int) + 1) = (x : Int) + 1) := by show _ = _; rw [← IntWalk.i64_left]; exact IntWalk.i64_in _ (by omega)
  have XB : Hid (-9223372036854775808 ≤ (x : Int) ∧ (x : Int) ≤ 9223372036854775807) := by show _ ∧ _; omega
  clear hx2 hy2 h1 h3 hc1 hc3 hz1 hz3 hp2 cb8 hcp
  go_enter Try.func7, Try.ntmps7
  go_wp2_with fail
  refine (bh_new (O := O) (Up.refl Nul w) 4 4 rfl).mono ?_
  rintro e w1 ⟨b, rfl, u1, hn⟩
  have HN := hid hn
  clear hn u1
  go_wp2_with fail
  refine HN.out.mono ?_
  rintro e w2 ⟨q, rfl, h2⟩
  have G2 := hid h2
  clear h2 HN
  go_wp2_with fail
  refine (bh_take (i := 0) G2.out rfl).mono ?_
  rintro e w3 ⟨rfl, h3, _⟩
  have G3 := hid h3
  clear h3 G2
  go_wp2_with fail
  refine (bh_take (i := 1) G3.out rfl).mono ?_
  rintro e w4 ⟨rfl, h4, _⟩
  have G4 := hid h4
  clear h4 G3
  go_wp2_with fail
  refine (bh_write (i := 0) (id := x) G4.out (by omega) (HZ1.out.nxt G4.out.up) C1.out (by omega) rfl HX.out H1.out).mono ?_
  rintro e w5 ⟨rfl, h5, _⟩
  have G5 := hid h5
  clear h5 G4
  go_wp2_with fail
  refine (bh_write (i := 1) (id := y) G5.out (by omega) (HZ3.out.nxt G5.out.up) C3.out (by omega) rfl HY.out H3.out).mono ?_
  rintro e w6 ⟨rfl, h6, _⟩
  have G6 := hid h6
  clear h6 G5
  obtain ⟨R, RR⟩ : ∃ R, Hid (upd (upd (fun _ => zer 96) 0 (FrM.fr x z1)) 1 (FrM.fr y z3) = R) := ⟨_, rfl⟩
  have R0 : Hid (R 0 = FrM.fr x z1) := by show _ = _; rw [← RR.out, updR_other _ _ (by omega), updR_same]
  have R1 : Hid (R 1 = FrM.fr y z3) := by show _ = _; rw [← RR.out, updR_same]
  have R2 : Hid (R 2 = zer 96) := by show _ = _; rw [← RR.out, updR_other _ _ (by omega), updR_other _ _ (by omega)]
  have R3 : Hid (R 3 = zer 96) := by show _ = _; rw [← RR.out, updR_other _ _ (by omega), updR_other _ _ (by omega)]
  rw [RR.out] at G6
  obtain ⟨U, UU⟩ : ∃ U, Hid (updB (updB (fun _ => false) 0 true) 1 true = U) := ⟨_, rfl⟩
  have U2 : Hid (U 2 = false) := by show _ = _; rw [← UU.out]; rfl
  rw [UU.out] at G6
  clear RR UU
  go_wp2_with fail
  refine (bh_read (i := 0) (id := x) G6.out (by omega) HX.out HL1.out R0.out).mono ?_
  rintro e w7 ⟨a7, l7, c7, rfl, s7, h7, u7⟩
  have G7 := hid h7
  have S7 := hid s7
  clear h7 s7 u7 G6
  go_wp2_with fail
  refine (bh_read (i := 1) (id := y) G7.out (by omega) HY.out HL3.out R1.out).mono ?_
  rintro e w8 ⟨a8, l8, c8, rfl, s8, h8, u8⟩
  have G8 := hid h8
  have S8 := hid s8
  have S7b := hid (S7.out.nxt u8)
  clear h8 s8 u8 G7 S7
  have NE : Hid (FrM.tk (R 0) = none ∨ ¬ (FrM.idOf (R 0) : Int) = (x : Int) + 1) := .inr (by rw [R0.out, FrM.fr_id HX.out]; omega)
  have h04 : Hid (0 < 4) := by show 0 < 4; omega
  have i3 := I3.out
  go_wp2_with fail
  refine (bh_readNone (i := 0) G8.out ((x : Int) + 1) h04.out NE.out).mono ?_
  clear i3
  rintro e w9 ⟨a9, c9, rfl, h9, u9⟩
  have G9 := hid h9
  have S8b := hid (S8.out.nxt u9)
  have S7c := hid (S7b.out.nxt u9)
  clear h9 u9 G8 S7b S8
  go_wp2_with fail
  refine (bh_readNone (i := 2) G9.out (x : Nat) (by omega) (.inl (by rw [R2.out]; exact tk_zer))).mono ?_
  rintro e w10 ⟨a10, c10, rfl, h10, u10⟩
  have G10 := hid h10
  have S8c := hid (S8b.out.nxt u10)
  have S7d := hid (S7c.out.nxt u10)
  clear h10 u10 G9 S7c S8b
  go_wp2_with fail
  refine (bh_writeBad G10.out 2 (x : Nat) a1 l1 c1 z1 (HZ1.out.nxt G10.out.up) C1.out XB.out (.inr (.inr (.inl U2.out)))).mono ?_
  rintro e w11 ⟨rfl, h11, u11⟩
  have G11 := hid h11
  have e1 := (S7d.out.nxt u11).conv c7
  have e2 := (HZ1.out.nxt h11.up).conv c1
  have e3 := (S8c.out.nxt u11).conv c8
  have e4 := (HZ3.out.nxt h11.up).conv c3
  obtain ⟨t1, T1⟩ : ∃ t, Hid (strOf z1 = t) := ⟨_, rfl⟩
  obtain ⟨t3, T3⟩ : ∃ t, Hid (strOf z3 = t) := ⟨_, rfl⟩
  rw [T1.out] at e1 e2
  rw [T3.out] at e3 e4
  have q1 : (t1.toList == t1.toList) = true := by simp
  have q3 : (t3.toList == t3.toList) = true := by simp
  clear h11 u11 G10 S7d S8c
  go_wp2_with fail
  refine (bh_rot (s := 0) (t := qi) (c := cb) G11.out h04.out HQ.out.1 HB8.out).mono ?_
  rintro e w12 ⟨rfl, h12, _⟩
  have G12 := hid h12
  clear h12 G11 e1 e2 e3 e4 T1 q1
  obtain ⟨R', RR'⟩ : ∃ R', Hid (upd R 0 (turn (R 0) qi cb) = R') := ⟨_, rfl⟩
  have P0 : Hid (FrM.tk (R' 0) = none) := by show _ = _; rw [← RR'.out, updR_same, R0.out]; exact HBIT.out
  have P1 : Hid (R' 1 = FrM.fr y z3) := by show _ = _; rw [← RR'.out, updR_other _ _ (by omega), R1.out]
  have P2 : Hid (R' 2 = zer 96) := by show _ = _; rw [← RR'.out, updR_other _ _ (by omega), R2.out]
  have P3 : Hid (R' 3 = zer 96) := by show _ = _; rw [← RR'.out, updR_other _ _ (by omega), R3.out]
  have P8 : Hid (∀ s, s < 4 → ∀ v ∈ R' s, v < 256) := fun s hs => by
    rcases (by omega : s = 0 ∨ s = 1 ∨ s = 2 ∨ s = 3) with rfl | rfl | rfl | rfl
    · rw [← RR'.out, updR_same, R0.out]
      intro v hv
      unfold turn at hv
      rcases List.mem_or_eq_of_mem_set hv with hv | rfl
      · exact FrM.fr_small HL1.out HZ1.out.small v hv
      · exact Nat.xor_lt_two_pow (n := 8) (small_getD (FrM.fr_small HL1.out HZ1.out.small) _) HB8.out
    · rw [P1.out]; exact FrM.fr_small HL3.out HZ3.out.small
    · rw [P2.out]; exact zer_small 96
    · rw [P3.out]; exact zer_small 96
  have PS : Hid ((scn R' 4).length = 1) := by
    show _ = _
    rw [scn_no (k := 3) (by rw [P3.out]; exact tk_zer), scn_no (k := 2) (by rw [P2.out]; exact tk_zer), scn_yes (k := 1) (by rw [P1.out]; exact FrM.tk_fr HY.out HL3.out), scn_no (k := 0) P0.out]
    rfl
  rw [RR'.out] at G12
  clear RR' HBIT R0 R1 R2 R3
  go_wp2_with fail
  refine (bh_readNone (i := 0) G12.out (x : Nat) h04.out (.inl P0.out)).mono ?_
  rintro e w13 ⟨a13, c13, rfl, h13, u13⟩
  have G13 := hid h13
  clear h13 u13 G12
  have h14 : Hid (1 < 4) := by show 1 < 4; omega
  go_wp2_with fail
  refine (bh_read (i := 1) (id := y) G13.out h14.out HY.out HL3.out P1.out).mono ?_
  rintro e w14 ⟨a14, l14, c14, rfl, s14, h15, u14⟩
  have G14 := hid h15
  have e5 := s14.conv c14
  have e6 := (HZ3.out.nxt h15.up).conv c3
  rw [T3.out] at e5 e6
  clear s14 h15 u14 G13
  go_wp2_with fail
  refine (bh_scan G14.out P8.out).mono ?_
  rintro e w15 ⟨v, rfl, o, h16, u15⟩
  obtain ⟨va, vc, rfl⟩ := o.shape
  rw [PS.out]
  have U15 : Hid (Up Nul w w15) := h16.up
  clear o h16 u15 G14 e5 e6
  go_wp2_with fail
  refine (bawake_any O _).mono ?_
  rintro e w16 ⟨rfl, k16⟩
  have H16 := hid (U15.out.trans k16)
  clear k16
  go_wp2
  go_ret
  exact ⟨rfl, H16.out.below (Nat.le_refl _) fun _ _ => fun h => h⟩
theorem breads_walk (O : BayOps) (a0 : Int) (a1 : Option Addr) (l1 c1 : Nat) (z1 : List Int) (a2 : Int) (a3 : Option Addr) (l3 c3 : Nat) (z3 : List Int) (a4 : Int) (w : World) (w1 : CameIn w a1 l1 c1 z1) (w3 : CameIn w a3 l3 c3 z3) :
    Calls Try.prog 7 #[.int .i64 a0, .slice a1 l1 c1, .int .i64 a2, .slice a3 l3 c3, .int .i64 a4] w fun e w' => e = .returned (.bool true) ∧ Below w.heap.size w w' := by
  by_cases h : 64 < l1 ∨ 64 < l3
  · exact breads_long O a0 a1 l1 c1 a2 a3 l3 c3 a4 w h
  · obtain ⟨z1, h1⟩ := SlN.of w1
    obtain ⟨z3, h3⟩ := SlN.of w3
    exact breads_short O a0 a1 l1 c1 z1 a2 a3 l3 c3 z3 a4 w (by omega) (by omega) (came_cap w1) (came_cap w3) h1 h3
end Go.Proofs.Ytfmgbmpdifjliaa
