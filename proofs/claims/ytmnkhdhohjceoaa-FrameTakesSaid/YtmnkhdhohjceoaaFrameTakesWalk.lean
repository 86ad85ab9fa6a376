/- The law FrameTakes, walked. -/
import Derived.Test.YtmnkhdhohjceoaaFrameLaw
import Derived.Lib.ConvBytes
namespace Go.Proofs.Ytmnkhdhohjceoaa
open Go.RowKit
set_option linter.unusedVariables false

namespace FrL
theorem xor_small {a b : Nat} (ha : a < 256) (hb : b < 256) : a ^^^ b < 256 := Nat.xor_lt_two_pow (n := 8) ha hb
theorem bw_up (w : World) (s : ByteArray) : Up Nul w (Lib.bytesWorld w 5 s) :=
  ⟨rfl, rfl, rfl, by rw [Lib.bytesWorld_size]; omega, fun k hk _ => Lib.bytesWorld_at_old w 5 s k hk⟩
theorem bw_froz (w : World) (s : ByteArray) (j : Nat) (hj : j < s.size) : (Lib.bytesWorld w 5 s).frozen? ⟨w.heap.size, j, none⟩ = false := by
  have e := Lib.bytesWorld_at_new w 5 s
  have hs : s.size ≤ (Lib.bytesCells w 5 s).size := by simp [Lib.bytesCells]
  simp [World.frozen?, e]
  omega
theorem bw_row (w : World) (z : List Nat) (h8 : ∀ i, z.getD i 0 < 256) : Row (Lib.bytesWorld w 5 (strOf z)) w.heap.size 0 z :=
  ⟨fun i hi => by
    rw [Nat.zero_add, Lib.bytesWorld_cell _ _ _ _ (by rw [strOf_size]; exact hi)]
    congr 2
    have := h8 i
    simp [strOf, List.getD_eq_getElem?_getD, List.getElem?_eq_getElem hi] at this ⊢
    omega, h8⟩
/-- A row of bytes that may be written. -/
structure Wr (w : World) (q : Nat) (z : List Nat) : Prop where
  row : Row w q 0 z
  froz : ∀ j, j < z.length → w.frozen? ⟨q, j, none⟩ = false
  lt : q < w.heap.size
theorem Wr.new (w : World) (z : List Nat) (h8 : ∀ i, z.getD i 0 < 256) : Wr (Lib.bytesWorld w 5 (strOf z)) w.heap.size z :=
  ⟨bw_row w z h8, fun j hj => bw_froz w _ j (by rw [strOf_size]; exact hj), by rw [Lib.bytesWorld_size]; omega⟩
theorem Wr.cell {w : World} {q : Nat} {z : List Nat} (h : Wr w q z) (t : Nat) (ht : t < z.length) : w.cell? ⟨q, t, none⟩ = some (.int .u8 (z.getD t 0 : Nat)) := by
  have := h.row.cells t ht
  rwa [Nat.zero_add] at this
theorem Wr.set {w : World} {q : Nat} {z : List Nat} (h : Wr w q z) (t v : Nat) (ht : t < z.length) (hv : v < 256) : Wr (w.setCell ⟨q, t, none⟩ (.int .u8 (v : Int))) q (z.set t v) :=
  ⟨⟨fun i hi => by
    rw [List.length_set] at hi
    rw [Nat.zero_add, getD_set _ _ _ _ ht]
    by_cases e : i = t
    · subst e
      have := h.row.cells i hi
      rw [Nat.zero_add] at this
      rw [if_pos rfl]
      exact World.cell?_setCell_same _ _ _ this
    · rw [if_neg e, World.cell?_setCell_other _ _ _ _ (by first | (simp; done) | (simp; omega))]
      have := h.row.cells i hi
      rwa [Nat.zero_add] at this, fun i => by
    rw [getD_set _ _ _ _ ht]
    split
    · exact hv
    · exact h.row.small i⟩, fun j hj => by
    rw [List.length_set] at hj
    have := h.froz j hj
    simpa using this, by simpa using h.lt⟩
theorem Wr.nxt {w w' : World} {q : Nat} {z : List Nat} (h : Wr w q z) (u : Up Nul w w') : Wr w' q z :=
  ⟨h.row.up u h.lt id, fun j hj => (u.froz (p := ⟨q, j, none⟩) h.lt id).trans (h.froz j hj), Nat.lt_of_lt_of_le h.lt u.size⟩
theorem Wr.sln {w : World} {q n : Nat} {z : List Nat} (h : Wr w q z) (hn : n ≤ z.length) (hl : n ≤ 1000) : SlN w (some ⟨q, 0, none⟩) n (z.take n) := by
  refine ⟨by rw [List.length_take]; omega, .inr ⟨q, 0, rfl, h.lt, fun i hi => ?_, fun i => ?_⟩, by omega⟩
  · rw [List.length_take] at hi
    rw [h.row.cells i (by omega)]
    have : i < n := by omega
    simp [List.getD_eq_getElem?_getD, this]
  · have := h.row.small i
    simp only [List.getD_eq_getElem?_getD, List.getElem?_take] at this ⊢
    split
    · exact this
    · simp
end FrL
theorem takes_long (a0 : Option Addr) (l0 c0 : Nat) (a1 : Int) (a2 : Option Addr) (l2 c2 : Nat) (a3 a4 a5 a6 a7 : Int) (w : World) (h : 200 < l0 ∨ 64 < l2) :
    Calls Try.prog 6 #[.slice a0 l0 c0, .int .i64 a1, .slice a2 l2 c2, .int .i64 a3, .int .u8 a4, .int .i64 a5, .int .u8 a6, .int .i64 a7] w fun e w' => e = .returned (.bool true) ∧ Below w.heap.size w w' := by
  by_cases h1 : 200 < l0
  · have i1 : (200 : Int) < (l0 : Int) := by omega
    clear h
    go_enter Try.func6, Try.ntmps6
    go_wp2_with fail
    refine (fawake_any _).mono ?_
    rintro e w2 ⟨rfl, k2⟩
    go_wp2
    go_ret
    exact ⟨rfl, k2.below (Nat.le_refl _) fun _ _ => id⟩
  · have i1 : ¬ (200 : Int) < (l0 : Int) := by omega
    have i2 : (64 : Int) < (l2 : Int) := by omega
    clear h
    go_enter Try.func6, Try.ntmps6
    go_wp2_with fail
    refine (fawake_any _).mono ?_
    rintro e w2 ⟨rfl, k2⟩
    go_wp2
    go_ret
    exact ⟨rfl, k2.below (Nat.le_refl _) fun _ _ => id⟩
set_option maxRecDepth 100000 in
set_option maxHeartbeats 3200000 in
theorem takes_short (a0 : Option Addr) (l0 c0 : Nat) (zb : List Nat) (a1 : Int) (a2 : Option Addr) (l2 c2 : Nat) (zd : List Nat) (a3 : Int) (x : Nat) (a5 : Int) (y : Nat) (a7 : Int) (w : World) (h0 : l0 ≤ 200) (h2 : l2 ≤ 64) (hc0 : l0 ≤ c0) (hb : SlN w a0 l0 zb) (hd : SlN w a2 l2 zd) (hx : x < 256) (hy : y < 256) :
    Calls Try.prog 6 #[.slice a0 l0 c0, .int .i64 a1, .slice a2 l2 c2, .int .i64 a3, .int .u8 x, .int .i64 a5, .int .u8 y, .int .i64 a7] w fun e w' => e = .returned (.bool true) ∧ Below w.heap.size w w' := by
  obtain ⟨id, hid1, hid2⟩ := FrL.mask32 a1
  obtain ⟨m3, hm3, _⟩ := FrL.mask16 a3
  obtain ⟨i, hi, hi96⟩ := FrL.rem_lit m3 96 (by omega)
  have hi : (m3 : Int) % 96 = (i : Int) := hi
  obtain ⟨m5, hm5, _⟩ := FrL.mask16 a5
  obtain ⟨k, hk, hk96⟩ := FrL.rem_lit m5 96 (by omega)
  have hk : (m5 : Int) % 96 = (k : Int) := hk
  obtain ⟨m7, hm7, _⟩ := FrL.mask8 a7
  obtain ⟨cu, hcu, hcu97⟩ := FrL.rem_lit m7 97 (by omega)
  have hcu : (m7 : Int) % 97 = (cu : Int) := hcu
  have HB := hid hb
  have HCB := hid hc0
  have HD8 : Hid (∀ v ∈ zd, v < 256) := hd.small
  have HDL : Hid (zd.length ≤ 64) := by show _ ≤ _; rw [hd.len]; exact h2
  have HID := hid hid2
  have hcd := hd.conv c2
  have HRF := hid (fun W => refFrame_good id zd W HID.out HD8.out HDL.out)
  have HZL : Hid ((FrM.fr id zd).length = 96) := FrM.fr_length HDL.out
  have HZ8 : Hid (∀ j, (FrM.fr id zd).getD j 0 < 256) := small_getD (FrM.fr_small HDL.out HD8.out)
  have HX := hid hx
  have HY := hid hy
  have HI96 := hid hi96
  have HK96 := hid hk96
  have HCU : Hid (cu ≤ 96) := by show _ ≤ _; omega
  have i1 : ¬ (200 : Int) < (l0 : Int) := by omega
  have i2 : ¬ (64 : Int) < (l2 : Int) := by omega
  have i3 : (0 : Int) ≤ (i : Int) := by omega
  have i4 : (i : Int) < 96 := by omega
  have i5 : (0 : Int) ≤ (k : Int) := by omega
  have i6 : (k : Int) < 96 := by omega
  have i7 : (0 : Int) ≤ (cu : Int) := by omega
  have i8 : (cu : Int) ≤ 96 := by omega
  have HZA : Hid (SlN w a2 l2 zd) := hd
  generalize FrM.fr id zd = zf at HRF HZL HZ8
  have hsz : (strOf zf).size = 96 := by rw [strOf_size, HZL.out]
  have HCV : Hid (∀ W, (convert 9 37 (.string (strOf zf))).run Try.prog W = .ok (.slice (some ⟨W.heap.size, 0, none⟩) 96 (grownCap W 96 0 5)) (Lib.bytesWorld W 5 (strOf zf))) := fun W => by
    have := Lib.run_convert_string_bytes (P := Try.prog) W 9 37 5 (strOf zf) Try.underlying9 Try.underlying37 Try.underlying5
    rwa [hsz] at this
  have HNW := hid (fun W => FrL.Wr.new W zf HZ8.out)
  have HUW := hid (fun W => FrL.bw_up W (strOf zf))
  obtain ⟨sd, SD⟩ : ∃ s, Hid (strOf zd = s) := ⟨_, rfl⟩
  rw [SD.out] at hcd HRF
  generalize strOf zf = sf at HRF HCV HNW HUW
  clear hb hc0 hd hid2 hx hy hi96 hk96 hcu97 h0 h2 hsz
  go_enter Try.func6, Try.ntmps6
  go_wp2_with fail
  refine (HRF.out w).mono ?_
  rintro e w1 ⟨rfl, u1⟩
  have U1 := hid u1
  have hcv := HCV.out w1
  have HW1 := hid (HNW.out w1)
  have U2 := hid (U1.out.trans (HUW.out w1))
  have HGC : Hid (96 ≤ grownCap w1 96 0 5) := grownCap_ge w1 96 0 _
  generalize grownCap w1 96 0 5 = gc at hcv HGC
  obtain ⟨q, Q⟩ : ∃ q, Hid (w1.heap.size = q) := ⟨_, rfl⟩
  have HQ : Hid (w.heap.size ≤ q) := by show _ ≤ _; rw [← Q.out]; exact U1.out.size
  rw [Q.out] at hcv HW1
  generalize Lib.bytesWorld w1 5 sf = w2 at hcv HW1 U2
  have v1 := HW1.out.cell i (by rw [HZL.out]; exact HI96.out)
  have f1 := HW1.out.froz i (by rw [HZL.out]; exact HI96.out)
  have x1 := u8_xor_nat (zf.getD i 0) x (HZ8.out i) HX.out
  have HV1 : Hid (zf.getD i 0 ^^^ x < 256) := FrL.xor_small (HZ8.out i) HX.out
  have HW2 := hid (HW1.out.set i _ (by rw [HZL.out]; exact HI96.out) HV1.out)
  generalize zf.getD i 0 ^^^ x = b1 at x1 HV1 HW2
  generalize zf.getD i 0 = e1 at v1 x1
  have HL2 : Hid ((zf.set i b1).length = 96) := by show _ = _; rw [List.length_set, HZL.out]
  generalize zf.set i b1 = zg at HW2 HL2
  have v2 := HW2.out.cell k (by rw [HL2.out]; exact HK96.out)
  have f2 := HW2.out.froz k (by rw [HL2.out]; exact HK96.out)
  have hg8 := HW2.out.row.small k
  have x2 := u8_xor_nat (zg.getD k 0) y hg8 HY.out
  have HV2 : Hid (zg.getD k 0 ^^^ y < 256) := FrL.xor_small hg8 HY.out
  have HW3 := hid (HW2.out.set k _ (by rw [HL2.out]; exact HK96.out) HV2.out)
  generalize zg.getD k 0 ^^^ y = b2 at x2 HV2 HW3
  generalize zg.getD k 0 = e2 at v2 x2
  have HL3 : Hid ((zg.set k b2).length = 96) := by show _ = _; rw [List.length_set, HL2.out]
  generalize zg.set k b2 = zh at HW3 HL3
  have U3 : Hid (Up Nul w ((w2.setCell ⟨q, i, none⟩ (.int .u8 (b1 : Nat))).setCell ⟨q, k, none⟩ (.int .u8 (b2 : Nat)))) := (U2.out.setCell (p := ⟨q, i, none⟩) (.inl HQ.out) _).setCell (p := ⟨q, k, none⟩) (.inl HQ.out) _
  clear hg8
  go_wp2_with fail
  generalize (w2.setCell ⟨q, i, none⟩ (.int .u8 (b1 : Nat))).setCell ⟨q, k, none⟩ (.int .u8 (b2 : Nat)) = w4 at HW3 U3 ⊢
  clear v1 f1 x1 v2 f2 x2 hcv hcd
  try rw [hi]
  try rw [hk]
  clear hi hk
  have HCC := hid (HW3.out.sln (n := 96) (by rw [HL3.out]; omega) (by omega))
  have HCT := hid (HW3.out.sln (n := cu) (by rw [HL3.out]; exact HCU.out) (by have := HCU.out; omega))
  have HBB := hid (HB.out.nxt U3.out)
  have hsl : ∀ W, (Instr.slice 37 (.slice (some ⟨q, 0, none⟩) 96 gc) none (some (.int .i64 cu)) none).run Try.prog W = .ok (.slice (some ⟨q, 0, none⟩) cu gc) W := fun W => run_upto (some ⟨q, 0, none⟩) 96 gc cu (Nat.le_trans HCU.out HGC.out) W
  have HU0 : Hid (Up Nul w4 w4) := Up.refl _ _
  go_loopw [20] (fun t wr => ∃ j : Nat, j ≤ 3 ∧ t = .int .i64 (j : Nat) ∧ Up Nul w4 wr) (fun t _ => 3 - (intOf t).toNat)
  case atStart => exact ⟨0, by omega, rfl, HU0.out⟩
  case round =>
    obtain ⟨j, hj, rfl, hu⟩ := hrel
    have HU := hid hu
    clear hu HU0
    by_cases hlt : j < 3
    · have j1 : (j : Int) < 3 := by omega
      have j0 : (0 : Int) ≤ (j : Int) := by omega
      go_upto_region 10 with fail
      go_cut [21] from 65 to 106 (fun v wx => ∃ A N C Z, v = .slice A N C ∧ SlN wx A N Z ∧ N ≤ C ∧ Up Nul w4 wx)
      case first =>
        rcases (by omega : j = 0 ∨ j = 1 ∨ j = 2) with rfl | rfl | rfl
        · go_wp2_with fail
          go_meet
          exact ⟨a0, l0, c0, zb, rfl, HBB.out.nxt (HU.out.alloc _), HCB.out, HU.out.alloc _⟩
        · go_wp2_with fail
          go_meet
          exact ⟨some ⟨q, 0, none⟩, 96, gc, _, rfl, HCC.out.nxt (HU.out.alloc _), HGC.out, HU.out.alloc _⟩
        · go_wp2_with fail
          go_meet
          exact ⟨some ⟨q, 0, none⟩, cu, gc, _, rfl, HCT.out.nxt (HU.out.alloc _), Nat.le_trans HCU.out HGC.out, HU.out.alloc _⟩
      obtain ⟨A, N, C, Z, rfl, hz, hcap, hu⟩ := hcut
      have HZ := hid hz
      have HU2 := hid hu
      clear hz hu HU hsl
      go_wp2_with fail
      refine (take_any A N C Z wc HZ.out hcap).mono ?_
      rintro e w5 (⟨a', c', ht, rfl, g⟩ | ⟨ht, rfl, u⟩)
      · have HT := hid ht
        have HZ5 := hid (HZ.out.nxt g.up)
        have HG := hid g.sl
        have HU5 := hid (HU2.out.trans g.up)
        clear ht g
        generalize Z.getD 1 0 = mz at HG ⊢
        have cz := HZ5.out.conv C
        have HR := hid (rtake_any Z w5 HZ5.out.small (by rw [HZ5.out.len]; exact HZ5.out.le))
        generalize strOf Z = sz at cz HR
        go_wp2_with fail
        refine HR.out.mono ?_
        rintro e w6 (⟨_, rfl, u⟩ | ⟨hn, _⟩)
        · have cg := (HG.out.nxt u).conv c'
          have HU6 := hid (HU5.out.trans u)
          have hqq : ((strOf (FrM.datOf Z)).toList == (strOf (FrM.datOf Z)).toList) = true := by simp
          generalize strOf (FrM.datOf Z) = sg at cg hqq ⊢
          generalize FrM.idOf Z = iz
          clear u cz
          go_wp2_with fail
          go_roundw
          case rel => exact ⟨j + 1, hlt, by go_num, HU6.out⟩
          case measure => simp [intOf]; omega
        · rw [HT.out] at hn
          cases hn
      · have HT := hid ht
        have HZ5 := hid (HZ.out.nxt u)
        have HU5 := hid (HU2.out.trans u)
        clear ht u
        have cz := HZ5.out.conv C
        have HR := hid (rtake_any Z w5 HZ5.out.small (by rw [HZ5.out.len]; exact HZ5.out.le))
        generalize strOf Z = sz at cz HR
        go_wp2_with fail
        refine HR.out.mono ?_
        rintro e w6 (⟨hn, _⟩ | ⟨_, rfl, u⟩)
        · rw [HT.out] at hn
          cases hn
        · have cg := conv_nil w6
          have HU6 := hid (HU5.out.trans u)
          have hqq : ((⟨#[]⟩ : ByteArray).toList == (⟨#[]⟩ : ByteArray).toList) = true := by simp
          clear u cz
          go_wp2_with fail
          go_roundw
          case rel =>
            exact ⟨j + 1, hlt, by go_num, HU6.out⟩
          case measure => simp [intOf]; omega
    · obtain rfl : j = 3 := by omega
      go_wp2_with fail
      refine (fawake_any _).mono ?_
      rintro e w5 ⟨rfl, k5⟩
      have H5 := hid ((U3.out.trans HU.out).trans k5)
      clear k5
      go_wp2
      go_ret
      exact ⟨rfl, H5.out.below (Nat.le_refl _) fun _ _ => fun h => h⟩
theorem takes_walk (a0 : Option Addr) (l0 c0 : Nat) (z0 : List Int) (a1 : Int) (a2 : Option Addr) (l2 c2 : Nat) (z2 : List Int) (a3 a4 a5 a6 a7 : Int) (w : World) (w0 : CameIn w a0 l0 c0 z0) (w2 : CameIn w a2 l2 c2 z2) (w4 : (Lit.int .u8 a4).wf = true) (w6 : (Lit.int .u8 a6).wf = true) :
    Calls Try.prog 6 #[.slice a0 l0 c0, .int .i64 a1, .slice a2 l2 c2, .int .i64 a3, .int .u8 a4, .int .i64 a5, .int .u8 a6, .int .i64 a7] w fun e w' => e = .returned (.bool true) ∧ Below w.heap.size w w' := by
  by_cases h : 200 < l0 ∨ 64 < l2
  · exact takes_long a0 l0 c0 a1 a2 l2 c2 a3 a4 a5 a6 a7 w h
  · have h4 := bounds_u8 w4
    have h6 := bounds_u8 w6
    obtain ⟨x, rfl⟩ : ∃ x : Nat, a4 = x := ⟨a4.toNat, by omega⟩
    obtain ⟨y, rfl⟩ : ∃ y : Nat, a6 = y := ⟨a6.toNat, by omega⟩
    obtain ⟨zb, hb⟩ := SlN.of w0
    obtain ⟨zd, hd⟩ := SlN.of w2
    exact takes_short a0 l0 c0 zb a1 a2 l2 c2 zd a3 x a5 y a7 w (by omega) (by omega) (came_cap w0) hb hd (by omega) (by omega)
end Go.Proofs.Ytmnkhdhohjceoaa
