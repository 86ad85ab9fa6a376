/- RecReads. -/
import Derived.Test.YtpdkcpjofofkoaaDoorPkTidy
import Derived.Test.YtpdkcpjofofkoaaDoorPr32
import Derived.Test.YtpdkcpjofofkoaaDoorPq23
import Derived.Test.YtpdkcpjofofkoaaDoorPr33
import Derived.Test.YtpdkcpjofofkoaaDoorPr34
import Derived.Test.YtpdkcpjofofkoaaDoorPr37
import Derived.Test.YtpdkcpjofofkoaaDoorPq13
import Derived.Test.YtpdkcpjofofkoaaDoorPr40
import Derived.Test.YtpdkcpjofofkoaaDoorPr39
import Derived.Test.YtpdkcpjofofkoaaDoorPq3
import Derived.Deep.MidRow
set_option maxRecDepth 100000
namespace Go.Proofs.YtpdkcpjofofkoaaDoor
open Go.RowKit
set_option linter.unusedVariables false

theorem reads_long (a0 : Option Addr) (l0 c0 : Nat) (a1 : Option Addr) (l1 c1 : Nat) (a2 a3 a4 : Int) (w : World) (hS : Shp w) (h : 300 < l0) :
  Calls Tryd.prog 5 #[.slice a0 l0 c0, .slice a1 l1 c1, .int .i64 a2, .int .u8 a3, .int .i64 a4] w fun e w' => e = .returned (.bool true) ∧ Up Nul w w' := by
 have i1 : (300 : Int) < (l0 : Int) := by omega
 have HS := hid hS
 clear h hS
 go_enter Tryd.func5, Tryd.ntmps5
 go_wp2_with fail
 refine (rawake_any _ HS.out).mono ?_
 rintro e w2 ⟨rfl, u2⟩
 go_wp2
 go_ret
 exact ⟨rfl, u2⟩
set_option maxHeartbeats 8000000 in
theorem reads_any (a0 : Option Addr) (l0 c0 : Nat) (zb : List Nat) (a1 : Option Addr) (l1 c1 : Nat) (z1 : List Int) (a2 : Int) (x : Nat) (a4 : Int) (w : World) (hS : Shp w) (h0 : l0 ≤ 300) (hc0 : l0 ≤ c0) (hb : SlN w a0 l0 zb) (h1 : CameI w a1 l1 c1 z1) (hx : x < 256) :
  Calls Tryd.prog 5 #[.slice a0 l0 c0, .slice a1 l1 c1, .int .i64 a2, .int .u8 (x : Nat), .int .i64 a4] w fun e w' => e = .returned (.bool true) ∧ Up Nul w w' := by
 obtain ⟨m2, hm2, b2⟩ := RcL.mask16 a2
 obtain ⟨m4, hm4, b4⟩ := RcL.mask16 a4
 have HB4 := hid b4
 have HB2 := hid b2
 have HM2 := hid hm2
 have HM4 := hid hm4
 have HS := hid hS
 have HB := hid hb
 have HCB := hid hc0
 have H1 := hid h1
 have HX := hid hx
 have i1 : ¬ (300 : Int) < (l0 : Int) := by omega
 have HL0 := hid h0
 clear hS h0 hc0 hb h1 hx b2 b4 hm2 hm4
 go_enter Tryd.func5, Tryd.ntmps5
 go_wp2_with fail
 refine (rec_any _ a1 l1 c1 z1 H1.out).mono ?_
 rintro e w1 ⟨q, sa, sc, la, lc, rfl, F, R, u1⟩
 have HF := hid F
 have HR := hid R
 have U1 := hid u1
 clear F R u1
 go_wp2_with fail
 refine (rby_any q sa la sc lc _ HR.out HF.out).mono ?_
 rintro e w2 ⟨rfl, u2⟩
 have U2 := hid (U1.out.trans u2)
 have HN0 : Hid (1 ≤ (encR q).length ∧ (encR q).length ≤ 250) := ⟨by unfold encR; simp, HF.out.len⟩
 have HQ8 : Hid (∀ v ∈ encR q, v < 256) := HF.out.small
 clear u2 U1 HR
 generalize encR q = zq at HN0 HQ8 ⊢
 obtain ⟨n, hn⟩ : ∃ n, n = zq.length := ⟨_, rfl⟩
 have HZL := hid hn
 have HN : Hid (1 ≤ n ∧ n ≤ 250) := by show _ ∧ _; rw [hn]; exact HN0.out
 have HG8 : Hid (∀ i, zq.getD i 0 < 256) := fun i => by
  rw [List.getD_eq_getElem?_getD]
  cases e : zq[i]? with
  | none => decide
  | some v => exact HQ8.out v (List.mem_of_getElem? e)
 have HSQ : Hid ((strOf zq).size = n) := by show _ = _; rw [strOf_size, hn]
 have HCV : Hid (∀ W, (convert 9 32 (.string (strOf zq))).run Tryd.prog W = .ok (.slice (some ⟨W.heap.size, 0, none⟩) n (grownCap W n 0 5)) (Lib.bytesWorld W 5 (strOf zq))) := fun W => by
  have := Lib.run_convert_string_bytes (P := Tryd.prog) W 9 32 5 (strOf zq) Tryd.underlying9 Tryd.underlying32 Tryd.underlying5
  rwa [HSQ.out] at this
 have HNW := hid (fun W => hn ▸ Cv.new W zq HG8.out)
 have HUW := hid (fun W => bw_up W (strOf zq))
 generalize strOf zq = sq at HSQ HCV HNW HUW ⊢
 clear HN0 hn
 have hcv := HCV.out w2
 have hsz := HSQ.out
 obtain ⟨k, hk, hkn⟩ : ∃ k : Nat, (m2 : Int) % (n : Int) = (k : Int) ∧ k < n := ⟨m2 % n, by rw [Int.natCast_emod], Nat.mod_lt _ HN.out.1⟩
 have HKN := hid hkn
 have k0 : (0 : Int) ≤ (k : Int) := by omega
 have k1 : (k : Int) < (n : Int) := by omega
 have n0 : ¬ (n : Int) = 0 := by have := HN.out.1; omega
 have HC1 := hid (HNW.out w2)
 have HU3 := hid (U2.out.trans (HUW.out w2))
 have HGC : Hid (n ≤ grownCap w2 n 0 5) := grownCap_ge w2 n 0 _
 generalize grownCap w2 n 0 5 = gc at hcv HC1 HGC
 obtain ⟨p, hp⟩ : ∃ p, p = w2.heap.size := ⟨_, rfl⟩
 have HP : Hid (w.heap.size ≤ p) := by show _ ≤ _; rw [hp]; exact U2.out.size
 rw [← hp] at hcv HC1
 generalize Lib.bytesWorld w2 5 sq = w3 at hcv HC1 HU3
 obtain ⟨v1, f1⟩ := HC1.out.cell k (by rw [← HZL.out]; exact hkn)
 have HC2 := hid (HC1.out.set k x (by rw [← HZL.out]; exact hkn) HX.out)
 have HU4 : Hid (Up Nul w (w3.setCell ⟨p, k, none⟩ (.int .u8 (x : Nat)))) := HU3.out.setCell (p := ⟨p, k, none⟩) (.inl HP.out) _
 clear hp hkn U2
 have hm2 := HM2.out
 go_upto_region 6 with fail
 try rw [hk]
 clear hk hm2 hcv hsz v1 f1 HC1 HU3
 obtain ⟨w4, hw4⟩ : ∃ W, W = w3.setCell ⟨p, k, none⟩ (.int .u8 (x : Nat)) := ⟨_, rfl⟩
 rw [← hw4] at HC2 HU4 ⊢
 clear hw4
 obtain ⟨zc, hzc⟩ : ∃ z, z = zq.set k x := ⟨_, rfl⟩
 have HZC : Hid (zc.length = n) := by show _ = _; rw [hzc, List.length_set, HZL.out]
 rw [← hzc] at HC2
 clear hzc k0 k1
 obtain ⟨cu, hcu, hcun⟩ : ∃ c : Nat, (m4 : Int) % ((n : Int) + 1) = (c : Int) ∧ c ≤ n := ⟨m4 % (n + 1), by rw [Int.natCast_emod, Int.natCast_add]; rfl, by have := Nat.mod_lt m4 (show 0 < n + 1 by omega); omega⟩
 have HCN := hid hcun
 have HE48 : Hid (IntKind.i64.wrap ((n : Int) + 1) = (n : Int) + 1) := by
  show _ = _
  have := HN.out
  rw [IntKind.wrap_i64]
  omega
 have HE49 : Hid ((m4 : Int).tmod ((n : Int) + 1) = (cu : Int)) := by
  show _ = _
  rw [Int.tmod_eq_emod_of_nonneg (by omega)]
  exact hcu
 have HE0 : Hid (¬ (n : Int) + 1 = 0) := by show ¬ _; omega
 clear hcu hcun n0
 have HB4' := hid (HB.out.nxt HU4.out)
 go_wp2_with fail
 go_loopw [13] (fun i wr => ∃ t : Nat, t ≤ 4 ∧ i = .int .i64 (t : Nat) ∧ Hid (Up Nul w4 wr)) (fun i _ => 4 - (intOf i).toNat)
 case atStart => exact ⟨0, by omega, rfl, Up.refl _ _⟩
 case round =>
  obtain ⟨t, ht, rfl, HU⟩ := hrel
  have t0 : (0 : Int) ≤ (t : Int) := by omega
  by_cases hlt : t < 4
  ·have t1 : (t : Int) < 4 := by omega
   have HT4 := hid hlt
   clear hlt ht
   go_upto_region 9 with fail
   go_cut [14] from 40 to 60 (fun v wx => ∃ A N C Z, v = .slice A N C ∧ Hid (SlN wx A N Z) ∧ Hid (N ≤ C) ∧ Hid (N ≤ 1000) ∧ Hid (Up Nul w4 wx))
   case first =>
    refine wp_region_held_drew (S := (fun _ => True)) (by kernel_rfl) (by exact trivial) (fun hHeld => ?_)
    have HU := hid (HU.out.trans (Up.refl Nul wr).drew)
    have cx0 : (0 : Int) ≤ (cu : Int) := by omega
    have cx1 : (cu : Int) ≤ (n : Int) := by have := HCN.out; omega
    generalize wr.drew = wc at HU ⊢
    refine tkl 0 (some 40) ?vg1 rfl ?yg1 ?rg1
    case yg1 => (intro w hSw; (try dsimp only at hSw); go_simp; try with_reducible rfl)
    try simp only [tdy]
    refine tkl 1 (some 41) ?vg2 rfl ?yg2 ?rg2
    case yg2 => (intro w hSw; (try dsimp only at hSw); go_simp; try with_reducible rfl)
    try simp only [tdy]
    refine tkl 2 (some 42) ?vg3 rfl ?yg3 ?rg3
    case yg3 => (intro w hSw; (try dsimp only at hSw); go_simp; try with_reducible rfl)
    try simp only [tdy]
    refine tkl 4 (some 44) ?vg4 rfl ?yg4 ?rg4
    case yg4 => (intro w hSw; (try dsimp only at hSw); go_simp; try with_reducible rfl)
    try simp only [tdy]
    refine tkl 5 (some 45) ?vg5 rfl ?yg5 ?rg5
    case yg5 => (intro w hSw; (try dsimp only at hSw); have hm4 := HM4.out; go_simp; try with_reducible rfl)
    try simp only [tdy]
    refine tkl 6 (some 46) ?vg6 rfl ?yg6 ?rg6
    case yg6 => (intro w hSw; (try dsimp only at hSw); go_simp; try with_reducible rfl)
    try simp only [tdy]
    refine tkl 7 (some 47) ?vg7 rfl ?yg7 ?rg7
    case yg7 => (intro w hSw; (try dsimp only at hSw); have hsz := HSQ.out; go_simp; try with_reducible rfl)
    try simp only [tdy]
    refine tkl 8 (some 48) ?vg8 rfl ?yg8 ?rg8
    case yg8 => (intro w hSw; (try dsimp only at hSw); have e48 := HE48.out; go_simp; try with_reducible rfl)
    try simp only [tdy]
    refine tkl 9 (some 49) ?vg9 rfl ?yg9 ?rg9
    case yg9 => (intro w hSw; (try dsimp only at hSw); have e48 := HE48.out; have e49 := HE49.out; have e0 := HE0.out; go_simp; try with_reducible rfl)
    try simp only [tdy]
    refine tkl 11 (some 51) ?vg10 rfl ?yg10 ?rg10
    case yg10 => (intro w hSw; (try dsimp only at hSw); go_simp; try with_reducible rfl)
    try simp only [tdy]
    refine tkl 13 (some 53) ?vg11 rfl ?yg11 ?rg11
    case yg11 => (intro w hSw; (try dsimp only at hSw); go_simp; try with_reducible rfl)
    try simp only [tdy]
    refine tkl 17 (some 57) ?vg12 rfl ?yg12 ?rg12
    case yg12 => (intro w hSw; (try dsimp only at hSw); go_simp; try with_reducible rfl)
    try simp only [tdy]
    refine wpAnyH_ready (rs := [3, 12, 14]) (by kernel_rfl) (by simp) ?_
    refine (AllReadyH.cons (o := ⟨some 43, _, _, _, _, _⟩) rfl (fun K hK => ?_) (AllReadyH.cons (o := ⟨some 52, _, _, _, _, _⟩) rfl (fun K hK => ?_) (AllReadyH.cons (o := ⟨some 54, _, _, _, _, _⟩) rfl (fun K hK => ?_) AllReadyH.nil)))
    ·skip
     have hcv := HCV.out wc
     go_simp
     have u0 := HUW.out wc
     have n0 := HNW.out wc
     have ge : n ≤ grownCap wc n 0 5 := grownCap_ge wc n 0 _
     obtain ⟨q1, hq⟩ : ∃ q, q = wc.heap.size := ⟨_, rfl⟩
     try have HN12 : Hid (q1 ≠ q2) := by have := HD.out.lt; show _ ≠ _; omega
     have HQ1 : Hid (w4.heap.size ≤ q1) := by show _ ≤ _; rw [hq]; exact HU.out.size
     rw [← hq] at n0 ⊢
     generalize grownCap wc n 0 5 = g1 at n0 ge ⊢
     generalize Lib.bytesWorld wc 5 sq = wd at u0 n0 ⊢
     have HU := hid (HU.out.trans u0)
     try have HA := hid (HA.out.up u0 id)
     try have HD := hid (HD.out.up u0 id)
     try have HT := hid (And.intro (Nat.lt_of_lt_of_le HT.out.1 u0.size) ((u0.cell (p := ⟨q4, 0, none⟩) HT.out.1 id).trans HT.out.2))
     try have HE := hid (HE.out.nxt u0)
     have HA := hid n0
     have hsl : ∀ W, (Instr.slice 32 (.slice (some ⟨q1, 0, none⟩) n g1) none (some (.int .i64 cu)) none).run Tryd.prog W = .ok (.slice (some ⟨q1, 0, none⟩) cu g1) W := fun W => run_upto (some ⟨q1, 0, none⟩) n g1 cu (Nat.le_trans HCN.out ge) W
     have HGA := hid ge
     clear hcv u0 n0 hq ge
     obtain ⟨wc, rfl⟩ : ∃ W, W = wd := ⟨_, rfl⟩
     refine hK.out _ _ ?kg13x (fun hHeld => ?_)
     case kg13x => exact trivial
     clear hK K
     try simp only [tdy]
     refine tkl 10 (some 50) ?vg14 rfl ?yg14 ?rg14
     case yg14 => (intro w hSw; (try dsimp only at hSw); go_simp; try with_reducible rfl)
     try simp only [tdy]
     refine wpAnyH_ready (rs := [12, 14]) (by kernel_rfl) (by simp) ?_
     refine (AllReadyH.cons (o := ⟨some 52, _, _, _, _, _⟩) rfl (fun K hK => ?_) (AllReadyH.cons (o := ⟨some 54, _, _, _, _, _⟩) rfl (fun K hK => ?_) AllReadyH.nil))
     ·skip
      have hcv := HCV.out wc
      go_simp
      have u0 := HUW.out wc
      have n0 := HNW.out wc
      have ge : n ≤ grownCap wc n 0 5 := grownCap_ge wc n 0 _
      obtain ⟨q2, hq⟩ : ∃ q, q = wc.heap.size := ⟨_, rfl⟩
      try have HN12 : Hid (q1 ≠ q2) := by have := HA.out.lt; show _ ≠ _; omega
      have HQ2 : Hid (w4.heap.size ≤ q2) := by show _ ≤ _; rw [hq]; exact HU.out.size
      rw [← hq] at n0 ⊢
      generalize grownCap wc n 0 5 = g2 at n0 ge ⊢
      generalize Lib.bytesWorld wc 5 sq = wd at u0 n0 ⊢
      have HU := hid (HU.out.trans u0)
      try have HA := hid (HA.out.up u0 id)
      try have HD := hid (HD.out.up u0 id)
      try have HT := hid (And.intro (Nat.lt_of_lt_of_le HT.out.1 u0.size) ((u0.cell (p := ⟨q4, 0, none⟩) HT.out.1 id).trans HT.out.2))
      try have HE := hid (HE.out.nxt u0)
      have HD := hid n0
      have HGD := hid ge
      clear hcv u0 n0 hq ge
      obtain ⟨wc, rfl⟩ : ∃ W, W = wd := ⟨_, rfl⟩
      refine hK.out _ _ ?kg15x (fun hHeld => ?_)
      case kg15x => exact trivial
      clear hK K
      try simp only [tdy]
      refine one 14 (some 54) rfl (fun K hK => ?_)
      go_simp
      have u0 := (Up.refl Nul wc).alloc (.cells #[.int .u8 (x : Nat)] 5)
      have n0 : wc.heap.size < (wc.alloc (.cells #[.int .u8 (x : Nat)] 5)).heap.size ∧ (wc.alloc (.cells #[.int .u8 (x : Nat)] 5)).cell? ⟨wc.heap.size, 0, none⟩ = some (.int .u8 (x : Nat)) := ⟨by simp, World.cell?_alloc_new _ _ _ 0⟩
      generalize wc.heap.size = q4 at n0 ⊢
      generalize wc.alloc (.cells #[.int .u8 (x : Nat)] 5) = wd at u0 n0 ⊢
      have HU := hid (HU.out.trans u0)
      try have HA := hid (HA.out.up u0 id)
      try have HD := hid (HD.out.up u0 id)
      try have HT := hid (And.intro (Nat.lt_of_lt_of_le HT.out.1 u0.size) ((u0.cell (p := ⟨q4, 0, none⟩) HT.out.1 id).trans HT.out.2))
      try have HE := hid (HE.out.nxt u0)
      have HT := hid n0
      clear u0 n0
      obtain ⟨wc, rfl⟩ : ∃ W, W = wd := ⟨_, rfl⟩
      refine hK.out _ _ ?kg16x (fun hHeld => ?_)
      case kg16x => exact trivial
      clear hK K
      try simp only [tdy]
      obtain ⟨ge, ce, wd, hrun, hce, hE, u0⟩ := HD.out.app 32 x HX.out ⟨q4, 0, none⟩ 1 HT.out.2 (by have := HN.out; have := HZL.out; omega)
      rw [← HZL.out] at hrun hce hE
      refine one 15 (some 55) rfl (fun K hK => ?_)
      refine wp_append_eqv (.tmp 52) (.tmp 54) 32 rfl (.slice (some ⟨q2, 0, none⟩) n g2) (.slice (some ⟨q4, 0, none⟩) 1 1) (.slice (some ⟨ge, 0, none⟩) (n + 1) ce) rfl rfl hrun ?_
      have HU := hid (HU.out.newest u0 (fun i hi e => by have e : i = q2 := e; have := HQ2.out; omega))
      try have HA := hid (HA.out.up u0 (fun e => HN12.out e))
      have HE := hid hE
      have HCE := hid hce
      clear hrun hce hE u0
      obtain ⟨wc, rfl⟩ : ∃ W, W = wd := ⟨_, rfl⟩
      refine hK.out _ _ ?kg17x (fun hHeld => ?_)
      case kg17x => exact trivial
      clear hK K
      try simp only [tdy]
      refine one 16 (some 56) rfl (fun K hK => ?_)
      go_simp
      have u0 := (Up.refl Nul wc).alloc (.cells #[.slice a0 l0 c0, .slice (some ⟨p, 0, none⟩) n gc, .slice (some ⟨q1, 0, none⟩) cu g1, .slice (some ⟨ge, 0, none⟩) (n + 1) ce] 32)
      have HU := hid (HU.out.trans u0)
      try have HA := hid (HA.out.up u0 id)
      try have HD := hid (HD.out.up u0 id)
      try have HT := hid (And.intro (Nat.lt_of_lt_of_le HT.out.1 u0.size) ((u0.cell (p := ⟨q4, 0, none⟩) HT.out.1 id).trans HT.out.2))
      try have HE := hid (HE.out.nxt u0)
      obtain ⟨A, N, C, Z, hcl, hz, hnc, hn1⟩ : ∃ A N C Z, (wc.alloc (.cells #[.slice a0 l0 c0, .slice (some ⟨p, 0, none⟩) n gc, .slice (some ⟨q1, 0, none⟩) cu g1, .slice (some ⟨ge, 0, none⟩) (n + 1) ce] 32)).cell? ⟨wc.heap.size, t, none⟩ = some (.slice A N C) ∧ SlN (wc.alloc (.cells #[.slice a0 l0 c0, .slice (some ⟨p, 0, none⟩) n gc, .slice (some ⟨q1, 0, none⟩) cu g1, .slice (some ⟨ge, 0, none⟩) (n + 1) ce] 32)) A N Z ∧ N ≤ C ∧ N ≤ 1000 := by
       have hn := HN.out
       have ht := HT4.out
       have hlc := HZC.out
       have hlq := HZL.out
       rcases (by omega : t = 0 ∨ t = 1 ∨ t = 2 ∨ t = 3) with e | e | e | e <;> rw [e]
       ·exact ⟨a0, l0, c0, zb, World.cell?_alloc_new _ _ _ 0, HB4'.out.nxt HU.out, HCB.out, by have := HL0.out; omega⟩
       ·exact ⟨some ⟨p, 0, none⟩, n, gc, _, World.cell?_alloc_new _ _ _ 1, (HC2.out.up HU.out id).sln n (by omega) (by omega), HGC.out, by omega⟩
       ·exact ⟨some ⟨q1, 0, none⟩, cu, g1, _, World.cell?_alloc_new _ _ _ 2, HA.out.sln cu (by have := HCN.out; omega) (by have := HCN.out; omega), Nat.le_trans HCN.out HGA.out, by have := HCN.out; omega⟩
       ·exact ⟨some ⟨ge, 0, none⟩, n + 1, ce, _, World.cell?_alloc_new _ _ _ 3, HE.out, HCE.out, by omega⟩
      have HZZ := hid hz
      have HNC := hid hnc
      have HN1 := hid hn1
      generalize wc.heap.size = q6 at hcl ⊢
      generalize wc.alloc (.cells #[.slice a0 l0 c0, .slice (some ⟨p, 0, none⟩) n gc, .slice (some ⟨q1, 0, none⟩) cu g1, .slice (some ⟨ge, 0, none⟩) (n + 1) ce] 32) = wd at hcl HU HZZ ⊢
      clear hz hnc hn1 u0
      obtain ⟨wc, rfl⟩ : ∃ W, W = wd := ⟨_, rfl⟩
      refine hK.out _ _ ?kg18x (fun hHeld => ?_)
      case kg18x => exact trivial
      clear hK K
      try simp only [tdy]
      refine tkl 18 (some 58) ?vg19 rfl ?yg19 ?rg19
      case yg19 => (intro w hSw; (try dsimp only at hSw); go_simp; try with_reducible rfl)
      try simp only [tdy]
      refine one 19 (some 59) rfl (fun K hK => ?_)
      go_simp
      refine hK.out _ _ ?kg20x (fun hHeld => ?_)
      case kg20x => exact trivial
      clear hK K
      try simp only [tdy]
      refine tkl 20 (some 14) ?vg21 rfl ?yg21 ?rg21
      case yg21 => (intro w hSw; (try dsimp only at hSw); go_simp; try with_reducible rfl)
      try simp only [tdy]
      refine wpAnyH_done (by kernel_rfl) ?_ _
      go_wp2_with fail
      go_meet
      exact ⟨A, N, C, Z, rfl, HZZ, HNC, HN1, HU⟩
     ·skip
      go_simp
      have u0 := (Up.refl Nul wc).alloc (.cells #[.int .u8 (x : Nat)] 5)
      have n0 : wc.heap.size < (wc.alloc (.cells #[.int .u8 (x : Nat)] 5)).heap.size ∧ (wc.alloc (.cells #[.int .u8 (x : Nat)] 5)).cell? ⟨wc.heap.size, 0, none⟩ = some (.int .u8 (x : Nat)) := ⟨by simp, World.cell?_alloc_new _ _ _ 0⟩
      generalize wc.heap.size = q4 at n0 ⊢
      generalize wc.alloc (.cells #[.int .u8 (x : Nat)] 5) = wd at u0 n0 ⊢
      have HU := hid (HU.out.trans u0)
      try have HA := hid (HA.out.up u0 id)
      try have HD := hid (HD.out.up u0 id)
      try have HT := hid (And.intro (Nat.lt_of_lt_of_le HT.out.1 u0.size) ((u0.cell (p := ⟨q4, 0, none⟩) HT.out.1 id).trans HT.out.2))
      try have HE := hid (HE.out.nxt u0)
      have HT := hid n0
      clear u0 n0
      obtain ⟨wc, rfl⟩ : ∃ W, W = wd := ⟨_, rfl⟩
      refine hK.out _ _ ?kg15y (fun hHeld => ?_)
      case kg15y => exact trivial
      clear hK K
      try simp only [tdy]
      have hcv := HCV.out wc
      refine one 12 (some 52) rfl (fun K hK => ?_)
      go_simp
      have u0 := HUW.out wc
      have n0 := HNW.out wc
      have ge : n ≤ grownCap wc n 0 5 := grownCap_ge wc n 0 _
      obtain ⟨q2, hq⟩ : ∃ q, q = wc.heap.size := ⟨_, rfl⟩
      try have HN12 : Hid (q1 ≠ q2) := by have := HA.out.lt; show _ ≠ _; omega
      have HQ2 : Hid (w4.heap.size ≤ q2) := by show _ ≤ _; rw [hq]; exact HU.out.size
      rw [← hq] at n0 ⊢
      generalize grownCap wc n 0 5 = g2 at n0 ge ⊢
      generalize Lib.bytesWorld wc 5 sq = wd at u0 n0 ⊢
      have HU := hid (HU.out.trans u0)
      try have HA := hid (HA.out.up u0 id)
      try have HD := hid (HD.out.up u0 id)
      try have HT := hid (And.intro (Nat.lt_of_lt_of_le HT.out.1 u0.size) ((u0.cell (p := ⟨q4, 0, none⟩) HT.out.1 id).trans HT.out.2))
      try have HE := hid (HE.out.nxt u0)
      have HD := hid n0
      have HGD := hid ge
      clear hcv u0 n0 hq ge
      obtain ⟨wc, rfl⟩ : ∃ W, W = wd := ⟨_, rfl⟩
      refine hK.out _ _ ?kg22x (fun hHeld => ?_)
      case kg22x => exact trivial
      clear hK K
      try simp only [tdy]
      obtain ⟨ge, ce, wd, hrun, hce, hE, u0⟩ := HD.out.app 32 x HX.out ⟨q4, 0, none⟩ 1 HT.out.2 (by have := HN.out; have := HZL.out; omega)
      rw [← HZL.out] at hrun hce hE
      refine one 15 (some 55) rfl (fun K hK => ?_)
      refine wp_append_eqv (.tmp 52) (.tmp 54) 32 rfl (.slice (some ⟨q2, 0, none⟩) n g2) (.slice (some ⟨q4, 0, none⟩) 1 1) (.slice (some ⟨ge, 0, none⟩) (n + 1) ce) rfl rfl hrun ?_
      have HU := hid (HU.out.newest u0 (fun i hi e => by have e : i = q2 := e; have := HQ2.out; omega))
      try have HA := hid (HA.out.up u0 (fun e => HN12.out e))
      have HE := hid hE
      have HCE := hid hce
      clear hrun hce hE u0
      obtain ⟨wc, rfl⟩ : ∃ W, W = wd := ⟨_, rfl⟩
      refine hK.out _ _ ?kg23x (fun hHeld => ?_)
      case kg23x => exact trivial
      clear hK K
      try simp only [tdy]
      refine one 16 (some 56) rfl (fun K hK => ?_)
      go_simp
      have u0 := (Up.refl Nul wc).alloc (.cells #[.slice a0 l0 c0, .slice (some ⟨p, 0, none⟩) n gc, .slice (some ⟨q1, 0, none⟩) cu g1, .slice (some ⟨ge, 0, none⟩) (n + 1) ce] 32)
      have HU := hid (HU.out.trans u0)
      try have HA := hid (HA.out.up u0 id)
      try have HD := hid (HD.out.up u0 id)
      try have HT := hid (And.intro (Nat.lt_of_lt_of_le HT.out.1 u0.size) ((u0.cell (p := ⟨q4, 0, none⟩) HT.out.1 id).trans HT.out.2))
      try have HE := hid (HE.out.nxt u0)
      obtain ⟨A, N, C, Z, hcl, hz, hnc, hn1⟩ : ∃ A N C Z, (wc.alloc (.cells #[.slice a0 l0 c0, .slice (some ⟨p, 0, none⟩) n gc, .slice (some ⟨q1, 0, none⟩) cu g1, .slice (some ⟨ge, 0, none⟩) (n + 1) ce] 32)).cell? ⟨wc.heap.size, t, none⟩ = some (.slice A N C) ∧ SlN (wc.alloc (.cells #[.slice a0 l0 c0, .slice (some ⟨p, 0, none⟩) n gc, .slice (some ⟨q1, 0, none⟩) cu g1, .slice (some ⟨ge, 0, none⟩) (n + 1) ce] 32)) A N Z ∧ N ≤ C ∧ N ≤ 1000 := by
       have hn := HN.out
       have ht := HT4.out
       have hlc := HZC.out
       have hlq := HZL.out
       rcases (by omega : t = 0 ∨ t = 1 ∨ t = 2 ∨ t = 3) with e | e | e | e <;> rw [e]
       ·exact ⟨a0, l0, c0, zb, World.cell?_alloc_new _ _ _ 0, HB4'.out.nxt HU.out, HCB.out, by have := HL0.out; omega⟩
       ·exact ⟨some ⟨p, 0, none⟩, n, gc, _, World.cell?_alloc_new _ _ _ 1, (HC2.out.up HU.out id).sln n (by omega) (by omega), HGC.out, by omega⟩
       ·exact ⟨some ⟨q1, 0, none⟩, cu, g1, _, World.cell?_alloc_new _ _ _ 2, HA.out.sln cu (by have := HCN.out; omega) (by have := HCN.out; omega), Nat.le_trans HCN.out HGA.out, by have := HCN.out; omega⟩
       ·exact ⟨some ⟨ge, 0, none⟩, n + 1, ce, _, World.cell?_alloc_new _ _ _ 3, HE.out, HCE.out, by omega⟩
      have HZZ := hid hz
      have HNC := hid hnc
      have HN1 := hid hn1
      generalize wc.heap.size = q6 at hcl ⊢
      generalize wc.alloc (.cells #[.slice a0 l0 c0, .slice (some ⟨p, 0, none⟩) n gc, .slice (some ⟨q1, 0, none⟩) cu g1, .slice (some ⟨ge, 0, none⟩) (n + 1) ce] 32) = wd at hcl HU HZZ ⊢
      clear hz hnc hn1 u0
      obtain ⟨wc, rfl⟩ : ∃ W, W = wd := ⟨_, rfl⟩
      refine hK.out _ _ ?kg24x (fun hHeld => ?_)
      case kg24x => exact trivial
      clear hK K
      try simp only [tdy]
      refine tkl 18 (some 58) ?vg25 rfl ?yg25 ?rg25
      case yg25 => (intro w hSw; (try dsimp only at hSw); go_simp; try with_reducible rfl)
      try simp only [tdy]
      refine one 19 (some 59) rfl (fun K hK => ?_)
      go_simp
      refine hK.out _ _ ?kg26x (fun hHeld => ?_)
      case kg26x => exact trivial
      clear hK K
      try simp only [tdy]
      refine tkl 20 (some 14) ?vg27 rfl ?yg27 ?rg27
      case yg27 => (intro w hSw; (try dsimp only at hSw); go_simp; try with_reducible rfl)
      try simp only [tdy]
      refine wpAnyH_done (by kernel_rfl) ?_ _
      go_wp2_with fail
      go_meet
      exact ⟨A, N, C, Z, rfl, HZZ, HNC, HN1, HU⟩
    ·skip
     have hcv := HCV.out wc
     go_simp
     have u0 := HUW.out wc
     have n0 := HNW.out wc
     have ge : n ≤ grownCap wc n 0 5 := grownCap_ge wc n 0 _
     obtain ⟨q2, hq⟩ : ∃ q, q = wc.heap.size := ⟨_, rfl⟩
     try have HN12 : Hid (q1 ≠ q2) := by have := HA.out.lt; show _ ≠ _; omega
     have HQ2 : Hid (w4.heap.size ≤ q2) := by show _ ≤ _; rw [hq]; exact HU.out.size
     rw [← hq] at n0 ⊢
     generalize grownCap wc n 0 5 = g2 at n0 ge ⊢
     generalize Lib.bytesWorld wc 5 sq = wd at u0 n0 ⊢
     have HU := hid (HU.out.trans u0)
     try have HA := hid (HA.out.up u0 id)
     try have HD := hid (HD.out.up u0 id)
     try have HT := hid (And.intro (Nat.lt_of_lt_of_le HT.out.1 u0.size) ((u0.cell (p := ⟨q4, 0, none⟩) HT.out.1 id).trans HT.out.2))
     try have HE := hid (HE.out.nxt u0)
     have HD := hid n0
     have HGD := hid ge
     clear hcv u0 n0 hq ge
     obtain ⟨wc, rfl⟩ : ∃ W, W = wd := ⟨_, rfl⟩
     refine hK.out _ _ ?kg13y (fun hHeld => ?_)
     case kg13y => exact trivial
     clear hK K
     try simp only [tdy]
     refine wpAnyH_ready (rs := [3, 14]) (by kernel_rfl) (by simp) ?_
     refine (AllReadyH.cons (o := ⟨some 43, _, _, _, _, _⟩) rfl (fun K hK => ?_) (AllReadyH.cons (o := ⟨some 54, _, _, _, _, _⟩) rfl (fun K hK => ?_) AllReadyH.nil))
     ·skip
      have hcv := HCV.out wc
      go_simp
      have u0 := HUW.out wc
      have n0 := HNW.out wc
      have ge : n ≤ grownCap wc n 0 5 := grownCap_ge wc n 0 _
      obtain ⟨q1, hq⟩ : ∃ q, q = wc.heap.size := ⟨_, rfl⟩
      try have HN12 : Hid (q1 ≠ q2) := by have := HD.out.lt; show _ ≠ _; omega
      have HQ1 : Hid (w4.heap.size ≤ q1) := by show _ ≤ _; rw [hq]; exact HU.out.size
      rw [← hq] at n0 ⊢
      generalize grownCap wc n 0 5 = g1 at n0 ge ⊢
      generalize Lib.bytesWorld wc 5 sq = wd at u0 n0 ⊢
      have HU := hid (HU.out.trans u0)
      try have HA := hid (HA.out.up u0 id)
      try have HD := hid (HD.out.up u0 id)
      try have HT := hid (And.intro (Nat.lt_of_lt_of_le HT.out.1 u0.size) ((u0.cell (p := ⟨q4, 0, none⟩) HT.out.1 id).trans HT.out.2))
      try have HE := hid (HE.out.nxt u0)
      have HA := hid n0
      have hsl : ∀ W, (Instr.slice 32 (.slice (some ⟨q1, 0, none⟩) n g1) none (some (.int .i64 cu)) none).run Tryd.prog W = .ok (.slice (some ⟨q1, 0, none⟩) cu g1) W := fun W => run_upto (some ⟨q1, 0, none⟩) n g1 cu (Nat.le_trans HCN.out ge) W
      have HGA := hid ge
      clear hcv u0 n0 hq ge
      obtain ⟨wc, rfl⟩ : ∃ W, W = wd := ⟨_, rfl⟩
      refine hK.out _ _ ?kg28x (fun hHeld => ?_)
      case kg28x => exact trivial
      clear hK K
      try simp only [tdy]
      refine tkl 10 (some 50) ?vg29 rfl ?yg29 ?rg29
      case yg29 => (intro w hSw; (try dsimp only at hSw); go_simp; try with_reducible rfl)
      try simp only [tdy]
      refine one 14 (some 54) rfl (fun K hK => ?_)
      go_simp
      have u0 := (Up.refl Nul wc).alloc (.cells #[.int .u8 (x : Nat)] 5)
      have n0 : wc.heap.size < (wc.alloc (.cells #[.int .u8 (x : Nat)] 5)).heap.size ∧ (wc.alloc (.cells #[.int .u8 (x : Nat)] 5)).cell? ⟨wc.heap.size, 0, none⟩ = some (.int .u8 (x : Nat)) := ⟨by simp, World.cell?_alloc_new _ _ _ 0⟩
      generalize wc.heap.size = q4 at n0 ⊢
      generalize wc.alloc (.cells #[.int .u8 (x : Nat)] 5) = wd at u0 n0 ⊢
      have HU := hid (HU.out.trans u0)
      try have HA := hid (HA.out.up u0 id)
      try have HD := hid (HD.out.up u0 id)
      try have HT := hid (And.intro (Nat.lt_of_lt_of_le HT.out.1 u0.size) ((u0.cell (p := ⟨q4, 0, none⟩) HT.out.1 id).trans HT.out.2))
      try have HE := hid (HE.out.nxt u0)
      have HT := hid n0
      clear u0 n0
      obtain ⟨wc, rfl⟩ : ∃ W, W = wd := ⟨_, rfl⟩
      refine hK.out _ _ ?kg30x (fun hHeld => ?_)
      case kg30x => exact trivial
      clear hK K
      try simp only [tdy]
      obtain ⟨ge, ce, wd, hrun, hce, hE, u0⟩ := HD.out.app 32 x HX.out ⟨q4, 0, none⟩ 1 HT.out.2 (by have := HN.out; have := HZL.out; omega)
      rw [← HZL.out] at hrun hce hE
      refine one 15 (some 55) rfl (fun K hK => ?_)
      refine wp_append_eqv (.tmp 52) (.tmp 54) 32 rfl (.slice (some ⟨q2, 0, none⟩) n g2) (.slice (some ⟨q4, 0, none⟩) 1 1) (.slice (some ⟨ge, 0, none⟩) (n + 1) ce) rfl rfl hrun ?_
      have HU := hid (HU.out.newest u0 (fun i hi e => by have e : i = q2 := e; have := HQ2.out; omega))
      try have HA := hid (HA.out.up u0 (fun e => HN12.out e))
      have HE := hid hE
      have HCE := hid hce
      clear hrun hce hE u0
      obtain ⟨wc, rfl⟩ : ∃ W, W = wd := ⟨_, rfl⟩
      refine hK.out _ _ ?kg31x (fun hHeld => ?_)
      case kg31x => exact trivial
      clear hK K
      try simp only [tdy]
      refine one 16 (some 56) rfl (fun K hK => ?_)
      go_simp
      have u0 := (Up.refl Nul wc).alloc (.cells #[.slice a0 l0 c0, .slice (some ⟨p, 0, none⟩) n gc, .slice (some ⟨q1, 0, none⟩) cu g1, .slice (some ⟨ge, 0, none⟩) (n + 1) ce] 32)
      have HU := hid (HU.out.trans u0)
      try have HA := hid (HA.out.up u0 id)
      try have HD := hid (HD.out.up u0 id)
      try have HT := hid (And.intro (Nat.lt_of_lt_of_le HT.out.1 u0.size) ((u0.cell (p := ⟨q4, 0, none⟩) HT.out.1 id).trans HT.out.2))
      try have HE := hid (HE.out.nxt u0)
      obtain ⟨A, N, C, Z, hcl, hz, hnc, hn1⟩ : ∃ A N C Z, (wc.alloc (.cells #[.slice a0 l0 c0, .slice (some ⟨p, 0, none⟩) n gc, .slice (some ⟨q1, 0, none⟩) cu g1, .slice (some ⟨ge, 0, none⟩) (n + 1) ce] 32)).cell? ⟨wc.heap.size, t, none⟩ = some (.slice A N C) ∧ SlN (wc.alloc (.cells #[.slice a0 l0 c0, .slice (some ⟨p, 0, none⟩) n gc, .slice (some ⟨q1, 0, none⟩) cu g1, .slice (some ⟨ge, 0, none⟩) (n + 1) ce] 32)) A N Z ∧ N ≤ C ∧ N ≤ 1000 := by
       have hn := HN.out
       have ht := HT4.out
       have hlc := HZC.out
       have hlq := HZL.out
       rcases (by omega : t = 0 ∨ t = 1 ∨ t = 2 ∨ t = 3) with e | e | e | e <;> rw [e]
       ·exact ⟨a0, l0, c0, zb, World.cell?_alloc_new _ _ _ 0, HB4'.out.nxt HU.out, HCB.out, by have := HL0.out; omega⟩
       ·exact ⟨some ⟨p, 0, none⟩, n, gc, _, World.cell?_alloc_new _ _ _ 1, (HC2.out.up HU.out id).sln n (by omega) (by omega), HGC.out, by omega⟩
       ·exact ⟨some ⟨q1, 0, none⟩, cu, g1, _, World.cell?_alloc_new _ _ _ 2, HA.out.sln cu (by have := HCN.out; omega) (by have := HCN.out; omega), Nat.le_trans HCN.out HGA.out, by have := HCN.out; omega⟩
       ·exact ⟨some ⟨ge, 0, none⟩, n + 1, ce, _, World.cell?_alloc_new _ _ _ 3, HE.out, HCE.out, by omega⟩
      have HZZ := hid hz
      have HNC := hid hnc
      have HN1 := hid hn1
      generalize wc.heap.size = q6 at hcl ⊢
      generalize wc.alloc (.cells #[.slice a0 l0 c0, .slice (some ⟨p, 0, none⟩) n gc, .slice (some ⟨q1, 0, none⟩) cu g1, .slice (some ⟨ge, 0, none⟩) (n + 1) ce] 32) = wd at hcl HU HZZ ⊢
      clear hz hnc hn1 u0
      obtain ⟨wc, rfl⟩ : ∃ W, W = wd := ⟨_, rfl⟩
      refine hK.out _ _ ?kg32x (fun hHeld => ?_)
      case kg32x => exact trivial
      clear hK K
      try simp only [tdy]
      refine tkl 18 (some 58) ?vg33 rfl ?yg33 ?rg33
      case yg33 => (intro w hSw; (try dsimp only at hSw); go_simp; try with_reducible rfl)
      try simp only [tdy]
      refine one 19 (some 59) rfl (fun K hK => ?_)
      go_simp
      refine hK.out _ _ ?kg34x (fun hHeld => ?_)
      case kg34x => exact trivial
      clear hK K
      try simp only [tdy]
      refine tkl 20 (some 14) ?vg35 rfl ?yg35 ?rg35
      case yg35 => (intro w hSw; (try dsimp only at hSw); go_simp; try with_reducible rfl)
      try simp only [tdy]
      refine wpAnyH_done (by kernel_rfl) ?_ _
      go_wp2_with fail
      go_meet
      exact ⟨A, N, C, Z, rfl, HZZ, HNC, HN1, HU⟩
     ·skip
      go_simp
      have u0 := (Up.refl Nul wc).alloc (.cells #[.int .u8 (x : Nat)] 5)
      have n0 : wc.heap.size < (wc.alloc (.cells #[.int .u8 (x : Nat)] 5)).heap.size ∧ (wc.alloc (.cells #[.int .u8 (x : Nat)] 5)).cell? ⟨wc.heap.size, 0, none⟩ = some (.int .u8 (x : Nat)) := ⟨by simp, World.cell?_alloc_new _ _ _ 0⟩
      generalize wc.heap.size = q4 at n0 ⊢
      generalize wc.alloc (.cells #[.int .u8 (x : Nat)] 5) = wd at u0 n0 ⊢
      have HU := hid (HU.out.trans u0)
      try have HA := hid (HA.out.up u0 id)
      try have HD := hid (HD.out.up u0 id)
      try have HT := hid (And.intro (Nat.lt_of_lt_of_le HT.out.1 u0.size) ((u0.cell (p := ⟨q4, 0, none⟩) HT.out.1 id).trans HT.out.2))
      try have HE := hid (HE.out.nxt u0)
      have HT := hid n0
      clear u0 n0
      obtain ⟨wc, rfl⟩ : ∃ W, W = wd := ⟨_, rfl⟩
      refine hK.out _ _ ?kg28y (fun hHeld => ?_)
      case kg28y => exact trivial
      clear hK K
      try simp only [tdy]
      refine wpAnyH_ready (rs := [3, 15]) (by kernel_rfl) (by simp) ?_
      refine (AllReadyH.cons (o := ⟨some 43, _, _, _, _, _⟩) rfl (fun K hK => ?_) (AllReadyH.cons (o := ⟨some 55, _, _, _, _, _⟩) rfl (fun K hK => ?_) AllReadyH.nil))
      ·skip
       have hcv := HCV.out wc
       go_simp
       have u0 := HUW.out wc
       have n0 := HNW.out wc
       have ge : n ≤ grownCap wc n 0 5 := grownCap_ge wc n 0 _
       obtain ⟨q1, hq⟩ : ∃ q, q = wc.heap.size := ⟨_, rfl⟩
       try have HN12 : Hid (q1 ≠ q2) := by have := HD.out.lt; show _ ≠ _; omega
       have HQ1 : Hid (w4.heap.size ≤ q1) := by show _ ≤ _; rw [hq]; exact HU.out.size
       rw [← hq] at n0 ⊢
       generalize grownCap wc n 0 5 = g1 at n0 ge ⊢
       generalize Lib.bytesWorld wc 5 sq = wd at u0 n0 ⊢
       have HU := hid (HU.out.trans u0)
       try have HA := hid (HA.out.up u0 id)
       try have HD := hid (HD.out.up u0 id)
       try have HT := hid (And.intro (Nat.lt_of_lt_of_le HT.out.1 u0.size) ((u0.cell (p := ⟨q4, 0, none⟩) HT.out.1 id).trans HT.out.2))
       try have HE := hid (HE.out.nxt u0)
       have HA := hid n0
       have hsl : ∀ W, (Instr.slice 32 (.slice (some ⟨q1, 0, none⟩) n g1) none (some (.int .i64 cu)) none).run Tryd.prog W = .ok (.slice (some ⟨q1, 0, none⟩) cu g1) W := fun W => run_upto (some ⟨q1, 0, none⟩) n g1 cu (Nat.le_trans HCN.out ge) W
       have HGA := hid ge
       clear hcv u0 n0 hq ge
       obtain ⟨wc, rfl⟩ : ∃ W, W = wd := ⟨_, rfl⟩
       refine hK.out _ _ ?kg36x (fun hHeld => ?_)
       case kg36x => exact trivial
       clear hK K
       try simp only [tdy]
       refine tkl 10 (some 50) ?vg37 rfl ?yg37 ?rg37
       case yg37 => (intro w hSw; (try dsimp only at hSw); go_simp; try with_reducible rfl)
       try simp only [tdy]
       obtain ⟨ge, ce, wd, hrun, hce, hE, u0⟩ := HD.out.app 32 x HX.out ⟨q4, 0, none⟩ 1 HT.out.2 (by have := HN.out; have := HZL.out; omega)
       rw [← HZL.out] at hrun hce hE
       refine one 15 (some 55) rfl (fun K hK => ?_)
       refine wp_append_eqv (.tmp 52) (.tmp 54) 32 rfl (.slice (some ⟨q2, 0, none⟩) n g2) (.slice (some ⟨q4, 0, none⟩) 1 1) (.slice (some ⟨ge, 0, none⟩) (n + 1) ce) rfl rfl hrun ?_
       have HU := hid (HU.out.newest u0 (fun i hi e => by have e : i = q2 := e; have := HQ2.out; omega))
       try have HA := hid (HA.out.up u0 (fun e => HN12.out e))
       have HE := hid hE
       have HCE := hid hce
       clear hrun hce hE u0
       obtain ⟨wc, rfl⟩ : ∃ W, W = wd := ⟨_, rfl⟩
       refine hK.out _ _ ?kg38x (fun hHeld => ?_)
       case kg38x => exact trivial
       clear hK K
       try simp only [tdy]
       refine one 16 (some 56) rfl (fun K hK => ?_)
       go_simp
       have u0 := (Up.refl Nul wc).alloc (.cells #[.slice a0 l0 c0, .slice (some ⟨p, 0, none⟩) n gc, .slice (some ⟨q1, 0, none⟩) cu g1, .slice (some ⟨ge, 0, none⟩) (n + 1) ce] 32)
       have HU := hid (HU.out.trans u0)
       try have HA := hid (HA.out.up u0 id)
       try have HD := hid (HD.out.up u0 id)
       try have HT := hid (And.intro (Nat.lt_of_lt_of_le HT.out.1 u0.size) ((u0.cell (p := ⟨q4, 0, none⟩) HT.out.1 id).trans HT.out.2))
       try have HE := hid (HE.out.nxt u0)
       obtain ⟨A, N, C, Z, hcl, hz, hnc, hn1⟩ : ∃ A N C Z, (wc.alloc (.cells #[.slice a0 l0 c0, .slice (some ⟨p, 0, none⟩) n gc, .slice (some ⟨q1, 0, none⟩) cu g1, .slice (some ⟨ge, 0, none⟩) (n + 1) ce] 32)).cell? ⟨wc.heap.size, t, none⟩ = some (.slice A N C) ∧ SlN (wc.alloc (.cells #[.slice a0 l0 c0, .slice (some ⟨p, 0, none⟩) n gc, .slice (some ⟨q1, 0, none⟩) cu g1, .slice (some ⟨ge, 0, none⟩) (n + 1) ce] 32)) A N Z ∧ N ≤ C ∧ N ≤ 1000 := by
        have hn := HN.out
        have ht := HT4.out
        have hlc := HZC.out
        have hlq := HZL.out
        rcases (by omega : t = 0 ∨ t = 1 ∨ t = 2 ∨ t = 3) with e | e | e | e <;> rw [e]
        ·exact ⟨a0, l0, c0, zb, World.cell?_alloc_new _ _ _ 0, HB4'.out.nxt HU.out, HCB.out, by have := HL0.out; omega⟩
        ·exact ⟨some ⟨p, 0, none⟩, n, gc, _, World.cell?_alloc_new _ _ _ 1, (HC2.out.up HU.out id).sln n (by omega) (by omega), HGC.out, by omega⟩
        ·exact ⟨some ⟨q1, 0, none⟩, cu, g1, _, World.cell?_alloc_new _ _ _ 2, HA.out.sln cu (by have := HCN.out; omega) (by have := HCN.out; omega), Nat.le_trans HCN.out HGA.out, by have := HCN.out; omega⟩
        ·exact ⟨some ⟨ge, 0, none⟩, n + 1, ce, _, World.cell?_alloc_new _ _ _ 3, HE.out, HCE.out, by omega⟩
       have HZZ := hid hz
       have HNC := hid hnc
       have HN1 := hid hn1
       generalize wc.heap.size = q6 at hcl ⊢
       generalize wc.alloc (.cells #[.slice a0 l0 c0, .slice (some ⟨p, 0, none⟩) n gc, .slice (some ⟨q1, 0, none⟩) cu g1, .slice (some ⟨ge, 0, none⟩) (n + 1) ce] 32) = wd at hcl HU HZZ ⊢
       clear hz hnc hn1 u0
       obtain ⟨wc, rfl⟩ : ∃ W, W = wd := ⟨_, rfl⟩
       refine hK.out _ _ ?kg39x (fun hHeld => ?_)
       case kg39x => exact trivial
       clear hK K
       try simp only [tdy]
       refine tkl 18 (some 58) ?vg40 rfl ?yg40 ?rg40
       case yg40 => (intro w hSw; (try dsimp only at hSw); go_simp; try with_reducible rfl)
       try simp only [tdy]
       refine one 19 (some 59) rfl (fun K hK => ?_)
       go_simp
       refine hK.out _ _ ?kg41x (fun hHeld => ?_)
       case kg41x => exact trivial
       clear hK K
       try simp only [tdy]
       refine tkl 20 (some 14) ?vg42 rfl ?yg42 ?rg42
       case yg42 => (intro w hSw; (try dsimp only at hSw); go_simp; try with_reducible rfl)
       try simp only [tdy]
       refine wpAnyH_done (by kernel_rfl) ?_ _
       go_wp2_with fail
       go_meet
       exact ⟨A, N, C, Z, rfl, HZZ, HNC, HN1, HU⟩
      ·skip
       obtain ⟨ge, ce, wd, hrun, hce, hE, u0⟩ := HD.out.app 32 x HX.out ⟨q4, 0, none⟩ 1 HT.out.2 (by have := HN.out; have := HZL.out; omega)
       rw [← HZL.out] at hrun hce hE
       refine wp_append_eqv (.tmp 52) (.tmp 54) 32 rfl (.slice (some ⟨q2, 0, none⟩) n g2) (.slice (some ⟨q4, 0, none⟩) 1 1) (.slice (some ⟨ge, 0, none⟩) (n + 1) ce) rfl rfl hrun ?_
       have HU := hid (HU.out.newest u0 (fun i hi e => by have e : i = q2 := e; have := HQ2.out; omega))
       try have HA := hid (HA.out.up u0 (fun e => HN12.out e))
       have HE := hid hE
       have HCE := hid hce
       clear hrun hce hE u0
       obtain ⟨wc, rfl⟩ : ∃ W, W = wd := ⟨_, rfl⟩
       refine hK.out _ _ ?kg36y (fun hHeld => ?_)
       case kg36y => exact trivial
       clear hK K
       try simp only [tdy]
       have hcv := HCV.out wc
       refine one 3 (some 43) rfl (fun K hK => ?_)
       go_simp
       have u0 := HUW.out wc
       have n0 := HNW.out wc
       have ge : n ≤ grownCap wc n 0 5 := grownCap_ge wc n 0 _
       obtain ⟨q1, hq⟩ : ∃ q, q = wc.heap.size := ⟨_, rfl⟩
       try have HN12 : Hid (q1 ≠ q2) := by have := HD.out.lt; show _ ≠ _; omega
       have HQ1 : Hid (w4.heap.size ≤ q1) := by show _ ≤ _; rw [hq]; exact HU.out.size
       rw [← hq] at n0 ⊢
       generalize grownCap wc n 0 5 = g1 at n0 ge ⊢
       generalize Lib.bytesWorld wc 5 sq = wd at u0 n0 ⊢
       have HU := hid (HU.out.trans u0)
       try have HA := hid (HA.out.up u0 id)
       try have HD := hid (HD.out.up u0 id)
       try have HT := hid (And.intro (Nat.lt_of_lt_of_le HT.out.1 u0.size) ((u0.cell (p := ⟨q4, 0, none⟩) HT.out.1 id).trans HT.out.2))
       try have HE := hid (HE.out.nxt u0)
       have HA := hid n0
       have hsl : ∀ W, (Instr.slice 32 (.slice (some ⟨q1, 0, none⟩) n g1) none (some (.int .i64 cu)) none).run Tryd.prog W = .ok (.slice (some ⟨q1, 0, none⟩) cu g1) W := fun W => run_upto (some ⟨q1, 0, none⟩) n g1 cu (Nat.le_trans HCN.out ge) W
       have HGA := hid ge
       clear hcv u0 n0 hq ge
       obtain ⟨wc, rfl⟩ : ∃ W, W = wd := ⟨_, rfl⟩
       refine hK.out _ _ ?kg43x (fun hHeld => ?_)
       case kg43x => exact trivial
       clear hK K
       try simp only [tdy]
       refine tkl 10 (some 50) ?vg44 rfl ?yg44 ?rg44
       case yg44 => (intro w hSw; (try dsimp only at hSw); go_simp; try with_reducible rfl)
       try simp only [tdy]
       refine one 16 (some 56) rfl (fun K hK => ?_)
       go_simp
       have u0 := (Up.refl Nul wc).alloc (.cells #[.slice a0 l0 c0, .slice (some ⟨p, 0, none⟩) n gc, .slice (some ⟨q1, 0, none⟩) cu g1, .slice (some ⟨ge, 0, none⟩) (n + 1) ce] 32)
       have HU := hid (HU.out.trans u0)
       try have HA := hid (HA.out.up u0 id)
       try have HD := hid (HD.out.up u0 id)
       try have HT := hid (And.intro (Nat.lt_of_lt_of_le HT.out.1 u0.size) ((u0.cell (p := ⟨q4, 0, none⟩) HT.out.1 id).trans HT.out.2))
       try have HE := hid (HE.out.nxt u0)
       obtain ⟨A, N, C, Z, hcl, hz, hnc, hn1⟩ : ∃ A N C Z, (wc.alloc (.cells #[.slice a0 l0 c0, .slice (some ⟨p, 0, none⟩) n gc, .slice (some ⟨q1, 0, none⟩) cu g1, .slice (some ⟨ge, 0, none⟩) (n + 1) ce] 32)).cell? ⟨wc.heap.size, t, none⟩ = some (.slice A N C) ∧ SlN (wc.alloc (.cells #[.slice a0 l0 c0, .slice (some ⟨p, 0, none⟩) n gc, .slice (some ⟨q1, 0, none⟩) cu g1, .slice (some ⟨ge, 0, none⟩) (n + 1) ce] 32)) A N Z ∧ N ≤ C ∧ N ≤ 1000 := by
        have hn := HN.out
        have ht := HT4.out
        have hlc := HZC.out
        have hlq := HZL.out
        rcases (by omega : t = 0 ∨ t = 1 ∨ t = 2 ∨ t = 3) with e | e | e | e <;> rw [e]
        ·exact ⟨a0, l0, c0, zb, World.cell?_alloc_new _ _ _ 0, HB4'.out.nxt HU.out, HCB.out, by have := HL0.out; omega⟩
        ·exact ⟨some ⟨p, 0, none⟩, n, gc, _, World.cell?_alloc_new _ _ _ 1, (HC2.out.up HU.out id).sln n (by omega) (by omega), HGC.out, by omega⟩
        ·exact ⟨some ⟨q1, 0, none⟩, cu, g1, _, World.cell?_alloc_new _ _ _ 2, HA.out.sln cu (by have := HCN.out; omega) (by have := HCN.out; omega), Nat.le_trans HCN.out HGA.out, by have := HCN.out; omega⟩
        ·exact ⟨some ⟨ge, 0, none⟩, n + 1, ce, _, World.cell?_alloc_new _ _ _ 3, HE.out, HCE.out, by omega⟩
       have HZZ := hid hz
       have HNC := hid hnc
       have HN1 := hid hn1
       generalize wc.heap.size = q6 at hcl ⊢
       generalize wc.alloc (.cells #[.slice a0 l0 c0, .slice (some ⟨p, 0, none⟩) n gc, .slice (some ⟨q1, 0, none⟩) cu g1, .slice (some ⟨ge, 0, none⟩) (n + 1) ce] 32) = wd at hcl HU HZZ ⊢
       clear hz hnc hn1 u0
       obtain ⟨wc, rfl⟩ : ∃ W, W = wd := ⟨_, rfl⟩
       refine hK.out _ _ ?kg45x (fun hHeld => ?_)
       case kg45x => exact trivial
       clear hK K
       try simp only [tdy]
       refine tkl 18 (some 58) ?vg46 rfl ?yg46 ?rg46
       case yg46 => (intro w hSw; (try dsimp only at hSw); go_simp; try with_reducible rfl)
       try simp only [tdy]
       refine one 19 (some 59) rfl (fun K hK => ?_)
       go_simp
       refine hK.out _ _ ?kg47x (fun hHeld => ?_)
       case kg47x => exact trivial
       clear hK K
       try simp only [tdy]
       refine tkl 20 (some 14) ?vg48 rfl ?yg48 ?rg48
       case yg48 => (intro w hSw; (try dsimp only at hSw); go_simp; try with_reducible rfl)
       try simp only [tdy]
       refine wpAnyH_done (by kernel_rfl) ?_ _
       go_wp2_with fail
       go_meet
       exact ⟨A, N, C, Z, rfl, HZZ, HNC, HN1, HU⟩
    ·skip
     go_simp
     have u0 := (Up.refl Nul wc).alloc (.cells #[.int .u8 (x : Nat)] 5)
     have n0 : wc.heap.size < (wc.alloc (.cells #[.int .u8 (x : Nat)] 5)).heap.size ∧ (wc.alloc (.cells #[.int .u8 (x : Nat)] 5)).cell? ⟨wc.heap.size, 0, none⟩ = some (.int .u8 (x : Nat)) := ⟨by simp, World.cell?_alloc_new _ _ _ 0⟩
     generalize wc.heap.size = q4 at n0 ⊢
     generalize wc.alloc (.cells #[.int .u8 (x : Nat)] 5) = wd at u0 n0 ⊢
     have HU := hid (HU.out.trans u0)
     try have HA := hid (HA.out.up u0 id)
     try have HD := hid (HD.out.up u0 id)
     try have HT := hid (And.intro (Nat.lt_of_lt_of_le HT.out.1 u0.size) ((u0.cell (p := ⟨q4, 0, none⟩) HT.out.1 id).trans HT.out.2))
     try have HE := hid (HE.out.nxt u0)
     have HT := hid n0
     clear u0 n0
     obtain ⟨wc, rfl⟩ : ∃ W, W = wd := ⟨_, rfl⟩
     refine hK.out _ _ ?kg13z (fun hHeld => ?_)
     case kg13z => exact trivial
     clear hK K
     try simp only [tdy]
     refine wpAnyH_ready (rs := [3, 12]) (by kernel_rfl) (by simp) ?_
     refine (AllReadyH.cons (o := ⟨some 43, _, _, _, _, _⟩) rfl (fun K hK => ?_) (AllReadyH.cons (o := ⟨some 52, _, _, _, _, _⟩) rfl (fun K hK => ?_) AllReadyH.nil))
     ·skip
      have hcv := HCV.out wc
      go_simp
      have u0 := HUW.out wc
      have n0 := HNW.out wc
      have ge : n ≤ grownCap wc n 0 5 := grownCap_ge wc n 0 _
      obtain ⟨q1, hq⟩ : ∃ q, q = wc.heap.size := ⟨_, rfl⟩
      try have HN12 : Hid (q1 ≠ q2) := by have := HD.out.lt; show _ ≠ _; omega
      have HQ1 : Hid (w4.heap.size ≤ q1) := by show _ ≤ _; rw [hq]; exact HU.out.size
      rw [← hq] at n0 ⊢
      generalize grownCap wc n 0 5 = g1 at n0 ge ⊢
      generalize Lib.bytesWorld wc 5 sq = wd at u0 n0 ⊢
      have HU := hid (HU.out.trans u0)
      try have HA := hid (HA.out.up u0 id)
      try have HD := hid (HD.out.up u0 id)
      try have HT := hid (And.intro (Nat.lt_of_lt_of_le HT.out.1 u0.size) ((u0.cell (p := ⟨q4, 0, none⟩) HT.out.1 id).trans HT.out.2))
      try have HE := hid (HE.out.nxt u0)
      have HA := hid n0
      have hsl : ∀ W, (Instr.slice 32 (.slice (some ⟨q1, 0, none⟩) n g1) none (some (.int .i64 cu)) none).run Tryd.prog W = .ok (.slice (some ⟨q1, 0, none⟩) cu g1) W := fun W => run_upto (some ⟨q1, 0, none⟩) n g1 cu (Nat.le_trans HCN.out ge) W
      have HGA := hid ge
      clear hcv u0 n0 hq ge
      obtain ⟨wc, rfl⟩ : ∃ W, W = wd := ⟨_, rfl⟩
      refine hK.out _ _ ?kg49x (fun hHeld => ?_)
      case kg49x => exact trivial
      clear hK K
      try simp only [tdy]
      refine tkl 10 (some 50) ?vg50 rfl ?yg50 ?rg50
      case yg50 => (intro w hSw; (try dsimp only at hSw); go_simp; try with_reducible rfl)
      try simp only [tdy]
      have hcv := HCV.out wc
      refine one 12 (some 52) rfl (fun K hK => ?_)
      go_simp
      have u0 := HUW.out wc
      have n0 := HNW.out wc
      have ge : n ≤ grownCap wc n 0 5 := grownCap_ge wc n 0 _
      obtain ⟨q2, hq⟩ : ∃ q, q = wc.heap.size := ⟨_, rfl⟩
      try have HN12 : Hid (q1 ≠ q2) := by have := HA.out.lt; show _ ≠ _; omega
      have HQ2 : Hid (w4.heap.size ≤ q2) := by show _ ≤ _; rw [hq]; exact HU.out.size
      rw [← hq] at n0 ⊢
      generalize grownCap wc n 0 5 = g2 at n0 ge ⊢
      generalize Lib.bytesWorld wc 5 sq = wd at u0 n0 ⊢
      have HU := hid (HU.out.trans u0)
      try have HA := hid (HA.out.up u0 id)
      try have HD := hid (HD.out.up u0 id)
      try have HT := hid (And.intro (Nat.lt_of_lt_of_le HT.out.1 u0.size) ((u0.cell (p := ⟨q4, 0, none⟩) HT.out.1 id).trans HT.out.2))
      try have HE := hid (HE.out.nxt u0)
      have HD := hid n0
      have HGD := hid ge
      clear hcv u0 n0 hq ge
      obtain ⟨wc, rfl⟩ : ∃ W, W = wd := ⟨_, rfl⟩
      refine hK.out _ _ ?kg51x (fun hHeld => ?_)
      case kg51x => exact trivial
      clear hK K
      try simp only [tdy]
      obtain ⟨ge, ce, wd, hrun, hce, hE, u0⟩ := HD.out.app 32 x HX.out ⟨q4, 0, none⟩ 1 HT.out.2 (by have := HN.out; have := HZL.out; omega)
      rw [← HZL.out] at hrun hce hE
      refine one 15 (some 55) rfl (fun K hK => ?_)
      refine wp_append_eqv (.tmp 52) (.tmp 54) 32 rfl (.slice (some ⟨q2, 0, none⟩) n g2) (.slice (some ⟨q4, 0, none⟩) 1 1) (.slice (some ⟨ge, 0, none⟩) (n + 1) ce) rfl rfl hrun ?_
      have HU := hid (HU.out.newest u0 (fun i hi e => by have e : i = q2 := e; have := HQ2.out; omega))
      try have HA := hid (HA.out.up u0 (fun e => HN12.out e))
      have HE := hid hE
      have HCE := hid hce
      clear hrun hce hE u0
      obtain ⟨wc, rfl⟩ : ∃ W, W = wd := ⟨_, rfl⟩
      refine hK.out _ _ ?kg52x (fun hHeld => ?_)
      case kg52x => exact trivial
      clear hK K
      try simp only [tdy]
      refine one 16 (some 56) rfl (fun K hK => ?_)
      go_simp
      have u0 := (Up.refl Nul wc).alloc (.cells #[.slice a0 l0 c0, .slice (some ⟨p, 0, none⟩) n gc, .slice (some ⟨q1, 0, none⟩) cu g1, .slice (some ⟨ge, 0, none⟩) (n + 1) ce] 32)
      have HU := hid (HU.out.trans u0)
      try have HA := hid (HA.out.up u0 id)
      try have HD := hid (HD.out.up u0 id)
      try have HT := hid (And.intro (Nat.lt_of_lt_of_le HT.out.1 u0.size) ((u0.cell (p := ⟨q4, 0, none⟩) HT.out.1 id).trans HT.out.2))
      try have HE := hid (HE.out.nxt u0)
      obtain ⟨A, N, C, Z, hcl, hz, hnc, hn1⟩ : ∃ A N C Z, (wc.alloc (.cells #[.slice a0 l0 c0, .slice (some ⟨p, 0, none⟩) n gc, .slice (some ⟨q1, 0, none⟩) cu g1, .slice (some ⟨ge, 0, none⟩) (n + 1) ce] 32)).cell? ⟨wc.heap.size, t, none⟩ = some (.slice A N C) ∧ SlN (wc.alloc (.cells #[.slice a0 l0 c0, .slice (some ⟨p, 0, none⟩) n gc, .slice (some ⟨q1, 0, none⟩) cu g1, .slice (some ⟨ge, 0, none⟩) (n + 1) ce] 32)) A N Z ∧ N ≤ C ∧ N ≤ 1000 := by
       have hn := HN.out
       have ht := HT4.out
       have hlc := HZC.out
       have hlq := HZL.out
       rcases (by omega : t = 0 ∨ t = 1 ∨ t = 2 ∨ t = 3) with e | e | e | e <;> rw [e]
       ·exact ⟨a0, l0, c0, zb, World.cell?_alloc_new _ _ _ 0, HB4'.out.nxt HU.out, HCB.out, by have := HL0.out; omega⟩
       ·exact ⟨some ⟨p, 0, none⟩, n, gc, _, World.cell?_alloc_new _ _ _ 1, (HC2.out.up HU.out id).sln n (by omega) (by omega), HGC.out, by omega⟩
       ·exact ⟨some ⟨q1, 0, none⟩, cu, g1, _, World.cell?_alloc_new _ _ _ 2, HA.out.sln cu (by have := HCN.out; omega) (by have := HCN.out; omega), Nat.le_trans HCN.out HGA.out, by have := HCN.out; omega⟩
       ·exact ⟨some ⟨ge, 0, none⟩, n + 1, ce, _, World.cell?_alloc_new _ _ _ 3, HE.out, HCE.out, by omega⟩
      have HZZ := hid hz
      have HNC := hid hnc
      have HN1 := hid hn1
      generalize wc.heap.size = q6 at hcl ⊢
      generalize wc.alloc (.cells #[.slice a0 l0 c0, .slice (some ⟨p, 0, none⟩) n gc, .slice (some ⟨q1, 0, none⟩) cu g1, .slice (some ⟨ge, 0, none⟩) (n + 1) ce] 32) = wd at hcl HU HZZ ⊢
      clear hz hnc hn1 u0
      obtain ⟨wc, rfl⟩ : ∃ W, W = wd := ⟨_, rfl⟩
      refine hK.out _ _ ?kg53x (fun hHeld => ?_)
      case kg53x => exact trivial
      clear hK K
      try simp only [tdy]
      refine tkl 18 (some 58) ?vg54 rfl ?yg54 ?rg54
      case yg54 => (intro w hSw; (try dsimp only at hSw); go_simp; try with_reducible rfl)
      try simp only [tdy]
      refine one 19 (some 59) rfl (fun K hK => ?_)
      go_simp
      refine hK.out _ _ ?kg55x (fun hHeld => ?_)
      case kg55x => exact trivial
      clear hK K
      try simp only [tdy]
      refine tkl 20 (some 14) ?vg56 rfl ?yg56 ?rg56
      case yg56 => (intro w hSw; (try dsimp only at hSw); go_simp; try with_reducible rfl)
      try simp only [tdy]
      refine wpAnyH_done (by kernel_rfl) ?_ _
      go_wp2_with fail
      go_meet
      exact ⟨A, N, C, Z, rfl, HZZ, HNC, HN1, HU⟩
     ·skip
      have hcv := HCV.out wc
      go_simp
      have u0 := HUW.out wc
      have n0 := HNW.out wc
      have ge : n ≤ grownCap wc n 0 5 := grownCap_ge wc n 0 _
      obtain ⟨q2, hq⟩ : ∃ q, q = wc.heap.size := ⟨_, rfl⟩
      try have HN12 : Hid (q1 ≠ q2) := by have := HA.out.lt; show _ ≠ _; omega
      have HQ2 : Hid (w4.heap.size ≤ q2) := by show _ ≤ _; rw [hq]; exact HU.out.size
      rw [← hq] at n0 ⊢
      generalize grownCap wc n 0 5 = g2 at n0 ge ⊢
      generalize Lib.bytesWorld wc 5 sq = wd at u0 n0 ⊢
      have HU := hid (HU.out.trans u0)
      try have HA := hid (HA.out.up u0 id)
      try have HD := hid (HD.out.up u0 id)
      try have HT := hid (And.intro (Nat.lt_of_lt_of_le HT.out.1 u0.size) ((u0.cell (p := ⟨q4, 0, none⟩) HT.out.1 id).trans HT.out.2))
      try have HE := hid (HE.out.nxt u0)
      have HD := hid n0
      have HGD := hid ge
      clear hcv u0 n0 hq ge
      obtain ⟨wc, rfl⟩ : ∃ W, W = wd := ⟨_, rfl⟩
      refine hK.out _ _ ?kg49y (fun hHeld => ?_)
      case kg49y => exact trivial
      clear hK K
      try simp only [tdy]
      refine wpAnyH_ready (rs := [3, 15]) (by kernel_rfl) (by simp) ?_
      refine (AllReadyH.cons (o := ⟨some 43, _, _, _, _, _⟩) rfl (fun K hK => ?_) (AllReadyH.cons (o := ⟨some 55, _, _, _, _, _⟩) rfl (fun K hK => ?_) AllReadyH.nil))
      ·skip
       have hcv := HCV.out wc
       go_simp
       have u0 := HUW.out wc
       have n0 := HNW.out wc
       have ge : n ≤ grownCap wc n 0 5 := grownCap_ge wc n 0 _
       obtain ⟨q1, hq⟩ : ∃ q, q = wc.heap.size := ⟨_, rfl⟩
       try have HN12 : Hid (q1 ≠ q2) := by have := HD.out.lt; show _ ≠ _; omega
       have HQ1 : Hid (w4.heap.size ≤ q1) := by show _ ≤ _; rw [hq]; exact HU.out.size
       rw [← hq] at n0 ⊢
       generalize grownCap wc n 0 5 = g1 at n0 ge ⊢
       generalize Lib.bytesWorld wc 5 sq = wd at u0 n0 ⊢
       have HU := hid (HU.out.trans u0)
       try have HA := hid (HA.out.up u0 id)
       try have HD := hid (HD.out.up u0 id)
       try have HT := hid (And.intro (Nat.lt_of_lt_of_le HT.out.1 u0.size) ((u0.cell (p := ⟨q4, 0, none⟩) HT.out.1 id).trans HT.out.2))
       try have HE := hid (HE.out.nxt u0)
       have HA := hid n0
       have hsl : ∀ W, (Instr.slice 32 (.slice (some ⟨q1, 0, none⟩) n g1) none (some (.int .i64 cu)) none).run Tryd.prog W = .ok (.slice (some ⟨q1, 0, none⟩) cu g1) W := fun W => run_upto (some ⟨q1, 0, none⟩) n g1 cu (Nat.le_trans HCN.out ge) W
       have HGA := hid ge
       clear hcv u0 n0 hq ge
       obtain ⟨wc, rfl⟩ : ∃ W, W = wd := ⟨_, rfl⟩
       refine hK.out _ _ ?kg57x (fun hHeld => ?_)
       case kg57x => exact trivial
       clear hK K
       try simp only [tdy]
       refine tkl 10 (some 50) ?vg58 rfl ?yg58 ?rg58
       case yg58 => (intro w hSw; (try dsimp only at hSw); go_simp; try with_reducible rfl)
       try simp only [tdy]
       obtain ⟨ge, ce, wd, hrun, hce, hE, u0⟩ := HD.out.app 32 x HX.out ⟨q4, 0, none⟩ 1 HT.out.2 (by have := HN.out; have := HZL.out; omega)
       rw [← HZL.out] at hrun hce hE
       refine one 15 (some 55) rfl (fun K hK => ?_)
       refine wp_append_eqv (.tmp 52) (.tmp 54) 32 rfl (.slice (some ⟨q2, 0, none⟩) n g2) (.slice (some ⟨q4, 0, none⟩) 1 1) (.slice (some ⟨ge, 0, none⟩) (n + 1) ce) rfl rfl hrun ?_
       have HU := hid (HU.out.newest u0 (fun i hi e => by have e : i = q2 := e; have := HQ2.out; omega))
       try have HA := hid (HA.out.up u0 (fun e => HN12.out e))
       have HE := hid hE
       have HCE := hid hce
       clear hrun hce hE u0
       obtain ⟨wc, rfl⟩ : ∃ W, W = wd := ⟨_, rfl⟩
       refine hK.out _ _ ?kg59x (fun hHeld => ?_)
       case kg59x => exact trivial
       clear hK K
       try simp only [tdy]
       refine one 16 (some 56) rfl (fun K hK => ?_)
       go_simp
       have u0 := (Up.refl Nul wc).alloc (.cells #[.slice a0 l0 c0, .slice (some ⟨p, 0, none⟩) n gc, .slice (some ⟨q1, 0, none⟩) cu g1, .slice (some ⟨ge, 0, none⟩) (n + 1) ce] 32)
       have HU := hid (HU.out.trans u0)
       try have HA := hid (HA.out.up u0 id)
       try have HD := hid (HD.out.up u0 id)
       try have HT := hid (And.intro (Nat.lt_of_lt_of_le HT.out.1 u0.size) ((u0.cell (p := ⟨q4, 0, none⟩) HT.out.1 id).trans HT.out.2))
       try have HE := hid (HE.out.nxt u0)
       obtain ⟨A, N, C, Z, hcl, hz, hnc, hn1⟩ : ∃ A N C Z, (wc.alloc (.cells #[.slice a0 l0 c0, .slice (some ⟨p, 0, none⟩) n gc, .slice (some ⟨q1, 0, none⟩) cu g1, .slice (some ⟨ge, 0, none⟩) (n + 1) ce] 32)).cell? ⟨wc.heap.size, t, none⟩ = some (.slice A N C) ∧ SlN (wc.alloc (.cells #[.slice a0 l0 c0, .slice (some ⟨p, 0, none⟩) n gc, .slice (some ⟨q1, 0, none⟩) cu g1, .slice (some ⟨ge, 0, none⟩) (n + 1) ce] 32)) A N Z ∧ N ≤ C ∧ N ≤ 1000 := by
        have hn := HN.out
        have ht := HT4.out
        have hlc := HZC.out
        have hlq := HZL.out
        rcases (by omega : t = 0 ∨ t = 1 ∨ t = 2 ∨ t = 3) with e | e | e | e <;> rw [e]
        ·exact ⟨a0, l0, c0, zb, World.cell?_alloc_new _ _ _ 0, HB4'.out.nxt HU.out, HCB.out, by have := HL0.out; omega⟩
        ·exact ⟨some ⟨p, 0, none⟩, n, gc, _, World.cell?_alloc_new _ _ _ 1, (HC2.out.up HU.out id).sln n (by omega) (by omega), HGC.out, by omega⟩
        ·exact ⟨some ⟨q1, 0, none⟩, cu, g1, _, World.cell?_alloc_new _ _ _ 2, HA.out.sln cu (by have := HCN.out; omega) (by have := HCN.out; omega), Nat.le_trans HCN.out HGA.out, by have := HCN.out; omega⟩
        ·exact ⟨some ⟨ge, 0, none⟩, n + 1, ce, _, World.cell?_alloc_new _ _ _ 3, HE.out, HCE.out, by omega⟩
       have HZZ := hid hz
       have HNC := hid hnc
       have HN1 := hid hn1
       generalize wc.heap.size = q6 at hcl ⊢
       generalize wc.alloc (.cells #[.slice a0 l0 c0, .slice (some ⟨p, 0, none⟩) n gc, .slice (some ⟨q1, 0, none⟩) cu g1, .slice (some ⟨ge, 0, none⟩) (n + 1) ce] 32) = wd at hcl HU HZZ ⊢
       clear hz hnc hn1 u0
       obtain ⟨wc, rfl⟩ : ∃ W, W = wd := ⟨_, rfl⟩
       refine hK.out _ _ ?kg60x (fun hHeld => ?_)
       case kg60x => exact trivial
       clear hK K
       try simp only [tdy]
       refine tkl 18 (some 58) ?vg61 rfl ?yg61 ?rg61
       case yg61 => (intro w hSw; (try dsimp only at hSw); go_simp; try with_reducible rfl)
       try simp only [tdy]
       refine one 19 (some 59) rfl (fun K hK => ?_)
       go_simp
       refine hK.out _ _ ?kg62x (fun hHeld => ?_)
       case kg62x => exact trivial
       clear hK K
       try simp only [tdy]
       refine tkl 20 (some 14) ?vg63 rfl ?yg63 ?rg63
       case yg63 => (intro w hSw; (try dsimp only at hSw); go_simp; try with_reducible rfl)
       try simp only [tdy]
       refine wpAnyH_done (by kernel_rfl) ?_ _
       go_wp2_with fail
       go_meet
       exact ⟨A, N, C, Z, rfl, HZZ, HNC, HN1, HU⟩
      ·skip
       obtain ⟨ge, ce, wd, hrun, hce, hE, u0⟩ := HD.out.app 32 x HX.out ⟨q4, 0, none⟩ 1 HT.out.2 (by have := HN.out; have := HZL.out; omega)
       rw [← HZL.out] at hrun hce hE
       refine wp_append_eqv (.tmp 52) (.tmp 54) 32 rfl (.slice (some ⟨q2, 0, none⟩) n g2) (.slice (some ⟨q4, 0, none⟩) 1 1) (.slice (some ⟨ge, 0, none⟩) (n + 1) ce) rfl rfl hrun ?_
       have HU := hid (HU.out.newest u0 (fun i hi e => by have e : i = q2 := e; have := HQ2.out; omega))
       try have HA := hid (HA.out.up u0 (fun e => HN12.out e))
       have HE := hid hE
       have HCE := hid hce
       clear hrun hce hE u0
       obtain ⟨wc, rfl⟩ : ∃ W, W = wd := ⟨_, rfl⟩
       refine hK.out _ _ ?kg57y (fun hHeld => ?_)
       case kg57y => exact trivial
       clear hK K
       try simp only [tdy]
       have hcv := HCV.out wc
       refine one 3 (some 43) rfl (fun K hK => ?_)
       go_simp
       have u0 := HUW.out wc
       have n0 := HNW.out wc
       have ge : n ≤ grownCap wc n 0 5 := grownCap_ge wc n 0 _
       obtain ⟨q1, hq⟩ : ∃ q, q = wc.heap.size := ⟨_, rfl⟩
       try have HN12 : Hid (q1 ≠ q2) := by have := HD.out.lt; show _ ≠ _; omega
       have HQ1 : Hid (w4.heap.size ≤ q1) := by show _ ≤ _; rw [hq]; exact HU.out.size
       rw [← hq] at n0 ⊢
       generalize grownCap wc n 0 5 = g1 at n0 ge ⊢
       generalize Lib.bytesWorld wc 5 sq = wd at u0 n0 ⊢
       have HU := hid (HU.out.trans u0)
       try have HA := hid (HA.out.up u0 id)
       try have HD := hid (HD.out.up u0 id)
       try have HT := hid (And.intro (Nat.lt_of_lt_of_le HT.out.1 u0.size) ((u0.cell (p := ⟨q4, 0, none⟩) HT.out.1 id).trans HT.out.2))
       try have HE := hid (HE.out.nxt u0)
       have HA := hid n0
       have hsl : ∀ W, (Instr.slice 32 (.slice (some ⟨q1, 0, none⟩) n g1) none (some (.int .i64 cu)) none).run Tryd.prog W = .ok (.slice (some ⟨q1, 0, none⟩) cu g1) W := fun W => run_upto (some ⟨q1, 0, none⟩) n g1 cu (Nat.le_trans HCN.out ge) W
       have HGA := hid ge
       clear hcv u0 n0 hq ge
       obtain ⟨wc, rfl⟩ : ∃ W, W = wd := ⟨_, rfl⟩
       refine hK.out _ _ ?kg64x (fun hHeld => ?_)
       case kg64x => exact trivial
       clear hK K
       try simp only [tdy]
       refine tkl 10 (some 50) ?vg65 rfl ?yg65 ?rg65
       case yg65 => (intro w hSw; (try dsimp only at hSw); go_simp; try with_reducible rfl)
       try simp only [tdy]
       refine one 16 (some 56) rfl (fun K hK => ?_)
       go_simp
       have u0 := (Up.refl Nul wc).alloc (.cells #[.slice a0 l0 c0, .slice (some ⟨p, 0, none⟩) n gc, .slice (some ⟨q1, 0, none⟩) cu g1, .slice (some ⟨ge, 0, none⟩) (n + 1) ce] 32)
       have HU := hid (HU.out.trans u0)
       try have HA := hid (HA.out.up u0 id)
       try have HD := hid (HD.out.up u0 id)
       try have HT := hid (And.intro (Nat.lt_of_lt_of_le HT.out.1 u0.size) ((u0.cell (p := ⟨q4, 0, none⟩) HT.out.1 id).trans HT.out.2))
       try have HE := hid (HE.out.nxt u0)
       obtain ⟨A, N, C, Z, hcl, hz, hnc, hn1⟩ : ∃ A N C Z, (wc.alloc (.cells #[.slice a0 l0 c0, .slice (some ⟨p, 0, none⟩) n gc, .slice (some ⟨q1, 0, none⟩) cu g1, .slice (some ⟨ge, 0, none⟩) (n + 1) ce] 32)).cell? ⟨wc.heap.size, t, none⟩ = some (.slice A N C) ∧ SlN (wc.alloc (.cells #[.slice a0 l0 c0, .slice (some ⟨p, 0, none⟩) n gc, .slice (some ⟨q1, 0, none⟩) cu g1, .slice (some ⟨ge, 0, none⟩) (n + 1) ce] 32)) A N Z ∧ N ≤ C ∧ N ≤ 1000 := by
        have hn := HN.out
        have ht := HT4.out
        have hlc := HZC.out
        have hlq := HZL.out
        rcases (by omega : t = 0 ∨ t = 1 ∨ t = 2 ∨ t = 3) with e | e | e | e <;> rw [e]
        ·exact ⟨a0, l0, c0, zb, World.cell?_alloc_new _ _ _ 0, HB4'.out.nxt HU.out, HCB.out, by have := HL0.out; omega⟩
        ·exact ⟨some ⟨p, 0, none⟩, n, gc, _, World.cell?_alloc_new _ _ _ 1, (HC2.out.up HU.out id).sln n (by omega) (by omega), HGC.out, by omega⟩
        ·exact ⟨some ⟨q1, 0, none⟩, cu, g1, _, World.cell?_alloc_new _ _ _ 2, HA.out.sln cu (by have := HCN.out; omega) (by have := HCN.out; omega), Nat.le_trans HCN.out HGA.out, by have := HCN.out; omega⟩
        ·exact ⟨some ⟨ge, 0, none⟩, n + 1, ce, _, World.cell?_alloc_new _ _ _ 3, HE.out, HCE.out, by omega⟩
       have HZZ := hid hz
       have HNC := hid hnc
       have HN1 := hid hn1
       generalize wc.heap.size = q6 at hcl ⊢
       generalize wc.alloc (.cells #[.slice a0 l0 c0, .slice (some ⟨p, 0, none⟩) n gc, .slice (some ⟨q1, 0, none⟩) cu g1, .slice (some ⟨ge, 0, none⟩) (n + 1) ce] 32) = wd at hcl HU HZZ ⊢
       clear hz hnc hn1 u0
       obtain ⟨wc, rfl⟩ : ∃ W, W = wd := ⟨_, rfl⟩
       refine hK.out _ _ ?kg66x (fun hHeld => ?_)
       case kg66x => exact trivial
       clear hK K
       try simp only [tdy]
       refine tkl 18 (some 58) ?vg67 rfl ?yg67 ?rg67
       case yg67 => (intro w hSw; (try dsimp only at hSw); go_simp; try with_reducible rfl)
       try simp only [tdy]
       refine one 19 (some 59) rfl (fun K hK => ?_)
       go_simp
       refine hK.out _ _ ?kg68x (fun hHeld => ?_)
       case kg68x => exact trivial
       clear hK K
       try simp only [tdy]
       refine tkl 20 (some 14) ?vg69 rfl ?yg69 ?rg69
       case yg69 => (intro w hSw; (try dsimp only at hSw); go_simp; try with_reducible rfl)
       try simp only [tdy]
       refine wpAnyH_done (by kernel_rfl) ?_ _
       go_wp2_with fail
       go_meet
       exact ⟨A, N, C, Z, rfl, HZZ, HNC, HN1, HU⟩
   obtain ⟨A, N, C, Z, rfl, HZ, HNC, HN1, HUC⟩ := hcut
   clear HU
   have hd := dec_any A N C Z wc (HS.out.nxt (HU4.out.trans HUC.out)) HZ.out HNC.out
   have HRO : Hid (∀ W, Calls Tryd.prog 15 #[.string (strOf Z)] W fun e w' => RofP W (decO Z) (decR Z).isSome e w') := fun W => rof_any Z W (sln_small HZ.out) (by have := HZ.out.len; have := HN1.out; omega)
   generalize decO Z = D at hd HRO
   generalize (decR Z).isSome = ib at hd HRO
   have HDC := hid hd
   clear hd
   go_wp2_with fail
   refine HDC.out.mono ?_
   rintro e w5 ⟨sa, sc, la, lc, rfl, r5, u5⟩
   have HR5 := hid r5
   have HU5 := hid (HUC.out.trans u5)
   have HZ5 := hid (HZ.out.nxt u5)
   clear r5 u5 HUC HZ HDC
   go_upto_region 11 with fail
   obtain ⟨W6, hW6⟩ : ∃ W, W = w5.alloc (.cells (rcellsL D (.slice sa D.sids.length sc) (.slice la D.locs.length lc)) 27) := ⟨_, rfl⟩
   have u6 : Up Nul w5 W6 := by rw [hW6]; exact (Up.refl Nul w5).alloc _
   have BX : Hid (RB W6 w5.heap.size D (.slice sa D.sids.length sc) (.slice la D.locs.length lc)) := by show RB _ _ _ _ _; rw [hW6]; exact RB.new _ _ _ _
   have HU6 := hid (HU5.out.trans u6)
   have HR6 := hid (HR5.out.nxt u6)
   have cz := (HZ5.out.nxt u6).conv C
   rw [← hW6]
   clear hW6 u6 HR5 HU5 HZ5
   generalize w5.heap.size = px at BX ⊢
   generalize strOf Z = sz at cz HRO
   go_wp2_with fail
   refine (HRO.out W6).mono ?_
   rintro e w7 ⟨sb, tc, lb, mc, rfl, r7, u7⟩
   have BX7 := hid (BX.out.nxt u7)
   have HU7 := hid (HU6.out.trans u7)
   have HR7 := hid (HR6.out.nxt u7)
   have HQ7 := hid r7
   clear cz r7 u7 HU6 HR6 BX
   go_upto_region 12 with fail
   obtain ⟨W8, hW8⟩ : ∃ W, W = w7.alloc (.cells (rcellsL D (.slice sb D.sids.length tc) (.slice lb D.locs.length mc)) 27) := ⟨_, rfl⟩
   have u8 : Up Nul w7 W8 := by rw [hW8]; exact (Up.refl Nul w7).alloc _
   have BY : Hid (RB W8 w7.heap.size D (.slice sb D.sids.length tc) (.slice lb D.locs.length mc)) := by show RB _ _ _ _ _; rw [hW8]; exact RB.new _ _ _ _
   have HU8 := hid (HU7.out.trans u8)
   have HR8 := hid (HR7.out.nxt u8)
   have HQ8 := hid (HQ7.out.nxt u8)
   have BX8 := hid (BX7.out.nxt u8)
   rw [← hW8]
   clear hW8 u8 HR7 HU7 HQ7 BX7
   generalize w7.heap.size = py at BY ⊢
   obtain ⟨x0, x1, x2, x3, x4, x5, x6, x7, x8, x9, x10, x11, x12⟩ := BX8.out.cells
   obtain ⟨y0, y1, y2, y3, y4, y5, y6, y7, y8, y9, y10, y11, y12⟩ := BY.out.cells
   have hbb : (ib != ib) = false := by cases ib <;> rfl
   go_wp2_with fail
   refine (srec_any _ D D sa sb la lb sc tc lc mc HR8.out HQ8.out).mono ?_
   rintro e w9 ⟨rfl, u9⟩
   rw [decide_eq_true (rfl : D = D)]
   have HU9 := hid (HU8.out.trans u9)
   clear u9 x0 x1 x2 x3 x4 x5 x6 x7 x8 x9 x10 x11 x12 y0 y1 y2 y3 y4 y5 y6 y7 y8 y9 y10 y11 y12 HU8 HR8 HQ8 BX8 BY
   go_wp2_with fail
   go_roundw
   case rel => exact ⟨t + 1, HT4.out, by go_num, HU9⟩
   case measure => have := HT4.out; simp [intOf]; omega
  ·obtain rfl : t = 4 := by omega
   go_wp2_with fail
   refine (rawake_any _ (HS.out.nxt (HU4.out.trans HU.out))).mono ?_
   rintro e w5 ⟨rfl, u5⟩
   have H5 := hid ((HU4.out.trans HU.out).trans u5)
   clear u5
   go_wp2
   go_ret
   exact ⟨rfl, H5.out⟩
theorem rreads_walk (a0 : Option Addr) (l0 c0 : Nat) (z0 : List Int) (a1 : Option Addr) (l1 c1 : Nat) (z1 : List Int) (a2 a3 a4 : Int) (w : World) (hS : Shp w) (w0 : CameIn w a0 l0 c0 z0) (w1 : CameI w a1 l1 c1 z1) (w3 : (Lit.int .u8 a3).wf = true) :
  Calls Tryd.prog 5 #[.slice a0 l0 c0, .slice a1 l1 c1, .int .i64 a2, .int .u8 a3, .int .i64 a4] w fun e w' => e = .returned (.bool true) ∧ Below w.heap.size w w' := by
 by_cases h : 300 < l0
 ·exact (reads_long a0 l0 c0 a1 l1 c1 a2 a3 a4 w hS h).mono fun e w' ⟨h, u⟩ => ⟨h, u.below (Nat.le_refl _) fun _ _ h => h⟩
 ·have h3 := bounds_u8 w3
  obtain ⟨x, rfl⟩ : ∃ x : Nat, a3 = x := ⟨a3.toNat, by omega⟩
  obtain ⟨zb, hb⟩ := SlN.of w0
  exact (reads_any a0 l0 c0 zb a1 l1 c1 z1 a2 x a4 w hS (by omega) (came_cap w0) hb w1 (by omega)).mono fun e w' ⟨h, u⟩ => ⟨h, u.below (Nat.le_refl _) fun _ _ h => h⟩

end Go.Proofs.YtpdkcpjofofkoaaDoor
