/- 'Ok', by the first of its parts that is false. -/
import Derived.Test.YtpdkcpjofofkoaaDoorPkTidy
import Derived.Test.YtpdkcpjofofkoaaDoorPq4
import Derived.Test.YtpdkcpjofofkoaaDoorPq1
namespace Go.Proofs.YtpdkcpjofofkoaaDoor
open Go.RowKit
set_option linter.unusedVariables false
set_option linter.unusedSimpArgs false
set_option maxRecDepth 100000 in
set_option maxHeartbeats 4000000 in
theorem ok_case1 (w : World) (s : ByteArray) (n sid co : Int) (sa : Option Addr) (ns cs : Nat) (la : Option Addr) (nl cl : Nat) (t : Tb) (k : Nat) (c1 c2 c3 c4 c5 c6 c7 c8 c9 c10 : Bool) (hk : spn 1 8 (k : Int) = true) (hS : Shp w) (hc1 : c1 = false)
  (H : OkC w s n sid co sa ns cs la nl cl t k c1 c2 c3 c4 c5 c6 c7 c8 c9 c10) :
  Calls Tryd.prog 8 #[.agg #[.int .i64 (k : Nat), .string s, .int .i64 n, .int .i64 sid, .slice sa ns cs, .int .i64 co, .slice la nl cl, .int .i64 t.hot, .int .i64 t.warm, .int .i64 t.gap, .int .i64 t.add, .int .i64 t.top, .int .i64 t.half]] w
   fun e w' => e = .returned (.bool (c1 && c2 && c3 && c4 && c5 && c6 && c7 && c8 && c9 && c10)) ∧ Up Nul w w' := by
 subst hc1
 have HK := hid (fun W => kind_any (k : Int) W)
 rw [hk] at HK
 have hk9 : k < 9 := by
  unfold spn at hk
  simp at hk
  omega
 have i0 : (0 : Int) ≤ (k : Int) := by omega
 have i1 : (k : Int) < 9 := by omega
 have HH := hid H
 clear H
 obtain ⟨C, hC⟩ : ∃ C : Array Value, C = #[.int .i64 (k : Nat), .string s, .int .i64 n, .int .i64 sid, .slice sa ns cs, .int .i64 co, .slice la nl cl, .int .i64 t.hot, .int .i64 t.warm, .int .i64 t.gap, .int .i64 t.add, .int .i64 t.top, .int .i64 t.half] := ⟨_, rfl⟩
 have HUA := hid ((Up.refl Nul w).alloc (.cells C 27))
 have HBA : Hid ((w.alloc (.cells C 27)).heap[w.heap.size]? = some (.cells C 27 (0, 0))) := heap_alloc_new _ _
 have HLT : Hid (w.heap.size < (w.alloc (.cells C 27)).heap.size) := by show _ < _; simp
 have HSH := hid hS
 go_enter Tryd.func8, Tryd.ntmps8
 go_wp2_with fail
 rw [← hC]
 refine (HK.out _).mono ?_
 rintro e w1 ⟨rfl, u1⟩
 have hb := (u1.block _ HLT.out id).trans HBA.out
 have HU1 := hid (HUA.out.trans u1)
 have hlt := Nat.lt_of_lt_of_le HLT.out u1.size
 clear u1 HBA HUA HLT
 have y0 := (HSH.out.nxt HU1.out).c k 0 hk9 (by omega)
 have y1 := (HSH.out.nxt HU1.out).c k 1 hk9 (by omega)
 have y2 := (HSH.out.nxt HU1.out).c k 2 hk9 (by omega)
 have y3 := (HSH.out.nxt HU1.out).c k 3 hk9 (by omega)
 have y4 := (HSH.out.nxt HU1.out).c k 4 hk9 (by omega)
 have y5 := (HSH.out.nxt HU1.out).c k 5 hk9 (by omega)
 have y6 := (HSH.out.nxt HU1.out).c k 6 hk9 (by omega)
 have y7 := (HSH.out.nxt HU1.out).c k 7 hk9 (by omega)
 have y8 := (HSH.out.nxt HU1.out).c k 8 hk9 (by omega)
 have y9 := (HSH.out.nxt HU1.out).c k 9 hk9 (by omega)
 have y10 := (HSH.out.nxt HU1.out).c k 10 hk9 (by omega)
 have y11 := (HSH.out.nxt HU1.out).c k 11 hk9 (by omega)
 have y12 := (HSH.out.nxt HU1.out).c k 12 hk9 (by omega)
 have y13 := (HSH.out.nxt HU1.out).c k 13 hk9 (by omega)
 have y14 := (HSH.out.nxt HU1.out).c k 14 hk9 (by omega)
 rw [Nat.add_zero] at y0
 generalize w.heap.size = p at hb hlt ⊢
 have x0 : w1.cell? ⟨p, 0, none⟩ = some (.int .i64 (k : Nat)) := by simp [World.cell?, hb, hC]
 clear hk9
 go_wp2_with fail
 obtain ⟨W2, hW2⟩ : ∃ W, W = w1.alloc (.cells #[.int .i64 (sh k 0), .int .i64 (sh k 1), .int .i64 (sh k 2), .int .i64 (sh k 3), .int .i64 (sh k 4), .int .i64 (sh k 5), .int .i64 (sh k 6), .int .i64 (sh k 7), .int .i64 (sh k 8), .int .i64 (sh k 9), .int .i64 (sh k 10), .int .i64 (sh k 11), .int .i64 (sh k 12), .int .i64 (sh k 13), .int .i64 (sh k 14)] 53) := ⟨_, rfl⟩
 have U2 : Hid (Up Nul w1 W2) := by show Up _ _ _; rw [hW2]; exact (Up.refl Nul w1).alloc _
 have hq : W2.heap[w1.heap.size]? = some (.cells #[.int .i64 (sh k 0), .int .i64 (sh k 1), .int .i64 (sh k 2), .int .i64 (sh k 3), .int .i64 (sh k 4), .int .i64 (sh k 5), .int .i64 (sh k 6), .int .i64 (sh k 7), .int .i64 (sh k 8), .int .i64 (sh k 9), .int .i64 (sh k 10), .int .i64 (sh k 11), .int .i64 (sh k 12), .int .i64 (sh k 13), .int .i64 (sh k 14)] 53 (0, 0)) := by rw [hW2]; exact heap_alloc_new _ _
 have hp := (U2.out.block p hlt id).trans hb
 rw [hC] at hp
 have hq2 : w1.heap.size < W2.heap.size := by rw [hW2]; simp
 have hp2 := Nat.lt_of_lt_of_le hlt U2.out.size
 have U3 := hid (HU1.out.trans U2.out)
 rw [← hW2]
 clear hW2 x0 y0 y1 y2 y3 y4 y5 y6 y7 y8 y9 y10 y11 y12 y13 y14 hb U2 HU1 hlt
 generalize w1.heap.size = q at hq hq2 ⊢
 have Hp1 := celN 1 (.string s) hp2 hp rfl
 have Hp2 := celN 2 (.int .i64 n) hp2 hp rfl
 have Hp3 := celN 3 (.int .i64 sid) hp2 hp rfl
 have Hp4 := celN 4 (.slice sa ns cs) hp2 hp rfl
 have Hp5 := celN 5 (.int .i64 co) hp2 hp rfl
 have Hp6 := celN 6 (.slice la nl cl) hp2 hp rfl
 have Hp7 := celN 7 (.int .i64 t.hot) hp2 hp rfl
 have Hp8 := celN 8 (.int .i64 t.warm) hp2 hp rfl
 have Hp9 := celN 9 (.int .i64 t.gap) hp2 hp rfl
 have Hp10 := celN 10 (.int .i64 t.add) hp2 hp rfl
 have Hp11 := celN 11 (.int .i64 t.top) hp2 hp rfl
 have Hp12 := celN 12 (.int .i64 t.half) hp2 hp rfl
 have Hq0 := celN 0 (.int .i64 (sh k 0)) hq2 hq rfl
 have Hq1 := celN 1 (.int .i64 (sh k 1)) hq2 hq rfl
 have Hq2 := celN 2 (.int .i64 (sh k 2)) hq2 hq rfl
 have Hq3 := celN 3 (.int .i64 (sh k 3)) hq2 hq rfl
 have Hq4 := celN 4 (.int .i64 (sh k 4)) hq2 hq rfl
 have Hq5 := celN 5 (.int .i64 (sh k 5)) hq2 hq rfl
 have Hq6 := celN 6 (.int .i64 (sh k 6)) hq2 hq rfl
 have Hq7 := celN 7 (.int .i64 (sh k 7)) hq2 hq rfl
 have Hq8 := celN 8 (.int .i64 (sh k 8)) hq2 hq rfl
 have Hq9 := celN 9 (.int .i64 (sh k 9)) hq2 hq rfl
 have Hq10 := celN 10 (.int .i64 (sh k 10)) hq2 hq rfl
 have Hq11 := celN 11 (.int .i64 (sh k 11)) hq2 hq rfl
 have Hq12 := celN 12 (.int .i64 (sh k 12)) hq2 hq rfl
 have Hq13 := celN 13 (.int .i64 (sh k 13)) hq2 hq rfl
 have Hq14 := celN 14 (.int .i64 (sh k 14)) hq2 hq rfl
 clear hp hq hp2 hq2
 have HR := hid (Up.refl Nul W2)
 simp only [List.append]
 refine wp_region_held_drew (S := (fun W => Up Nul W2 W)) (by kernel_rfl) (by exact HR.out.drew) (fun hHeld => ?_)
 refine tkl 0 (some 12) ?vk1n1u1 rfl ?yk1n1u1 ?rk1n1u1
 case yk1n1u1 => (intro w hSw; (try dsimp only at hSw); go_simp; try with_reducible rfl)
 try simp only [tdy]
 refine tkl 1 (some 13) ?vk1x2 rfl ?yk1x2 ?rk1x2
 case yk1x2 => (intro w hSw; have aq0 := Hq0.out w hSw; have aq1 := Hq1.out w hSw; go_simp; try with_reducible rfl)
 try simp only [tdy]
 refine tkl 2 (some 14) ?vk1n3u1 rfl ?yk1n3u1 ?rk1n3u1
 case yk1n3u1 => (intro w hSw; (try dsimp only at hSw); go_simp; try with_reducible rfl)
 try simp only [tdy]
 refine tkl 3 (some 15) ?vk1x4 rfl ?yk1x4 ?rk1x4
 case yk1x4 => (intro w hSw; have ap1 := Hp1.out w hSw; go_simp; try with_reducible rfl)
 try simp only [tdy]
 refine tkl 4 (some 16) ?vk1n5u1 rfl ?yk1n5u1 ?rk1n5u1
 case yk1n5u1 => (intro w hSw; (try dsimp only at hSw); go_simp; try with_reducible rfl)
 try simp only [tdy]
 refine one 5 (some 17) rfl (fun K hK => ?_)
 go_simp
 skip
 refine hK.out _ _ ?kk1n6u1 (fun hHeld => ?_)
 case kk1n6u1 => exact (by first | exact Up.alloc (show Up Nul W2 _ from hHeld) _ | exact (Up.alloc (show Up Nul W2 _ from HR.out) _).drew)
 clear hK K
 try simp only [tdy]
 refine one 6 (some 18) rfl (fun K hK => ?_)
 go_simp
 go_at_call 20; refine (HH.out.h1 _ (U3.out.trans (show Up Nul W2 _ from hHeld)) _ (by first | exact World.cell?_alloc_new _ _ _ 0 | (simp; done) | go_simp)).mono ?_; rintro e wb ⟨rfl, kb⟩
 refine hK.out _ _ ?kk1n7u1 (fun hHeld => ?_)
 case kk1n7u1 => exact (Up.trans (show Up Nul W2 _ from hHeld) kb)
 clear hK K
 try simp only [tdy]
 refine tkl 7 (some 19) ?vk1n8u1 rfl ?yk1n8u1 ?rk1n8u1
 case yk1n8u1 => (intro w hSw; (try dsimp only at hSw); go_simp; try with_reducible rfl)
 try simp only [tdy]
 refine tku 8 (some 20) rfl ?rk1n9u1
 try simp only [tdy]
 refine tku 9 (some 21) rfl ?rk1n10u1
 try simp only [tdy]
 refine tku 10 (some 22) rfl ?rk1n11u1
 try simp only [tdy]
 refine tkl 11 (some 23) ?vk1n12u1 rfl ?yk1n12u1 ?rk1n12u1
 case yk1n12u1 => (intro w hSw; (try dsimp only at hSw); go_simp; try with_reducible rfl)
 try simp only [tdy]
 refine tkl 12 (some 24) ?vk1n13u1 rfl ?yk1n13u1 ?rk1n13u1
 case yk1n13u1 => (intro w hSw; (try dsimp only at hSw); go_simp; try with_reducible rfl)
 try simp only [tdy]
 refine tku 13 (some 25) rfl ?rk1n14u1
 try simp only [tdy]
 refine tku 14 (some 26) rfl ?rk1n15u1
 try simp only [tdy]
 refine tku 15 (some 27) rfl ?rk1n16u1
 try simp only [tdy]
 refine tku 16 (some 28) rfl ?rk1n17u1
 try simp only [tdy]
 refine tku 17 (some 29) rfl ?rk1n18u1
 try simp only [tdy]
 refine tku 18 (some 30) rfl ?rk1n19u1
 try simp only [tdy]
 refine tkl 19 (some 31) ?vk1n20u1 rfl ?yk1n20u1 ?rk1n20u1
 case yk1n20u1 => (intro w hSw; (try dsimp only at hSw); go_simp; try with_reducible rfl)
 try simp only [tdy]
 refine tkl 20 (some 32) ?vk1n21u1 rfl ?yk1n21u1 ?rk1n21u1
 case yk1n21u1 => (intro w hSw; (try dsimp only at hSw); go_simp; try with_reducible rfl)
 try simp only [tdy]
 refine tku 21 (some 33) rfl ?rk1n22u1
 try simp only [tdy]
 refine tku 22 (some 34) rfl ?rk1n23u1
 try simp only [tdy]
 refine tku 23 (some 35) rfl ?rk1n24u1
 try simp only [tdy]
 refine tku 24 (some 36) rfl ?rk1n25u1
 try simp only [tdy]
 refine tku 25 (some 37) rfl ?rk1n26u1
 try simp only [tdy]
 refine tku 26 (some 38) rfl ?rk1n27u1
 try simp only [tdy]
 refine tkl 27 (some 39) ?vk1n28u1 rfl ?yk1n28u1 ?rk1n28u1
 case yk1n28u1 => (intro w hSw; (try dsimp only at hSw); go_simp; try with_reducible rfl)
 try simp only [tdy]
 refine tkl 28 (some 40) ?vk1n29u1 rfl ?yk1n29u1 ?rk1n29u1
 case yk1n29u1 => (intro w hSw; (try dsimp only at hSw); go_simp; try with_reducible rfl)
 try simp only [tdy]
 refine tku 29 (some 41) rfl ?rk1n30u1
 try simp only [tdy]
 refine tku 30 (some 42) rfl ?rk1n31u1
 try simp only [tdy]
 refine tku 31 (some 43) rfl ?rk1n32u1
 try simp only [tdy]
 refine tku 32 (some 44) rfl ?rk1n33u1
 try simp only [tdy]
 refine tku 33 (some 45) rfl ?rk1n34u1
 try simp only [tdy]
 refine tku 34 (some 46) rfl ?rk1n35u1
 try simp only [tdy]
 refine tkl 35 (some 47) ?vk1n36u1 rfl ?yk1n36u1 ?rk1n36u1
 case yk1n36u1 => (intro w hSw; (try dsimp only at hSw); go_simp; try with_reducible rfl)
 try simp only [tdy]
 refine tkl 36 (some 48) ?vk1n37u1 rfl ?yk1n37u1 ?rk1n37u1
 case yk1n37u1 => (intro w hSw; (try dsimp only at hSw); go_simp; try with_reducible rfl)
 try simp only [tdy]
 refine tku 37 (some 49) rfl ?rk1n38u1
 try simp only [tdy]
 refine tku 38 (some 50) rfl ?rk1n39u1
 try simp only [tdy]
 refine tku 39 (some 51) rfl ?rk1n40u1
 try simp only [tdy]
 refine tku 40 (some 52) rfl ?rk1n41u1
 try simp only [tdy]
 refine tku 41 (some 53) rfl ?rk1n42u1
 try simp only [tdy]
 refine tku 42 (some 54) rfl ?rk1n43u1
 try simp only [tdy]
 refine tkl 43 (some 55) ?vk1n44u1 rfl ?yk1n44u1 ?rk1n44u1
 case yk1n44u1 => (intro w hSw; (try dsimp only at hSw); go_simp; try with_reducible rfl)
 try simp only [tdy]
 refine tkl 44 (some 56) ?vk1n45u1 rfl ?yk1n45u1 ?rk1n45u1
 case yk1n45u1 => (intro w hSw; (try dsimp only at hSw); go_simp; try with_reducible rfl)
 try simp only [tdy]
 refine tku 45 (some 57) rfl ?rk1n46u1
 try simp only [tdy]
 refine tku 46 (some 58) rfl ?rk1n47u1
 try simp only [tdy]
 refine tku 47 (some 59) rfl ?rk1n48u1
 try simp only [tdy]
 refine tku 48 (some 60) rfl ?rk1n49u1
 try simp only [tdy]
 refine tku 49 (some 61) rfl ?rk1n50u1
 try simp only [tdy]
 refine tkl 50 (some 62) ?vk1n51u1 rfl ?yk1n51u1 ?rk1n51u1
 case yk1n51u1 => (intro w hSw; (try dsimp only at hSw); go_simp; try with_reducible rfl)
 try simp only [tdy]
 refine tkl 51 (some 63) ?vk1n52u1 rfl ?yk1n52u1 ?rk1n52u1
 case yk1n52u1 => (intro w hSw; (try dsimp only at hSw); go_simp; try with_reducible rfl)
 try simp only [tdy]
 refine tku 52 (some 64) rfl ?rk1n53u1
 try simp only [tdy]
 refine tku 53 (some 65) rfl ?rk1n54u1
 try simp only [tdy]
 refine tku 54 (some 66) rfl ?rk1n55u1
 try simp only [tdy]
 refine tku 55 (some 67) rfl ?rk1n56u1
 try simp only [tdy]
 refine tku 56 (some 68) rfl ?rk1n57u1
 try simp only [tdy]
 refine tku 57 (some 69) rfl ?rk1n58u1
 try simp only [tdy]
 refine tku 58 (some 70) rfl ?rk1n59u1
 try simp only [tdy]
 refine tku 59 (some 71) rfl ?rk1n60u1
 try simp only [tdy]
 refine tkl 60 (some 72) ?vk1n61u1 rfl ?yk1n61u1 ?rk1n61u1
 case yk1n61u1 => (intro w hSw; (try dsimp only at hSw); go_simp; try with_reducible rfl)
 try simp only [tdy]
 refine tkl 61 (some 73) ?vk1n62u1 rfl ?yk1n62u1 ?rk1n62u1
 case yk1n62u1 => (intro w hSw; (try dsimp only at hSw); go_simp; try with_reducible rfl)
 try simp only [tdy]
 refine tku 62 (some 74) rfl ?rk1n63u1
 try simp only [tdy]
 refine tku 63 (some 75) rfl ?rk1n64u1
 try simp only [tdy]
 refine tku 64 (some 76) rfl ?rk1n65u1
 try simp only [tdy]
 refine tku 65 (some 77) rfl ?rk1n66u1
 try simp only [tdy]
 refine tkl 66 (some 78) ?vk1n67u1 rfl ?yk1n67u1 ?rk1n67u1
 case yk1n67u1 => (intro w hSw; (try dsimp only at hSw); go_simp; try with_reducible rfl)
 try simp only [tdy]
 refine tkl 67 (some 79) ?vk1n68u1 rfl ?yk1n68u1 ?rk1n68u1
 case yk1n68u1 => (intro w hSw; (try dsimp only at hSw); go_simp; try with_reducible rfl)
 try simp only [tdy]
 refine tku 68 (some 80) rfl ?rk1n69u1
 try simp only [tdy]
 refine tku 69 (some 81) rfl ?rk1n70u1
 try simp only [tdy]
 refine tku 70 (some 82) rfl ?rk1n71u1
 try simp only [tdy]
 refine tku 71 (some 83) rfl ?rk1n72u1
 try simp only [tdy]
 refine tku 72 (some 84) rfl ?rk1n73u1
 try simp only [tdy]
 refine tku 73 (some 85) rfl ?rk1n74u1
 try simp only [tdy]
 refine tkl 74 (some 86) ?vk1n75u1 rfl ?yk1n75u1 ?rk1n75u1
 case yk1n75u1 => (intro w hSw; (try dsimp only at hSw); go_simp; try with_reducible rfl)
 try simp only [tdy]
 refine tkl 75 (some 2) ?vk1n76u1 rfl ?yk1n76u1 ?rk1n76u1
 case yk1n76u1 => (intro w hSw; (try dsimp only at hSw); go_simp; try with_reducible rfl)
 try simp only [tdy]
 refine wpAnyH_done (by kernel_rfl) ?_ _
 have HE := hid (U3.out.trans (show Up Nul W2 _ from hHeld))
 clear hHeld
 go_wp2
 go_ret
 exact ⟨by first | rfl | simp, HE.out⟩
set_option maxRecDepth 100000 in
set_option maxHeartbeats 4000000 in
theorem ok_case2 (w : World) (s : ByteArray) (n sid co : Int) (sa : Option Addr) (ns cs : Nat) (la : Option Addr) (nl cl : Nat) (t : Tb) (k : Nat) (c1 c2 c3 c4 c5 c6 c7 c8 c9 c10 : Bool) (hk : spn 1 8 (k : Int) = true) (hS : Shp w) (hc1 : c1 = true) (hc2 : c2 = false)
  (H : OkC w s n sid co sa ns cs la nl cl t k c1 c2 c3 c4 c5 c6 c7 c8 c9 c10) :
  Calls Tryd.prog 8 #[.agg #[.int .i64 (k : Nat), .string s, .int .i64 n, .int .i64 sid, .slice sa ns cs, .int .i64 co, .slice la nl cl, .int .i64 t.hot, .int .i64 t.warm, .int .i64 t.gap, .int .i64 t.add, .int .i64 t.top, .int .i64 t.half]] w
   fun e w' => e = .returned (.bool (c1 && c2 && c3 && c4 && c5 && c6 && c7 && c8 && c9 && c10)) ∧ Up Nul w w' := by
 subst hc1 hc2
 have HK := hid (fun W => kind_any (k : Int) W)
 rw [hk] at HK
 have hk9 : k < 9 := by
  unfold spn at hk
  simp at hk
  omega
 have i0 : (0 : Int) ≤ (k : Int) := by omega
 have i1 : (k : Int) < 9 := by omega
 have HH := hid H
 clear H
 obtain ⟨C, hC⟩ : ∃ C : Array Value, C = #[.int .i64 (k : Nat), .string s, .int .i64 n, .int .i64 sid, .slice sa ns cs, .int .i64 co, .slice la nl cl, .int .i64 t.hot, .int .i64 t.warm, .int .i64 t.gap, .int .i64 t.add, .int .i64 t.top, .int .i64 t.half] := ⟨_, rfl⟩
 have HUA := hid ((Up.refl Nul w).alloc (.cells C 27))
 have HBA : Hid ((w.alloc (.cells C 27)).heap[w.heap.size]? = some (.cells C 27 (0, 0))) := heap_alloc_new _ _
 have HLT : Hid (w.heap.size < (w.alloc (.cells C 27)).heap.size) := by show _ < _; simp
 have HSH := hid hS
 go_enter Tryd.func8, Tryd.ntmps8
 go_wp2_with fail
 rw [← hC]
 refine (HK.out _).mono ?_
 rintro e w1 ⟨rfl, u1⟩
 have hb := (u1.block _ HLT.out id).trans HBA.out
 have HU1 := hid (HUA.out.trans u1)
 have hlt := Nat.lt_of_lt_of_le HLT.out u1.size
 clear u1 HBA HUA HLT
 have y0 := (HSH.out.nxt HU1.out).c k 0 hk9 (by omega)
 have y1 := (HSH.out.nxt HU1.out).c k 1 hk9 (by omega)
 have y2 := (HSH.out.nxt HU1.out).c k 2 hk9 (by omega)
 have y3 := (HSH.out.nxt HU1.out).c k 3 hk9 (by omega)
 have y4 := (HSH.out.nxt HU1.out).c k 4 hk9 (by omega)
 have y5 := (HSH.out.nxt HU1.out).c k 5 hk9 (by omega)
 have y6 := (HSH.out.nxt HU1.out).c k 6 hk9 (by omega)
 have y7 := (HSH.out.nxt HU1.out).c k 7 hk9 (by omega)
 have y8 := (HSH.out.nxt HU1.out).c k 8 hk9 (by omega)
 have y9 := (HSH.out.nxt HU1.out).c k 9 hk9 (by omega)
 have y10 := (HSH.out.nxt HU1.out).c k 10 hk9 (by omega)
 have y11 := (HSH.out.nxt HU1.out).c k 11 hk9 (by omega)
 have y12 := (HSH.out.nxt HU1.out).c k 12 hk9 (by omega)
 have y13 := (HSH.out.nxt HU1.out).c k 13 hk9 (by omega)
 have y14 := (HSH.out.nxt HU1.out).c k 14 hk9 (by omega)
 rw [Nat.add_zero] at y0
 generalize w.heap.size = p at hb hlt ⊢
 have x0 : w1.cell? ⟨p, 0, none⟩ = some (.int .i64 (k : Nat)) := by simp [World.cell?, hb, hC]
 clear hk9
 go_wp2_with fail
 obtain ⟨W2, hW2⟩ : ∃ W, W = w1.alloc (.cells #[.int .i64 (sh k 0), .int .i64 (sh k 1), .int .i64 (sh k 2), .int .i64 (sh k 3), .int .i64 (sh k 4), .int .i64 (sh k 5), .int .i64 (sh k 6), .int .i64 (sh k 7), .int .i64 (sh k 8), .int .i64 (sh k 9), .int .i64 (sh k 10), .int .i64 (sh k 11), .int .i64 (sh k 12), .int .i64 (sh k 13), .int .i64 (sh k 14)] 53) := ⟨_, rfl⟩
 have U2 : Hid (Up Nul w1 W2) := by show Up _ _ _; rw [hW2]; exact (Up.refl Nul w1).alloc _
 have hq : W2.heap[w1.heap.size]? = some (.cells #[.int .i64 (sh k 0), .int .i64 (sh k 1), .int .i64 (sh k 2), .int .i64 (sh k 3), .int .i64 (sh k 4), .int .i64 (sh k 5), .int .i64 (sh k 6), .int .i64 (sh k 7), .int .i64 (sh k 8), .int .i64 (sh k 9), .int .i64 (sh k 10), .int .i64 (sh k 11), .int .i64 (sh k 12), .int .i64 (sh k 13), .int .i64 (sh k 14)] 53 (0, 0)) := by rw [hW2]; exact heap_alloc_new _ _
 have hp := (U2.out.block p hlt id).trans hb
 rw [hC] at hp
 have hq2 : w1.heap.size < W2.heap.size := by rw [hW2]; simp
 have hp2 := Nat.lt_of_lt_of_le hlt U2.out.size
 have U3 := hid (HU1.out.trans U2.out)
 rw [← hW2]
 clear hW2 x0 y0 y1 y2 y3 y4 y5 y6 y7 y8 y9 y10 y11 y12 y13 y14 hb U2 HU1 hlt
 generalize w1.heap.size = q at hq hq2 ⊢
 have Hp1 := celN 1 (.string s) hp2 hp rfl
 have Hp2 := celN 2 (.int .i64 n) hp2 hp rfl
 have Hp3 := celN 3 (.int .i64 sid) hp2 hp rfl
 have Hp4 := celN 4 (.slice sa ns cs) hp2 hp rfl
 have Hp5 := celN 5 (.int .i64 co) hp2 hp rfl
 have Hp6 := celN 6 (.slice la nl cl) hp2 hp rfl
 have Hp7 := celN 7 (.int .i64 t.hot) hp2 hp rfl
 have Hp8 := celN 8 (.int .i64 t.warm) hp2 hp rfl
 have Hp9 := celN 9 (.int .i64 t.gap) hp2 hp rfl
 have Hp10 := celN 10 (.int .i64 t.add) hp2 hp rfl
 have Hp11 := celN 11 (.int .i64 t.top) hp2 hp rfl
 have Hp12 := celN 12 (.int .i64 t.half) hp2 hp rfl
 have Hq0 := celN 0 (.int .i64 (sh k 0)) hq2 hq rfl
 have Hq1 := celN 1 (.int .i64 (sh k 1)) hq2 hq rfl
 have Hq2 := celN 2 (.int .i64 (sh k 2)) hq2 hq rfl
 have Hq3 := celN 3 (.int .i64 (sh k 3)) hq2 hq rfl
 have Hq4 := celN 4 (.int .i64 (sh k 4)) hq2 hq rfl
 have Hq5 := celN 5 (.int .i64 (sh k 5)) hq2 hq rfl
 have Hq6 := celN 6 (.int .i64 (sh k 6)) hq2 hq rfl
 have Hq7 := celN 7 (.int .i64 (sh k 7)) hq2 hq rfl
 have Hq8 := celN 8 (.int .i64 (sh k 8)) hq2 hq rfl
 have Hq9 := celN 9 (.int .i64 (sh k 9)) hq2 hq rfl
 have Hq10 := celN 10 (.int .i64 (sh k 10)) hq2 hq rfl
 have Hq11 := celN 11 (.int .i64 (sh k 11)) hq2 hq rfl
 have Hq12 := celN 12 (.int .i64 (sh k 12)) hq2 hq rfl
 have Hq13 := celN 13 (.int .i64 (sh k 13)) hq2 hq rfl
 have Hq14 := celN 14 (.int .i64 (sh k 14)) hq2 hq rfl
 clear hp hq hp2 hq2
 have HR := hid (Up.refl Nul W2)
 simp only [List.append]
 refine wp_region_held_drew (S := (fun W => Up Nul W2 W)) (by kernel_rfl) (by exact HR.out.drew) (fun hHeld => ?_)
 refine tkl 0 (some 12) ?vk2n1u1 rfl ?yk2n1u1 ?rk2n1u1
 case yk2n1u1 => (intro w hSw; (try dsimp only at hSw); go_simp; try with_reducible rfl)
 try simp only [tdy]
 refine tkl 1 (some 13) ?vk2x2 rfl ?yk2x2 ?rk2x2
 case yk2x2 => (intro w hSw; have aq0 := Hq0.out w hSw; have aq1 := Hq1.out w hSw; go_simp; try with_reducible rfl)
 try simp only [tdy]
 refine tkl 2 (some 14) ?vk2n3u1 rfl ?yk2n3u1 ?rk2n3u1
 case yk2n3u1 => (intro w hSw; (try dsimp only at hSw); go_simp; try with_reducible rfl)
 try simp only [tdy]
 refine tkl 3 (some 15) ?vk2x4 rfl ?yk2x4 ?rk2x4
 case yk2x4 => (intro w hSw; have ap1 := Hp1.out w hSw; go_simp; try with_reducible rfl)
 try simp only [tdy]
 refine tkl 4 (some 16) ?vk2n5u1 rfl ?yk2n5u1 ?rk2n5u1
 case yk2n5u1 => (intro w hSw; (try dsimp only at hSw); go_simp; try with_reducible rfl)
 try simp only [tdy]
 refine one 5 (some 17) rfl (fun K hK => ?_)
 go_simp
 skip
 refine hK.out _ _ ?kk2n6u1 (fun hHeld => ?_)
 case kk2n6u1 => exact (by first | exact Up.alloc (show Up Nul W2 _ from hHeld) _ | exact (Up.alloc (show Up Nul W2 _ from HR.out) _).drew)
 clear hK K
 try simp only [tdy]
 refine one 6 (some 18) rfl (fun K hK => ?_)
 go_simp
 go_at_call 20; refine (HH.out.h1 _ (U3.out.trans (show Up Nul W2 _ from hHeld)) _ (by first | exact World.cell?_alloc_new _ _ _ 0 | (simp; done) | go_simp)).mono ?_; rintro e wb ⟨rfl, kb⟩
 refine hK.out _ _ ?kk2n7u1 (fun hHeld => ?_)
 case kk2n7u1 => exact (Up.trans (show Up Nul W2 _ from hHeld) kb)
 clear hK K
 try simp only [tdy]
 refine tkl 7 (some 19) ?vk2n8u1 rfl ?yk2n8u1 ?rk2n8u1
 case yk2n8u1 => (intro w hSw; (try dsimp only at hSw); go_simp; try with_reducible rfl)
 try simp only [tdy]
 refine tkl 8 (some 20) ?vk2n9u1 rfl ?yk2n9u1 ?rk2n9u1
 case yk2n9u1 => (intro w hSw; (try dsimp only at hSw); go_simp; try with_reducible rfl)
 try simp only [tdy]
 refine tkl 9 (some 21) ?vk2x10 rfl ?yk2x10 ?rk2x10
 case yk2x10 => (intro w hSw; have ap1 := Hp1.out w hSw; go_simp; try with_reducible rfl)
 try simp only [tdy]
 refine one 10 (some 22) rfl (fun K hK => ?_)
 go_simp
 go_at_call 21; refine (HH.out.h2 _).mono ?_; rintro e wb ⟨rfl, kb⟩
 refine hK.out _ _ ?kk2n11u1 (fun hHeld => ?_)
 case kk2n11u1 => exact (Up.trans (show Up Nul W2 _ from hHeld) kb)
 clear hK K
 try simp only [tdy]
 refine tkl 11 (some 23) ?vk2n12u1 rfl ?yk2n12u1 ?rk2n12u1
 case yk2n12u1 => (intro w hSw; (try dsimp only at hSw); go_simp; try with_reducible rfl)
 try simp only [tdy]
 refine tkl 12 (some 24) ?vk2n13u1 rfl ?yk2n13u1 ?rk2n13u1
 case yk2n13u1 => (intro w hSw; (try dsimp only at hSw); go_simp; try with_reducible rfl)
 try simp only [tdy]
 refine tku 13 (some 25) rfl ?rk2n14u1
 try simp only [tdy]
 refine tku 14 (some 26) rfl ?rk2n15u1
 try simp only [tdy]
 refine tku 15 (some 27) rfl ?rk2n16u1
 try simp only [tdy]
 refine tku 16 (some 28) rfl ?rk2n17u1
 try simp only [tdy]
 refine tku 17 (some 29) rfl ?rk2n18u1
 try simp only [tdy]
 refine tku 18 (some 30) rfl ?rk2n19u1
 try simp only [tdy]
 refine tkl 19 (some 31) ?vk2n20u1 rfl ?yk2n20u1 ?rk2n20u1
 case yk2n20u1 => (intro w hSw; (try dsimp only at hSw); go_simp; try with_reducible rfl)
 try simp only [tdy]
 refine tkl 20 (some 32) ?vk2n21u1 rfl ?yk2n21u1 ?rk2n21u1
 case yk2n21u1 => (intro w hSw; (try dsimp only at hSw); go_simp; try with_reducible rfl)
 try simp only [tdy]
 refine tku 21 (some 33) rfl ?rk2n22u1
 try simp only [tdy]
 refine tku 22 (some 34) rfl ?rk2n23u1
 try simp only [tdy]
 refine tku 23 (some 35) rfl ?rk2n24u1
 try simp only [tdy]
 refine tku 24 (some 36) rfl ?rk2n25u1
 try simp only [tdy]
 refine tku 25 (some 37) rfl ?rk2n26u1
 try simp only [tdy]
 refine tku 26 (some 38) rfl ?rk2n27u1
 try simp only [tdy]
 refine tkl 27 (some 39) ?vk2n28u1 rfl ?yk2n28u1 ?rk2n28u1
 case yk2n28u1 => (intro w hSw; (try dsimp only at hSw); go_simp; try with_reducible rfl)
 try simp only [tdy]
 refine tkl 28 (some 40) ?vk2n29u1 rfl ?yk2n29u1 ?rk2n29u1
 case yk2n29u1 => (intro w hSw; (try dsimp only at hSw); go_simp; try with_reducible rfl)
 try simp only [tdy]
 refine tku 29 (some 41) rfl ?rk2n30u1
 try simp only [tdy]
 refine tku 30 (some 42) rfl ?rk2n31u1
 try simp only [tdy]
 refine tku 31 (some 43) rfl ?rk2n32u1
 try simp only [tdy]
 refine tku 32 (some 44) rfl ?rk2n33u1
 try simp only [tdy]
 refine tku 33 (some 45) rfl ?rk2n34u1
 try simp only [tdy]
 refine tku 34 (some 46) rfl ?rk2n35u1
 try simp only [tdy]
 refine tkl 35 (some 47) ?vk2n36u1 rfl ?yk2n36u1 ?rk2n36u1
 case yk2n36u1 => (intro w hSw; (try dsimp only at hSw); go_simp; try with_reducible rfl)
 try simp only [tdy]
 refine tkl 36 (some 48) ?vk2n37u1 rfl ?yk2n37u1 ?rk2n37u1
 case yk2n37u1 => (intro w hSw; (try dsimp only at hSw); go_simp; try with_reducible rfl)
 try simp only [tdy]
 refine tku 37 (some 49) rfl ?rk2n38u1
 try simp only [tdy]
 refine tku 38 (some 50) rfl ?rk2n39u1
 try simp only [tdy]
 refine tku 39 (some 51) rfl ?rk2n40u1
 try simp only [tdy]
 refine tku 40 (some 52) rfl ?rk2n41u1
 try simp only [tdy]
 refine tku 41 (some 53) rfl ?rk2n42u1
 try simp only [tdy]
 refine tku 42 (some 54) rfl ?rk2n43u1
 try simp only [tdy]
 refine tkl 43 (some 55) ?vk2n44u1 rfl ?yk2n44u1 ?rk2n44u1
 case yk2n44u1 => (intro w hSw; (try dsimp only at hSw); go_simp; try with_reducible rfl)
 try simp only [tdy]
 refine tkl 44 (some 56) ?vk2n45u1 rfl ?yk2n45u1 ?rk2n45u1
 case yk2n45u1 => (intro w hSw; (try dsimp only at hSw); go_simp; try with_reducible rfl)
 try simp only [tdy]
 refine tku 45 (some 57) rfl ?rk2n46u1
 try simp only [tdy]
 refine tku 46 (some 58) rfl ?rk2n47u1
 try simp only [tdy]
 refine tku 47 (some 59) rfl ?rk2n48u1
 try simp only [tdy]
 refine tku 48 (some 60) rfl ?rk2n49u1
 try simp only [tdy]
 refine tku 49 (some 61) rfl ?rk2n50u1
 try simp only [tdy]
 refine tkl 50 (some 62) ?vk2n51u1 rfl ?yk2n51u1 ?rk2n51u1
 case yk2n51u1 => (intro w hSw; (try dsimp only at hSw); go_simp; try with_reducible rfl)
 try simp only [tdy]
 refine tkl 51 (some 63) ?vk2n52u1 rfl ?yk2n52u1 ?rk2n52u1
 case yk2n52u1 => (intro w hSw; (try dsimp only at hSw); go_simp; try with_reducible rfl)
 try simp only [tdy]
 refine tku 52 (some 64) rfl ?rk2n53u1
 try simp only [tdy]
 refine tku 53 (some 65) rfl ?rk2n54u1
 try simp only [tdy]
 refine tku 54 (some 66) rfl ?rk2n55u1
 try simp only [tdy]
 refine tku 55 (some 67) rfl ?rk2n56u1
 try simp only [tdy]
 refine tku 56 (some 68) rfl ?rk2n57u1
 try simp only [tdy]
 refine tku 57 (some 69) rfl ?rk2n58u1
 try simp only [tdy]
 refine tku 58 (some 70) rfl ?rk2n59u1
 try simp only [tdy]
 refine tku 59 (some 71) rfl ?rk2n60u1
 try simp only [tdy]
 refine tkl 60 (some 72) ?vk2n61u1 rfl ?yk2n61u1 ?rk2n61u1
 case yk2n61u1 => (intro w hSw; (try dsimp only at hSw); go_simp; try with_reducible rfl)
 try simp only [tdy]
 refine tkl 61 (some 73) ?vk2n62u1 rfl ?yk2n62u1 ?rk2n62u1
 case yk2n62u1 => (intro w hSw; (try dsimp only at hSw); go_simp; try with_reducible rfl)
 try simp only [tdy]
 refine tku 62 (some 74) rfl ?rk2n63u1
 try simp only [tdy]
 refine tku 63 (some 75) rfl ?rk2n64u1
 try simp only [tdy]
 refine tku 64 (some 76) rfl ?rk2n65u1
 try simp only [tdy]
 refine tku 65 (some 77) rfl ?rk2n66u1
 try simp only [tdy]
 refine tkl 66 (some 78) ?vk2n67u1 rfl ?yk2n67u1 ?rk2n67u1
 case yk2n67u1 => (intro w hSw; (try dsimp only at hSw); go_simp; try with_reducible rfl)
 try simp only [tdy]
 refine tkl 67 (some 79) ?vk2n68u1 rfl ?yk2n68u1 ?rk2n68u1
 case yk2n68u1 => (intro w hSw; (try dsimp only at hSw); go_simp; try with_reducible rfl)
 try simp only [tdy]
 refine tku 68 (some 80) rfl ?rk2n69u1
 try simp only [tdy]
 refine tku 69 (some 81) rfl ?rk2n70u1
 try simp only [tdy]
 refine tku 70 (some 82) rfl ?rk2n71u1
 try simp only [tdy]
 refine tku 71 (some 83) rfl ?rk2n72u1
 try simp only [tdy]
 refine tku 72 (some 84) rfl ?rk2n73u1
 try simp only [tdy]
 refine tku 73 (some 85) rfl ?rk2n74u1
 try simp only [tdy]
 refine tkl 74 (some 86) ?vk2n75u1 rfl ?yk2n75u1 ?rk2n75u1
 case yk2n75u1 => (intro w hSw; (try dsimp only at hSw); go_simp; try with_reducible rfl)
 try simp only [tdy]
 refine tkl 75 (some 2) ?vk2n76u1 rfl ?yk2n76u1 ?rk2n76u1
 case yk2n76u1 => (intro w hSw; (try dsimp only at hSw); go_simp; try with_reducible rfl)
 try simp only [tdy]
 refine wpAnyH_done (by kernel_rfl) ?_ _
 have HE := hid (U3.out.trans (show Up Nul W2 _ from hHeld))
 clear hHeld
 go_wp2
 go_ret
 exact ⟨by first | rfl | simp, HE.out⟩
set_option maxRecDepth 100000 in
set_option maxHeartbeats 4000000 in
theorem ok_case3 (w : World) (s : ByteArray) (n sid co : Int) (sa : Option Addr) (ns cs : Nat) (la : Option Addr) (nl cl : Nat) (t : Tb) (k : Nat) (c1 c2 c3 c4 c5 c6 c7 c8 c9 c10 : Bool) (hk : spn 1 8 (k : Int) = true) (hS : Shp w) (hc1 : c1 = true) (hc2 : c2 = true) (hc3 : c3 = false)
  (H : OkC w s n sid co sa ns cs la nl cl t k c1 c2 c3 c4 c5 c6 c7 c8 c9 c10) :
  Calls Tryd.prog 8 #[.agg #[.int .i64 (k : Nat), .string s, .int .i64 n, .int .i64 sid, .slice sa ns cs, .int .i64 co, .slice la nl cl, .int .i64 t.hot, .int .i64 t.warm, .int .i64 t.gap, .int .i64 t.add, .int .i64 t.top, .int .i64 t.half]] w
   fun e w' => e = .returned (.bool (c1 && c2 && c3 && c4 && c5 && c6 && c7 && c8 && c9 && c10)) ∧ Up Nul w w' := by
 subst hc1 hc2 hc3
 have HK := hid (fun W => kind_any (k : Int) W)
 rw [hk] at HK
 have hk9 : k < 9 := by
  unfold spn at hk
  simp at hk
  omega
 have i0 : (0 : Int) ≤ (k : Int) := by omega
 have i1 : (k : Int) < 9 := by omega
 have HH := hid H
 clear H
 obtain ⟨C, hC⟩ : ∃ C : Array Value, C = #[.int .i64 (k : Nat), .string s, .int .i64 n, .int .i64 sid, .slice sa ns cs, .int .i64 co, .slice la nl cl, .int .i64 t.hot, .int .i64 t.warm, .int .i64 t.gap, .int .i64 t.add, .int .i64 t.top, .int .i64 t.half] := ⟨_, rfl⟩
 have HUA := hid ((Up.refl Nul w).alloc (.cells C 27))
 have HBA : Hid ((w.alloc (.cells C 27)).heap[w.heap.size]? = some (.cells C 27 (0, 0))) := heap_alloc_new _ _
 have HLT : Hid (w.heap.size < (w.alloc (.cells C 27)).heap.size) := by show _ < _; simp
 have HSH := hid hS
 go_enter Tryd.func8, Tryd.ntmps8
 go_wp2_with fail
 rw [← hC]
 refine (HK.out _).mono ?_
 rintro e w1 ⟨rfl, u1⟩
 have hb := (u1.block _ HLT.out id).trans HBA.out
 have HU1 := hid (HUA.out.trans u1)
 have hlt := Nat.lt_of_lt_of_le HLT.out u1.size
 clear u1 HBA HUA HLT
 have y0 := (HSH.out.nxt HU1.out).c k 0 hk9 (by omega)
 have y1 := (HSH.out.nxt HU1.out).c k 1 hk9 (by omega)
 have y2 := (HSH.out.nxt HU1.out).c k 2 hk9 (by omega)
 have y3 := (HSH.out.nxt HU1.out).c k 3 hk9 (by omega)
 have y4 := (HSH.out.nxt HU1.out).c k 4 hk9 (by omega)
 have y5 := (HSH.out.nxt HU1.out).c k 5 hk9 (by omega)
 have y6 := (HSH.out.nxt HU1.out).c k 6 hk9 (by omega)
 have y7 := (HSH.out.nxt HU1.out).c k 7 hk9 (by omega)
 have y8 := (HSH.out.nxt HU1.out).c k 8 hk9 (by omega)
 have y9 := (HSH.out.nxt HU1.out).c k 9 hk9 (by omega)
 have y10 := (HSH.out.nxt HU1.out).c k 10 hk9 (by omega)
 have y11 := (HSH.out.nxt HU1.out).c k 11 hk9 (by omega)
 have y12 := (HSH.out.nxt HU1.out).c k 12 hk9 (by omega)
 have y13 := (HSH.out.nxt HU1.out).c k 13 hk9 (by omega)
 have y14 := (HSH.out.nxt HU1.out).c k 14 hk9 (by omega)
 rw [Nat.add_zero] at y0
 generalize w.heap.size = p at hb hlt ⊢
 have x0 : w1.cell? ⟨p, 0, none⟩ = some (.int .i64 (k : Nat)) := by simp [World.cell?, hb, hC]
 clear hk9
 go_wp2_with fail
 obtain ⟨W2, hW2⟩ : ∃ W, W = w1.alloc (.cells #[.int .i64 (sh k 0), .int .i64 (sh k 1), .int .i64 (sh k 2), .int .i64 (sh k 3), .int .i64 (sh k 4), .int .i64 (sh k 5), .int .i64 (sh k 6), .int .i64 (sh k 7), .int .i64 (sh k 8), .int .i64 (sh k 9), .int .i64 (sh k 10), .int .i64 (sh k 11), .int .i64 (sh k 12), .int .i64 (sh k 13), .int .i64 (sh k 14)] 53) := ⟨_, rfl⟩
 have U2 : Hid (Up Nul w1 W2) := by show Up _ _ _; rw [hW2]; exact (Up.refl Nul w1).alloc _
 have hq : W2.heap[w1.heap.size]? = some (.cells #[.int .i64 (sh k 0), .int .i64 (sh k 1), .int .i64 (sh k 2), .int .i64 (sh k 3), .int .i64 (sh k 4), .int .i64 (sh k 5), .int .i64 (sh k 6), .int .i64 (sh k 7), .int .i64 (sh k 8), .int .i64 (sh k 9), .int .i64 (sh k 10), .int .i64 (sh k 11), .int .i64 (sh k 12), .int .i64 (sh k 13), .int .i64 (sh k 14)] 53 (0, 0)) := by rw [hW2]; exact heap_alloc_new _ _
 have hp := (U2.out.block p hlt id).trans hb
 rw [hC] at hp
 have hq2 : w1.heap.size < W2.heap.size := by rw [hW2]; simp
 have hp2 := Nat.lt_of_lt_of_le hlt U2.out.size
 have U3 := hid (HU1.out.trans U2.out)
 rw [← hW2]
 clear hW2 x0 y0 y1 y2 y3 y4 y5 y6 y7 y8 y9 y10 y11 y12 y13 y14 hb U2 HU1 hlt
 generalize w1.heap.size = q at hq hq2 ⊢
 have Hp1 := celN 1 (.string s) hp2 hp rfl
 have Hp2 := celN 2 (.int .i64 n) hp2 hp rfl
 have Hp3 := celN 3 (.int .i64 sid) hp2 hp rfl
 have Hp4 := celN 4 (.slice sa ns cs) hp2 hp rfl
 have Hp5 := celN 5 (.int .i64 co) hp2 hp rfl
 have Hp6 := celN 6 (.slice la nl cl) hp2 hp rfl
 have Hp7 := celN 7 (.int .i64 t.hot) hp2 hp rfl
 have Hp8 := celN 8 (.int .i64 t.warm) hp2 hp rfl
 have Hp9 := celN 9 (.int .i64 t.gap) hp2 hp rfl
 have Hp10 := celN 10 (.int .i64 t.add) hp2 hp rfl
 have Hp11 := celN 11 (.int .i64 t.top) hp2 hp rfl
 have Hp12 := celN 12 (.int .i64 t.half) hp2 hp rfl
 have Hq0 := celN 0 (.int .i64 (sh k 0)) hq2 hq rfl
 have Hq1 := celN 1 (.int .i64 (sh k 1)) hq2 hq rfl
 have Hq2 := celN 2 (.int .i64 (sh k 2)) hq2 hq rfl
 have Hq3 := celN 3 (.int .i64 (sh k 3)) hq2 hq rfl
 have Hq4 := celN 4 (.int .i64 (sh k 4)) hq2 hq rfl
 have Hq5 := celN 5 (.int .i64 (sh k 5)) hq2 hq rfl
 have Hq6 := celN 6 (.int .i64 (sh k 6)) hq2 hq rfl
 have Hq7 := celN 7 (.int .i64 (sh k 7)) hq2 hq rfl
 have Hq8 := celN 8 (.int .i64 (sh k 8)) hq2 hq rfl
 have Hq9 := celN 9 (.int .i64 (sh k 9)) hq2 hq rfl
 have Hq10 := celN 10 (.int .i64 (sh k 10)) hq2 hq rfl
 have Hq11 := celN 11 (.int .i64 (sh k 11)) hq2 hq rfl
 have Hq12 := celN 12 (.int .i64 (sh k 12)) hq2 hq rfl
 have Hq13 := celN 13 (.int .i64 (sh k 13)) hq2 hq rfl
 have Hq14 := celN 14 (.int .i64 (sh k 14)) hq2 hq rfl
 clear hp hq hp2 hq2
 have HR := hid (Up.refl Nul W2)
 simp only [List.append]
 refine wp_region_held_drew (S := (fun W => Up Nul W2 W)) (by kernel_rfl) (by exact HR.out.drew) (fun hHeld => ?_)
 refine tkl 0 (some 12) ?vk3n1u1 rfl ?yk3n1u1 ?rk3n1u1
 case yk3n1u1 => (intro w hSw; (try dsimp only at hSw); go_simp; try with_reducible rfl)
 try simp only [tdy]
 refine tkl 1 (some 13) ?vk3x2 rfl ?yk3x2 ?rk3x2
 case yk3x2 => (intro w hSw; have aq0 := Hq0.out w hSw; have aq1 := Hq1.out w hSw; go_simp; try with_reducible rfl)
 try simp only [tdy]
 refine tkl 2 (some 14) ?vk3n3u1 rfl ?yk3n3u1 ?rk3n3u1
 case yk3n3u1 => (intro w hSw; (try dsimp only at hSw); go_simp; try with_reducible rfl)
 try simp only [tdy]
 refine tkl 3 (some 15) ?vk3x4 rfl ?yk3x4 ?rk3x4
 case yk3x4 => (intro w hSw; have ap1 := Hp1.out w hSw; go_simp; try with_reducible rfl)
 try simp only [tdy]
 refine tkl 4 (some 16) ?vk3n5u1 rfl ?yk3n5u1 ?rk3n5u1
 case yk3n5u1 => (intro w hSw; (try dsimp only at hSw); go_simp; try with_reducible rfl)
 try simp only [tdy]
 refine one 5 (some 17) rfl (fun K hK => ?_)
 go_simp
 skip
 refine hK.out _ _ ?kk3n6u1 (fun hHeld => ?_)
 case kk3n6u1 => exact (by first | exact Up.alloc (show Up Nul W2 _ from hHeld) _ | exact (Up.alloc (show Up Nul W2 _ from HR.out) _).drew)
 clear hK K
 try simp only [tdy]
 refine one 6 (some 18) rfl (fun K hK => ?_)
 go_simp
 go_at_call 20; refine (HH.out.h1 _ (U3.out.trans (show Up Nul W2 _ from hHeld)) _ (by first | exact World.cell?_alloc_new _ _ _ 0 | (simp; done) | go_simp)).mono ?_; rintro e wb ⟨rfl, kb⟩
 refine hK.out _ _ ?kk3n7u1 (fun hHeld => ?_)
 case kk3n7u1 => exact (Up.trans (show Up Nul W2 _ from hHeld) kb)
 clear hK K
 try simp only [tdy]
 refine tkl 7 (some 19) ?vk3n8u1 rfl ?yk3n8u1 ?rk3n8u1
 case yk3n8u1 => (intro w hSw; (try dsimp only at hSw); go_simp; try with_reducible rfl)
 try simp only [tdy]
 refine tkl 8 (some 20) ?vk3n9u1 rfl ?yk3n9u1 ?rk3n9u1
 case yk3n9u1 => (intro w hSw; (try dsimp only at hSw); go_simp; try with_reducible rfl)
 try simp only [tdy]
 refine tkl 9 (some 21) ?vk3x10 rfl ?yk3x10 ?rk3x10
 case yk3x10 => (intro w hSw; have ap1 := Hp1.out w hSw; go_simp; try with_reducible rfl)
 try simp only [tdy]
 refine one 10 (some 22) rfl (fun K hK => ?_)
 go_simp
 go_at_call 21; refine (HH.out.h2 _).mono ?_; rintro e wb ⟨rfl, kb⟩
 refine hK.out _ _ ?kk3n11u1 (fun hHeld => ?_)
 case kk3n11u1 => exact (Up.trans (show Up Nul W2 _ from hHeld) kb)
 clear hK K
 try simp only [tdy]
 refine tkl 11 (some 23) ?vk3n12u1 rfl ?yk3n12u1 ?rk3n12u1
 case yk3n12u1 => (intro w hSw; (try dsimp only at hSw); go_simp; try with_reducible rfl)
 try simp only [tdy]
 refine tkl 12 (some 24) ?vk3n13u1 rfl ?yk3n13u1 ?rk3n13u1
 case yk3n13u1 => (intro w hSw; (try dsimp only at hSw); go_simp; try with_reducible rfl)
 try simp only [tdy]
 refine tkl 13 (some 25) ?vk3n14u1 rfl ?yk3n14u1 ?rk3n14u1
 case yk3n14u1 => (intro w hSw; (try dsimp only at hSw); go_simp; try with_reducible rfl)
 try simp only [tdy]
 refine tkl 14 (some 26) ?vk3x15 rfl ?yk3x15 ?rk3x15
 case yk3x15 => (intro w hSw; have aq2 := Hq2.out w hSw; have aq3 := Hq3.out w hSw; go_simp; try with_reducible rfl)
 try simp only [tdy]
 refine tkl 15 (some 27) ?vk3n16u1 rfl ?yk3n16u1 ?rk3n16u1
 case yk3n16u1 => (intro w hSw; (try dsimp only at hSw); go_simp; try with_reducible rfl)
 try simp only [tdy]
 refine tkl 16 (some 28) ?vk3x17 rfl ?yk3x17 ?rk3x17
 case yk3x17 => (intro w hSw; have ap2 := Hp2.out w hSw; go_simp; try with_reducible rfl)
 try simp only [tdy]
 refine one 17 (some 29) rfl (fun K hK => ?_)
 go_simp
 skip
 refine hK.out _ _ ?kk3n18u1 (fun hHeld => ?_)
 case kk3n18u1 => exact (by first | exact Up.alloc (show Up Nul W2 _ from hHeld) _ | exact (Up.alloc (show Up Nul W2 _ from HR.out) _).drew)
 clear hK K
 try simp only [tdy]
 refine one 18 (some 30) rfl (fun K hK => ?_)
 go_simp
 go_at_call 20; refine (HH.out.h3 _ (U3.out.trans (show Up Nul W2 _ from hHeld)) _ (by first | exact World.cell?_alloc_new _ _ _ 0 | (simp; done) | go_simp)).mono ?_; rintro e wb ⟨rfl, kb⟩
 refine hK.out _ _ ?kk3n19u1 (fun hHeld => ?_)
 case kk3n19u1 => exact (Up.trans (show Up Nul W2 _ from hHeld) kb)
 clear hK K
 try simp only [tdy]
 refine tkl 19 (some 31) ?vk3n20u1 rfl ?yk3n20u1 ?rk3n20u1
 case yk3n20u1 => (intro w hSw; (try dsimp only at hSw); go_simp; try with_reducible rfl)
 try simp only [tdy]
 refine tkl 20 (some 32) ?vk3n21u1 rfl ?yk3n21u1 ?rk3n21u1
 case yk3n21u1 => (intro w hSw; (try dsimp only at hSw); go_simp; try with_reducible rfl)
 try simp only [tdy]
 refine tku 21 (some 33) rfl ?rk3n22u1
 try simp only [tdy]
 refine tku 22 (some 34) rfl ?rk3n23u1
 try simp only [tdy]
 refine tku 23 (some 35) rfl ?rk3n24u1
 try simp only [tdy]
 refine tku 24 (some 36) rfl ?rk3n25u1
 try simp only [tdy]
 refine tku 25 (some 37) rfl ?rk3n26u1
 try simp only [tdy]
 refine tku 26 (some 38) rfl ?rk3n27u1
 try simp only [tdy]
 refine tkl 27 (some 39) ?vk3n28u1 rfl ?yk3n28u1 ?rk3n28u1
 case yk3n28u1 => (intro w hSw; (try dsimp only at hSw); go_simp; try with_reducible rfl)
 try simp only [tdy]
 refine tkl 28 (some 40) ?vk3n29u1 rfl ?yk3n29u1 ?rk3n29u1
 case yk3n29u1 => (intro w hSw; (try dsimp only at hSw); go_simp; try with_reducible rfl)
 try simp only [tdy]
 refine tku 29 (some 41) rfl ?rk3n30u1
 try simp only [tdy]
 refine tku 30 (some 42) rfl ?rk3n31u1
 try simp only [tdy]
 refine tku 31 (some 43) rfl ?rk3n32u1
 try simp only [tdy]
 refine tku 32 (some 44) rfl ?rk3n33u1
 try simp only [tdy]
 refine tku 33 (some 45) rfl ?rk3n34u1
 try simp only [tdy]
 refine tku 34 (some 46) rfl ?rk3n35u1
 try simp only [tdy]
 refine tkl 35 (some 47) ?vk3n36u1 rfl ?yk3n36u1 ?rk3n36u1
 case yk3n36u1 => (intro w hSw; (try dsimp only at hSw); go_simp; try with_reducible rfl)
 try simp only [tdy]
 refine tkl 36 (some 48) ?vk3n37u1 rfl ?yk3n37u1 ?rk3n37u1
 case yk3n37u1 => (intro w hSw; (try dsimp only at hSw); go_simp; try with_reducible rfl)
 try simp only [tdy]
 refine tku 37 (some 49) rfl ?rk3n38u1
 try simp only [tdy]
 refine tku 38 (some 50) rfl ?rk3n39u1
 try simp only [tdy]
 refine tku 39 (some 51) rfl ?rk3n40u1
 try simp only [tdy]
 refine tku 40 (some 52) rfl ?rk3n41u1
 try simp only [tdy]
 refine tku 41 (some 53) rfl ?rk3n42u1
 try simp only [tdy]
 refine tku 42 (some 54) rfl ?rk3n43u1
 try simp only [tdy]
 refine tkl 43 (some 55) ?vk3n44u1 rfl ?yk3n44u1 ?rk3n44u1
 case yk3n44u1 => (intro w hSw; (try dsimp only at hSw); go_simp; try with_reducible rfl)
 try simp only [tdy]
 refine tkl 44 (some 56) ?vk3n45u1 rfl ?yk3n45u1 ?rk3n45u1
 case yk3n45u1 => (intro w hSw; (try dsimp only at hSw); go_simp; try with_reducible rfl)
 try simp only [tdy]
 refine tku 45 (some 57) rfl ?rk3n46u1
 try simp only [tdy]
 refine tku 46 (some 58) rfl ?rk3n47u1
 try simp only [tdy]
 refine tku 47 (some 59) rfl ?rk3n48u1
 try simp only [tdy]
 refine tku 48 (some 60) rfl ?rk3n49u1
 try simp only [tdy]
 refine tku 49 (some 61) rfl ?rk3n50u1
 try simp only [tdy]
 refine tkl 50 (some 62) ?vk3n51u1 rfl ?yk3n51u1 ?rk3n51u1
 case yk3n51u1 => (intro w hSw; (try dsimp only at hSw); go_simp; try with_reducible rfl)
 try simp only [tdy]
 refine tkl 51 (some 63) ?vk3n52u1 rfl ?yk3n52u1 ?rk3n52u1
 case yk3n52u1 => (intro w hSw; (try dsimp only at hSw); go_simp; try with_reducible rfl)
 try simp only [tdy]
 refine tku 52 (some 64) rfl ?rk3n53u1
 try simp only [tdy]
 refine tku 53 (some 65) rfl ?rk3n54u1
 try simp only [tdy]
 refine tku 54 (some 66) rfl ?rk3n55u1
 try simp only [tdy]
 refine tku 55 (some 67) rfl ?rk3n56u1
 try simp only [tdy]
 refine tku 56 (some 68) rfl ?rk3n57u1
 try simp only [tdy]
 refine tku 57 (some 69) rfl ?rk3n58u1
 try simp only [tdy]
 refine tku 58 (some 70) rfl ?rk3n59u1
 try simp only [tdy]
 refine tku 59 (some 71) rfl ?rk3n60u1
 try simp only [tdy]
 refine tkl 60 (some 72) ?vk3n61u1 rfl ?yk3n61u1 ?rk3n61u1
 case yk3n61u1 => (intro w hSw; (try dsimp only at hSw); go_simp; try with_reducible rfl)
 try simp only [tdy]
 refine tkl 61 (some 73) ?vk3n62u1 rfl ?yk3n62u1 ?rk3n62u1
 case yk3n62u1 => (intro w hSw; (try dsimp only at hSw); go_simp; try with_reducible rfl)
 try simp only [tdy]
 refine tku 62 (some 74) rfl ?rk3n63u1
 try simp only [tdy]
 refine tku 63 (some 75) rfl ?rk3n64u1
 try simp only [tdy]
 refine tku 64 (some 76) rfl ?rk3n65u1
 try simp only [tdy]
 refine tku 65 (some 77) rfl ?rk3n66u1
 try simp only [tdy]
 refine tkl 66 (some 78) ?vk3n67u1 rfl ?yk3n67u1 ?rk3n67u1
 case yk3n67u1 => (intro w hSw; (try dsimp only at hSw); go_simp; try with_reducible rfl)
 try simp only [tdy]
 refine tkl 67 (some 79) ?vk3n68u1 rfl ?yk3n68u1 ?rk3n68u1
 case yk3n68u1 => (intro w hSw; (try dsimp only at hSw); go_simp; try with_reducible rfl)
 try simp only [tdy]
 refine tku 68 (some 80) rfl ?rk3n69u1
 try simp only [tdy]
 refine tku 69 (some 81) rfl ?rk3n70u1
 try simp only [tdy]
 refine tku 70 (some 82) rfl ?rk3n71u1
 try simp only [tdy]
 refine tku 71 (some 83) rfl ?rk3n72u1
 try simp only [tdy]
 refine tku 72 (some 84) rfl ?rk3n73u1
 try simp only [tdy]
 refine tku 73 (some 85) rfl ?rk3n74u1
 try simp only [tdy]
 refine tkl 74 (some 86) ?vk3n75u1 rfl ?yk3n75u1 ?rk3n75u1
 case yk3n75u1 => (intro w hSw; (try dsimp only at hSw); go_simp; try with_reducible rfl)
 try simp only [tdy]
 refine tkl 75 (some 2) ?vk3n76u1 rfl ?yk3n76u1 ?rk3n76u1
 case yk3n76u1 => (intro w hSw; (try dsimp only at hSw); go_simp; try with_reducible rfl)
 try simp only [tdy]
 refine wpAnyH_done (by kernel_rfl) ?_ _
 have HE := hid (U3.out.trans (show Up Nul W2 _ from hHeld))
 clear hHeld
 go_wp2
 go_ret
 exact ⟨by first | rfl | simp, HE.out⟩
end Go.Proofs.YtpdkcpjofofkoaaDoor
