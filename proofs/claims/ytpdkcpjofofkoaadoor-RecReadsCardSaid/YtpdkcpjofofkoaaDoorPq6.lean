/- 'Ok', by the first of its parts that is false. -/
import Derived.Test.YtpdkcpjofofkoaaDoorPkTidy
import Derived.Test.YtpdkcpjofofkoaaDoorPq4
import Derived.Test.YtpdkcpjofofkoaaDoorPq1
namespace Go.Proofs.YtpdkcpjofofkoaaDoor
open Go.RowKit
set_option linter.unusedVariables false
set_option linter.unusedSimpArgs false
set_option maxRecDepth 100000 in
set_option maxHeartbeats 4000000 in
theorem ok_case4 (w : World) (s : ByteArray) (n sid co : Int) (sa : Option Addr) (ns cs : Nat) (la : Option Addr) (nl cl : Nat) (t : Tb) (k : Nat) (c1 c2 c3 c4 c5 c6 c7 c8 c9 c10 : Bool) (hk : spn 1 8 (k : Int) = true) (hS : Shp w) (hc1 : c1 = true) (hc2 : c2 = true) (hc3 : c3 = true) (hc4 : c4 = false)
  (H : OkC w s n sid co sa ns cs la nl cl t k c1 c2 c3 c4 c5 c6 c7 c8 c9 c10) :
  Calls Tryd.prog 8 #[.agg #[.int .i64 (k : Nat), .string s, .int .i64 n, .int .i64 sid, .slice sa ns cs, .int .i64 co, .slice la nl cl, .int .i64 t.hot, .int .i64 t.warm, .int .i64 t.gap, .int .i64 t.add, .int .i64 t.top, .int .i64 t.half]] w
   fun e w' => e = .returned (.bool (c1 && c2 && c3 && c4 && c5 && c6 && c7 && c8 && c9 && c10)) ∧ Up Nul w w' := by
 subst hc1 hc2 hc3 hc4
 have HK := hid (fun W => kind_any (k : Int) W)
 rw [hk] at HK
 have hk9 : k < 9 := by
  unfold spn at hk
  simp at hk
  omega
 have i0 : (0 : Int) ≤ (k : Int) := by omega
 have i1 : (k : Int) < 9 := by omega
 have HH := hid H
 clear H
 obtain ⟨C, hC⟩ : ∃ C : Array Value, C = #[.int .i64 (k : Nat), .string s, .int .i64 n, .int .i64 sid, .slice sa ns cs, .int .i64 co, .slice la nl cl, .int .i64 t.hot, .int .i64 t.warm, .int .i64 t.gap, .int .i64 t.add, .int .i64 t.top, .int .i64 t.half] := ⟨_, rfl⟩
 have HUA := hid ((Up.refl Nul w).alloc (.cells C 27))
 have HBA : Hid ((w.alloc (.cells C 27)).heap[w.heap.size]? = some (.cells C 27 (0, 0))) := heap_alloc_new _ _
 have HLT : Hid (w.heap.size < (w.alloc (.cells C 27)).heap.size) := by show _ < _; simp
 have HSH := hid hS
 go_enter Tryd.func8, Tryd.ntmps8
 go_wp2_with fail
 rw [← hC]
 refine (HK.out _).mono ?_
 rintro e w1 ⟨rfl, u1⟩
 have hb := (u1.block _ HLT.out id).trans HBA.out
 have HU1 := hid (HUA.out.trans u1)
 have hlt := Nat.lt_of_lt_of_le HLT.out u1.size
 clear u1 HBA HUA HLT
 have y0 := (HSH.out.nxt HU1.out).c k 0 hk9 (by omega)
 have y1 := (HSH.out.nxt HU1.out).c k 1 hk9 (by omega)
 have y2 := (HSH.out.nxt HU1.out).c k 2 hk9 (by omega)
 have y3 := (HSH.out.nxt HU1.out).c k 3 hk9 (by omega)
 have y4 := (HSH.out.nxt HU1.out).c k 4 hk9 (by omega)
 have y5 := (HSH.out.nxt HU1.out).c k 5 hk9 (by omega)
 have y6 := (HSH.out.nxt HU1.out).c k 6 hk9 (by omega)
 have y7 := (HSH.out.nxt HU1.out).c k 7 hk9 (by omega)
 have y8 := (HSH.out.nxt HU1.out).c k 8 hk9 (by omega)
 have y9 := (HSH.out.nxt HU1.out).c k 9 hk9 (by omega)
 have y10 := (HSH.out.nxt HU1.out).c k 10 hk9 (by omega)
 have y11 := (HSH.out.nxt HU1.out).c k 11 hk9 (by omega)
 have y12 := (HSH.out.nxt HU1.out).c k 12 hk9 (by omega)
 have y13 := (HSH.out.nxt HU1.out).c k 13 hk9 (by omega)
 have y14 := (HSH.out.nxt HU1.out).c k 14 hk9 (by omega)
 rw [Nat.add_zero] at y0
 generalize w.heap.size = p at hb hlt ⊢
 have x0 : w1.cell? ⟨p, 0, none⟩ = some (.int .i64 (k : Nat)) := by simp [World.cell?, hb, hC]
 clear hk9
 go_wp2_with fail
 obtain ⟨W2, hW2⟩ : ∃ W, W = w1.alloc (.cells #[.int .i64 (sh k 0), .int .i64 (sh k 1), .int .i64 (sh k 2), .int .i64 (sh k 3), .int .i64 (sh k 4), .int .i64 (sh k 5), .int .i64 (sh k 6), .int .i64 (sh k 7), .int .i64 (sh k 8), .int .i64 (sh k 9), .int .i64 (sh k 10), .int .i64 (sh k 11), .int .i64 (sh k 12), .int .i64 (sh k 13), .int .i64 (sh k 14)] 53) := ⟨_, rfl⟩
 have U2 : Hid (Up Nul w1 W2) := by show Up _ _ _; rw [hW2]; exact (Up.refl Nul w1).alloc _
 have hq : W2.heap[w1.heap.size]? = some (.cells #[.int .i64 (sh k 0), .int .i64 (sh k 1), .int .i64 (sh k 2), .int .i64 (sh k 3), .int .i64 (sh k 4), .int .i64 (sh k 5), .int .i64 (sh k 6), .int .i64 (sh k 7), .int .i64 (sh k 8), .int .i64 (sh k 9), .int .i64 (sh k 10), .int .i64 (sh k 11), .int .i64 (sh k 12), .int .i64 (sh k 13), .int .i64 (sh k 14)] 53 (0, 0)) := by rw [hW2]; exact heap_alloc_new _ _
 have hp := (U2.out.block p hlt id).trans hb
 rw [hC] at hp
 have hq2 : w1.heap.size < W2.heap.size := by rw [hW2]; simp
 have hp2 := Nat.lt_of_lt_of_le hlt U2.out.size
 have U3 := hid (HU1.out.trans U2.out)
 rw [← hW2]
 clear hW2 x0 y0 y1 y2 y3 y4 y5 y6 y7 y8 y9 y10 y11 y12 y13 y14 hb U2 HU1 hlt
 generalize w1.heap.size = q at hq hq2 ⊢
 have Hp1 := celN 1 (.string s) hp2 hp rfl
 have Hp2 := celN 2 (.int .i64 n) hp2 hp rfl
 have Hp3 := celN 3 (.int .i64 sid) hp2 hp rfl
 have Hp4 := celN 4 (.slice sa ns cs) hp2 hp rfl
 have Hp5 := celN 5 (.int .i64 co) hp2 hp rfl
 have Hp6 := celN 6 (.slice la nl cl) hp2 hp rfl
 have Hp7 := celN 7 (.int .i64 t.hot) hp2 hp rfl
 have Hp8 := celN 8 (.int .i64 t.warm) hp2 hp rfl
 have Hp9 := celN 9 (.int .i64 t.gap) hp2 hp rfl
 have Hp10 := celN 10 (.int .i64 t.add) hp2 hp rfl
 have Hp11 := celN 11 (.int .i64 t.top) hp2 hp rfl
 have Hp12 := celN 12 (.int .i64 t.half) hp2 hp rfl
 have Hq0 := celN 0 (.int .i64 (sh k 0)) hq2 hq rfl
 have Hq1 := celN 1 (.int .i64 (sh k 1)) hq2 hq rfl
 have Hq2 := celN 2 (.int .i64 (sh k 2)) hq2 hq rfl
 have Hq3 := celN 3 (.int .i64 (sh k 3)) hq2 hq rfl
 have Hq4 := celN 4 (.int .i64 (sh k 4)) hq2 hq rfl
 have Hq5 := celN 5 (.int .i64 (sh k 5)) hq2 hq rfl
 have Hq6 := celN 6 (.int .i64 (sh k 6)) hq2 hq rfl
 have Hq7 := celN 7 (.int .i64 (sh k 7)) hq2 hq rfl
 have Hq8 := celN 8 (.int .i64 (sh k 8)) hq2 hq rfl
 have Hq9 := celN 9 (.int .i64 (sh k 9)) hq2 hq rfl
 have Hq10 := celN 10 (.int .i64 (sh k 10)) hq2 hq rfl
 have Hq11 := celN 11 (.int .i64 (sh k 11)) hq2 hq rfl
 have Hq12 := celN 12 (.int .i64 (sh k 12)) hq2 hq rfl
 have Hq13 := celN 13 (.int .i64 (sh k 13)) hq2 hq rfl
 have Hq14 := celN 14 (.int .i64 (sh k 14)) hq2 hq rfl
 clear hp hq hp2 hq2
 have HR := hid (Up.refl Nul W2)
 simp only [List.append]
 refine wp_region_held_drew (S := (fun W => Up Nul W2 W)) (by kernel_rfl) (by exact HR.out.drew) (fun hHeld => ?_)
 refine tkl 0 (some 12) ?vk4n1u1 rfl ?yk4n1u1 ?rk4n1u1
 case yk4n1u1 => (intro w hSw; (try dsimp only at hSw); go_simp; try with_reducible rfl)
 try simp only [tdy]
 refine tkl 1 (some 13) ?vk4x2 rfl ?yk4x2 ?rk4x2
 case yk4x2 => (intro w hSw; have aq0 := Hq0.out w hSw; have aq1 := Hq1.out w hSw; go_simp; try with_reducible rfl)
 try simp only [tdy]
 refine tkl 2 (some 14) ?vk4n3u1 rfl ?yk4n3u1 ?rk4n3u1
 case yk4n3u1 => (intro w hSw; (try dsimp only at hSw); go_simp; try with_reducible rfl)
 try simp only [tdy]
 refine tkl 3 (some 15) ?vk4x4 rfl ?yk4x4 ?rk4x4
 case yk4x4 => (intro w hSw; have ap1 := Hp1.out w hSw; go_simp; try with_reducible rfl)
 try simp only [tdy]
 refine tkl 4 (some 16) ?vk4n5u1 rfl ?yk4n5u1 ?rk4n5u1
 case yk4n5u1 => (intro w hSw; (try dsimp only at hSw); go_simp; try with_reducible rfl)
 try simp only [tdy]
 refine one 5 (some 17) rfl (fun K hK => ?_)
 go_simp
 skip
 refine hK.out _ _ ?kk4n6u1 (fun hHeld => ?_)
 case kk4n6u1 => exact (by first | exact Up.alloc (show Up Nul W2 _ from hHeld) _ | exact (Up.alloc (show Up Nul W2 _ from HR.out) _).drew)
 clear hK K
 try simp only [tdy]
 refine one 6 (some 18) rfl (fun K hK => ?_)
 go_simp
 go_at_call 20; refine (HH.out.h1 _ (U3.out.trans (show Up Nul W2 _ from hHeld)) _ (by first | exact World.cell?_alloc_new _ _ _ 0 | (simp; done) | go_simp)).mono ?_; rintro e wb ⟨rfl, kb⟩
 refine hK.out _ _ ?kk4n7u1 (fun hHeld => ?_)
 case kk4n7u1 => exact (Up.trans (show Up Nul W2 _ from hHeld) kb)
 clear hK K
 try simp only [tdy]
 refine tkl 7 (some 19) ?vk4n8u1 rfl ?yk4n8u1 ?rk4n8u1
 case yk4n8u1 => (intro w hSw; (try dsimp only at hSw); go_simp; try with_reducible rfl)
 try simp only [tdy]
 refine tkl 8 (some 20) ?vk4n9u1 rfl ?yk4n9u1 ?rk4n9u1
 case yk4n9u1 => (intro w hSw; (try dsimp only at hSw); go_simp; try with_reducible rfl)
 try simp only [tdy]
 refine tkl 9 (some 21) ?vk4x10 rfl ?yk4x10 ?rk4x10
 case yk4x10 => (intro w hSw; have ap1 := Hp1.out w hSw; go_simp; try with_reducible rfl)
 try simp only [tdy]
 refine one 10 (some 22) rfl (fun K hK => ?_)
 go_simp
 go_at_call 21; refine (HH.out.h2 _).mono ?_; rintro e wb ⟨rfl, kb⟩
 refine hK.out _ _ ?kk4n11u1 (fun hHeld => ?_)
 case kk4n11u1 => exact (Up.trans (show Up Nul W2 _ from hHeld) kb)
 clear hK K
 try simp only [tdy]
 refine tkl 11 (some 23) ?vk4n12u1 rfl ?yk4n12u1 ?rk4n12u1
 case yk4n12u1 => (intro w hSw; (try dsimp only at hSw); go_simp; try with_reducible rfl)
 try simp only [tdy]
 refine tkl 12 (some 24) ?vk4n13u1 rfl ?yk4n13u1 ?rk4n13u1
 case yk4n13u1 => (intro w hSw; (try dsimp only at hSw); go_simp; try with_reducible rfl)
 try simp only [tdy]
 refine tkl 13 (some 25) ?vk4n14u1 rfl ?yk4n14u1 ?rk4n14u1
 case yk4n14u1 => (intro w hSw; (try dsimp only at hSw); go_simp; try with_reducible rfl)
 try simp only [tdy]
 refine tkl 14 (some 26) ?vk4x15 rfl ?yk4x15 ?rk4x15
 case yk4x15 => (intro w hSw; have aq2 := Hq2.out w hSw; have aq3 := Hq3.out w hSw; go_simp; try with_reducible rfl)
 try simp only [tdy]
 refine tkl 15 (some 27) ?vk4n16u1 rfl ?yk4n16u1 ?rk4n16u1
 case yk4n16u1 => (intro w hSw; (try dsimp only at hSw); go_simp; try with_reducible rfl)
 try simp only [tdy]
 refine tkl 16 (some 28) ?vk4x17 rfl ?yk4x17 ?rk4x17
 case yk4x17 => (intro w hSw; have ap2 := Hp2.out w hSw; go_simp; try with_reducible rfl)
 try simp only [tdy]
 refine one 17 (some 29) rfl (fun K hK => ?_)
 go_simp
 skip
 refine hK.out _ _ ?kk4n18u1 (fun hHeld => ?_)
 case kk4n18u1 => exact (by first | exact Up.alloc (show Up Nul W2 _ from hHeld) _ | exact (Up.alloc (show Up Nul W2 _ from HR.out) _).drew)
 clear hK K
 try simp only [tdy]
 refine one 18 (some 30) rfl (fun K hK => ?_)
 go_simp
 go_at_call 20; refine (HH.out.h3 _ (U3.out.trans (show Up Nul W2 _ from hHeld)) _ (by first | exact World.cell?_alloc_new _ _ _ 0 | (simp; done) | go_simp)).mono ?_; rintro e wb ⟨rfl, kb⟩
 refine hK.out _ _ ?kk4n19u1 (fun hHeld => ?_)
 case kk4n19u1 => exact (Up.trans (show Up Nul W2 _ from hHeld) kb)
 clear hK K
 try simp only [tdy]
 refine tkl 19 (some 31) ?vk4n20u1 rfl ?yk4n20u1 ?rk4n20u1
 case yk4n20u1 => (intro w hSw; (try dsimp only at hSw); go_simp; try with_reducible rfl)
 try simp only [tdy]
 refine tkl 20 (some 32) ?vk4n21u1 rfl ?yk4n21u1 ?rk4n21u1
 case yk4n21u1 => (intro w hSw; (try dsimp only at hSw); go_simp; try with_reducible rfl)
 try simp only [tdy]
 refine tkl 21 (some 33) ?vk4n22u1 rfl ?yk4n22u1 ?rk4n22u1
 case yk4n22u1 => (intro w hSw; (try dsimp only at hSw); go_simp; try with_reducible rfl)
 try simp only [tdy]
 refine tkl 22 (some 34) ?vk4x23 rfl ?yk4x23 ?rk4x23
 case yk4x23 => (intro w hSw; have aq4 := Hq4.out w hSw; have aq5 := Hq5.out w hSw; go_simp; try with_reducible rfl)
 try simp only [tdy]
 refine tkl 23 (some 35) ?vk4n24u1 rfl ?yk4n24u1 ?rk4n24u1
 case yk4n24u1 => (intro w hSw; (try dsimp only at hSw); go_simp; try with_reducible rfl)
 try simp only [tdy]
 refine tkl 24 (some 36) ?vk4x25 rfl ?yk4x25 ?rk4x25
 case yk4x25 => (intro w hSw; have ap3 := Hp3.out w hSw; go_simp; try with_reducible rfl)
 try simp only [tdy]
 refine one 25 (some 37) rfl (fun K hK => ?_)
 go_simp
 skip
 refine hK.out _ _ ?kk4n26u1 (fun hHeld => ?_)
 case kk4n26u1 => exact (by first | exact Up.alloc (show Up Nul W2 _ from hHeld) _ | exact (Up.alloc (show Up Nul W2 _ from HR.out) _).drew)
 clear hK K
 try simp only [tdy]
 refine one 26 (some 38) rfl (fun K hK => ?_)
 go_simp
 go_at_call 20; refine (HH.out.h4 _ (U3.out.trans (show Up Nul W2 _ from hHeld)) _ (by first | exact World.cell?_alloc_new _ _ _ 0 | (simp; done) | go_simp)).mono ?_; rintro e wb ⟨rfl, kb⟩
 refine hK.out _ _ ?kk4n27u1 (fun hHeld => ?_)
 case kk4n27u1 => exact (Up.trans (show Up Nul W2 _ from hHeld) kb)
 clear hK K
 try simp only [tdy]
 refine tkl 27 (some 39) ?vk4n28u1 rfl ?yk4n28u1 ?rk4n28u1
 case yk4n28u1 => (intro w hSw; (try dsimp only at hSw); go_simp; try with_reducible rfl)
 try simp only [tdy]
 refine tkl 28 (some 40) ?vk4n29u1 rfl ?yk4n29u1 ?rk4n29u1
 case yk4n29u1 => (intro w hSw; (try dsimp only at hSw); go_simp; try with_reducible rfl)
 try simp only [tdy]
 refine tku 29 (some 41) rfl ?rk4n30u1
 try simp only [tdy]
 refine tku 30 (some 42) rfl ?rk4n31u1
 try simp only [tdy]
 refine tku 31 (some 43) rfl ?rk4n32u1
 try simp only [tdy]
 refine tku 32 (some 44) rfl ?rk4n33u1
 try simp only [tdy]
 refine tku 33 (some 45) rfl ?rk4n34u1
 try simp only [tdy]
 refine tku 34 (some 46) rfl ?rk4n35u1
 try simp only [tdy]
 refine tkl 35 (some 47) ?vk4n36u1 rfl ?yk4n36u1 ?rk4n36u1
 case yk4n36u1 => (intro w hSw; (try dsimp only at hSw); go_simp; try with_reducible rfl)
 try simp only [tdy]
 refine tkl 36 (some 48) ?vk4n37u1 rfl ?yk4n37u1 ?rk4n37u1
 case yk4n37u1 => (intro w hSw; (try dsimp only at hSw); go_simp; try with_reducible rfl)
 try simp only [tdy]
 refine tku 37 (some 49) rfl ?rk4n38u1
 try simp only [tdy]
 refine tku 38 (some 50) rfl ?rk4n39u1
 try simp only [tdy]
 refine tku 39 (some 51) rfl ?rk4n40u1
 try simp only [tdy]
 refine tku 40 (some 52) rfl ?rk4n41u1
 try simp only [tdy]
 refine tku 41 (some 53) rfl ?rk4n42u1
 try simp only [tdy]
 refine tku 42 (some 54) rfl ?rk4n43u1
 try simp only [tdy]
 refine tkl 43 (some 55) ?vk4n44u1 rfl ?yk4n44u1 ?rk4n44u1
 case yk4n44u1 => (intro w hSw; (try dsimp only at hSw); go_simp; try with_reducible rfl)
 try simp only [tdy]
 refine tkl 44 (some 56) ?vk4n45u1 rfl ?yk4n45u1 ?rk4n45u1
 case yk4n45u1 => (intro w hSw; (try dsimp only at hSw); go_simp; try with_reducible rfl)
 try simp only [tdy]
 refine tku 45 (some 57) rfl ?rk4n46u1
 try simp only [tdy]
 refine tku 46 (some 58) rfl ?rk4n47u1
 try simp only [tdy]
 refine tku 47 (some 59) rfl ?rk4n48u1
 try simp only [tdy]
 refine tku 48 (some 60) rfl ?rk4n49u1
 try simp only [tdy]
 refine tku 49 (some 61) rfl ?rk4n50u1
 try simp only [tdy]
 refine tkl 50 (some 62) ?vk4n51u1 rfl ?yk4n51u1 ?rk4n51u1
 case yk4n51u1 => (intro w hSw; (try dsimp only at hSw); go_simp; try with_reducible rfl)
 try simp only [tdy]
 refine tkl 51 (some 63) ?vk4n52u1 rfl ?yk4n52u1 ?rk4n52u1
 case yk4n52u1 => (intro w hSw; (try dsimp only at hSw); go_simp; try with_reducible rfl)
 try simp only [tdy]
 refine tku 52 (some 64) rfl ?rk4n53u1
 try simp only [tdy]
 refine tku 53 (some 65) rfl ?rk4n54u1
 try simp only [tdy]
 refine tku 54 (some 66) rfl ?rk4n55u1
 try simp only [tdy]
 refine tku 55 (some 67) rfl ?rk4n56u1
 try simp only [tdy]
 refine tku 56 (some 68) rfl ?rk4n57u1
 try simp only [tdy]
 refine tku 57 (some 69) rfl ?rk4n58u1
 try simp only [tdy]
 refine tku 58 (some 70) rfl ?rk4n59u1
 try simp only [tdy]
 refine tku 59 (some 71) rfl ?rk4n60u1
 try simp only [tdy]
 refine tkl 60 (some 72) ?vk4n61u1 rfl ?yk4n61u1 ?rk4n61u1
 case yk4n61u1 => (intro w hSw; (try dsimp only at hSw); go_simp; try with_reducible rfl)
 try simp only [tdy]
 refine tkl 61 (some 73) ?vk4n62u1 rfl ?yk4n62u1 ?rk4n62u1
 case yk4n62u1 => (intro w hSw; (try dsimp only at hSw); go_simp; try with_reducible rfl)
 try simp only [tdy]
 refine tku 62 (some 74) rfl ?rk4n63u1
 try simp only [tdy]
 refine tku 63 (some 75) rfl ?rk4n64u1
 try simp only [tdy]
 refine tku 64 (some 76) rfl ?rk4n65u1
 try simp only [tdy]
 refine tku 65 (some 77) rfl ?rk4n66u1
 try simp only [tdy]
 refine tkl 66 (some 78) ?vk4n67u1 rfl ?yk4n67u1 ?rk4n67u1
 case yk4n67u1 => (intro w hSw; (try dsimp only at hSw); go_simp; try with_reducible rfl)
 try simp only [tdy]
 refine tkl 67 (some 79) ?vk4n68u1 rfl ?yk4n68u1 ?rk4n68u1
 case yk4n68u1 => (intro w hSw; (try dsimp only at hSw); go_simp; try with_reducible rfl)
 try simp only [tdy]
 refine tku 68 (some 80) rfl ?rk4n69u1
 try simp only [tdy]
 refine tku 69 (some 81) rfl ?rk4n70u1
 try simp only [tdy]
 refine tku 70 (some 82) rfl ?rk4n71u1
 try simp only [tdy]
 refine tku 71 (some 83) rfl ?rk4n72u1
 try simp only [tdy]
 refine tku 72 (some 84) rfl ?rk4n73u1
 try simp only [tdy]
 refine tku 73 (some 85) rfl ?rk4n74u1
 try simp only [tdy]
 refine tkl 74 (some 86) ?vk4n75u1 rfl ?yk4n75u1 ?rk4n75u1
 case yk4n75u1 => (intro w hSw; (try dsimp only at hSw); go_simp; try with_reducible rfl)
 try simp only [tdy]
 refine tkl 75 (some 2) ?vk4n76u1 rfl ?yk4n76u1 ?rk4n76u1
 case yk4n76u1 => (intro w hSw; (try dsimp only at hSw); go_simp; try with_reducible rfl)
 try simp only [tdy]
 refine wpAnyH_done (by kernel_rfl) ?_ _
 have HE := hid (U3.out.trans (show Up Nul W2 _ from hHeld))
 clear hHeld
 go_wp2
 go_ret
 exact ⟨by first | rfl | simp, HE.out⟩
set_option maxRecDepth 100000 in
set_option maxHeartbeats 4000000 in
theorem ok_case5 (w : World) (s : ByteArray) (n sid co : Int) (sa : Option Addr) (ns cs : Nat) (la : Option Addr) (nl cl : Nat) (t : Tb) (k : Nat) (c1 c2 c3 c4 c5 c6 c7 c8 c9 c10 : Bool) (hk : spn 1 8 (k : Int) = true) (hS : Shp w) (hc1 : c1 = true) (hc2 : c2 = true) (hc3 : c3 = true) (hc4 : c4 = true) (hc5 : c5 = false)
  (H : OkC w s n sid co sa ns cs la nl cl t k c1 c2 c3 c4 c5 c6 c7 c8 c9 c10) :
  Calls Tryd.prog 8 #[.agg #[.int .i64 (k : Nat), .string s, .int .i64 n, .int .i64 sid, .slice sa ns cs, .int .i64 co, .slice la nl cl, .int .i64 t.hot, .int .i64 t.warm, .int .i64 t.gap, .int .i64 t.add, .int .i64 t.top, .int .i64 t.half]] w
   fun e w' => e = .returned (.bool (c1 && c2 && c3 && c4 && c5 && c6 && c7 && c8 && c9 && c10)) ∧ Up Nul w w' := by
 subst hc1 hc2 hc3 hc4 hc5
 have HK := hid (fun W => kind_any (k : Int) W)
 rw [hk] at HK
 have hk9 : k < 9 := by
  unfold spn at hk
  simp at hk
  omega
 have i0 : (0 : Int) ≤ (k : Int) := by omega
 have i1 : (k : Int) < 9 := by omega
 have HH := hid H
 clear H
 obtain ⟨C, hC⟩ : ∃ C : Array Value, C = #[.int .i64 (k : Nat), .string s, .int .i64 n, .int .i64 sid, .slice sa ns cs, .int .i64 co, .slice la nl cl, .int .i64 t.hot, .int .i64 t.warm, .int .i64 t.gap, .int .i64 t.add, .int .i64 t.top, .int .i64 t.half] := ⟨_, rfl⟩
 have HUA := hid ((Up.refl Nul w).alloc (.cells C 27))
 have HBA : Hid ((w.alloc (.cells C 27)).heap[w.heap.size]? = some (.cells C 27 (0, 0))) := heap_alloc_new _ _
 have HLT : Hid (w.heap.size < (w.alloc (.cells C 27)).heap.size) := by show _ < _; simp
 have HSH := hid hS
 go_enter Tryd.func8, Tryd.ntmps8
 go_wp2_with fail
 rw [← hC]
 refine (HK.out _).mono ?_
 rintro e w1 ⟨rfl, u1⟩
 have hb := (u1.block _ HLT.out id).trans HBA.out
 have HU1 := hid (HUA.out.trans u1)
 have hlt := Nat.lt_of_lt_of_le HLT.out u1.size
 clear u1 HBA HUA HLT
 have y0 := (HSH.out.nxt HU1.out).c k 0 hk9 (by omega)
 have y1 := (HSH.out.nxt HU1.out).c k 1 hk9 (by omega)
 have y2 := (HSH.out.nxt HU1.out).c k 2 hk9 (by omega)
 have y3 := (HSH.out.nxt HU1.out).c k 3 hk9 (by omega)
 have y4 := (HSH.out.nxt HU1.out).c k 4 hk9 (by omega)
 have y5 := (HSH.out.nxt HU1.out).c k 5 hk9 (by omega)
 have y6 := (HSH.out.nxt HU1.out).c k 6 hk9 (by omega)
 have y7 := (HSH.out.nxt HU1.out).c k 7 hk9 (by omega)
 have y8 := (HSH.out.nxt HU1.out).c k 8 hk9 (by omega)
 have y9 := (HSH.out.nxt HU1.out).c k 9 hk9 (by omega)
 have y10 := (HSH.out.nxt HU1.out).c k 10 hk9 (by omega)
 have y11 := (HSH.out.nxt HU1.out).c k 11 hk9 (by omega)
 have y12 := (HSH.out.nxt HU1.out).c k 12 hk9 (by omega)
 have y13 := (HSH.out.nxt HU1.out).c k 13 hk9 (by omega)
 have y14 := (HSH.out.nxt HU1.out).c k 14 hk9 (by omega)
 rw [Nat.add_zero] at y0
 generalize w.heap.size = p at hb hlt ⊢
 have x0 : w1.cell? ⟨p, 0, none⟩ = some (.int .i64 (k : Nat)) := by simp [World.cell?, hb, hC]
 clear hk9
 go_wp2_with fail
 obtain ⟨W2, hW2⟩ : ∃ W, W = w1.alloc (.cells #[.int .i64 (sh k 0), .int .i64 (sh k 1), .int .i64 (sh k 2), .int .i64 (sh k 3), .int .i64 (sh k 4), .int .i64 (sh k 5), .int .i64 (sh k 6), .int .i64 (sh k 7), .int .i64 (sh k 8), .int .i64 (sh k 9), .int .i64 (sh k 10), .int .i64 (sh k 11), .int .i64 (sh k 12), .int .i64 (sh k 13), .int .i64 (sh k 14)] 53) := ⟨_, rfl⟩
 have U2 : Hid (Up Nul w1 W2) := by show Up _ _ _; rw [hW2]; exact (Up.refl Nul w1).alloc _
 have hq : W2.heap[w1.heap.size]? = some (.cells #[.int .i64 (sh k 0), .int .i64 (sh k 1), .int .i64 (sh k 2), .int .i64 (sh k 3), .int .i64 (sh k 4), .int .i64 (sh k 5), .int .i64 (sh k 6), .int .i64 (sh k 7), .int .i64 (sh k 8), .int .i64 (sh k 9), .int .i64 (sh k 10), .int .i64 (sh k 11), .int .i64 (sh k 12), .int .i64 (sh k 13), .int .i64 (sh k 14)] 53 (0, 0)) := by rw [hW2]; exact heap_alloc_new _ _
 have hp := (U2.out.block p hlt id).trans hb
 rw [hC] at hp
 have hq2 : w1.heap.size < W2.heap.size := by rw [hW2]; simp
 have hp2 := Nat.lt_of_lt_of_le hlt U2.out.size
 have U3 := hid (HU1.out.trans U2.out)
 rw [← hW2]
 clear hW2 x0 y0 y1 y2 y3 y4 y5 y6 y7 y8 y9 y10 y11 y12 y13 y14 hb U2 HU1 hlt
 generalize w1.heap.size = q at hq hq2 ⊢
 have Hp1 := celN 1 (.string s) hp2 hp rfl
 have Hp2 := celN 2 (.int .i64 n) hp2 hp rfl
 have Hp3 := celN 3 (.int .i64 sid) hp2 hp rfl
 have Hp4 := celN 4 (.slice sa ns cs) hp2 hp rfl
 have Hp5 := celN 5 (.int .i64 co) hp2 hp rfl
 have Hp6 := celN 6 (.slice la nl cl) hp2 hp rfl
 have Hp7 := celN 7 (.int .i64 t.hot) hp2 hp rfl
 have Hp8 := celN 8 (.int .i64 t.warm) hp2 hp rfl
 have Hp9 := celN 9 (.int .i64 t.gap) hp2 hp rfl
 have Hp10 := celN 10 (.int .i64 t.add) hp2 hp rfl
 have Hp11 := celN 11 (.int .i64 t.top) hp2 hp rfl
 have Hp12 := celN 12 (.int .i64 t.half) hp2 hp rfl
 have Hq0 := celN 0 (.int .i64 (sh k 0)) hq2 hq rfl
 have Hq1 := celN 1 (.int .i64 (sh k 1)) hq2 hq rfl
 have Hq2 := celN 2 (.int .i64 (sh k 2)) hq2 hq rfl
 have Hq3 := celN 3 (.int .i64 (sh k 3)) hq2 hq rfl
 have Hq4 := celN 4 (.int .i64 (sh k 4)) hq2 hq rfl
 have Hq5 := celN 5 (.int .i64 (sh k 5)) hq2 hq rfl
 have Hq6 := celN 6 (.int .i64 (sh k 6)) hq2 hq rfl
 have Hq7 := celN 7 (.int .i64 (sh k 7)) hq2 hq rfl
 have Hq8 := celN 8 (.int .i64 (sh k 8)) hq2 hq rfl
 have Hq9 := celN 9 (.int .i64 (sh k 9)) hq2 hq rfl
 have Hq10 := celN 10 (.int .i64 (sh k 10)) hq2 hq rfl
 have Hq11 := celN 11 (.int .i64 (sh k 11)) hq2 hq rfl
 have Hq12 := celN 12 (.int .i64 (sh k 12)) hq2 hq rfl
 have Hq13 := celN 13 (.int .i64 (sh k 13)) hq2 hq rfl
 have Hq14 := celN 14 (.int .i64 (sh k 14)) hq2 hq rfl
 clear hp hq hp2 hq2
 have HR := hid (Up.refl Nul W2)
 simp only [List.append]
 refine wp_region_held_drew (S := (fun W => Up Nul W2 W)) (by kernel_rfl) (by exact HR.out.drew) (fun hHeld => ?_)
 refine tkl 0 (some 12) ?vk5n1u1 rfl ?yk5n1u1 ?rk5n1u1
 case yk5n1u1 => (intro w hSw; (try dsimp only at hSw); go_simp; try with_reducible rfl)
 try simp only [tdy]
 refine tkl 1 (some 13) ?vk5x2 rfl ?yk5x2 ?rk5x2
 case yk5x2 => (intro w hSw; have aq0 := Hq0.out w hSw; have aq1 := Hq1.out w hSw; go_simp; try with_reducible rfl)
 try simp only [tdy]
 refine tkl 2 (some 14) ?vk5n3u1 rfl ?yk5n3u1 ?rk5n3u1
 case yk5n3u1 => (intro w hSw; (try dsimp only at hSw); go_simp; try with_reducible rfl)
 try simp only [tdy]
 refine tkl 3 (some 15) ?vk5x4 rfl ?yk5x4 ?rk5x4
 case yk5x4 => (intro w hSw; have ap1 := Hp1.out w hSw; go_simp; try with_reducible rfl)
 try simp only [tdy]
 refine tkl 4 (some 16) ?vk5n5u1 rfl ?yk5n5u1 ?rk5n5u1
 case yk5n5u1 => (intro w hSw; (try dsimp only at hSw); go_simp; try with_reducible rfl)
 try simp only [tdy]
 refine one 5 (some 17) rfl (fun K hK => ?_)
 go_simp
 skip
 refine hK.out _ _ ?kk5n6u1 (fun hHeld => ?_)
 case kk5n6u1 => exact (by first | exact Up.alloc (show Up Nul W2 _ from hHeld) _ | exact (Up.alloc (show Up Nul W2 _ from HR.out) _).drew)
 clear hK K
 try simp only [tdy]
 refine one 6 (some 18) rfl (fun K hK => ?_)
 go_simp
 go_at_call 20; refine (HH.out.h1 _ (U3.out.trans (show Up Nul W2 _ from hHeld)) _ (by first | exact World.cell?_alloc_new _ _ _ 0 | (simp; done) | go_simp)).mono ?_; rintro e wb ⟨rfl, kb⟩
 refine hK.out _ _ ?kk5n7u1 (fun hHeld => ?_)
 case kk5n7u1 => exact (Up.trans (show Up Nul W2 _ from hHeld) kb)
 clear hK K
 try simp only [tdy]
 refine tkl 7 (some 19) ?vk5n8u1 rfl ?yk5n8u1 ?rk5n8u1
 case yk5n8u1 => (intro w hSw; (try dsimp only at hSw); go_simp; try with_reducible rfl)
 try simp only [tdy]
 refine tkl 8 (some 20) ?vk5n9u1 rfl ?yk5n9u1 ?rk5n9u1
 case yk5n9u1 => (intro w hSw; (try dsimp only at hSw); go_simp; try with_reducible rfl)
 try simp only [tdy]
 refine tkl 9 (some 21) ?vk5x10 rfl ?yk5x10 ?rk5x10
 case yk5x10 => (intro w hSw; have ap1 := Hp1.out w hSw; go_simp; try with_reducible rfl)
 try simp only [tdy]
 refine one 10 (some 22) rfl (fun K hK => ?_)
 go_simp
 go_at_call 21; refine (HH.out.h2 _).mono ?_; rintro e wb ⟨rfl, kb⟩
 refine hK.out _ _ ?kk5n11u1 (fun hHeld => ?_)
 case kk5n11u1 => exact (Up.trans (show Up Nul W2 _ from hHeld) kb)
 clear hK K
 try simp only [tdy]
 refine tkl 11 (some 23) ?vk5n12u1 rfl ?yk5n12u1 ?rk5n12u1
 case yk5n12u1 => (intro w hSw; (try dsimp only at hSw); go_simp; try with_reducible rfl)
 try simp only [tdy]
 refine tkl 12 (some 24) ?vk5n13u1 rfl ?yk5n13u1 ?rk5n13u1
 case yk5n13u1 => (intro w hSw; (try dsimp only at hSw); go_simp; try with_reducible rfl)
 try simp only [tdy]
 refine tkl 13 (some 25) ?vk5n14u1 rfl ?yk5n14u1 ?rk5n14u1
 case yk5n14u1 => (intro w hSw; (try dsimp only at hSw); go_simp; try with_reducible rfl)
 try simp only [tdy]
 refine tkl 14 (some 26) ?vk5x15 rfl ?yk5x15 ?rk5x15
 case yk5x15 => (intro w hSw; have aq2 := Hq2.out w hSw; have aq3 := Hq3.out w hSw; go_simp; try with_reducible rfl)
 try simp only [tdy]
 refine tkl 15 (some 27) ?vk5n16u1 rfl ?yk5n16u1 ?rk5n16u1
 case yk5n16u1 => (intro w hSw; (try dsimp only at hSw); go_simp; try with_reducible rfl)
 try simp only [tdy]
 refine tkl 16 (some 28) ?vk5x17 rfl ?yk5x17 ?rk5x17
 case yk5x17 => (intro w hSw; have ap2 := Hp2.out w hSw; go_simp; try with_reducible rfl)
 try simp only [tdy]
 refine one 17 (some 29) rfl (fun K hK => ?_)
 go_simp
 skip
 refine hK.out _ _ ?kk5n18u1 (fun hHeld => ?_)
 case kk5n18u1 => exact (by first | exact Up.alloc (show Up Nul W2 _ from hHeld) _ | exact (Up.alloc (show Up Nul W2 _ from HR.out) _).drew)
 clear hK K
 try simp only [tdy]
 refine one 18 (some 30) rfl (fun K hK => ?_)
 go_simp
 go_at_call 20; refine (HH.out.h3 _ (U3.out.trans (show Up Nul W2 _ from hHeld)) _ (by first | exact World.cell?_alloc_new _ _ _ 0 | (simp; done) | go_simp)).mono ?_; rintro e wb ⟨rfl, kb⟩
 refine hK.out _ _ ?kk5n19u1 (fun hHeld => ?_)
 case kk5n19u1 => exact (Up.trans (show Up Nul W2 _ from hHeld) kb)
 clear hK K
 try simp only [tdy]
 refine tkl 19 (some 31) ?vk5n20u1 rfl ?yk5n20u1 ?rk5n20u1
 case yk5n20u1 => (intro w hSw; (try dsimp only at hSw); go_simp; try with_reducible rfl)
 try simp only [tdy]
 refine tkl 20 (some 32) ?vk5n21u1 rfl ?yk5n21u1 ?rk5n21u1
 case yk5n21u1 => (intro w hSw; (try dsimp only at hSw); go_simp; try with_reducible rfl)
 try simp only [tdy]
 refine tkl 21 (some 33) ?vk5n22u1 rfl ?yk5n22u1 ?rk5n22u1
 case yk5n22u1 => (intro w hSw; (try dsimp only at hSw); go_simp; try with_reducible rfl)
 try simp only [tdy]
 refine tkl 22 (some 34) ?vk5x23 rfl ?yk5x23 ?rk5x23
 case yk5x23 => (intro w hSw; have aq4 := Hq4.out w hSw; have aq5 := Hq5.out w hSw; go_simp; try with_reducible rfl)
 try simp only [tdy]
 refine tkl 23 (some 35) ?vk5n24u1 rfl ?yk5n24u1 ?rk5n24u1
 case yk5n24u1 => (intro w hSw; (try dsimp only at hSw); go_simp; try with_reducible rfl)
 try simp only [tdy]
 refine tkl 24 (some 36) ?vk5x25 rfl ?yk5x25 ?rk5x25
 case yk5x25 => (intro w hSw; have ap3 := Hp3.out w hSw; go_simp; try with_reducible rfl)
 try simp only [tdy]
 refine one 25 (some 37) rfl (fun K hK => ?_)
 go_simp
 skip
 refine hK.out _ _ ?kk5n26u1 (fun hHeld => ?_)
 case kk5n26u1 => exact (by first | exact Up.alloc (show Up Nul W2 _ from hHeld) _ | exact (Up.alloc (show Up Nul W2 _ from HR.out) _).drew)
 clear hK K
 try simp only [tdy]
 refine one 26 (some 38) rfl (fun K hK => ?_)
 go_simp
 go_at_call 20; refine (HH.out.h4 _ (U3.out.trans (show Up Nul W2 _ from hHeld)) _ (by first | exact World.cell?_alloc_new _ _ _ 0 | (simp; done) | go_simp)).mono ?_; rintro e wb ⟨rfl, kb⟩
 refine hK.out _ _ ?kk5n27u1 (fun hHeld => ?_)
 case kk5n27u1 => exact (Up.trans (show Up Nul W2 _ from hHeld) kb)
 clear hK K
 try simp only [tdy]
 refine tkl 27 (some 39) ?vk5n28u1 rfl ?yk5n28u1 ?rk5n28u1
 case yk5n28u1 => (intro w hSw; (try dsimp only at hSw); go_simp; try with_reducible rfl)
 try simp only [tdy]
 refine tkl 28 (some 40) ?vk5n29u1 rfl ?yk5n29u1 ?rk5n29u1
 case yk5n29u1 => (intro w hSw; (try dsimp only at hSw); go_simp; try with_reducible rfl)
 try simp only [tdy]
 refine tkl 29 (some 41) ?vk5n30u1 rfl ?yk5n30u1 ?rk5n30u1
 case yk5n30u1 => (intro w hSw; (try dsimp only at hSw); go_simp; try with_reducible rfl)
 try simp only [tdy]
 refine tkl 30 (some 42) ?vk5x31 rfl ?yk5x31 ?rk5x31
 case yk5x31 => (intro w hSw; have aq6 := Hq6.out w hSw; have aq7 := Hq7.out w hSw; go_simp; try with_reducible rfl)
 try simp only [tdy]
 refine tkl 31 (some 43) ?vk5n32u1 rfl ?yk5n32u1 ?rk5n32u1
 case yk5n32u1 => (intro w hSw; (try dsimp only at hSw); go_simp; try with_reducible rfl)
 try simp only [tdy]
 refine tkl 32 (some 44) ?vk5x33 rfl ?yk5x33 ?rk5x33
 case yk5x33 => (intro w hSw; have ap5 := Hp5.out w hSw; go_simp; try with_reducible rfl)
 try simp only [tdy]
 refine one 33 (some 45) rfl (fun K hK => ?_)
 go_simp
 skip
 refine hK.out _ _ ?kk5n34u1 (fun hHeld => ?_)
 case kk5n34u1 => exact (by first | exact Up.alloc (show Up Nul W2 _ from hHeld) _ | exact (Up.alloc (show Up Nul W2 _ from HR.out) _).drew)
 clear hK K
 try simp only [tdy]
 refine one 34 (some 46) rfl (fun K hK => ?_)
 go_simp
 go_at_call 20; refine (HH.out.h5 _ (U3.out.trans (show Up Nul W2 _ from hHeld)) _ (by first | exact World.cell?_alloc_new _ _ _ 0 | (simp; done) | go_simp)).mono ?_; rintro e wb ⟨rfl, kb⟩
 refine hK.out _ _ ?kk5n35u1 (fun hHeld => ?_)
 case kk5n35u1 => exact (Up.trans (show Up Nul W2 _ from hHeld) kb)
 clear hK K
 try simp only [tdy]
 refine tkl 35 (some 47) ?vk5n36u1 rfl ?yk5n36u1 ?rk5n36u1
 case yk5n36u1 => (intro w hSw; (try dsimp only at hSw); go_simp; try with_reducible rfl)
 try simp only [tdy]
 refine tkl 36 (some 48) ?vk5n37u1 rfl ?yk5n37u1 ?rk5n37u1
 case yk5n37u1 => (intro w hSw; (try dsimp only at hSw); go_simp; try with_reducible rfl)
 try simp only [tdy]
 refine tku 37 (some 49) rfl ?rk5n38u1
 try simp only [tdy]
 refine tku 38 (some 50) rfl ?rk5n39u1
 try simp only [tdy]
 refine tku 39 (some 51) rfl ?rk5n40u1
 try simp only [tdy]
 refine tku 40 (some 52) rfl ?rk5n41u1
 try simp only [tdy]
 refine tku 41 (some 53) rfl ?rk5n42u1
 try simp only [tdy]
 refine tku 42 (some 54) rfl ?rk5n43u1
 try simp only [tdy]
 refine tkl 43 (some 55) ?vk5n44u1 rfl ?yk5n44u1 ?rk5n44u1
 case yk5n44u1 => (intro w hSw; (try dsimp only at hSw); go_simp; try with_reducible rfl)
 try simp only [tdy]
 refine tkl 44 (some 56) ?vk5n45u1 rfl ?yk5n45u1 ?rk5n45u1
 case yk5n45u1 => (intro w hSw; (try dsimp only at hSw); go_simp; try with_reducible rfl)
 try simp only [tdy]
 refine tku 45 (some 57) rfl ?rk5n46u1
 try simp only [tdy]
 refine tku 46 (some 58) rfl ?rk5n47u1
 try simp only [tdy]
 refine tku 47 (some 59) rfl ?rk5n48u1
 try simp only [tdy]
 refine tku 48 (some 60) rfl ?rk5n49u1
 try simp only [tdy]
 refine tku 49 (some 61) rfl ?rk5n50u1
 try simp only [tdy]
 refine tkl 50 (some 62) ?vk5n51u1 rfl ?yk5n51u1 ?rk5n51u1
 case yk5n51u1 => (intro w hSw; (try dsimp only at hSw); go_simp; try with_reducible rfl)
 try simp only [tdy]
 refine tkl 51 (some 63) ?vk5n52u1 rfl ?yk5n52u1 ?rk5n52u1
 case yk5n52u1 => (intro w hSw; (try dsimp only at hSw); go_simp; try with_reducible rfl)
 try simp only [tdy]
 refine tku 52 (some 64) rfl ?rk5n53u1
 try simp only [tdy]
 refine tku 53 (some 65) rfl ?rk5n54u1
 try simp only [tdy]
 refine tku 54 (some 66) rfl ?rk5n55u1
 try simp only [tdy]
 refine tku 55 (some 67) rfl ?rk5n56u1
 try simp only [tdy]
 refine tku 56 (some 68) rfl ?rk5n57u1
 try simp only [tdy]
 refine tku 57 (some 69) rfl ?rk5n58u1
 try simp only [tdy]
 refine tku 58 (some 70) rfl ?rk5n59u1
 try simp only [tdy]
 refine tku 59 (some 71) rfl ?rk5n60u1
 try simp only [tdy]
 refine tkl 60 (some 72) ?vk5n61u1 rfl ?yk5n61u1 ?rk5n61u1
 case yk5n61u1 => (intro w hSw; (try dsimp only at hSw); go_simp; try with_reducible rfl)
 try simp only [tdy]
 refine tkl 61 (some 73) ?vk5n62u1 rfl ?yk5n62u1 ?rk5n62u1
 case yk5n62u1 => (intro w hSw; (try dsimp only at hSw); go_simp; try with_reducible rfl)
 try simp only [tdy]
 refine tku 62 (some 74) rfl ?rk5n63u1
 try simp only [tdy]
 refine tku 63 (some 75) rfl ?rk5n64u1
 try simp only [tdy]
 refine tku 64 (some 76) rfl ?rk5n65u1
 try simp only [tdy]
 refine tku 65 (some 77) rfl ?rk5n66u1
 try simp only [tdy]
 refine tkl 66 (some 78) ?vk5n67u1 rfl ?yk5n67u1 ?rk5n67u1
 case yk5n67u1 => (intro w hSw; (try dsimp only at hSw); go_simp; try with_reducible rfl)
 try simp only [tdy]
 refine tkl 67 (some 79) ?vk5n68u1 rfl ?yk5n68u1 ?rk5n68u1
 case yk5n68u1 => (intro w hSw; (try dsimp only at hSw); go_simp; try with_reducible rfl)
 try simp only [tdy]
 refine tku 68 (some 80) rfl ?rk5n69u1
 try simp only [tdy]
 refine tku 69 (some 81) rfl ?rk5n70u1
 try simp only [tdy]
 refine tku 70 (some 82) rfl ?rk5n71u1
 try simp only [tdy]
 refine tku 71 (some 83) rfl ?rk5n72u1
 try simp only [tdy]
 refine tku 72 (some 84) rfl ?rk5n73u1
 try simp only [tdy]
 refine tku 73 (some 85) rfl ?rk5n74u1
 try simp only [tdy]
 refine tkl 74 (some 86) ?vk5n75u1 rfl ?yk5n75u1 ?rk5n75u1
 case yk5n75u1 => (intro w hSw; (try dsimp only at hSw); go_simp; try with_reducible rfl)
 try simp only [tdy]
 refine tkl 75 (some 2) ?vk5n76u1 rfl ?yk5n76u1 ?rk5n76u1
 case yk5n76u1 => (intro w hSw; (try dsimp only at hSw); go_simp; try with_reducible rfl)
 try simp only [tdy]
 refine wpAnyH_done (by kernel_rfl) ?_ _
 have HE := hid (U3.out.trans (show Up Nul W2 _ from hHeld))
 clear hHeld
 go_wp2
 go_ret
 exact ⟨by first | rfl | simp, HE.out⟩
set_option maxRecDepth 100000 in
set_option maxHeartbeats 4000000 in
theorem ok_case6 (w : World) (s : ByteArray) (n sid co : Int) (sa : Option Addr) (ns cs : Nat) (la : Option Addr) (nl cl : Nat) (t : Tb) (k : Nat) (c1 c2 c3 c4 c5 c6 c7 c8 c9 c10 : Bool) (hk : spn 1 8 (k : Int) = true) (hS : Shp w) (hc1 : c1 = true) (hc2 : c2 = true) (hc3 : c3 = true) (hc4 : c4 = true) (hc5 : c5 = true) (hc6 : c6 = false)
  (H : OkC w s n sid co sa ns cs la nl cl t k c1 c2 c3 c4 c5 c6 c7 c8 c9 c10) :
  Calls Tryd.prog 8 #[.agg #[.int .i64 (k : Nat), .string s, .int .i64 n, .int .i64 sid, .slice sa ns cs, .int .i64 co, .slice la nl cl, .int .i64 t.hot, .int .i64 t.warm, .int .i64 t.gap, .int .i64 t.add, .int .i64 t.top, .int .i64 t.half]] w
   fun e w' => e = .returned (.bool (c1 && c2 && c3 && c4 && c5 && c6 && c7 && c8 && c9 && c10)) ∧ Up Nul w w' := by
 subst hc1 hc2 hc3 hc4 hc5 hc6
 have h6e := H.h6
 have HK := hid (fun W => kind_any (k : Int) W)
 rw [hk] at HK
 have hk9 : k < 9 := by
  unfold spn at hk
  simp at hk
  omega
 have i0 : (0 : Int) ≤ (k : Int) := by omega
 have i1 : (k : Int) < 9 := by omega
 have HH := hid H
 clear H
 obtain ⟨C, hC⟩ : ∃ C : Array Value, C = #[.int .i64 (k : Nat), .string s, .int .i64 n, .int .i64 sid, .slice sa ns cs, .int .i64 co, .slice la nl cl, .int .i64 t.hot, .int .i64 t.warm, .int .i64 t.gap, .int .i64 t.add, .int .i64 t.top, .int .i64 t.half] := ⟨_, rfl⟩
 have HUA := hid ((Up.refl Nul w).alloc (.cells C 27))
 have HBA : Hid ((w.alloc (.cells C 27)).heap[w.heap.size]? = some (.cells C 27 (0, 0))) := heap_alloc_new _ _
 have HLT : Hid (w.heap.size < (w.alloc (.cells C 27)).heap.size) := by show _ < _; simp
 have HSH := hid hS
 go_enter Tryd.func8, Tryd.ntmps8
 go_wp2_with fail
 rw [← hC]
 refine (HK.out _).mono ?_
 rintro e w1 ⟨rfl, u1⟩
 have hb := (u1.block _ HLT.out id).trans HBA.out
 have HU1 := hid (HUA.out.trans u1)
 have hlt := Nat.lt_of_lt_of_le HLT.out u1.size
 clear u1 HBA HUA HLT
 have y0 := (HSH.out.nxt HU1.out).c k 0 hk9 (by omega)
 have y1 := (HSH.out.nxt HU1.out).c k 1 hk9 (by omega)
 have y2 := (HSH.out.nxt HU1.out).c k 2 hk9 (by omega)
 have y3 := (HSH.out.nxt HU1.out).c k 3 hk9 (by omega)
 have y4 := (HSH.out.nxt HU1.out).c k 4 hk9 (by omega)
 have y5 := (HSH.out.nxt HU1.out).c k 5 hk9 (by omega)
 have y6 := (HSH.out.nxt HU1.out).c k 6 hk9 (by omega)
 have y7 := (HSH.out.nxt HU1.out).c k 7 hk9 (by omega)
 have y8 := (HSH.out.nxt HU1.out).c k 8 hk9 (by omega)
 have y9 := (HSH.out.nxt HU1.out).c k 9 hk9 (by omega)
 have y10 := (HSH.out.nxt HU1.out).c k 10 hk9 (by omega)
 have y11 := (HSH.out.nxt HU1.out).c k 11 hk9 (by omega)
 have y12 := (HSH.out.nxt HU1.out).c k 12 hk9 (by omega)
 have y13 := (HSH.out.nxt HU1.out).c k 13 hk9 (by omega)
 have y14 := (HSH.out.nxt HU1.out).c k 14 hk9 (by omega)
 rw [Nat.add_zero] at y0
 generalize w.heap.size = p at hb hlt ⊢
 have x0 : w1.cell? ⟨p, 0, none⟩ = some (.int .i64 (k : Nat)) := by simp [World.cell?, hb, hC]
 clear hk9
 go_wp2_with fail
 obtain ⟨W2, hW2⟩ : ∃ W, W = w1.alloc (.cells #[.int .i64 (sh k 0), .int .i64 (sh k 1), .int .i64 (sh k 2), .int .i64 (sh k 3), .int .i64 (sh k 4), .int .i64 (sh k 5), .int .i64 (sh k 6), .int .i64 (sh k 7), .int .i64 (sh k 8), .int .i64 (sh k 9), .int .i64 (sh k 10), .int .i64 (sh k 11), .int .i64 (sh k 12), .int .i64 (sh k 13), .int .i64 (sh k 14)] 53) := ⟨_, rfl⟩
 have U2 : Hid (Up Nul w1 W2) := by show Up _ _ _; rw [hW2]; exact (Up.refl Nul w1).alloc _
 have hq : W2.heap[w1.heap.size]? = some (.cells #[.int .i64 (sh k 0), .int .i64 (sh k 1), .int .i64 (sh k 2), .int .i64 (sh k 3), .int .i64 (sh k 4), .int .i64 (sh k 5), .int .i64 (sh k 6), .int .i64 (sh k 7), .int .i64 (sh k 8), .int .i64 (sh k 9), .int .i64 (sh k 10), .int .i64 (sh k 11), .int .i64 (sh k 12), .int .i64 (sh k 13), .int .i64 (sh k 14)] 53 (0, 0)) := by rw [hW2]; exact heap_alloc_new _ _
 have hp := (U2.out.block p hlt id).trans hb
 rw [hC] at hp
 have hq2 : w1.heap.size < W2.heap.size := by rw [hW2]; simp
 have hp2 := Nat.lt_of_lt_of_le hlt U2.out.size
 have U3 := hid (HU1.out.trans U2.out)
 rw [← hW2]
 clear hW2 x0 y0 y1 y2 y3 y4 y5 y6 y7 y8 y9 y10 y11 y12 y13 y14 hb U2 HU1 hlt
 generalize w1.heap.size = q at hq hq2 ⊢
 have Hp1 := celN 1 (.string s) hp2 hp rfl
 have Hp2 := celN 2 (.int .i64 n) hp2 hp rfl
 have Hp3 := celN 3 (.int .i64 sid) hp2 hp rfl
 have Hp4 := celN 4 (.slice sa ns cs) hp2 hp rfl
 have Hp5 := celN 5 (.int .i64 co) hp2 hp rfl
 have Hp6 := celN 6 (.slice la nl cl) hp2 hp rfl
 have Hp7 := celN 7 (.int .i64 t.hot) hp2 hp rfl
 have Hp8 := celN 8 (.int .i64 t.warm) hp2 hp rfl
 have Hp9 := celN 9 (.int .i64 t.gap) hp2 hp rfl
 have Hp10 := celN 10 (.int .i64 t.add) hp2 hp rfl
 have Hp11 := celN 11 (.int .i64 t.top) hp2 hp rfl
 have Hp12 := celN 12 (.int .i64 t.half) hp2 hp rfl
 have Hq0 := celN 0 (.int .i64 (sh k 0)) hq2 hq rfl
 have Hq1 := celN 1 (.int .i64 (sh k 1)) hq2 hq rfl
 have Hq2 := celN 2 (.int .i64 (sh k 2)) hq2 hq rfl
 have Hq3 := celN 3 (.int .i64 (sh k 3)) hq2 hq rfl
 have Hq4 := celN 4 (.int .i64 (sh k 4)) hq2 hq rfl
 have Hq5 := celN 5 (.int .i64 (sh k 5)) hq2 hq rfl
 have Hq6 := celN 6 (.int .i64 (sh k 6)) hq2 hq rfl
 have Hq7 := celN 7 (.int .i64 (sh k 7)) hq2 hq rfl
 have Hq8 := celN 8 (.int .i64 (sh k 8)) hq2 hq rfl
 have Hq9 := celN 9 (.int .i64 (sh k 9)) hq2 hq rfl
 have Hq10 := celN 10 (.int .i64 (sh k 10)) hq2 hq rfl
 have Hq11 := celN 11 (.int .i64 (sh k 11)) hq2 hq rfl
 have Hq12 := celN 12 (.int .i64 (sh k 12)) hq2 hq rfl
 have Hq13 := celN 13 (.int .i64 (sh k 13)) hq2 hq rfl
 have Hq14 := celN 14 (.int .i64 (sh k 14)) hq2 hq rfl
 clear hp hq hp2 hq2
 have HR := hid (Up.refl Nul W2)
 simp only [List.append]
 refine wp_region_held_drew (S := (fun W => Up Nul W2 W)) (by kernel_rfl) (by exact HR.out.drew) (fun hHeld => ?_)
 refine tkl 0 (some 12) ?vk6n1u1 rfl ?yk6n1u1 ?rk6n1u1
 case yk6n1u1 => (intro w hSw; (try dsimp only at hSw); go_simp; try with_reducible rfl)
 try simp only [tdy]
 refine tkl 1 (some 13) ?vk6x2 rfl ?yk6x2 ?rk6x2
 case yk6x2 => (intro w hSw; have aq0 := Hq0.out w hSw; have aq1 := Hq1.out w hSw; go_simp; try with_reducible rfl)
 try simp only [tdy]
 refine tkl 2 (some 14) ?vk6n3u1 rfl ?yk6n3u1 ?rk6n3u1
 case yk6n3u1 => (intro w hSw; (try dsimp only at hSw); go_simp; try with_reducible rfl)
 try simp only [tdy]
 refine tkl 3 (some 15) ?vk6x4 rfl ?yk6x4 ?rk6x4
 case yk6x4 => (intro w hSw; have ap1 := Hp1.out w hSw; go_simp; try with_reducible rfl)
 try simp only [tdy]
 refine tkl 4 (some 16) ?vk6n5u1 rfl ?yk6n5u1 ?rk6n5u1
 case yk6n5u1 => (intro w hSw; (try dsimp only at hSw); go_simp; try with_reducible rfl)
 try simp only [tdy]
 refine one 5 (some 17) rfl (fun K hK => ?_)
 go_simp
 skip
 refine hK.out _ _ ?kk6n6u1 (fun hHeld => ?_)
 case kk6n6u1 => exact (by first | exact Up.alloc (show Up Nul W2 _ from hHeld) _ | exact (Up.alloc (show Up Nul W2 _ from HR.out) _).drew)
 clear hK K
 try simp only [tdy]
 refine one 6 (some 18) rfl (fun K hK => ?_)
 go_simp
 go_at_call 20; refine (HH.out.h1 _ (U3.out.trans (show Up Nul W2 _ from hHeld)) _ (by first | exact World.cell?_alloc_new _ _ _ 0 | (simp; done) | go_simp)).mono ?_; rintro e wb ⟨rfl, kb⟩
 refine hK.out _ _ ?kk6n7u1 (fun hHeld => ?_)
 case kk6n7u1 => exact (Up.trans (show Up Nul W2 _ from hHeld) kb)
 clear hK K
 try simp only [tdy]
 refine tkl 7 (some 19) ?vk6n8u1 rfl ?yk6n8u1 ?rk6n8u1
 case yk6n8u1 => (intro w hSw; (try dsimp only at hSw); go_simp; try with_reducible rfl)
 try simp only [tdy]
 refine tkl 8 (some 20) ?vk6n9u1 rfl ?yk6n9u1 ?rk6n9u1
 case yk6n9u1 => (intro w hSw; (try dsimp only at hSw); go_simp; try with_reducible rfl)
 try simp only [tdy]
 refine tkl 9 (some 21) ?vk6x10 rfl ?yk6x10 ?rk6x10
 case yk6x10 => (intro w hSw; have ap1 := Hp1.out w hSw; go_simp; try with_reducible rfl)
 try simp only [tdy]
 refine one 10 (some 22) rfl (fun K hK => ?_)
 go_simp
 go_at_call 21; refine (HH.out.h2 _).mono ?_; rintro e wb ⟨rfl, kb⟩
 refine hK.out _ _ ?kk6n11u1 (fun hHeld => ?_)
 case kk6n11u1 => exact (Up.trans (show Up Nul W2 _ from hHeld) kb)
 clear hK K
 try simp only [tdy]
 refine tkl 11 (some 23) ?vk6n12u1 rfl ?yk6n12u1 ?rk6n12u1
 case yk6n12u1 => (intro w hSw; (try dsimp only at hSw); go_simp; try with_reducible rfl)
 try simp only [tdy]
 refine tkl 12 (some 24) ?vk6n13u1 rfl ?yk6n13u1 ?rk6n13u1
 case yk6n13u1 => (intro w hSw; (try dsimp only at hSw); go_simp; try with_reducible rfl)
 try simp only [tdy]
 refine tkl 13 (some 25) ?vk6n14u1 rfl ?yk6n14u1 ?rk6n14u1
 case yk6n14u1 => (intro w hSw; (try dsimp only at hSw); go_simp; try with_reducible rfl)
 try simp only [tdy]
 refine tkl 14 (some 26) ?vk6x15 rfl ?yk6x15 ?rk6x15
 case yk6x15 => (intro w hSw; have aq2 := Hq2.out w hSw; have aq3 := Hq3.out w hSw; go_simp; try with_reducible rfl)
 try simp only [tdy]
 refine tkl 15 (some 27) ?vk6n16u1 rfl ?yk6n16u1 ?rk6n16u1
 case yk6n16u1 => (intro w hSw; (try dsimp only at hSw); go_simp; try with_reducible rfl)
 try simp only [tdy]
 refine tkl 16 (some 28) ?vk6x17 rfl ?yk6x17 ?rk6x17
 case yk6x17 => (intro w hSw; have ap2 := Hp2.out w hSw; go_simp; try with_reducible rfl)
 try simp only [tdy]
 refine one 17 (some 29) rfl (fun K hK => ?_)
 go_simp
 skip
 refine hK.out _ _ ?kk6n18u1 (fun hHeld => ?_)
 case kk6n18u1 => exact (by first | exact Up.alloc (show Up Nul W2 _ from hHeld) _ | exact (Up.alloc (show Up Nul W2 _ from HR.out) _).drew)
 clear hK K
 try simp only [tdy]
 refine one 18 (some 30) rfl (fun K hK => ?_)
 go_simp
 go_at_call 20; refine (HH.out.h3 _ (U3.out.trans (show Up Nul W2 _ from hHeld)) _ (by first | exact World.cell?_alloc_new _ _ _ 0 | (simp; done) | go_simp)).mono ?_; rintro e wb ⟨rfl, kb⟩
 refine hK.out _ _ ?kk6n19u1 (fun hHeld => ?_)
 case kk6n19u1 => exact (Up.trans (show Up Nul W2 _ from hHeld) kb)
 clear hK K
 try simp only [tdy]
 refine tkl 19 (some 31) ?vk6n20u1 rfl ?yk6n20u1 ?rk6n20u1
 case yk6n20u1 => (intro w hSw; (try dsimp only at hSw); go_simp; try with_reducible rfl)
 try simp only [tdy]
 refine tkl 20 (some 32) ?vk6n21u1 rfl ?yk6n21u1 ?rk6n21u1
 case yk6n21u1 => (intro w hSw; (try dsimp only at hSw); go_simp; try with_reducible rfl)
 try simp only [tdy]
 refine tkl 21 (some 33) ?vk6n22u1 rfl ?yk6n22u1 ?rk6n22u1
 case yk6n22u1 => (intro w hSw; (try dsimp only at hSw); go_simp; try with_reducible rfl)
 try simp only [tdy]
 refine tkl 22 (some 34) ?vk6x23 rfl ?yk6x23 ?rk6x23
 case yk6x23 => (intro w hSw; have aq4 := Hq4.out w hSw; have aq5 := Hq5.out w hSw; go_simp; try with_reducible rfl)
 try simp only [tdy]
 refine tkl 23 (some 35) ?vk6n24u1 rfl ?yk6n24u1 ?rk6n24u1
 case yk6n24u1 => (intro w hSw; (try dsimp only at hSw); go_simp; try with_reducible rfl)
 try simp only [tdy]
 refine tkl 24 (some 36) ?vk6x25 rfl ?yk6x25 ?rk6x25
 case yk6x25 => (intro w hSw; have ap3 := Hp3.out w hSw; go_simp; try with_reducible rfl)
 try simp only [tdy]
 refine one 25 (some 37) rfl (fun K hK => ?_)
 go_simp
 skip
 refine hK.out _ _ ?kk6n26u1 (fun hHeld => ?_)
 case kk6n26u1 => exact (by first | exact Up.alloc (show Up Nul W2 _ from hHeld) _ | exact (Up.alloc (show Up Nul W2 _ from HR.out) _).drew)
 clear hK K
 try simp only [tdy]
 refine one 26 (some 38) rfl (fun K hK => ?_)
 go_simp
 go_at_call 20; refine (HH.out.h4 _ (U3.out.trans (show Up Nul W2 _ from hHeld)) _ (by first | exact World.cell?_alloc_new _ _ _ 0 | (simp; done) | go_simp)).mono ?_; rintro e wb ⟨rfl, kb⟩
 refine hK.out _ _ ?kk6n27u1 (fun hHeld => ?_)
 case kk6n27u1 => exact (Up.trans (show Up Nul W2 _ from hHeld) kb)
 clear hK K
 try simp only [tdy]
 refine tkl 27 (some 39) ?vk6n28u1 rfl ?yk6n28u1 ?rk6n28u1
 case yk6n28u1 => (intro w hSw; (try dsimp only at hSw); go_simp; try with_reducible rfl)
 try simp only [tdy]
 refine tkl 28 (some 40) ?vk6n29u1 rfl ?yk6n29u1 ?rk6n29u1
 case yk6n29u1 => (intro w hSw; (try dsimp only at hSw); go_simp; try with_reducible rfl)
 try simp only [tdy]
 refine tkl 29 (some 41) ?vk6n30u1 rfl ?yk6n30u1 ?rk6n30u1
 case yk6n30u1 => (intro w hSw; (try dsimp only at hSw); go_simp; try with_reducible rfl)
 try simp only [tdy]
 refine tkl 30 (some 42) ?vk6x31 rfl ?yk6x31 ?rk6x31
 case yk6x31 => (intro w hSw; have aq6 := Hq6.out w hSw; have aq7 := Hq7.out w hSw; go_simp; try with_reducible rfl)
 try simp only [tdy]
 refine tkl 31 (some 43) ?vk6n32u1 rfl ?yk6n32u1 ?rk6n32u1
 case yk6n32u1 => (intro w hSw; (try dsimp only at hSw); go_simp; try with_reducible rfl)
 try simp only [tdy]
 refine tkl 32 (some 44) ?vk6x33 rfl ?yk6x33 ?rk6x33
 case yk6x33 => (intro w hSw; have ap5 := Hp5.out w hSw; go_simp; try with_reducible rfl)
 try simp only [tdy]
 refine one 33 (some 45) rfl (fun K hK => ?_)
 go_simp
 skip
 refine hK.out _ _ ?kk6n34u1 (fun hHeld => ?_)
 case kk6n34u1 => exact (by first | exact Up.alloc (show Up Nul W2 _ from hHeld) _ | exact (Up.alloc (show Up Nul W2 _ from HR.out) _).drew)
 clear hK K
 try simp only [tdy]
 refine one 34 (some 46) rfl (fun K hK => ?_)
 go_simp
 go_at_call 20; refine (HH.out.h5 _ (U3.out.trans (show Up Nul W2 _ from hHeld)) _ (by first | exact World.cell?_alloc_new _ _ _ 0 | (simp; done) | go_simp)).mono ?_; rintro e wb ⟨rfl, kb⟩
 refine hK.out _ _ ?kk6n35u1 (fun hHeld => ?_)
 case kk6n35u1 => exact (Up.trans (show Up Nul W2 _ from hHeld) kb)
 clear hK K
 try simp only [tdy]
 refine tkl 35 (some 47) ?vk6n36u1 rfl ?yk6n36u1 ?rk6n36u1
 case yk6n36u1 => (intro w hSw; (try dsimp only at hSw); go_simp; try with_reducible rfl)
 try simp only [tdy]
 refine tkl 36 (some 48) ?vk6n37u1 rfl ?yk6n37u1 ?rk6n37u1
 case yk6n37u1 => (intro w hSw; (try dsimp only at hSw); go_simp; try with_reducible rfl)
 try simp only [tdy]
 refine tkl 37 (some 49) ?vk6n38u1 rfl ?yk6n38u1 ?rk6n38u1
 case yk6n38u1 => (intro w hSw; (try dsimp only at hSw); go_simp; try with_reducible rfl)
 try simp only [tdy]
 refine tkl 38 (some 50) ?vk6x39 rfl ?yk6x39 ?rk6x39
 case yk6x39 => (intro w hSw; have ap4 := Hp4.out w hSw; go_simp; try with_reducible rfl)
 try simp only [tdy]
 refine tkl 39 (some 51) ?vk6n40u1 rfl ?yk6n40u1 ?rk6n40u1
 case yk6n40u1 => (intro w hSw; (try dsimp only at hSw); go_simp; try with_reducible rfl)
 try simp only [tdy]
 refine tkl 40 (some 52) ?vk6n41u1 rfl ?yk6n41u1 ?rk6n41u1
 case yk6n41u1 => (intro w hSw; (try dsimp only at hSw); go_simp; try with_reducible rfl)
 try simp only [tdy]
 refine tkl 41 (some 53) ?vk6x42 rfl ?yk6x42 ?rk6x42
 case yk6x42 => (intro w hSw; have aq8 := Hq8.out w hSw; go_simp; try with_reducible rfl)
 try simp only [tdy]
 refine tkl 42 (some 54) ?vk6n43u1 rfl ?yk6n43u1 ?rk6n43u1
 case yk6n43u1 => (intro w hSw; (try dsimp only at hSw); go_simp; try with_reducible rfl)
 try simp only [tdy]
 refine tkl 43 (some 55) ?vk6n44u1 rfl ?yk6n44u1 ?rk6n44u1
 case yk6n44u1 => (intro w hSw; (try dsimp only at hSw); go_simp; try with_reducible rfl)
 try simp only [tdy]
 refine tkl 44 (some 56) ?vk6n45u1 rfl ?yk6n45u1 ?rk6n45u1
 case yk6n45u1 => (intro w hSw; (try dsimp only at hSw); go_simp; try with_reducible rfl)
 try simp only [tdy]
 refine tku 45 (some 57) rfl ?rk6n46u1
 try simp only [tdy]
 refine tku 46 (some 58) rfl ?rk6n47u1
 try simp only [tdy]
 refine tku 47 (some 59) rfl ?rk6n48u1
 try simp only [tdy]
 refine tku 48 (some 60) rfl ?rk6n49u1
 try simp only [tdy]
 refine tku 49 (some 61) rfl ?rk6n50u1
 try simp only [tdy]
 refine tkl 50 (some 62) ?vk6n51u1 rfl ?yk6n51u1 ?rk6n51u1
 case yk6n51u1 => (intro w hSw; (try dsimp only at hSw); go_simp; try with_reducible rfl)
 try simp only [tdy]
 refine tkl 51 (some 63) ?vk6n52u1 rfl ?yk6n52u1 ?rk6n52u1
 case yk6n52u1 => (intro w hSw; (try dsimp only at hSw); go_simp; try with_reducible rfl)
 try simp only [tdy]
 refine tku 52 (some 64) rfl ?rk6n53u1
 try simp only [tdy]
 refine tku 53 (some 65) rfl ?rk6n54u1
 try simp only [tdy]
 refine tku 54 (some 66) rfl ?rk6n55u1
 try simp only [tdy]
 refine tku 55 (some 67) rfl ?rk6n56u1
 try simp only [tdy]
 refine tku 56 (some 68) rfl ?rk6n57u1
 try simp only [tdy]
 refine tku 57 (some 69) rfl ?rk6n58u1
 try simp only [tdy]
 refine tku 58 (some 70) rfl ?rk6n59u1
 try simp only [tdy]
 refine tku 59 (some 71) rfl ?rk6n60u1
 try simp only [tdy]
 refine tkl 60 (some 72) ?vk6n61u1 rfl ?yk6n61u1 ?rk6n61u1
 case yk6n61u1 => (intro w hSw; (try dsimp only at hSw); go_simp; try with_reducible rfl)
 try simp only [tdy]
 refine tkl 61 (some 73) ?vk6n62u1 rfl ?yk6n62u1 ?rk6n62u1
 case yk6n62u1 => (intro w hSw; (try dsimp only at hSw); go_simp; try with_reducible rfl)
 try simp only [tdy]
 refine tku 62 (some 74) rfl ?rk6n63u1
 try simp only [tdy]
 refine tku 63 (some 75) rfl ?rk6n64u1
 try simp only [tdy]
 refine tku 64 (some 76) rfl ?rk6n65u1
 try simp only [tdy]
 refine tku 65 (some 77) rfl ?rk6n66u1
 try simp only [tdy]
 refine tkl 66 (some 78) ?vk6n67u1 rfl ?yk6n67u1 ?rk6n67u1
 case yk6n67u1 => (intro w hSw; (try dsimp only at hSw); go_simp; try with_reducible rfl)
 try simp only [tdy]
 refine tkl 67 (some 79) ?vk6n68u1 rfl ?yk6n68u1 ?rk6n68u1
 case yk6n68u1 => (intro w hSw; (try dsimp only at hSw); go_simp; try with_reducible rfl)
 try simp only [tdy]
 refine tku 68 (some 80) rfl ?rk6n69u1
 try simp only [tdy]
 refine tku 69 (some 81) rfl ?rk6n70u1
 try simp only [tdy]
 refine tku 70 (some 82) rfl ?rk6n71u1
 try simp only [tdy]
 refine tku 71 (some 83) rfl ?rk6n72u1
 try simp only [tdy]
 refine tku 72 (some 84) rfl ?rk6n73u1
 try simp only [tdy]
 refine tku 73 (some 85) rfl ?rk6n74u1
 try simp only [tdy]
 refine tkl 74 (some 86) ?vk6n75u1 rfl ?yk6n75u1 ?rk6n75u1
 case yk6n75u1 => (intro w hSw; (try dsimp only at hSw); go_simp; try with_reducible rfl)
 try simp only [tdy]
 refine tkl 75 (some 2) ?vk6n76u1 rfl ?yk6n76u1 ?rk6n76u1
 case yk6n76u1 => (intro w hSw; (try dsimp only at hSw); go_simp; try with_reducible rfl)
 try simp only [tdy]
 refine wpAnyH_done (by kernel_rfl) ?_ _
 have HE := hid (U3.out.trans (show Up Nul W2 _ from hHeld))
 clear hHeld
 go_wp2
 go_ret
 exact ⟨by first | rfl | simp, HE.out⟩
end Go.Proofs.YtpdkcpjofofkoaaDoor
