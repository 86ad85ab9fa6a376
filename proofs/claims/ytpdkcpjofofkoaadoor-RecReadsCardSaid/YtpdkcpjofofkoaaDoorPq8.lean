/- 'Ok', by the first of its parts that is false. -/
import Derived.Test.YtpdkcpjofofkoaaDoorPkTidy
import Derived.Test.YtpdkcpjofofkoaaDoorPq4
import Derived.Test.YtpdkcpjofofkoaaDoorPq1
namespace Go.Proofs.YtpdkcpjofofkoaaDoor
open Go.RowKit
set_option linter.unusedVariables false
set_option linter.unusedSimpArgs false
set_option maxRecDepth 100000 in
set_option maxHeartbeats 4000000 in
theorem ok_case9 (w : World) (s : ByteArray) (n sid co : Int) (sa : Option Addr) (ns cs : Nat) (la : Option Addr) (nl cl : Nat) (t : Tb) (k : Nat) (c1 c2 c3 c4 c5 c6 c7 c8 c9 c10 : Bool) (hk : spn 1 8 (k : Int) = true) (hS : Shp w) (hc1 : c1 = true) (hc2 : c2 = true) (hc3 : c3 = true) (hc4 : c4 = true) (hc5 : c5 = true) (hc6 : c6 = true) (hc7 : c7 = true) (hc8 : c8 = true) (hc9 : c9 = false)
  (H : OkC w s n sid co sa ns cs la nl cl t k c1 c2 c3 c4 c5 c6 c7 c8 c9 c10) :
  Calls Tryd.prog 8 #[.agg #[.int .i64 (k : Nat), .string s, .int .i64 n, .int .i64 sid, .slice sa ns cs, .int .i64 co, .slice la nl cl, .int .i64 t.hot, .int .i64 t.warm, .int .i64 t.gap, .int .i64 t.add, .int .i64 t.top, .int .i64 t.half]] w
   fun e w' => e = .returned (.bool (c1 && c2 && c3 && c4 && c5 && c6 && c7 && c8 && c9 && c10)) ∧ Up Nul w w' := by
 subst hc1 hc2 hc3 hc4 hc5 hc6 hc7 hc8 hc9
 obtain ⟨q8, h8e, h8c⟩ := H.h8 rfl
 have H8 := hid h8c
 clear h8c
 have h6e := H.h6
 have HK := hid (fun W => kind_any (k : Int) W)
 rw [hk] at HK
 have hk9 : k < 9 := by
  unfold spn at hk
  simp at hk
  omega
 have i0 : (0 : Int) ≤ (k : Int) := by omega
 have i1 : (k : Int) < 9 := by omega
 have HH := hid H
 clear H
 obtain ⟨C, hC⟩ : ∃ C : Array Value, C = #[.int .i64 (k : Nat), .string s, .int .i64 n, .int .i64 sid, .slice sa ns cs, .int .i64 co, .slice la nl cl, .int .i64 t.hot, .int .i64 t.warm, .int .i64 t.gap, .int .i64 t.add, .int .i64 t.top, .int .i64 t.half] := ⟨_, rfl⟩
 have HUA := hid ((Up.refl Nul w).alloc (.cells C 27))
 have HBA : Hid ((w.alloc (.cells C 27)).heap[w.heap.size]? = some (.cells C 27 (0, 0))) := heap_alloc_new _ _
 have HLT : Hid (w.heap.size < (w.alloc (.cells C 27)).heap.size) := by show _ < _; simp
 have HSH := hid hS
 go_enter Tryd.func8, Tryd.ntmps8
 go_wp2_with fail
 rw [← hC]
 refine (HK.out _).mono ?_
 rintro e w1 ⟨rfl, u1⟩
 have hb := (u1.block _ HLT.out id).trans HBA.out
 have HU1 := hid (HUA.out.trans u1)
 have hlt := Nat.lt_of_lt_of_le HLT.out u1.size
 clear u1 HBA HUA HLT
 have y0 := (HSH.out.nxt HU1.out).c k 0 hk9 (by omega)
 have y1 := (HSH.out.nxt HU1.out).c k 1 hk9 (by omega)
 have y2 := (HSH.out.nxt HU1.out).c k 2 hk9 (by omega)
 have y3 := (HSH.out.nxt HU1.out).c k 3 hk9 (by omega)
 have y4 := (HSH.out.nxt HU1.out).c k 4 hk9 (by omega)
 have y5 := (HSH.out.nxt HU1.out).c k 5 hk9 (by omega)
 have y6 := (HSH.out.nxt HU1.out).c k 6 hk9 (by omega)
 have y7 := (HSH.out.nxt HU1.out).c k 7 hk9 (by omega)
 have y8 := (HSH.out.nxt HU1.out).c k 8 hk9 (by omega)
 have y9 := (HSH.out.nxt HU1.out).c k 9 hk9 (by omega)
 have y10 := (HSH.out.nxt HU1.out).c k 10 hk9 (by omega)
 have y11 := (HSH.out.nxt HU1.out).c k 11 hk9 (by omega)
 have y12 := (HSH.out.nxt HU1.out).c k 12 hk9 (by omega)
 have y13 := (HSH.out.nxt HU1.out).c k 13 hk9 (by omega)
 have y14 := (HSH.out.nxt HU1.out).c k 14 hk9 (by omega)
 rw [Nat.add_zero] at y0
 generalize w.heap.size = p at hb hlt ⊢
 have x0 : w1.cell? ⟨p, 0, none⟩ = some (.int .i64 (k : Nat)) := by simp [World.cell?, hb, hC]
 clear hk9
 go_wp2_with fail
 obtain ⟨W2, hW2⟩ : ∃ W, W = w1.alloc (.cells #[.int .i64 (sh k 0), .int .i64 (sh k 1), .int .i64 (sh k 2), .int .i64 (sh k 3), .int .i64 (sh k 4), .int .i64 (sh k 5), .int .i64 (sh k 6), .int .i64 (sh k 7), .int .i64 (sh k 8), .int .i64 (sh k 9), .int .i64 (sh k 10), .int .i64 (sh k 11), .int .i64 (sh k 12), .int .i64 (sh k 13), .int .i64 (sh k 14)] 53) := ⟨_, rfl⟩
 have U2 : Hid (Up Nul w1 W2) := by show Up _ _ _; rw [hW2]; exact (Up.refl Nul w1).alloc _
 have hq : W2.heap[w1.heap.size]? = some (.cells #[.int .i64 (sh k 0), .int .i64 (sh k 1), .int .i64 (sh k 2), .int .i64 (sh k 3), .int .i64 (sh k 4), .int .i64 (sh k 5), .int .i64 (sh k 6), .int .i64 (sh k 7), .int .i64 (sh k 8), .int .i64 (sh k 9), .int .i64 (sh k 10), .int .i64 (sh k 11), .int .i64 (sh k 12), .int .i64 (sh k 13), .int .i64 (sh k 14)] 53 (0, 0)) := by rw [hW2]; exact heap_alloc_new _ _
 have hp := (U2.out.block p hlt id).trans hb
 rw [hC] at hp
 have hq2 : w1.heap.size < W2.heap.size := by rw [hW2]; simp
 have hp2 := Nat.lt_of_lt_of_le hlt U2.out.size
 have U3 := hid (HU1.out.trans U2.out)
 rw [← hW2]
 clear hW2 x0 y0 y1 y2 y3 y4 y5 y6 y7 y8 y9 y10 y11 y12 y13 y14 hb U2 HU1 hlt
 generalize w1.heap.size = q at hq hq2 ⊢
 have Hp1 := celN 1 (.string s) hp2 hp rfl
 have Hp2 := celN 2 (.int .i64 n) hp2 hp rfl
 have Hp3 := celN 3 (.int .i64 sid) hp2 hp rfl
 have Hp4 := celN 4 (.slice sa ns cs) hp2 hp rfl
 have Hp5 := celN 5 (.int .i64 co) hp2 hp rfl
 have Hp6 := celN 6 (.slice la nl cl) hp2 hp rfl
 have Hp7 := celN 7 (.int .i64 t.hot) hp2 hp rfl
 have Hp8 := celN 8 (.int .i64 t.warm) hp2 hp rfl
 have Hp9 := celN 9 (.int .i64 t.gap) hp2 hp rfl
 have Hp10 := celN 10 (.int .i64 t.add) hp2 hp rfl
 have Hp11 := celN 11 (.int .i64 t.top) hp2 hp rfl
 have Hp12 := celN 12 (.int .i64 t.half) hp2 hp rfl
 have Hq0 := celN 0 (.int .i64 (sh k 0)) hq2 hq rfl
 have Hq1 := celN 1 (.int .i64 (sh k 1)) hq2 hq rfl
 have Hq2 := celN 2 (.int .i64 (sh k 2)) hq2 hq rfl
 have Hq3 := celN 3 (.int .i64 (sh k 3)) hq2 hq rfl
 have Hq4 := celN 4 (.int .i64 (sh k 4)) hq2 hq rfl
 have Hq5 := celN 5 (.int .i64 (sh k 5)) hq2 hq rfl
 have Hq6 := celN 6 (.int .i64 (sh k 6)) hq2 hq rfl
 have Hq7 := celN 7 (.int .i64 (sh k 7)) hq2 hq rfl
 have Hq8 := celN 8 (.int .i64 (sh k 8)) hq2 hq rfl
 have Hq9 := celN 9 (.int .i64 (sh k 9)) hq2 hq rfl
 have Hq10 := celN 10 (.int .i64 (sh k 10)) hq2 hq rfl
 have Hq11 := celN 11 (.int .i64 (sh k 11)) hq2 hq rfl
 have Hq12 := celN 12 (.int .i64 (sh k 12)) hq2 hq rfl
 have Hq13 := celN 13 (.int .i64 (sh k 13)) hq2 hq rfl
 have Hq14 := celN 14 (.int .i64 (sh k 14)) hq2 hq rfl
 clear hp hq hp2 hq2
 have HR := hid (Up.refl Nul W2)
 simp only [List.append]
 refine wp_region_held_drew (S := (fun W => Up Nul W2 W)) (by kernel_rfl) (by exact HR.out.drew) (fun hHeld => ?_)
 refine tkl 0 (some 12) ?vk9n1u1 rfl ?yk9n1u1 ?rk9n1u1
 case yk9n1u1 => (intro w hSw; (try dsimp only at hSw); go_simp; try with_reducible rfl)
 try simp only [tdy]
 refine tkl 1 (some 13) ?vk9x2 rfl ?yk9x2 ?rk9x2
 case yk9x2 => (intro w hSw; have aq0 := Hq0.out w hSw; have aq1 := Hq1.out w hSw; go_simp; try with_reducible rfl)
 try simp only [tdy]
 refine tkl 2 (some 14) ?vk9n3u1 rfl ?yk9n3u1 ?rk9n3u1
 case yk9n3u1 => (intro w hSw; (try dsimp only at hSw); go_simp; try with_reducible rfl)
 try simp only [tdy]
 refine tkl 3 (some 15) ?vk9x4 rfl ?yk9x4 ?rk9x4
 case yk9x4 => (intro w hSw; have ap1 := Hp1.out w hSw; go_simp; try with_reducible rfl)
 try simp only [tdy]
 refine tkl 4 (some 16) ?vk9n5u1 rfl ?yk9n5u1 ?rk9n5u1
 case yk9n5u1 => (intro w hSw; (try dsimp only at hSw); go_simp; try with_reducible rfl)
 try simp only [tdy]
 refine one 5 (some 17) rfl (fun K hK => ?_)
 go_simp
 skip
 refine hK.out _ _ ?kk9n6u1 (fun hHeld => ?_)
 case kk9n6u1 => exact (by first | exact Up.alloc (show Up Nul W2 _ from hHeld) _ | exact (Up.alloc (show Up Nul W2 _ from HR.out) _).drew)
 clear hK K
 try simp only [tdy]
 refine one 6 (some 18) rfl (fun K hK => ?_)
 go_simp
 go_at_call 20; refine (HH.out.h1 _ (U3.out.trans (show Up Nul W2 _ from hHeld)) _ (by first | exact World.cell?_alloc_new _ _ _ 0 | (simp; done) | go_simp)).mono ?_; rintro e wb ⟨rfl, kb⟩
 refine hK.out _ _ ?kk9n7u1 (fun hHeld => ?_)
 case kk9n7u1 => exact (Up.trans (show Up Nul W2 _ from hHeld) kb)
 clear hK K
 try simp only [tdy]
 refine tkl 7 (some 19) ?vk9n8u1 rfl ?yk9n8u1 ?rk9n8u1
 case yk9n8u1 => (intro w hSw; (try dsimp only at hSw); go_simp; try with_reducible rfl)
 try simp only [tdy]
 refine tkl 8 (some 20) ?vk9n9u1 rfl ?yk9n9u1 ?rk9n9u1
 case yk9n9u1 => (intro w hSw; (try dsimp only at hSw); go_simp; try with_reducible rfl)
 try simp only [tdy]
 refine tkl 9 (some 21) ?vk9x10 rfl ?yk9x10 ?rk9x10
 case yk9x10 => (intro w hSw; have ap1 := Hp1.out w hSw; go_simp; try with_reducible rfl)
 try simp only [tdy]
 refine one 10 (some 22) rfl (fun K hK => ?_)
 go_simp
 go_at_call 21; refine (HH.out.h2 _).mono ?_; rintro e wb ⟨rfl, kb⟩
 refine hK.out _ _ ?kk9n11u1 (fun hHeld => ?_)
 case kk9n11u1 => exact (Up.trans (show Up Nul W2 _ from hHeld) kb)
 clear hK K
 try simp only [tdy]
 refine tkl 11 (some 23) ?vk9n12u1 rfl ?yk9n12u1 ?rk9n12u1
 case yk9n12u1 => (intro w hSw; (try dsimp only at hSw); go_simp; try with_reducible rfl)
 try simp only [tdy]
 refine tkl 12 (some 24) ?vk9n13u1 rfl ?yk9n13u1 ?rk9n13u1
 case yk9n13u1 => (intro w hSw; (try dsimp only at hSw); go_simp; try with_reducible rfl)
 try simp only [tdy]
 refine tkl 13 (some 25) ?vk9n14u1 rfl ?yk9n14u1 ?rk9n14u1
 case yk9n14u1 => (intro w hSw; (try dsimp only at hSw); go_simp; try with_reducible rfl)
 try simp only [tdy]
 refine tkl 14 (some 26) ?vk9x15 rfl ?yk9x15 ?rk9x15
 case yk9x15 => (intro w hSw; have aq2 := Hq2.out w hSw; have aq3 := Hq3.out w hSw; go_simp; try with_reducible rfl)
 try simp only [tdy]
 refine tkl 15 (some 27) ?vk9n16u1 rfl ?yk9n16u1 ?rk9n16u1
 case yk9n16u1 => (intro w hSw; (try dsimp only at hSw); go_simp; try with_reducible rfl)
 try simp only [tdy]
 refine tkl 16 (some 28) ?vk9x17 rfl ?yk9x17 ?rk9x17
 case yk9x17 => (intro w hSw; have ap2 := Hp2.out w hSw; go_simp; try with_reducible rfl)
 try simp only [tdy]
 refine one 17 (some 29) rfl (fun K hK => ?_)
 go_simp
 skip
 refine hK.out _ _ ?kk9n18u1 (fun hHeld => ?_)
 case kk9n18u1 => exact (by first | exact Up.alloc (show Up Nul W2 _ from hHeld) _ | exact (Up.alloc (show Up Nul W2 _ from HR.out) _).drew)
 clear hK K
 try simp only [tdy]
 refine one 18 (some 30) rfl (fun K hK => ?_)
 go_simp
 go_at_call 20; refine (HH.out.h3 _ (U3.out.trans (show Up Nul W2 _ from hHeld)) _ (by first | exact World.cell?_alloc_new _ _ _ 0 | (simp; done) | go_simp)).mono ?_; rintro e wb ⟨rfl, kb⟩
 refine hK.out _ _ ?kk9n19u1 (fun hHeld => ?_)
 case kk9n19u1 => exact (Up.trans (show Up Nul W2 _ from hHeld) kb)
 clear hK K
 try simp only [tdy]
 refine tkl 19 (some 31) ?vk9n20u1 rfl ?yk9n20u1 ?rk9n20u1
 case yk9n20u1 => (intro w hSw; (try dsimp only at hSw); go_simp; try with_reducible rfl)
 try simp only [tdy]
 refine tkl 20 (some 32) ?vk9n21u1 rfl ?yk9n21u1 ?rk9n21u1
 case yk9n21u1 => (intro w hSw; (try dsimp only at hSw); go_simp; try with_reducible rfl)
 try simp only [tdy]
 refine tkl 21 (some 33) ?vk9n22u1 rfl ?yk9n22u1 ?rk9n22u1
 case yk9n22u1 => (intro w hSw; (try dsimp only at hSw); go_simp; try with_reducible rfl)
 try simp only [tdy]
 refine tkl 22 (some 34) ?vk9x23 rfl ?yk9x23 ?rk9x23
 case yk9x23 => (intro w hSw; have aq4 := Hq4.out w hSw; have aq5 := Hq5.out w hSw; go_simp; try with_reducible rfl)
 try simp only [tdy]
 refine tkl 23 (some 35) ?vk9n24u1 rfl ?yk9n24u1 ?rk9n24u1
 case yk9n24u1 => (intro w hSw; (try dsimp only at hSw); go_simp; try with_reducible rfl)
 try simp only [tdy]
 refine tkl 24 (some 36) ?vk9x25 rfl ?yk9x25 ?rk9x25
 case yk9x25 => (intro w hSw; have ap3 := Hp3.out w hSw; go_simp; try with_reducible rfl)
 try simp only [tdy]
 refine one 25 (some 37) rfl (fun K hK => ?_)
 go_simp
 skip
 refine hK.out _ _ ?kk9n26u1 (fun hHeld => ?_)
 case kk9n26u1 => exact (by first | exact Up.alloc (show Up Nul W2 _ from hHeld) _ | exact (Up.alloc (show Up Nul W2 _ from HR.out) _).drew)
 clear hK K
 try simp only [tdy]
 refine one 26 (some 38) rfl (fun K hK => ?_)
 go_simp
 go_at_call 20; refine (HH.out.h4 _ (U3.out.trans (show Up Nul W2 _ from hHeld)) _ (by first | exact World.cell?_alloc_new _ _ _ 0 | (simp; done) | go_simp)).mono ?_; rintro e wb ⟨rfl, kb⟩
 refine hK.out _ _ ?kk9n27u1 (fun hHeld => ?_)
 case kk9n27u1 => exact (Up.trans (show Up Nul W2 _ from hHeld) kb)
 clear hK K
 try simp only [tdy]
 refine tkl 27 (some 39) ?vk9n28u1 rfl ?yk9n28u1 ?rk9n28u1
 case yk9n28u1 => (intro w hSw; (try dsimp only at hSw); go_simp; try with_reducible rfl)
 try simp only [tdy]
 refine tkl 28 (some 40) ?vk9n29u1 rfl ?yk9n29u1 ?rk9n29u1
 case yk9n29u1 => (intro w hSw; (try dsimp only at hSw); go_simp; try with_reducible rfl)
 try simp only [tdy]
 refine tkl 29 (some 41) ?vk9n30u1 rfl ?yk9n30u1 ?rk9n30u1
 case yk9n30u1 => (intro w hSw; (try dsimp only at hSw); go_simp; try with_reducible rfl)
 try simp only [tdy]
 refine tkl 30 (some 42) ?vk9x31 rfl ?yk9x31 ?rk9x31
 case yk9x31 => (intro w hSw; have aq6 := Hq6.out w hSw; have aq7 := Hq7.out w hSw; go_simp; try with_reducible rfl)
 try simp only [tdy]
 refine tkl 31 (some 43) ?vk9n32u1 rfl ?yk9n32u1 ?rk9n32u1
 case yk9n32u1 => (intro w hSw; (try dsimp only at hSw); go_simp; try with_reducible rfl)
 try simp only [tdy]
 refine tkl 32 (some 44) ?vk9x33 rfl ?yk9x33 ?rk9x33
 case yk9x33 => (intro w hSw; have ap5 := Hp5.out w hSw; go_simp; try with_reducible rfl)
 try simp only [tdy]
 refine one 33 (some 45) rfl (fun K hK => ?_)
 go_simp
 skip
 refine hK.out _ _ ?kk9n34u1 (fun hHeld => ?_)
 case kk9n34u1 => exact (by first | exact Up.alloc (show Up Nul W2 _ from hHeld) _ | exact (Up.alloc (show Up Nul W2 _ from HR.out) _).drew)
 clear hK K
 try simp only [tdy]
 refine one 34 (some 46) rfl (fun K hK => ?_)
 go_simp
 go_at_call 20; refine (HH.out.h5 _ (U3.out.trans (show Up Nul W2 _ from hHeld)) _ (by first | exact World.cell?_alloc_new _ _ _ 0 | (simp; done) | go_simp)).mono ?_; rintro e wb ⟨rfl, kb⟩
 refine hK.out _ _ ?kk9n35u1 (fun hHeld => ?_)
 case kk9n35u1 => exact (Up.trans (show Up Nul W2 _ from hHeld) kb)
 clear hK K
 try simp only [tdy]
 refine tkl 35 (some 47) ?vk9n36u1 rfl ?yk9n36u1 ?rk9n36u1
 case yk9n36u1 => (intro w hSw; (try dsimp only at hSw); go_simp; try with_reducible rfl)
 try simp only [tdy]
 refine tkl 36 (some 48) ?vk9n37u1 rfl ?yk9n37u1 ?rk9n37u1
 case yk9n37u1 => (intro w hSw; (try dsimp only at hSw); go_simp; try with_reducible rfl)
 try simp only [tdy]
 refine tkl 37 (some 49) ?vk9n38u1 rfl ?yk9n38u1 ?rk9n38u1
 case yk9n38u1 => (intro w hSw; (try dsimp only at hSw); go_simp; try with_reducible rfl)
 try simp only [tdy]
 refine tkl 38 (some 50) ?vk9x39 rfl ?yk9x39 ?rk9x39
 case yk9x39 => (intro w hSw; have ap4 := Hp4.out w hSw; go_simp; try with_reducible rfl)
 try simp only [tdy]
 refine tkl 39 (some 51) ?vk9n40u1 rfl ?yk9n40u1 ?rk9n40u1
 case yk9n40u1 => (intro w hSw; (try dsimp only at hSw); go_simp; try with_reducible rfl)
 try simp only [tdy]
 refine tkl 40 (some 52) ?vk9n41u1 rfl ?yk9n41u1 ?rk9n41u1
 case yk9n41u1 => (intro w hSw; (try dsimp only at hSw); go_simp; try with_reducible rfl)
 try simp only [tdy]
 refine tkl 41 (some 53) ?vk9x42 rfl ?yk9x42 ?rk9x42
 case yk9x42 => (intro w hSw; have aq8 := Hq8.out w hSw; go_simp; try with_reducible rfl)
 try simp only [tdy]
 refine tkl 42 (some 54) ?vk9n43u1 rfl ?yk9n43u1 ?rk9n43u1
 case yk9n43u1 => (intro w hSw; (try dsimp only at hSw); go_simp; try with_reducible rfl)
 try simp only [tdy]
 refine tkl 43 (some 55) ?vk9n44u1 rfl ?yk9n44u1 ?rk9n44u1
 case yk9n44u1 => (intro w hSw; (try dsimp only at hSw); go_simp; try with_reducible rfl)
 try simp only [tdy]
 refine tkl 44 (some 56) ?vk9n45u1 rfl ?yk9n45u1 ?rk9n45u1
 case yk9n45u1 => (intro w hSw; (try dsimp only at hSw); go_simp; try with_reducible rfl)
 try simp only [tdy]
 refine tkl 45 (some 57) ?vk9n46u1 rfl ?yk9n46u1 ?rk9n46u1
 case yk9n46u1 => (intro w hSw; (try dsimp only at hSw); go_simp; try with_reducible rfl)
 try simp only [tdy]
 refine tkl 46 (some 58) ?vk9x47 rfl ?yk9x47 ?rk9x47
 case yk9x47 => (intro w hSw; have aq9 := Hq9.out w hSw; have aq10 := Hq10.out w hSw; go_simp; try with_reducible rfl)
 try simp only [tdy]
 refine tkl 47 (some 59) ?vk9n48u1 rfl ?yk9n48u1 ?rk9n48u1
 case yk9n48u1 => (intro w hSw; (try dsimp only at hSw); go_simp; try with_reducible rfl)
 try simp only [tdy]
 refine tkl 48 (some 60) ?vk9x49 rfl ?yk9x49 ?rk9x49
 case yk9x49 => (intro w hSw; have ap4 := Hp4.out w hSw; go_simp; try with_reducible rfl)
 try simp only [tdy]
 refine one 49 (some 61) rfl (fun K hK => ?_)
 go_simp
 go_at_call 20; refine (HH.out.h7 _ (U3.out.trans (show Up Nul W2 _ from hHeld))).mono ?_; rintro e wb ⟨rfl, kb⟩
 refine hK.out _ _ ?kk9n50u1 (fun hHeld => ?_)
 case kk9n50u1 => exact (Up.trans (show Up Nul W2 _ from hHeld) kb)
 clear hK K
 try simp only [tdy]
 refine tkl 50 (some 62) ?vk9n51u1 rfl ?yk9n51u1 ?rk9n51u1
 case yk9n51u1 => (intro w hSw; (try dsimp only at hSw); go_simp; try with_reducible rfl)
 try simp only [tdy]
 refine tkl 51 (some 63) ?vk9n52u1 rfl ?yk9n52u1 ?rk9n52u1
 case yk9n52u1 => (intro w hSw; (try dsimp only at hSw); go_simp; try with_reducible rfl)
 try simp only [tdy]
 refine tkl 52 (some 64) ?vk9n53u1 rfl ?yk9n53u1 ?rk9n53u1
 case yk9n53u1 => (intro w hSw; (try dsimp only at hSw); go_simp; try with_reducible rfl)
 try simp only [tdy]
 refine tkl 53 (some 65) ?vk9x54 rfl ?yk9x54 ?rk9x54
 case yk9x54 => (intro w hSw; have ap6 := Hp6.out w hSw; go_simp; try with_reducible rfl)
 try simp only [tdy]
 refine tkl 54 (some 66) ?vk9n55u1 rfl ?yk9n55u1 ?rk9n55u1
 case yk9n55u1 => (intro w hSw; (try dsimp only at hSw); go_simp; try with_reducible rfl)
 try simp only [tdy]
 refine tkl 55 (some 67) ?vk9x56 rfl ?yk9x56 ?rk9x56
 case yk9x56 => (intro w hSw; have aq0 := Hq0.out w hSw; have aq1 := Hq1.out w hSw; have aq2 := Hq2.out w hSw; have aq3 := Hq3.out w hSw; have aq4 := Hq4.out w hSw; have aq5 := Hq5.out w hSw; have aq6 := Hq6.out w hSw; have aq7 := Hq7.out w hSw; have aq8 := Hq8.out w hSw; have aq9 := Hq9.out w hSw; have aq10 := Hq10.out w hSw; have aq11 := Hq11.out w hSw; have aq12 := Hq12.out w hSw; have aq13 := Hq13.out w hSw; have aq14 := Hq14.out w hSw; go_simp; try with_reducible rfl)
 try simp only [tdy]
 refine tkl 56 (some 68) ?vk9n57u1 rfl ?yk9n57u1 ?rk9n57u1
 case yk9n57u1 => (intro w hSw; (try dsimp only at hSw); go_simp; try with_reducible rfl)
 try simp only [tdy]
 refine tkl 57 (some 69) ?vk9x58 rfl ?yk9x58 ?rk9x58
 case yk9x58 => (intro w hSw; have ap4 := Hp4.out w hSw; go_simp; try with_reducible rfl)
 try simp only [tdy]
 refine one 58 (some 70) rfl (fun K hK => ?_)
 go_simp
 go_at_call 22; refine (H8.out _ (U3.out.trans (show Up Nul W2 _ from hHeld))).mono ?_; rintro e wb ⟨rfl, kb⟩
 refine hK.out _ _ ?kk9n59u1 (fun hHeld => ?_)
 case kk9n59u1 => exact (Up.trans (show Up Nul W2 _ from hHeld) kb)
 clear hK K
 try simp only [tdy]
 refine tkl 59 (some 71) ?vk9n60u1 rfl ?yk9n60u1 ?rk9n60u1
 case yk9n60u1 => (intro w hSw; (try dsimp only at hSw); go_simp; try with_reducible rfl)
 try simp only [tdy]
 refine tkl 60 (some 72) ?vk9n61u1 rfl ?yk9n61u1 ?rk9n61u1
 case yk9n61u1 => (intro w hSw; (try dsimp only at hSw); go_simp; try with_reducible rfl)
 try simp only [tdy]
 refine tkl 61 (some 73) ?vk9n62u1 rfl ?yk9n62u1 ?rk9n62u1
 case yk9n62u1 => (intro w hSw; (try dsimp only at hSw); go_simp; try with_reducible rfl)
 try simp only [tdy]
 refine tkl 62 (some 74) ?vk9n63u1 rfl ?yk9n63u1 ?rk9n63u1
 case yk9n63u1 => (intro w hSw; (try dsimp only at hSw); go_simp; try with_reducible rfl)
 try simp only [tdy]
 refine tkl 63 (some 75) ?vk9x64 rfl ?yk9x64 ?rk9x64
 case yk9x64 => (intro w hSw; have ap6 := Hp6.out w hSw; go_simp; try with_reducible rfl)
 try simp only [tdy]
 refine one 64 (some 76) rfl (fun K hK => ?_)
 go_simp
 go_at_call 23; refine (HH.out.h9 _ (U3.out.trans (show Up Nul W2 _ from hHeld))).mono ?_; rintro e wb ⟨rfl, kb⟩
 refine hK.out _ _ ?kk9n65u1 (fun hHeld => ?_)
 case kk9n65u1 => exact (Up.trans (show Up Nul W2 _ from hHeld) kb)
 clear hK K
 try simp only [tdy]
 refine tkl 65 (some 77) ?vk9n66u1 rfl ?yk9n66u1 ?rk9n66u1
 case yk9n66u1 => (intro w hSw; (try dsimp only at hSw); go_simp; try with_reducible rfl)
 try simp only [tdy]
 refine tkl 66 (some 78) ?vk9n67u1 rfl ?yk9n67u1 ?rk9n67u1
 case yk9n67u1 => (intro w hSw; (try dsimp only at hSw); go_simp; try with_reducible rfl)
 try simp only [tdy]
 refine tkl 67 (some 79) ?vk9n68u1 rfl ?yk9n68u1 ?rk9n68u1
 case yk9n68u1 => (intro w hSw; (try dsimp only at hSw); go_simp; try with_reducible rfl)
 try simp only [tdy]
 refine tku 68 (some 80) rfl ?rk9n69u1
 try simp only [tdy]
 refine tku 69 (some 81) rfl ?rk9n70u1
 try simp only [tdy]
 refine tku 70 (some 82) rfl ?rk9n71u1
 try simp only [tdy]
 refine tku 71 (some 83) rfl ?rk9n72u1
 try simp only [tdy]
 refine tku 72 (some 84) rfl ?rk9n73u1
 try simp only [tdy]
 refine tku 73 (some 85) rfl ?rk9n74u1
 try simp only [tdy]
 refine tkl 74 (some 86) ?vk9n75u1 rfl ?yk9n75u1 ?rk9n75u1
 case yk9n75u1 => (intro w hSw; (try dsimp only at hSw); go_simp; try with_reducible rfl)
 try simp only [tdy]
 refine tkl 75 (some 2) ?vk9n76u1 rfl ?yk9n76u1 ?rk9n76u1
 case yk9n76u1 => (intro w hSw; (try dsimp only at hSw); go_simp; try with_reducible rfl)
 try simp only [tdy]
 refine wpAnyH_done (by kernel_rfl) ?_ _
 have HE := hid (U3.out.trans (show Up Nul W2 _ from hHeld))
 clear hHeld
 go_wp2
 go_ret
 exact ⟨by first | rfl | simp, HE.out⟩
set_option maxRecDepth 100000 in
set_option maxHeartbeats 4000000 in
theorem ok_case10 (w : World) (s : ByteArray) (n sid co : Int) (sa : Option Addr) (ns cs : Nat) (la : Option Addr) (nl cl : Nat) (t : Tb) (k : Nat) (c1 c2 c3 c4 c5 c6 c7 c8 c9 c10 : Bool) (hk : spn 1 8 (k : Int) = true) (hS : Shp w) (hc1 : c1 = true) (hc2 : c2 = true) (hc3 : c3 = true) (hc4 : c4 = true) (hc5 : c5 = true) (hc6 : c6 = true) (hc7 : c7 = true) (hc8 : c8 = true) (hc9 : c9 = true)
  (H : OkC w s n sid co sa ns cs la nl cl t k c1 c2 c3 c4 c5 c6 c7 c8 c9 c10) :
  Calls Tryd.prog 8 #[.agg #[.int .i64 (k : Nat), .string s, .int .i64 n, .int .i64 sid, .slice sa ns cs, .int .i64 co, .slice la nl cl, .int .i64 t.hot, .int .i64 t.warm, .int .i64 t.gap, .int .i64 t.add, .int .i64 t.top, .int .i64 t.half]] w
   fun e w' => e = .returned (.bool (c1 && c2 && c3 && c4 && c5 && c6 && c7 && c8 && c9 && c10)) ∧ Up Nul w w' := by
 subst hc1 hc2 hc3 hc4 hc5 hc6 hc7 hc8 hc9
 obtain ⟨q8, h8e, h8c⟩ := H.h8 rfl
 have H8 := hid h8c
 clear h8c
 have h6e := H.h6
 have HK := hid (fun W => kind_any (k : Int) W)
 rw [hk] at HK
 have hk9 : k < 9 := by
  unfold spn at hk
  simp at hk
  omega
 have i0 : (0 : Int) ≤ (k : Int) := by omega
 have i1 : (k : Int) < 9 := by omega
 have HH := hid H
 clear H
 obtain ⟨C, hC⟩ : ∃ C : Array Value, C = #[.int .i64 (k : Nat), .string s, .int .i64 n, .int .i64 sid, .slice sa ns cs, .int .i64 co, .slice la nl cl, .int .i64 t.hot, .int .i64 t.warm, .int .i64 t.gap, .int .i64 t.add, .int .i64 t.top, .int .i64 t.half] := ⟨_, rfl⟩
 have HUA := hid ((Up.refl Nul w).alloc (.cells C 27))
 have HBA : Hid ((w.alloc (.cells C 27)).heap[w.heap.size]? = some (.cells C 27 (0, 0))) := heap_alloc_new _ _
 have HLT : Hid (w.heap.size < (w.alloc (.cells C 27)).heap.size) := by show _ < _; simp
 have HSH := hid hS
 go_enter Tryd.func8, Tryd.ntmps8
 go_wp2_with fail
 rw [← hC]
 refine (HK.out _).mono ?_
 rintro e w1 ⟨rfl, u1⟩
 have hb := (u1.block _ HLT.out id).trans HBA.out
 have HU1 := hid (HUA.out.trans u1)
 have hlt := Nat.lt_of_lt_of_le HLT.out u1.size
 clear u1 HBA HUA HLT
 have y0 := (HSH.out.nxt HU1.out).c k 0 hk9 (by omega)
 have y1 := (HSH.out.nxt HU1.out).c k 1 hk9 (by omega)
 have y2 := (HSH.out.nxt HU1.out).c k 2 hk9 (by omega)
 have y3 := (HSH.out.nxt HU1.out).c k 3 hk9 (by omega)
 have y4 := (HSH.out.nxt HU1.out).c k 4 hk9 (by omega)
 have y5 := (HSH.out.nxt HU1.out).c k 5 hk9 (by omega)
 have y6 := (HSH.out.nxt HU1.out).c k 6 hk9 (by omega)
 have y7 := (HSH.out.nxt HU1.out).c k 7 hk9 (by omega)
 have y8 := (HSH.out.nxt HU1.out).c k 8 hk9 (by omega)
 have y9 := (HSH.out.nxt HU1.out).c k 9 hk9 (by omega)
 have y10 := (HSH.out.nxt HU1.out).c k 10 hk9 (by omega)
 have y11 := (HSH.out.nxt HU1.out).c k 11 hk9 (by omega)
 have y12 := (HSH.out.nxt HU1.out).c k 12 hk9 (by omega)
 have y13 := (HSH.out.nxt HU1.out).c k 13 hk9 (by omega)
 have y14 := (HSH.out.nxt HU1.out).c k 14 hk9 (by omega)
 rw [Nat.add_zero] at y0
 generalize w.heap.size = p at hb hlt ⊢
 have x0 : w1.cell? ⟨p, 0, none⟩ = some (.int .i64 (k : Nat)) := by simp [World.cell?, hb, hC]
 clear hk9
 go_wp2_with fail
 obtain ⟨W2, hW2⟩ : ∃ W, W = w1.alloc (.cells #[.int .i64 (sh k 0), .int .i64 (sh k 1), .int .i64 (sh k 2), .int .i64 (sh k 3), .int .i64 (sh k 4), .int .i64 (sh k 5), .int .i64 (sh k 6), .int .i64 (sh k 7), .int .i64 (sh k 8), .int .i64 (sh k 9), .int .i64 (sh k 10), .int .i64 (sh k 11), .int .i64 (sh k 12), .int .i64 (sh k 13), .int .i64 (sh k 14)] 53) := ⟨_, rfl⟩
 have U2 : Hid (Up Nul w1 W2) := by show Up _ _ _; rw [hW2]; exact (Up.refl Nul w1).alloc _
 have hq : W2.heap[w1.heap.size]? = some (.cells #[.int .i64 (sh k 0), .int .i64 (sh k 1), .int .i64 (sh k 2), .int .i64 (sh k 3), .int .i64 (sh k 4), .int .i64 (sh k 5), .int .i64 (sh k 6), .int .i64 (sh k 7), .int .i64 (sh k 8), .int .i64 (sh k 9), .int .i64 (sh k 10), .int .i64 (sh k 11), .int .i64 (sh k 12), .int .i64 (sh k 13), .int .i64 (sh k 14)] 53 (0, 0)) := by rw [hW2]; exact heap_alloc_new _ _
 have hp := (U2.out.block p hlt id).trans hb
 rw [hC] at hp
 have hq2 : w1.heap.size < W2.heap.size := by rw [hW2]; simp
 have hp2 := Nat.lt_of_lt_of_le hlt U2.out.size
 have U3 := hid (HU1.out.trans U2.out)
 rw [← hW2]
 clear hW2 x0 y0 y1 y2 y3 y4 y5 y6 y7 y8 y9 y10 y11 y12 y13 y14 hb U2 HU1 hlt
 generalize w1.heap.size = q at hq hq2 ⊢
 have Hp1 := celN 1 (.string s) hp2 hp rfl
 have Hp2 := celN 2 (.int .i64 n) hp2 hp rfl
 have Hp3 := celN 3 (.int .i64 sid) hp2 hp rfl
 have Hp4 := celN 4 (.slice sa ns cs) hp2 hp rfl
 have Hp5 := celN 5 (.int .i64 co) hp2 hp rfl
 have Hp6 := celN 6 (.slice la nl cl) hp2 hp rfl
 have Hp7 := celN 7 (.int .i64 t.hot) hp2 hp rfl
 have Hp8 := celN 8 (.int .i64 t.warm) hp2 hp rfl
 have Hp9 := celN 9 (.int .i64 t.gap) hp2 hp rfl
 have Hp10 := celN 10 (.int .i64 t.add) hp2 hp rfl
 have Hp11 := celN 11 (.int .i64 t.top) hp2 hp rfl
 have Hp12 := celN 12 (.int .i64 t.half) hp2 hp rfl
 have Hq0 := celN 0 (.int .i64 (sh k 0)) hq2 hq rfl
 have Hq1 := celN 1 (.int .i64 (sh k 1)) hq2 hq rfl
 have Hq2 := celN 2 (.int .i64 (sh k 2)) hq2 hq rfl
 have Hq3 := celN 3 (.int .i64 (sh k 3)) hq2 hq rfl
 have Hq4 := celN 4 (.int .i64 (sh k 4)) hq2 hq rfl
 have Hq5 := celN 5 (.int .i64 (sh k 5)) hq2 hq rfl
 have Hq6 := celN 6 (.int .i64 (sh k 6)) hq2 hq rfl
 have Hq7 := celN 7 (.int .i64 (sh k 7)) hq2 hq rfl
 have Hq8 := celN 8 (.int .i64 (sh k 8)) hq2 hq rfl
 have Hq9 := celN 9 (.int .i64 (sh k 9)) hq2 hq rfl
 have Hq10 := celN 10 (.int .i64 (sh k 10)) hq2 hq rfl
 have Hq11 := celN 11 (.int .i64 (sh k 11)) hq2 hq rfl
 have Hq12 := celN 12 (.int .i64 (sh k 12)) hq2 hq rfl
 have Hq13 := celN 13 (.int .i64 (sh k 13)) hq2 hq rfl
 have Hq14 := celN 14 (.int .i64 (sh k 14)) hq2 hq rfl
 clear hp hq hp2 hq2
 have HR := hid (Up.refl Nul W2)
 simp only [List.append]
 refine wp_region_held_drew (S := (fun W => Up Nul W2 W)) (by kernel_rfl) (by exact HR.out.drew) (fun hHeld => ?_)
 refine tkl 0 (some 12) ?vk10n1u1 rfl ?yk10n1u1 ?rk10n1u1
 case yk10n1u1 => (intro w hSw; (try dsimp only at hSw); go_simp; try with_reducible rfl)
 try simp only [tdy]
 refine tkl 1 (some 13) ?vk10x2 rfl ?yk10x2 ?rk10x2
 case yk10x2 => (intro w hSw; have aq0 := Hq0.out w hSw; have aq1 := Hq1.out w hSw; go_simp; try with_reducible rfl)
 try simp only [tdy]
 refine tkl 2 (some 14) ?vk10n3u1 rfl ?yk10n3u1 ?rk10n3u1
 case yk10n3u1 => (intro w hSw; (try dsimp only at hSw); go_simp; try with_reducible rfl)
 try simp only [tdy]
 refine tkl 3 (some 15) ?vk10x4 rfl ?yk10x4 ?rk10x4
 case yk10x4 => (intro w hSw; have ap1 := Hp1.out w hSw; go_simp; try with_reducible rfl)
 try simp only [tdy]
 refine tkl 4 (some 16) ?vk10n5u1 rfl ?yk10n5u1 ?rk10n5u1
 case yk10n5u1 => (intro w hSw; (try dsimp only at hSw); go_simp; try with_reducible rfl)
 try simp only [tdy]
 refine one 5 (some 17) rfl (fun K hK => ?_)
 go_simp
 skip
 refine hK.out _ _ ?kk10n6u1 (fun hHeld => ?_)
 case kk10n6u1 => exact (by first | exact Up.alloc (show Up Nul W2 _ from hHeld) _ | exact (Up.alloc (show Up Nul W2 _ from HR.out) _).drew)
 clear hK K
 try simp only [tdy]
 refine one 6 (some 18) rfl (fun K hK => ?_)
 go_simp
 go_at_call 20; refine (HH.out.h1 _ (U3.out.trans (show Up Nul W2 _ from hHeld)) _ (by first | exact World.cell?_alloc_new _ _ _ 0 | (simp; done) | go_simp)).mono ?_; rintro e wb ⟨rfl, kb⟩
 refine hK.out _ _ ?kk10n7u1 (fun hHeld => ?_)
 case kk10n7u1 => exact (Up.trans (show Up Nul W2 _ from hHeld) kb)
 clear hK K
 try simp only [tdy]
 refine tkl 7 (some 19) ?vk10n8u1 rfl ?yk10n8u1 ?rk10n8u1
 case yk10n8u1 => (intro w hSw; (try dsimp only at hSw); go_simp; try with_reducible rfl)
 try simp only [tdy]
 refine tkl 8 (some 20) ?vk10n9u1 rfl ?yk10n9u1 ?rk10n9u1
 case yk10n9u1 => (intro w hSw; (try dsimp only at hSw); go_simp; try with_reducible rfl)
 try simp only [tdy]
 refine tkl 9 (some 21) ?vk10x10 rfl ?yk10x10 ?rk10x10
 case yk10x10 => (intro w hSw; have ap1 := Hp1.out w hSw; go_simp; try with_reducible rfl)
 try simp only [tdy]
 refine one 10 (some 22) rfl (fun K hK => ?_)
 go_simp
 go_at_call 21; refine (HH.out.h2 _).mono ?_; rintro e wb ⟨rfl, kb⟩
 refine hK.out _ _ ?kk10n11u1 (fun hHeld => ?_)
 case kk10n11u1 => exact (Up.trans (show Up Nul W2 _ from hHeld) kb)
 clear hK K
 try simp only [tdy]
 refine tkl 11 (some 23) ?vk10n12u1 rfl ?yk10n12u1 ?rk10n12u1
 case yk10n12u1 => (intro w hSw; (try dsimp only at hSw); go_simp; try with_reducible rfl)
 try simp only [tdy]
 refine tkl 12 (some 24) ?vk10n13u1 rfl ?yk10n13u1 ?rk10n13u1
 case yk10n13u1 => (intro w hSw; (try dsimp only at hSw); go_simp; try with_reducible rfl)
 try simp only [tdy]
 refine tkl 13 (some 25) ?vk10n14u1 rfl ?yk10n14u1 ?rk10n14u1
 case yk10n14u1 => (intro w hSw; (try dsimp only at hSw); go_simp; try with_reducible rfl)
 try simp only [tdy]
 refine tkl 14 (some 26) ?vk10x15 rfl ?yk10x15 ?rk10x15
 case yk10x15 => (intro w hSw; have aq2 := Hq2.out w hSw; have aq3 := Hq3.out w hSw; go_simp; try with_reducible rfl)
 try simp only [tdy]
 refine tkl 15 (some 27) ?vk10n16u1 rfl ?yk10n16u1 ?rk10n16u1
 case yk10n16u1 => (intro w hSw; (try dsimp only at hSw); go_simp; try with_reducible rfl)
 try simp only [tdy]
 refine tkl 16 (some 28) ?vk10x17 rfl ?yk10x17 ?rk10x17
 case yk10x17 => (intro w hSw; have ap2 := Hp2.out w hSw; go_simp; try with_reducible rfl)
 try simp only [tdy]
 refine one 17 (some 29) rfl (fun K hK => ?_)
 go_simp
 skip
 refine hK.out _ _ ?kk10n18u1 (fun hHeld => ?_)
 case kk10n18u1 => exact (by first | exact Up.alloc (show Up Nul W2 _ from hHeld) _ | exact (Up.alloc (show Up Nul W2 _ from HR.out) _).drew)
 clear hK K
 try simp only [tdy]
 refine one 18 (some 30) rfl (fun K hK => ?_)
 go_simp
 go_at_call 20; refine (HH.out.h3 _ (U3.out.trans (show Up Nul W2 _ from hHeld)) _ (by first | exact World.cell?_alloc_new _ _ _ 0 | (simp; done) | go_simp)).mono ?_; rintro e wb ⟨rfl, kb⟩
 refine hK.out _ _ ?kk10n19u1 (fun hHeld => ?_)
 case kk10n19u1 => exact (Up.trans (show Up Nul W2 _ from hHeld) kb)
 clear hK K
 try simp only [tdy]
 refine tkl 19 (some 31) ?vk10n20u1 rfl ?yk10n20u1 ?rk10n20u1
 case yk10n20u1 => (intro w hSw; (try dsimp only at hSw); go_simp; try with_reducible rfl)
 try simp only [tdy]
 refine tkl 20 (some 32) ?vk10n21u1 rfl ?yk10n21u1 ?rk10n21u1
 case yk10n21u1 => (intro w hSw; (try dsimp only at hSw); go_simp; try with_reducible rfl)
 try simp only [tdy]
 refine tkl 21 (some 33) ?vk10n22u1 rfl ?yk10n22u1 ?rk10n22u1
 case yk10n22u1 => (intro w hSw; (try dsimp only at hSw); go_simp; try with_reducible rfl)
 try simp only [tdy]
 refine tkl 22 (some 34) ?vk10x23 rfl ?yk10x23 ?rk10x23
 case yk10x23 => (intro w hSw; have aq4 := Hq4.out w hSw; have aq5 := Hq5.out w hSw; go_simp; try with_reducible rfl)
 try simp only [tdy]
 refine tkl 23 (some 35) ?vk10n24u1 rfl ?yk10n24u1 ?rk10n24u1
 case yk10n24u1 => (intro w hSw; (try dsimp only at hSw); go_simp; try with_reducible rfl)
 try simp only [tdy]
 refine tkl 24 (some 36) ?vk10x25 rfl ?yk10x25 ?rk10x25
 case yk10x25 => (intro w hSw; have ap3 := Hp3.out w hSw; go_simp; try with_reducible rfl)
 try simp only [tdy]
 refine one 25 (some 37) rfl (fun K hK => ?_)
 go_simp
 skip
 refine hK.out _ _ ?kk10n26u1 (fun hHeld => ?_)
 case kk10n26u1 => exact (by first | exact Up.alloc (show Up Nul W2 _ from hHeld) _ | exact (Up.alloc (show Up Nul W2 _ from HR.out) _).drew)
 clear hK K
 try simp only [tdy]
 refine one 26 (some 38) rfl (fun K hK => ?_)
 go_simp
 go_at_call 20; refine (HH.out.h4 _ (U3.out.trans (show Up Nul W2 _ from hHeld)) _ (by first | exact World.cell?_alloc_new _ _ _ 0 | (simp; done) | go_simp)).mono ?_; rintro e wb ⟨rfl, kb⟩
 refine hK.out _ _ ?kk10n27u1 (fun hHeld => ?_)
 case kk10n27u1 => exact (Up.trans (show Up Nul W2 _ from hHeld) kb)
 clear hK K
 try simp only [tdy]
 refine tkl 27 (some 39) ?vk10n28u1 rfl ?yk10n28u1 ?rk10n28u1
 case yk10n28u1 => (intro w hSw; (try dsimp only at hSw); go_simp; try with_reducible rfl)
 try simp only [tdy]
 refine tkl 28 (some 40) ?vk10n29u1 rfl ?yk10n29u1 ?rk10n29u1
 case yk10n29u1 => (intro w hSw; (try dsimp only at hSw); go_simp; try with_reducible rfl)
 try simp only [tdy]
 refine tkl 29 (some 41) ?vk10n30u1 rfl ?yk10n30u1 ?rk10n30u1
 case yk10n30u1 => (intro w hSw; (try dsimp only at hSw); go_simp; try with_reducible rfl)
 try simp only [tdy]
 refine tkl 30 (some 42) ?vk10x31 rfl ?yk10x31 ?rk10x31
 case yk10x31 => (intro w hSw; have aq6 := Hq6.out w hSw; have aq7 := Hq7.out w hSw; go_simp; try with_reducible rfl)
 try simp only [tdy]
 refine tkl 31 (some 43) ?vk10n32u1 rfl ?yk10n32u1 ?rk10n32u1
 case yk10n32u1 => (intro w hSw; (try dsimp only at hSw); go_simp; try with_reducible rfl)
 try simp only [tdy]
 refine tkl 32 (some 44) ?vk10x33 rfl ?yk10x33 ?rk10x33
 case yk10x33 => (intro w hSw; have ap5 := Hp5.out w hSw; go_simp; try with_reducible rfl)
 try simp only [tdy]
 refine one 33 (some 45) rfl (fun K hK => ?_)
 go_simp
 skip
 refine hK.out _ _ ?kk10n34u1 (fun hHeld => ?_)
 case kk10n34u1 => exact (by first | exact Up.alloc (show Up Nul W2 _ from hHeld) _ | exact (Up.alloc (show Up Nul W2 _ from HR.out) _).drew)
 clear hK K
 try simp only [tdy]
 refine one 34 (some 46) rfl (fun K hK => ?_)
 go_simp
 go_at_call 20; refine (HH.out.h5 _ (U3.out.trans (show Up Nul W2 _ from hHeld)) _ (by first | exact World.cell?_alloc_new _ _ _ 0 | (simp; done) | go_simp)).mono ?_; rintro e wb ⟨rfl, kb⟩
 refine hK.out _ _ ?kk10n35u1 (fun hHeld => ?_)
 case kk10n35u1 => exact (Up.trans (show Up Nul W2 _ from hHeld) kb)
 clear hK K
 try simp only [tdy]
 refine tkl 35 (some 47) ?vk10n36u1 rfl ?yk10n36u1 ?rk10n36u1
 case yk10n36u1 => (intro w hSw; (try dsimp only at hSw); go_simp; try with_reducible rfl)
 try simp only [tdy]
 refine tkl 36 (some 48) ?vk10n37u1 rfl ?yk10n37u1 ?rk10n37u1
 case yk10n37u1 => (intro w hSw; (try dsimp only at hSw); go_simp; try with_reducible rfl)
 try simp only [tdy]
 refine tkl 37 (some 49) ?vk10n38u1 rfl ?yk10n38u1 ?rk10n38u1
 case yk10n38u1 => (intro w hSw; (try dsimp only at hSw); go_simp; try with_reducible rfl)
 try simp only [tdy]
 refine tkl 38 (some 50) ?vk10x39 rfl ?yk10x39 ?rk10x39
 case yk10x39 => (intro w hSw; have ap4 := Hp4.out w hSw; go_simp; try with_reducible rfl)
 try simp only [tdy]
 refine tkl 39 (some 51) ?vk10n40u1 rfl ?yk10n40u1 ?rk10n40u1
 case yk10n40u1 => (intro w hSw; (try dsimp only at hSw); go_simp; try with_reducible rfl)
 try simp only [tdy]
 refine tkl 40 (some 52) ?vk10n41u1 rfl ?yk10n41u1 ?rk10n41u1
 case yk10n41u1 => (intro w hSw; (try dsimp only at hSw); go_simp; try with_reducible rfl)
 try simp only [tdy]
 refine tkl 41 (some 53) ?vk10x42 rfl ?yk10x42 ?rk10x42
 case yk10x42 => (intro w hSw; have aq8 := Hq8.out w hSw; go_simp; try with_reducible rfl)
 try simp only [tdy]
 refine tkl 42 (some 54) ?vk10n43u1 rfl ?yk10n43u1 ?rk10n43u1
 case yk10n43u1 => (intro w hSw; (try dsimp only at hSw); go_simp; try with_reducible rfl)
 try simp only [tdy]
 refine tkl 43 (some 55) ?vk10n44u1 rfl ?yk10n44u1 ?rk10n44u1
 case yk10n44u1 => (intro w hSw; (try dsimp only at hSw); go_simp; try with_reducible rfl)
 try simp only [tdy]
 refine tkl 44 (some 56) ?vk10n45u1 rfl ?yk10n45u1 ?rk10n45u1
 case yk10n45u1 => (intro w hSw; (try dsimp only at hSw); go_simp; try with_reducible rfl)
 try simp only [tdy]
 refine tkl 45 (some 57) ?vk10n46u1 rfl ?yk10n46u1 ?rk10n46u1
 case yk10n46u1 => (intro w hSw; (try dsimp only at hSw); go_simp; try with_reducible rfl)
 try simp only [tdy]
 refine tkl 46 (some 58) ?vk10x47 rfl ?yk10x47 ?rk10x47
 case yk10x47 => (intro w hSw; have aq9 := Hq9.out w hSw; have aq10 := Hq10.out w hSw; go_simp; try with_reducible rfl)
 try simp only [tdy]
 refine tkl 47 (some 59) ?vk10n48u1 rfl ?yk10n48u1 ?rk10n48u1
 case yk10n48u1 => (intro w hSw; (try dsimp only at hSw); go_simp; try with_reducible rfl)
 try simp only [tdy]
 refine tkl 48 (some 60) ?vk10x49 rfl ?yk10x49 ?rk10x49
 case yk10x49 => (intro w hSw; have ap4 := Hp4.out w hSw; go_simp; try with_reducible rfl)
 try simp only [tdy]
 refine one 49 (some 61) rfl (fun K hK => ?_)
 go_simp
 go_at_call 20; refine (HH.out.h7 _ (U3.out.trans (show Up Nul W2 _ from hHeld))).mono ?_; rintro e wb ⟨rfl, kb⟩
 refine hK.out _ _ ?kk10n50u1 (fun hHeld => ?_)
 case kk10n50u1 => exact (Up.trans (show Up Nul W2 _ from hHeld) kb)
 clear hK K
 try simp only [tdy]
 refine tkl 50 (some 62) ?vk10n51u1 rfl ?yk10n51u1 ?rk10n51u1
 case yk10n51u1 => (intro w hSw; (try dsimp only at hSw); go_simp; try with_reducible rfl)
 try simp only [tdy]
 refine tkl 51 (some 63) ?vk10n52u1 rfl ?yk10n52u1 ?rk10n52u1
 case yk10n52u1 => (intro w hSw; (try dsimp only at hSw); go_simp; try with_reducible rfl)
 try simp only [tdy]
 refine tkl 52 (some 64) ?vk10n53u1 rfl ?yk10n53u1 ?rk10n53u1
 case yk10n53u1 => (intro w hSw; (try dsimp only at hSw); go_simp; try with_reducible rfl)
 try simp only [tdy]
 refine tkl 53 (some 65) ?vk10x54 rfl ?yk10x54 ?rk10x54
 case yk10x54 => (intro w hSw; have ap6 := Hp6.out w hSw; go_simp; try with_reducible rfl)
 try simp only [tdy]
 refine tkl 54 (some 66) ?vk10n55u1 rfl ?yk10n55u1 ?rk10n55u1
 case yk10n55u1 => (intro w hSw; (try dsimp only at hSw); go_simp; try with_reducible rfl)
 try simp only [tdy]
 refine tkl 55 (some 67) ?vk10x56 rfl ?yk10x56 ?rk10x56
 case yk10x56 => (intro w hSw; have aq0 := Hq0.out w hSw; have aq1 := Hq1.out w hSw; have aq2 := Hq2.out w hSw; have aq3 := Hq3.out w hSw; have aq4 := Hq4.out w hSw; have aq5 := Hq5.out w hSw; have aq6 := Hq6.out w hSw; have aq7 := Hq7.out w hSw; have aq8 := Hq8.out w hSw; have aq9 := Hq9.out w hSw; have aq10 := Hq10.out w hSw; have aq11 := Hq11.out w hSw; have aq12 := Hq12.out w hSw; have aq13 := Hq13.out w hSw; have aq14 := Hq14.out w hSw; go_simp; try with_reducible rfl)
 try simp only [tdy]
 refine tkl 56 (some 68) ?vk10n57u1 rfl ?yk10n57u1 ?rk10n57u1
 case yk10n57u1 => (intro w hSw; (try dsimp only at hSw); go_simp; try with_reducible rfl)
 try simp only [tdy]
 refine tkl 57 (some 69) ?vk10x58 rfl ?yk10x58 ?rk10x58
 case yk10x58 => (intro w hSw; have ap4 := Hp4.out w hSw; go_simp; try with_reducible rfl)
 try simp only [tdy]
 refine one 58 (some 70) rfl (fun K hK => ?_)
 go_simp
 go_at_call 22; refine (H8.out _ (U3.out.trans (show Up Nul W2 _ from hHeld))).mono ?_; rintro e wb ⟨rfl, kb⟩
 refine hK.out _ _ ?kk10n59u1 (fun hHeld => ?_)
 case kk10n59u1 => exact (Up.trans (show Up Nul W2 _ from hHeld) kb)
 clear hK K
 try simp only [tdy]
 refine tkl 59 (some 71) ?vk10n60u1 rfl ?yk10n60u1 ?rk10n60u1
 case yk10n60u1 => (intro w hSw; (try dsimp only at hSw); go_simp; try with_reducible rfl)
 try simp only [tdy]
 refine tkl 60 (some 72) ?vk10n61u1 rfl ?yk10n61u1 ?rk10n61u1
 case yk10n61u1 => (intro w hSw; (try dsimp only at hSw); go_simp; try with_reducible rfl)
 try simp only [tdy]
 refine tkl 61 (some 73) ?vk10n62u1 rfl ?yk10n62u1 ?rk10n62u1
 case yk10n62u1 => (intro w hSw; (try dsimp only at hSw); go_simp; try with_reducible rfl)
 try simp only [tdy]
 refine tkl 62 (some 74) ?vk10n63u1 rfl ?yk10n63u1 ?rk10n63u1
 case yk10n63u1 => (intro w hSw; (try dsimp only at hSw); go_simp; try with_reducible rfl)
 try simp only [tdy]
 refine tkl 63 (some 75) ?vk10x64 rfl ?yk10x64 ?rk10x64
 case yk10x64 => (intro w hSw; have ap6 := Hp6.out w hSw; go_simp; try with_reducible rfl)
 try simp only [tdy]
 refine one 64 (some 76) rfl (fun K hK => ?_)
 go_simp
 go_at_call 23; refine (HH.out.h9 _ (U3.out.trans (show Up Nul W2 _ from hHeld))).mono ?_; rintro e wb ⟨rfl, kb⟩
 refine hK.out _ _ ?kk10n65u1 (fun hHeld => ?_)
 case kk10n65u1 => exact (Up.trans (show Up Nul W2 _ from hHeld) kb)
 clear hK K
 try simp only [tdy]
 refine tkl 65 (some 77) ?vk10n66u1 rfl ?yk10n66u1 ?rk10n66u1
 case yk10n66u1 => (intro w hSw; (try dsimp only at hSw); go_simp; try with_reducible rfl)
 try simp only [tdy]
 refine tkl 66 (some 78) ?vk10n67u1 rfl ?yk10n67u1 ?rk10n67u1
 case yk10n67u1 => (intro w hSw; (try dsimp only at hSw); go_simp; try with_reducible rfl)
 try simp only [tdy]
 refine tkl 67 (some 79) ?vk10n68u1 rfl ?yk10n68u1 ?rk10n68u1
 case yk10n68u1 => (intro w hSw; (try dsimp only at hSw); go_simp; try with_reducible rfl)
 try simp only [tdy]
 refine tkl 68 (some 80) ?vk10n69u1 rfl ?yk10n69u1 ?rk10n69u1
 case yk10n69u1 => (intro w hSw; (try dsimp only at hSw); go_simp; try with_reducible rfl)
 try simp only [tdy]
 refine tkl 69 (some 81) ?vk10x70 rfl ?yk10x70 ?rk10x70
 case yk10x70 => (intro w hSw; have aq13 := Hq13.out w hSw; have aq14 := Hq14.out w hSw; go_simp; try with_reducible rfl)
 try simp only [tdy]
 refine tkl 70 (some 82) ?vk10n71u1 rfl ?yk10n71u1 ?rk10n71u1
 case yk10n71u1 => (intro w hSw; (try dsimp only at hSw); go_simp; try with_reducible rfl)
 try simp only [tdy]
 refine tkl 71 (some 83) ?vk10x72 rfl ?yk10x72 ?rk10x72
 case yk10x72 => (intro w hSw; have ap7 := Hp7.out w hSw; have ap8 := Hp8.out w hSw; have ap9 := Hp9.out w hSw; have ap10 := Hp10.out w hSw; have ap11 := Hp11.out w hSw; have ap12 := Hp12.out w hSw; go_simp; try with_reducible rfl)
 try simp only [tdy]
 refine one 72 (some 84) rfl (fun K hK => ?_)
 go_simp
 go_at_call 25; refine (table_any t _).mono ?_; rintro e wb ⟨gt, rfl, HT, kb⟩
 refine hK.out _ _ ?kk10n73u1 (fun hHeld => ?_)
 case kk10n73u1 => exact (Up.trans (show Up Nul W2 _ from hHeld) kb)
 clear hK K
 try simp only [tdy]
 refine one 73 (some 85) rfl (fun K hK => ?_)
 go_simp
 go_at_call 20; refine (HH.out.h10 _ _ HT).mono ?_; rintro e wb ⟨rfl, kb⟩
 refine hK.out _ _ ?kk10n74u1 (fun hHeld => ?_)
 case kk10n74u1 => exact (Up.trans (show Up Nul W2 _ from hHeld) kb)
 clear hK K
 try simp only [tdy]
 refine tkl 74 (some 86) ?vk10n75u1 rfl ?yk10n75u1 ?rk10n75u1
 case yk10n75u1 => (intro w hSw; (try dsimp only at hSw); go_simp; try with_reducible rfl)
 try simp only [tdy]
 refine tkl 75 (some 2) ?vk10n76u1 rfl ?yk10n76u1 ?rk10n76u1
 case yk10n76u1 => (intro w hSw; (try dsimp only at hSw); go_simp; try with_reducible rfl)
 try simp only [tdy]
 refine wpAnyH_done (by kernel_rfl) ?_ _
 have HE := hid (U3.out.trans (show Up Nul W2 _ from hHeld))
 clear hHeld
 go_wp2
 go_ret
 exact ⟨by first | rfl | simp, HE.out⟩
end Go.Proofs.YtpdkcpjofofkoaaDoor
