/- 'Ok', by the first of its parts that is false. -/
import Derived.Test.YtpdkcpjofofkoaaDoorPkTidy
import Derived.Test.YtpdkcpjofofkoaaDoorPq4
import Derived.Test.YtpdkcpjofofkoaaDoorPq1
namespace Go.Proofs.YtpdkcpjofofkoaaDoor
open Go.RowKit
set_option linter.unusedVariables false
set_option linter.unusedSimpArgs false
set_option maxRecDepth 100000 in
set_option maxHeartbeats 4000000 in
theorem ok_case7 (w : World) (s : ByteArray) (n sid co : Int) (sa : Option Addr) (ns cs : Nat) (la : Option Addr) (nl cl : Nat) (t : Tb) (k : Nat) (c1 c2 c3 c4 c5 c6 c7 c8 c9 c10 : Bool) (hk : spn 1 8 (k : Int) = true) (hS : Shp w) (hc1 : c1 = true) (hc2 : c2 = true) (hc3 : c3 = true) (hc4 : c4 = true) (hc5 : c5 = true) (hc6 : c6 = true) (hc7 : c7 = false)
  (H : OkC w s n sid co sa ns cs la nl cl t k c1 c2 c3 c4 c5 c6 c7 c8 c9 c10) :
  Calls Tryd.prog 8 #[.agg #[.int .i64 (k : Nat), .string s, .int .i64 n, .int .i64 sid, .slice sa ns cs, .int .i64 co, .slice la nl cl, .int .i64 t.hot, .int .i64 t.warm, .int .i64 t.gap, .int .i64 t.add, .int .i64 t.top, .int .i64 t.half]] w
   fun e w' => e = .returned (.bool (c1 && c2 && c3 && c4 && c5 && c6 && c7 && c8 && c9 && c10)) ∧ Up Nul w w' := by
 subst hc1 hc2 hc3 hc4 hc5 hc6 hc7
 have h6e := H.h6
 have HK := hid (fun W => kind_any (k : Int) W)
 rw [hk] at HK
 have hk9 : k < 9 := by
  unfold spn at hk
  simp at hk
  omega
 have i0 : (0 : Int) ≤ (k : Int) := by omega
 have i1 : (k : Int) < 9 := by omega
 have HH := hid H
 clear H
 obtain ⟨C, hC⟩ : ∃ C : Array Value, C = #[.int .i64 (k : Nat), .string s, .int .i64 n, .int .i64 sid, .slice sa ns cs, .int .i64 co, .slice la nl cl, .int .i64 t.hot, .int .i64 t.warm, .int .i64 t.gap, .int .i64 t.add, .int .i64 t.top, .int .i64 t.half] := ⟨_, rfl⟩
 have HUA := hid ((Up.refl Nul w).alloc (.cells C 27))
 have HBA : Hid ((w.alloc (.cells C 27)).heap[w.heap.size]? = some (.cells C 27 (0, 0))) := heap_alloc_new _ _
 have HLT : Hid (w.heap.size < (w.alloc (.cells C 27)).heap.size) := by show _ < _; simp
 have HSH := hid hS
 go_enter Tryd.func8, Tryd.ntmps8
 go_wp2_with fail
 rw [← hC]
 refine (HK.out _).mono ?_
 rintro e w1 ⟨rfl, u1⟩
 have hb := (u1.block _ HLT.out id).trans HBA.out
 have HU1 := hid (HUA.out.trans u1)
 have hlt := Nat.lt_of_lt_of_le HLT.out u1.size
 clear u1 HBA HUA HLT
 have y0 := (HSH.out.nxt HU1.out).c k 0 hk9 (by omega)
 have y1 := (HSH.out.nxt HU1.out).c k 1 hk9 (by omega)
 have y2 := (HSH.out.nxt HU1.out).c k 2 hk9 (by omega)
 have y3 := (HSH.out.nxt HU1.out).c k 3 hk9 (by omega)
 have y4 := (HSH.out.nxt HU1.out).c k 4 hk9 (by omega)
 have y5 := (HSH.out.nxt HU1.out).c k 5 hk9 (by omega)
 have y6 := (HSH.out.nxt HU1.out).c k 6 hk9 (by omega)
 have y7 := (HSH.out.nxt HU1.out).c k 7 hk9 (by omega)
 have y8 := (HSH.out.nxt HU1.out).c k 8 hk9 (by omega)
 have y9 := (HSH.out.nxt HU1.out).c k 9 hk9 (by omega)
 have y10 := (HSH.out.nxt HU1.out).c k 10 hk9 (by omega)
 have y11 := (HSH.out.nxt HU1.out).c k 11 hk9 (by omega)
 have y12 := (HSH.out.nxt HU1.out).c k 12 hk9 (by omega)
 have y13 := (HSH.out.nxt HU1.out).c k 13 hk9 (by omega)
 have y14 := (HSH.out.nxt HU1.out).c k 14 hk9 (by omega)
 rw [Nat.add_zero] at y0
 generalize w.heap.size = p at hb hlt ⊢
 have x0 : w1.cell? ⟨p, 0, none⟩ = some (.int .i64 (k : Nat)) := by simp [World.cell?, hb, hC]
 clear hk9
 go_wp2_with fail
 obtain ⟨W2, hW2⟩ : ∃ W, W = w1.alloc (.cells #[.int .i64 (sh k 0), .int .i64 (sh k 1), .int .i64 (sh k 2), .int .i64 (sh k 3), .int .i64 (sh k 4), .int .i64 (sh k 5), .int .i64 (sh k 6), .int .i64 (sh k 7), .int .i64 (sh k 8), .int .i64 (sh k 9), .int .i64 (sh k 10), .int .i64 (sh k 11), .int .i64 (sh k 12), .int .i64 (sh k 13), .int .i64 (sh k 14)] 53) := ⟨_, rfl⟩
 have U2 : Hid (Up Nul w1 W2) := by show Up _ _ _; rw [hW2]; exact (Up.refl Nul w1).alloc _
 have hq : W2.heap[w1.heap.size]? = some (.cells #[.int .i64 (sh k 0), .int .i64 (sh k 1), .int .i64 (sh k 2), .int .i64 (sh k 3), .int .i64 (sh k 4), .int .i64 (sh k 5), .int .i64 (sh k 6), .int .i64 (sh k 7), .int .i64 (sh k 8), .int .i64 (sh k 9), .int .i64 (sh k 10), .int .i64 (sh k 11), .int .i64 (sh k 12), .int .i64 (sh k 13), .int .i64 (sh k 14)] 53 (0, 0)) := by rw [hW2]; exact heap_alloc_new _ _
 have hp := (U2.out.block p hlt id).trans hb
 rw [hC] at hp
 have hq2 : w1.heap.size < W2.heap.size := by rw [hW2]; simp
 have hp2 := Nat.lt_of_lt_of_le hlt U2.out.size
 have U3 := hid (HU1.out.trans U2.out)
 rw [← hW2]
 clear hW2 x0 y0 y1 y2 y3 y4 y5 y6 y7 y8 y9 y10 y11 y12 y13 y14 hb U2 HU1 hlt
 generalize w1.heap.size = q at hq hq2 ⊢
 have Hp1 := celN 1 (.string s) hp2 hp rfl
 have Hp2 := celN 2 (.int .i64 n) hp2 hp rfl
 have Hp3 := celN 3 (.int .i64 sid) hp2 hp rfl
 have Hp4 := celN 4 (.slice sa ns cs) hp2 hp rfl
 have Hp5 := celN 5 (.int .i64 co) hp2 hp rfl
 have Hp6 := celN 6 (.slice la nl cl) hp2 hp rfl
 have Hp7 := celN 7 (.int .i64 t.hot) hp2 hp rfl
 have Hp8 := celN 8 (.int .i64 t.warm) hp2 hp rfl
 have Hp9 := celN 9 (.int .i64 t.gap) hp2 hp rfl
 have Hp10 := celN 10 (.int .i64 t.add) hp2 hp rfl
 have Hp11 := celN 11 (.int .i64 t.top) hp2 hp rfl
 have Hp12 := celN 12 (.int .i64 t.half) hp2 hp rfl
 have Hq0 := celN 0 (.int .i64 (sh k 0)) hq2 hq rfl
 have Hq1 := celN 1 (.int .i64 (sh k 1)) hq2 hq rfl
 have Hq2 := celN 2 (.int .i64 (sh k 2)) hq2 hq rfl
 have Hq3 := celN 3 (.int .i64 (sh k 3)) hq2 hq rfl
 have Hq4 := celN 4 (.int .i64 (sh k 4)) hq2 hq rfl
 have Hq5 := celN 5 (.int .i64 (sh k 5)) hq2 hq rfl
 have Hq6 := celN 6 (.int .i64 (sh k 6)) hq2 hq rfl
 have Hq7 := celN 7 (.int .i64 (sh k 7)) hq2 hq rfl
 have Hq8 := celN 8 (.int .i64 (sh k 8)) hq2 hq rfl
 have Hq9 := celN 9 (.int .i64 (sh k 9)) hq2 hq rfl
 have Hq10 := celN 10 (.int .i64 (sh k 10)) hq2 hq rfl
 have Hq11 := celN 11 (.int .i64 (sh k 11)) hq2 hq rfl
 have Hq12 := celN 12 (.int .i64 (sh k 12)) hq2 hq rfl
 have Hq13 := celN 13 (.int .i64 (sh k 13)) hq2 hq rfl
 have Hq14 := celN 14 (.int .i64 (sh k 14)) hq2 hq rfl
 clear hp hq hp2 hq2
 have HR := hid (Up.refl Nul W2)
 simp only [List.append]
 refine wp_region_held_drew (S := (fun W => Up Nul W2 W)) (by kernel_rfl) (by exact HR.out.drew) (fun hHeld => ?_)
 refine tkl 0 (some 12) ?vk7n1u1 rfl ?yk7n1u1 ?rk7n1u1
 case yk7n1u1 => (intro w hSw; (try dsimp only at hSw); go_simp; try with_reducible rfl)
 try simp only [tdy]
 refine tkl 1 (some 13) ?vk7x2 rfl ?yk7x2 ?rk7x2
 case yk7x2 => (intro w hSw; have aq0 := Hq0.out w hSw; have aq1 := Hq1.out w hSw; go_simp; try with_reducible rfl)
 try simp only [tdy]
 refine tkl 2 (some 14) ?vk7n3u1 rfl ?yk7n3u1 ?rk7n3u1
 case yk7n3u1 => (intro w hSw; (try dsimp only at hSw); go_simp; try with_reducible rfl)
 try simp only [tdy]
 refine tkl 3 (some 15) ?vk7x4 rfl ?yk7x4 ?rk7x4
 case yk7x4 => (intro w hSw; have ap1 := Hp1.out w hSw; go_simp; try with_reducible rfl)
 try simp only [tdy]
 refine tkl 4 (some 16) ?vk7n5u1 rfl ?yk7n5u1 ?rk7n5u1
 case yk7n5u1 => (intro w hSw; (try dsimp only at hSw); go_simp; try with_reducible rfl)
 try simp only [tdy]
 refine one 5 (some 17) rfl (fun K hK => ?_)
 go_simp
 skip
 refine hK.out _ _ ?kk7n6u1 (fun hHeld => ?_)
 case kk7n6u1 => exact (by first | exact Up.alloc (show Up Nul W2 _ from hHeld) _ | exact (Up.alloc (show Up Nul W2 _ from HR.out) _).drew)
 clear hK K
 try simp only [tdy]
 refine one 6 (some 18) rfl (fun K hK => ?_)
 go_simp
 go_at_call 20; refine (HH.out.h1 _ (U3.out.trans (show Up Nul W2 _ from hHeld)) _ (by first | exact World.cell?_alloc_new _ _ _ 0 | (simp; done) | go_simp)).mono ?_; rintro e wb ⟨rfl, kb⟩
 refine hK.out _ _ ?kk7n7u1 (fun hHeld => ?_)
 case kk7n7u1 => exact (Up.trans (show Up Nul W2 _ from hHeld) kb)
 clear hK K
 try simp only [tdy]
 refine tkl 7 (some 19) ?vk7n8u1 rfl ?yk7n8u1 ?rk7n8u1
 case yk7n8u1 => (intro w hSw; (try dsimp only at hSw); go_simp; try with_reducible rfl)
 try simp only [tdy]
 refine tkl 8 (some 20) ?vk7n9u1 rfl ?yk7n9u1 ?rk7n9u1
 case yk7n9u1 => (intro w hSw; (try dsimp only at hSw); go_simp; try with_reducible rfl)
 try simp only [tdy]
 refine tkl 9 (some 21) ?vk7x10 rfl ?yk7x10 ?rk7x10
 case yk7x10 => (intro w hSw; have ap1 := Hp1.out w hSw; go_simp; try with_reducible rfl)
 try simp only [tdy]
 refine one 10 (some 22) rfl (fun K hK => ?_)
 go_simp
 go_at_call 21; refine (HH.out.h2 _).mono ?_; rintro e wb ⟨rfl, kb⟩
 refine hK.out _ _ ?kk7n11u1 (fun hHeld => ?_)
 case kk7n11u1 => exact (Up.trans (show Up Nul W2 _ from hHeld) kb)
 clear hK K
 try simp only [tdy]
 refine tkl 11 (some 23) ?vk7n12u1 rfl ?yk7n12u1 ?rk7n12u1
 case yk7n12u1 => (intro w hSw; (try dsimp only at hSw); go_simp; try with_reducible rfl)
 try simp only [tdy]
 refine tkl 12 (some 24) ?vk7n13u1 rfl ?yk7n13u1 ?rk7n13u1
 case yk7n13u1 => (intro w hSw; (try dsimp only at hSw); go_simp; try with_reducible rfl)
 try simp only [tdy]
 refine tkl 13 (some 25) ?vk7n14u1 rfl ?yk7n14u1 ?rk7n14u1
 case yk7n14u1 => (intro w hSw; (try dsimp only at hSw); go_simp; try with_reducible rfl)
 try simp only [tdy]
 refine tkl 14 (some 26) ?vk7x15 rfl ?yk7x15 ?rk7x15
 case yk7x15 => (intro w hSw; have aq2 := Hq2.out w hSw; have aq3 := Hq3.out w hSw; go_simp; try with_reducible rfl)
 try simp only [tdy]
 refine tkl 15 (some 27) ?vk7n16u1 rfl ?yk7n16u1 ?rk7n16u1
 case yk7n16u1 => (intro w hSw; (try dsimp only at hSw); go_simp; try with_reducible rfl)
 try simp only [tdy]
 refine tkl 16 (some 28) ?vk7x17 rfl ?yk7x17 ?rk7x17
 case yk7x17 => (intro w hSw; have ap2 := Hp2.out w hSw; go_simp; try with_reducible rfl)
 try simp only [tdy]
 refine one 17 (some 29) rfl (fun K hK => ?_)
 go_simp
 skip
 refine hK.out _ _ ?kk7n18u1 (fun hHeld => ?_)
 case kk7n18u1 => exact (by first | exact Up.alloc (show Up Nul W2 _ from hHeld) _ | exact (Up.alloc (show Up Nul W2 _ from HR.out) _).drew)
 clear hK K
 try simp only [tdy]
 refine one 18 (some 30) rfl (fun K hK => ?_)
 go_simp
 go_at_call 20; refine (HH.out.h3 _ (U3.out.trans (show Up Nul W2 _ from hHeld)) _ (by first | exact World.cell?_alloc_new _ _ _ 0 | (simp; done) | go_simp)).mono ?_; rintro e wb ⟨rfl, kb⟩
 refine hK.out _ _ ?kk7n19u1 (fun hHeld => ?_)
 case kk7n19u1 => exact (Up.trans (show Up Nul W2 _ from hHeld) kb)
 clear hK K
 try simp only [tdy]
 refine tkl 19 (some 31) ?vk7n20u1 rfl ?yk7n20u1 ?rk7n20u1
 case yk7n20u1 => (intro w hSw; (try dsimp only at hSw); go_simp; try with_reducible rfl)
 try simp only [tdy]
 refine tkl 20 (some 32) ?vk7n21u1 rfl ?yk7n21u1 ?rk7n21u1
 case yk7n21u1 => (intro w hSw; (try dsimp only at hSw); go_simp; try with_reducible rfl)
 try simp only [tdy]
 refine tkl 21 (some 33) ?vk7n22u1 rfl ?yk7n22u1 ?rk7n22u1
 case yk7n22u1 => (intro w hSw; (try dsimp only at hSw); go_simp; try with_reducible rfl)
 try simp only [tdy]
 refine tkl 22 (some 34) ?vk7x23 rfl ?yk7x23 ?rk7x23
 case yk7x23 => (intro w hSw; have aq4 := Hq4.out w hSw; have aq5 := Hq5.out w hSw; go_simp; try with_reducible rfl)
 try simp only [tdy]
 refine tkl 23 (some 35) ?vk7n24u1 rfl ?yk7n24u1 ?rk7n24u1
 case yk7n24u1 => (intro w hSw; (try dsimp only at hSw); go_simp; try with_reducible rfl)
 try simp only [tdy]
 refine tkl 24 (some 36) ?vk7x25 rfl ?yk7x25 ?rk7x25
 case yk7x25 => (intro w hSw; have ap3 := Hp3.out w hSw; go_simp; try with_reducible rfl)
 try simp only [tdy]
 refine one 25 (some 37) rfl (fun K hK => ?_)
 go_simp
 skip
 refine hK.out _ _ ?kk7n26u1 (fun hHeld => ?_)
 case kk7n26u1 => exact (by first | exact Up.alloc (show Up Nul W2 _ from hHeld) _ | exact (Up.alloc (show Up Nul W2 _ from HR.out) _).drew)
 clear hK K
 try simp only [tdy]
 refine one 26 (some 38) rfl (fun K hK => ?_)
 go_simp
 go_at_call 20; refine (HH.out.h4 _ (U3.out.trans (show Up Nul W2 _ from hHeld)) _ (by first | exact World.cell?_alloc_new _ _ _ 0 | (simp; done) | go_simp)).mono ?_; rintro e wb ⟨rfl, kb⟩
 refine hK.out _ _ ?kk7n27u1 (fun hHeld => ?_)
 case kk7n27u1 => exact (Up.trans (show Up Nul W2 _ from hHeld) kb)
 clear hK K
 try simp only [tdy]
 refine tkl 27 (some 39) ?vk7n28u1 rfl ?yk7n28u1 ?rk7n28u1
 case yk7n28u1 => (intro w hSw; (try dsimp only at hSw); go_simp; try with_reducible rfl)
 try simp only [tdy]
 refine tkl 28 (some 40) ?vk7n29u1 rfl ?yk7n29u1 ?rk7n29u1
 case yk7n29u1 => (intro w hSw; (try dsimp only at hSw); go_simp; try with_reducible rfl)
 try simp only [tdy]
 refine tkl 29 (some 41) ?vk7n30u1 rfl ?yk7n30u1 ?rk7n30u1
 case yk7n30u1 => (intro w hSw; (try dsimp only at hSw); go_simp; try with_reducible rfl)
 try simp only [tdy]
 refine tkl 30 (some 42) ?vk7x31 rfl ?yk7x31 ?rk7x31
 case yk7x31 => (intro w hSw; have aq6 := Hq6.out w hSw; have aq7 := Hq7.out w hSw; go_simp; try with_reducible rfl)
 try simp only [tdy]
 refine tkl 31 (some 43) ?vk7n32u1 rfl ?yk7n32u1 ?rk7n32u1
 case yk7n32u1 => (intro w hSw; (try dsimp only at hSw); go_simp; try with_reducible rfl)
 try simp only [tdy]
 refine tkl 32 (some 44) ?vk7x33 rfl ?yk7x33 ?rk7x33
 case yk7x33 => (intro w hSw; have ap5 := Hp5.out w hSw; go_simp; try with_reducible rfl)
 try simp only [tdy]
 refine one 33 (some 45) rfl (fun K hK => ?_)
 go_simp
 skip
 refine hK.out _ _ ?kk7n34u1 (fun hHeld => ?_)
 case kk7n34u1 => exact (by first | exact Up.alloc (show Up Nul W2 _ from hHeld) _ | exact (Up.alloc (show Up Nul W2 _ from HR.out) _).drew)
 clear hK K
 try simp only [tdy]
 refine one 34 (some 46) rfl (fun K hK => ?_)
 go_simp
 go_at_call 20; refine (HH.out.h5 _ (U3.out.trans (show Up Nul W2 _ from hHeld)) _ (by first | exact World.cell?_alloc_new _ _ _ 0 | (simp; done) | go_simp)).mono ?_; rintro e wb ⟨rfl, kb⟩
 refine hK.out _ _ ?kk7n35u1 (fun hHeld => ?_)
 case kk7n35u1 => exact (Up.trans (show Up Nul W2 _ from hHeld) kb)
 clear hK K
 try simp only [tdy]
 refine tkl 35 (some 47) ?vk7n36u1 rfl ?yk7n36u1 ?rk7n36u1
 case yk7n36u1 => (intro w hSw; (try dsimp only at hSw); go_simp; try with_reducible rfl)
 try simp only [tdy]
 refine tkl 36 (some 48) ?vk7n37u1 rfl ?yk7n37u1 ?rk7n37u1
 case yk7n37u1 => (intro w hSw; (try dsimp only at hSw); go_simp; try with_reducible rfl)
 try simp only [tdy]
 refine tkl 37 (some 49) ?vk7n38u1 rfl ?yk7n38u1 ?rk7n38u1
 case yk7n38u1 => (intro w hSw; (try dsimp only at hSw); go_simp; try with_reducible rfl)
 try simp only [tdy]
 refine tkl 38 (some 50) ?vk7x39 rfl ?yk7x39 ?rk7x39
 case yk7x39 => (intro w hSw; have ap4 := Hp4.out w hSw; go_simp; try with_reducible rfl)
 try simp only [tdy]
 refine tkl 39 (some 51) ?vk7n40u1 rfl ?yk7n40u1 ?rk7n40u1
 case yk7n40u1 => (intro w hSw; (try dsimp only at hSw); go_simp; try with_reducible rfl)
 try simp only [tdy]
 refine tkl 40 (some 52) ?vk7n41u1 rfl ?yk7n41u1 ?rk7n41u1
 case yk7n41u1 => (intro w hSw; (try dsimp only at hSw); go_simp; try with_reducible rfl)
 try simp only [tdy]
 refine tkl 41 (some 53) ?vk7x42 rfl ?yk7x42 ?rk7x42
 case yk7x42 => (intro w hSw; have aq8 := Hq8.out w hSw; go_simp; try with_reducible rfl)
 try simp only [tdy]
 refine tkl 42 (some 54) ?vk7n43u1 rfl ?yk7n43u1 ?rk7n43u1
 case yk7n43u1 => (intro w hSw; (try dsimp only at hSw); go_simp; try with_reducible rfl)
 try simp only [tdy]
 refine tkl 43 (some 55) ?vk7n44u1 rfl ?yk7n44u1 ?rk7n44u1
 case yk7n44u1 => (intro w hSw; (try dsimp only at hSw); go_simp; try with_reducible rfl)
 try simp only [tdy]
 refine tkl 44 (some 56) ?vk7n45u1 rfl ?yk7n45u1 ?rk7n45u1
 case yk7n45u1 => (intro w hSw; (try dsimp only at hSw); go_simp; try with_reducible rfl)
 try simp only [tdy]
 refine tkl 45 (some 57) ?vk7n46u1 rfl ?yk7n46u1 ?rk7n46u1
 case yk7n46u1 => (intro w hSw; (try dsimp only at hSw); go_simp; try with_reducible rfl)
 try simp only [tdy]
 refine tkl 46 (some 58) ?vk7x47 rfl ?yk7x47 ?rk7x47
 case yk7x47 => (intro w hSw; have aq9 := Hq9.out w hSw; have aq10 := Hq10.out w hSw; go_simp; try with_reducible rfl)
 try simp only [tdy]
 refine tkl 47 (some 59) ?vk7n48u1 rfl ?yk7n48u1 ?rk7n48u1
 case yk7n48u1 => (intro w hSw; (try dsimp only at hSw); go_simp; try with_reducible rfl)
 try simp only [tdy]
 refine tkl 48 (some 60) ?vk7x49 rfl ?yk7x49 ?rk7x49
 case yk7x49 => (intro w hSw; have ap4 := Hp4.out w hSw; go_simp; try with_reducible rfl)
 try simp only [tdy]
 refine one 49 (some 61) rfl (fun K hK => ?_)
 go_simp
 go_at_call 20; refine (HH.out.h7 _ (U3.out.trans (show Up Nul W2 _ from hHeld))).mono ?_; rintro e wb ⟨rfl, kb⟩
 refine hK.out _ _ ?kk7n50u1 (fun hHeld => ?_)
 case kk7n50u1 => exact (Up.trans (show Up Nul W2 _ from hHeld) kb)
 clear hK K
 try simp only [tdy]
 refine tkl 50 (some 62) ?vk7n51u1 rfl ?yk7n51u1 ?rk7n51u1
 case yk7n51u1 => (intro w hSw; (try dsimp only at hSw); go_simp; try with_reducible rfl)
 try simp only [tdy]
 refine tkl 51 (some 63) ?vk7n52u1 rfl ?yk7n52u1 ?rk7n52u1
 case yk7n52u1 => (intro w hSw; (try dsimp only at hSw); go_simp; try with_reducible rfl)
 try simp only [tdy]
 refine tku 52 (some 64) rfl ?rk7n53u1
 try simp only [tdy]
 refine tku 53 (some 65) rfl ?rk7n54u1
 try simp only [tdy]
 refine tku 54 (some 66) rfl ?rk7n55u1
 try simp only [tdy]
 refine tku 55 (some 67) rfl ?rk7n56u1
 try simp only [tdy]
 refine tku 56 (some 68) rfl ?rk7n57u1
 try simp only [tdy]
 refine tku 57 (some 69) rfl ?rk7n58u1
 try simp only [tdy]
 refine tku 58 (some 70) rfl ?rk7n59u1
 try simp only [tdy]
 refine tku 59 (some 71) rfl ?rk7n60u1
 try simp only [tdy]
 refine tkl 60 (some 72) ?vk7n61u1 rfl ?yk7n61u1 ?rk7n61u1
 case yk7n61u1 => (intro w hSw; (try dsimp only at hSw); go_simp; try with_reducible rfl)
 try simp only [tdy]
 refine tkl 61 (some 73) ?vk7n62u1 rfl ?yk7n62u1 ?rk7n62u1
 case yk7n62u1 => (intro w hSw; (try dsimp only at hSw); go_simp; try with_reducible rfl)
 try simp only [tdy]
 refine tku 62 (some 74) rfl ?rk7n63u1
 try simp only [tdy]
 refine tku 63 (some 75) rfl ?rk7n64u1
 try simp only [tdy]
 refine tku 64 (some 76) rfl ?rk7n65u1
 try simp only [tdy]
 refine tku 65 (some 77) rfl ?rk7n66u1
 try simp only [tdy]
 refine tkl 66 (some 78) ?vk7n67u1 rfl ?yk7n67u1 ?rk7n67u1
 case yk7n67u1 => (intro w hSw; (try dsimp only at hSw); go_simp; try with_reducible rfl)
 try simp only [tdy]
 refine tkl 67 (some 79) ?vk7n68u1 rfl ?yk7n68u1 ?rk7n68u1
 case yk7n68u1 => (intro w hSw; (try dsimp only at hSw); go_simp; try with_reducible rfl)
 try simp only [tdy]
 refine tku 68 (some 80) rfl ?rk7n69u1
 try simp only [tdy]
 refine tku 69 (some 81) rfl ?rk7n70u1
 try simp only [tdy]
 refine tku 70 (some 82) rfl ?rk7n71u1
 try simp only [tdy]
 refine tku 71 (some 83) rfl ?rk7n72u1
 try simp only [tdy]
 refine tku 72 (some 84) rfl ?rk7n73u1
 try simp only [tdy]
 refine tku 73 (some 85) rfl ?rk7n74u1
 try simp only [tdy]
 refine tkl 74 (some 86) ?vk7n75u1 rfl ?yk7n75u1 ?rk7n75u1
 case yk7n75u1 => (intro w hSw; (try dsimp only at hSw); go_simp; try with_reducible rfl)
 try simp only [tdy]
 refine tkl 75 (some 2) ?vk7n76u1 rfl ?yk7n76u1 ?rk7n76u1
 case yk7n76u1 => (intro w hSw; (try dsimp only at hSw); go_simp; try with_reducible rfl)
 try simp only [tdy]
 refine wpAnyH_done (by kernel_rfl) ?_ _
 have HE := hid (U3.out.trans (show Up Nul W2 _ from hHeld))
 clear hHeld
 go_wp2
 go_ret
 exact ⟨by first | rfl | simp, HE.out⟩
set_option maxRecDepth 100000 in
set_option maxHeartbeats 4000000 in
theorem ok_case8 (w : World) (s : ByteArray) (n sid co : Int) (sa : Option Addr) (ns cs : Nat) (la : Option Addr) (nl cl : Nat) (t : Tb) (k : Nat) (c1 c2 c3 c4 c5 c6 c7 c8 c9 c10 : Bool) (hk : spn 1 8 (k : Int) = true) (hS : Shp w) (hc1 : c1 = true) (hc2 : c2 = true) (hc3 : c3 = true) (hc4 : c4 = true) (hc5 : c5 = true) (hc6 : c6 = true) (hc7 : c7 = true) (hc8 : c8 = false)
  (H : OkC w s n sid co sa ns cs la nl cl t k c1 c2 c3 c4 c5 c6 c7 c8 c9 c10) :
  Calls Tryd.prog 8 #[.agg #[.int .i64 (k : Nat), .string s, .int .i64 n, .int .i64 sid, .slice sa ns cs, .int .i64 co, .slice la nl cl, .int .i64 t.hot, .int .i64 t.warm, .int .i64 t.gap, .int .i64 t.add, .int .i64 t.top, .int .i64 t.half]] w
   fun e w' => e = .returned (.bool (c1 && c2 && c3 && c4 && c5 && c6 && c7 && c8 && c9 && c10)) ∧ Up Nul w w' := by
 subst hc1 hc2 hc3 hc4 hc5 hc6 hc7 hc8
 obtain ⟨q8, h8e, h8c⟩ := H.h8 rfl
 have H8 := hid h8c
 clear h8c
 have h6e := H.h6
 have HK := hid (fun W => kind_any (k : Int) W)
 rw [hk] at HK
 have hk9 : k < 9 := by
  unfold spn at hk
  simp at hk
  omega
 have i0 : (0 : Int) ≤ (k : Int) := by omega
 have i1 : (k : Int) < 9 := by omega
 have HH := hid H
 clear H
 obtain ⟨C, hC⟩ : ∃ C : Array Value, C = #[.int .i64 (k : Nat), .string s, .int .i64 n, .int .i64 sid, .slice sa ns cs, .int .i64 co, .slice la nl cl, .int .i64 t.hot, .int .i64 t.warm, .int .i64 t.gap, .int .i64 t.add, .int .i64 t.top, .int .i64 t.half] := ⟨_, rfl⟩
 have HUA := hid ((Up.refl Nul w).alloc (.cells C 27))
 have HBA : Hid ((w.alloc (.cells C 27)).heap[w.heap.size]? = some (.cells C 27 (0, 0))) := heap_alloc_new _ _
 have HLT : Hid (w.heap.size < (w.alloc (.cells C 27)).heap.size) := by show _ < _; simp
 have HSH := hid hS
 go_enter Tryd.func8, Tryd.ntmps8
 go_wp2_with fail
 rw [← hC]
 refine (HK.out _).mono ?_
 rintro e w1 ⟨rfl, u1⟩
 have hb := (u1.block _ HLT.out id).trans HBA.out
 have HU1 := hid (HUA.out.trans u1)
 have hlt := Nat.lt_of_lt_of_le HLT.out u1.size
 clear u1 HBA HUA HLT
 have y0 := (HSH.out.nxt HU1.out).c k 0 hk9 (by omega)
 have y1 := (HSH.out.nxt HU1.out).c k 1 hk9 (by omega)
 have y2 := (HSH.out.nxt HU1.out).c k 2 hk9 (by omega)
 have y3 := (HSH.out.nxt HU1.out).c k 3 hk9 (by omega)
 have y4 := (HSH.out.nxt HU1.out).c k 4 hk9 (by omega)
 have y5 := (HSH.out.nxt HU1.out).c k 5 hk9 (by omega)
 have y6 := (HSH.out.nxt HU1.out).c k 6 hk9 (by omega)
 have y7 := (HSH.out.nxt HU1.out).c k 7 hk9 (by omega)
 have y8 := (HSH.out.nxt HU1.out).c k 8 hk9 (by omega)
 have y9 := (HSH.out.nxt HU1.out).c k 9 hk9 (by omega)
 have y10 := (HSH.out.nxt HU1.out).c k 10 hk9 (by omega)
 have y11 := (HSH.out.nxt HU1.out).c k 11 hk9 (by omega)
 have y12 := (HSH.out.nxt HU1.out).c k 12 hk9 (by omega)
 have y13 := (HSH.out.nxt HU1.out).c k 13 hk9 (by omega)
 have y14 := (HSH.out.nxt HU1.out).c k 14 hk9 (by omega)
 rw [Nat.add_zero] at y0
 generalize w.heap.size = p at hb hlt ⊢
 have x0 : w1.cell? ⟨p, 0, none⟩ = some (.int .i64 (k : Nat)) := by simp [World.cell?, hb, hC]
 clear hk9
 go_wp2_with fail
 obtain ⟨W2, hW2⟩ : ∃ W, W = w1.alloc (.cells #[.int .i64 (sh k 0), .int .i64 (sh k 1), .int .i64 (sh k 2), .int .i64 (sh k 3), .int .i64 (sh k 4), .int .i64 (sh k 5), .int .i64 (sh k 6), .int .i64 (sh k 7), .int .i64 (sh k 8), .int .i64 (sh k 9), .int .i64 (sh k 10), .int .i64 (sh k 11), .int .i64 (sh k 12), .int .i64 (sh k 13), .int .i64 (sh k 14)] 53) := ⟨_, rfl⟩
 have U2 : Hid (Up Nul w1 W2) := by show Up _ _ _; rw [hW2]; exact (Up.refl Nul w1).alloc _
 have hq : W2.heap[w1.heap.size]? = some (.cells #[.int .i64 (sh k 0), .int .i64 (sh k 1), .int .i64 (sh k 2), .int .i64 (sh k 3), .int .i64 (sh k 4), .int .i64 (sh k 5), .int .i64 (sh k 6), .int .i64 (sh k 7), .int .i64 (sh k 8), .int .i64 (sh k 9), .int .i64 (sh k 10), .int .i64 (sh k 11), .int .i64 (sh k 12), .int .i64 (sh k 13), .int .i64 (sh k 14)] 53 (0, 0)) := by rw [hW2]; exact heap_alloc_new _ _
 have hp := (U2.out.block p hlt id).trans hb
 rw [hC] at hp
 have hq2 : w1.heap.size < W2.heap.size := by rw [hW2]; simp
 have hp2 := Nat.lt_of_lt_of_le hlt U2.out.size
 have U3 := hid (HU1.out.trans U2.out)
 rw [← hW2]
 clear hW2 x0 y0 y1 y2 y3 y4 y5 y6 y7 y8 y9 y10 y11 y12 y13 y14 hb U2 HU1 hlt
 generalize w1.heap.size = q at hq hq2 ⊢
 have Hp1 := celN 1 (.string s) hp2 hp rfl
 have Hp2 := celN 2 (.int .i64 n) hp2 hp rfl
 have Hp3 := celN 3 (.int .i64 sid) hp2 hp rfl
 have Hp4 := celN 4 (.slice sa ns cs) hp2 hp rfl
 have Hp5 := celN 5 (.int .i64 co) hp2 hp rfl
 have Hp6 := celN 6 (.slice la nl cl) hp2 hp rfl
 have Hp7 := celN 7 (.int .i64 t.hot) hp2 hp rfl
 have Hp8 := celN 8 (.int .i64 t.warm) hp2 hp rfl
 have Hp9 := celN 9 (.int .i64 t.gap) hp2 hp rfl
 have Hp10 := celN 10 (.int .i64 t.add) hp2 hp rfl
 have Hp11 := celN 11 (.int .i64 t.top) hp2 hp rfl
 have Hp12 := celN 12 (.int .i64 t.half) hp2 hp rfl
 have Hq0 := celN 0 (.int .i64 (sh k 0)) hq2 hq rfl
 have Hq1 := celN 1 (.int .i64 (sh k 1)) hq2 hq rfl
 have Hq2 := celN 2 (.int .i64 (sh k 2)) hq2 hq rfl
 have Hq3 := celN 3 (.int .i64 (sh k 3)) hq2 hq rfl
 have Hq4 := celN 4 (.int .i64 (sh k 4)) hq2 hq rfl
 have Hq5 := celN 5 (.int .i64 (sh k 5)) hq2 hq rfl
 have Hq6 := celN 6 (.int .i64 (sh k 6)) hq2 hq rfl
 have Hq7 := celN 7 (.int .i64 (sh k 7)) hq2 hq rfl
 have Hq8 := celN 8 (.int .i64 (sh k 8)) hq2 hq rfl
 have Hq9 := celN 9 (.int .i64 (sh k 9)) hq2 hq rfl
 have Hq10 := celN 10 (.int .i64 (sh k 10)) hq2 hq rfl
 have Hq11 := celN 11 (.int .i64 (sh k 11)) hq2 hq rfl
 have Hq12 := celN 12 (.int .i64 (sh k 12)) hq2 hq rfl
 have Hq13 := celN 13 (.int .i64 (sh k 13)) hq2 hq rfl
 have Hq14 := celN 14 (.int .i64 (sh k 14)) hq2 hq rfl
 clear hp hq hp2 hq2
 have HR := hid (Up.refl Nul W2)
 simp only [List.append]
 refine wp_region_held_drew (S := (fun W => Up Nul W2 W)) (by kernel_rfl) (by exact HR.out.drew) (fun hHeld => ?_)
 refine tkl 0 (some 12) ?vk8n1u1 rfl ?yk8n1u1 ?rk8n1u1
 case yk8n1u1 => (intro w hSw; (try dsimp only at hSw); go_simp; try with_reducible rfl)
 try simp only [tdy]
 refine tkl 1 (some 13) ?vk8x2 rfl ?yk8x2 ?rk8x2
 case yk8x2 => (intro w hSw; have aq0 := Hq0.out w hSw; have aq1 := Hq1.out w hSw; go_simp; try with_reducible rfl)
 try simp only [tdy]
 refine tkl 2 (some 14) ?vk8n3u1 rfl ?yk8n3u1 ?rk8n3u1
 case yk8n3u1 => (intro w hSw; (try dsimp only at hSw); go_simp; try with_reducible rfl)
 try simp only [tdy]
 refine tkl 3 (some 15) ?vk8x4 rfl ?yk8x4 ?rk8x4
 case yk8x4 => (intro w hSw; have ap1 := Hp1.out w hSw; go_simp; try with_reducible rfl)
 try simp only [tdy]
 refine tkl 4 (some 16) ?vk8n5u1 rfl ?yk8n5u1 ?rk8n5u1
 case yk8n5u1 => (intro w hSw; (try dsimp only at hSw); go_simp; try with_reducible rfl)
 try simp only [tdy]
 refine one 5 (some 17) rfl (fun K hK => ?_)
 go_simp
 skip
 refine hK.out _ _ ?kk8n6u1 (fun hHeld => ?_)
 case kk8n6u1 => exact (by first | exact Up.alloc (show Up Nul W2 _ from hHeld) _ | exact (Up.alloc (show Up Nul W2 _ from HR.out) _).drew)
 clear hK K
 try simp only [tdy]
 refine one 6 (some 18) rfl (fun K hK => ?_)
 go_simp
 go_at_call 20; refine (HH.out.h1 _ (U3.out.trans (show Up Nul W2 _ from hHeld)) _ (by first | exact World.cell?_alloc_new _ _ _ 0 | (simp; done) | go_simp)).mono ?_; rintro e wb ⟨rfl, kb⟩
 refine hK.out _ _ ?kk8n7u1 (fun hHeld => ?_)
 case kk8n7u1 => exact (Up.trans (show Up Nul W2 _ from hHeld) kb)
 clear hK K
 try simp only [tdy]
 refine tkl 7 (some 19) ?vk8n8u1 rfl ?yk8n8u1 ?rk8n8u1
 case yk8n8u1 => (intro w hSw; (try dsimp only at hSw); go_simp; try with_reducible rfl)
 try simp only [tdy]
 refine tkl 8 (some 20) ?vk8n9u1 rfl ?yk8n9u1 ?rk8n9u1
 case yk8n9u1 => (intro w hSw; (try dsimp only at hSw); go_simp; try with_reducible rfl)
 try simp only [tdy]
 refine tkl 9 (some 21) ?vk8x10 rfl ?yk8x10 ?rk8x10
 case yk8x10 => (intro w hSw; have ap1 := Hp1.out w hSw; go_simp; try with_reducible rfl)
 try simp only [tdy]
 refine one 10 (some 22) rfl (fun K hK => ?_)
 go_simp
 go_at_call 21; refine (HH.out.h2 _).mono ?_; rintro e wb ⟨rfl, kb⟩
 refine hK.out _ _ ?kk8n11u1 (fun hHeld => ?_)
 case kk8n11u1 => exact (Up.trans (show Up Nul W2 _ from hHeld) kb)
 clear hK K
 try simp only [tdy]
 refine tkl 11 (some 23) ?vk8n12u1 rfl ?yk8n12u1 ?rk8n12u1
 case yk8n12u1 => (intro w hSw; (try dsimp only at hSw); go_simp; try with_reducible rfl)
 try simp only [tdy]
 refine tkl 12 (some 24) ?vk8n13u1 rfl ?yk8n13u1 ?rk8n13u1
 case yk8n13u1 => (intro w hSw; (try dsimp only at hSw); go_simp; try with_reducible rfl)
 try simp only [tdy]
 refine tkl 13 (some 25) ?vk8n14u1 rfl ?yk8n14u1 ?rk8n14u1
 case yk8n14u1 => (intro w hSw; (try dsimp only at hSw); go_simp; try with_reducible rfl)
 try simp only [tdy]
 refine tkl 14 (some 26) ?vk8x15 rfl ?yk8x15 ?rk8x15
 case yk8x15 => (intro w hSw; have aq2 := Hq2.out w hSw; have aq3 := Hq3.out w hSw; go_simp; try with_reducible rfl)
 try simp only [tdy]
 refine tkl 15 (some 27) ?vk8n16u1 rfl ?yk8n16u1 ?rk8n16u1
 case yk8n16u1 => (intro w hSw; (try dsimp only at hSw); go_simp; try with_reducible rfl)
 try simp only [tdy]
 refine tkl 16 (some 28) ?vk8x17 rfl ?yk8x17 ?rk8x17
 case yk8x17 => (intro w hSw; have ap2 := Hp2.out w hSw; go_simp; try with_reducible rfl)
 try simp only [tdy]
 refine one 17 (some 29) rfl (fun K hK => ?_)
 go_simp
 skip
 refine hK.out _ _ ?kk8n18u1 (fun hHeld => ?_)
 case kk8n18u1 => exact (by first | exact Up.alloc (show Up Nul W2 _ from hHeld) _ | exact (Up.alloc (show Up Nul W2 _ from HR.out) _).drew)
 clear hK K
 try simp only [tdy]
 refine one 18 (some 30) rfl (fun K hK => ?_)
 go_simp
 go_at_call 20; refine (HH.out.h3 _ (U3.out.trans (show Up Nul W2 _ from hHeld)) _ (by first | exact World.cell?_alloc_new _ _ _ 0 | (simp; done) | go_simp)).mono ?_; rintro e wb ⟨rfl, kb⟩
 refine hK.out _ _ ?kk8n19u1 (fun hHeld => ?_)
 case kk8n19u1 => exact (Up.trans (show Up Nul W2 _ from hHeld) kb)
 clear hK K
 try simp only [tdy]
 refine tkl 19 (some 31) ?vk8n20u1 rfl ?yk8n20u1 ?rk8n20u1
 case yk8n20u1 => (intro w hSw; (try dsimp only at hSw); go_simp; try with_reducible rfl)
 try simp only [tdy]
 refine tkl 20 (some 32) ?vk8n21u1 rfl ?yk8n21u1 ?rk8n21u1
 case yk8n21u1 => (intro w hSw; (try dsimp only at hSw); go_simp; try with_reducible rfl)
 try simp only [tdy]
 refine tkl 21 (some 33) ?vk8n22u1 rfl ?yk8n22u1 ?rk8n22u1
 case yk8n22u1 => (intro w hSw; (try dsimp only at hSw); go_simp; try with_reducible rfl)
 try simp only [tdy]
 refine tkl 22 (some 34) ?vk8x23 rfl ?yk8x23 ?rk8x23
 case yk8x23 => (intro w hSw; have aq4 := Hq4.out w hSw; have aq5 := Hq5.out w hSw; go_simp; try with_reducible rfl)
 try simp only [tdy]
 refine tkl 23 (some 35) ?vk8n24u1 rfl ?yk8n24u1 ?rk8n24u1
 case yk8n24u1 => (intro w hSw; (try dsimp only at hSw); go_simp; try with_reducible rfl)
 try simp only [tdy]
 refine tkl 24 (some 36) ?vk8x25 rfl ?yk8x25 ?rk8x25
 case yk8x25 => (intro w hSw; have ap3 := Hp3.out w hSw; go_simp; try with_reducible rfl)
 try simp only [tdy]
 refine one 25 (some 37) rfl (fun K hK => ?_)
 go_simp
 skip
 refine hK.out _ _ ?kk8n26u1 (fun hHeld => ?_)
 case kk8n26u1 => exact (by first | exact Up.alloc (show Up Nul W2 _ from hHeld) _ | exact (Up.alloc (show Up Nul W2 _ from HR.out) _).drew)
 clear hK K
 try simp only [tdy]
 refine one 26 (some 38) rfl (fun K hK => ?_)
 go_simp
 go_at_call 20; refine (HH.out.h4 _ (U3.out.trans (show Up Nul W2 _ from hHeld)) _ (by first | exact World.cell?_alloc_new _ _ _ 0 | (simp; done) | go_simp)).mono ?_; rintro e wb ⟨rfl, kb⟩
 refine hK.out _ _ ?kk8n27u1 (fun hHeld => ?_)
 case kk8n27u1 => exact (Up.trans (show Up Nul W2 _ from hHeld) kb)
 clear hK K
 try simp only [tdy]
 refine tkl 27 (some 39) ?vk8n28u1 rfl ?yk8n28u1 ?rk8n28u1
 case yk8n28u1 => (intro w hSw; (try dsimp only at hSw); go_simp; try with_reducible rfl)
 try simp only [tdy]
 refine tkl 28 (some 40) ?vk8n29u1 rfl ?yk8n29u1 ?rk8n29u1
 case yk8n29u1 => (intro w hSw; (try dsimp only at hSw); go_simp; try with_reducible rfl)
 try simp only [tdy]
 refine tkl 29 (some 41) ?vk8n30u1 rfl ?yk8n30u1 ?rk8n30u1
 case yk8n30u1 => (intro w hSw; (try dsimp only at hSw); go_simp; try with_reducible rfl)
 try simp only [tdy]
 refine tkl 30 (some 42) ?vk8x31 rfl ?yk8x31 ?rk8x31
 case yk8x31 => (intro w hSw; have aq6 := Hq6.out w hSw; have aq7 := Hq7.out w hSw; go_simp; try with_reducible rfl)
 try simp only [tdy]
 refine tkl 31 (some 43) ?vk8n32u1 rfl ?yk8n32u1 ?rk8n32u1
 case yk8n32u1 => (intro w hSw; (try dsimp only at hSw); go_simp; try with_reducible rfl)
 try simp only [tdy]
 refine tkl 32 (some 44) ?vk8x33 rfl ?yk8x33 ?rk8x33
 case yk8x33 => (intro w hSw; have ap5 := Hp5.out w hSw; go_simp; try with_reducible rfl)
 try simp only [tdy]
 refine one 33 (some 45) rfl (fun K hK => ?_)
 go_simp
 skip
 refine hK.out _ _ ?kk8n34u1 (fun hHeld => ?_)
 case kk8n34u1 => exact (by first | exact Up.alloc (show Up Nul W2 _ from hHeld) _ | exact (Up.alloc (show Up Nul W2 _ from HR.out) _).drew)
 clear hK K
 try simp only [tdy]
 refine one 34 (some 46) rfl (fun K hK => ?_)
 go_simp
 go_at_call 20; refine (HH.out.h5 _ (U3.out.trans (show Up Nul W2 _ from hHeld)) _ (by first | exact World.cell?_alloc_new _ _ _ 0 | (simp; done) | go_simp)).mono ?_; rintro e wb ⟨rfl, kb⟩
 refine hK.out _ _ ?kk8n35u1 (fun hHeld => ?_)
 case kk8n35u1 => exact (Up.trans (show Up Nul W2 _ from hHeld) kb)
 clear hK K
 try simp only [tdy]
 refine tkl 35 (some 47) ?vk8n36u1 rfl ?yk8n36u1 ?rk8n36u1
 case yk8n36u1 => (intro w hSw; (try dsimp only at hSw); go_simp; try with_reducible rfl)
 try simp only [tdy]
 refine tkl 36 (some 48) ?vk8n37u1 rfl ?yk8n37u1 ?rk8n37u1
 case yk8n37u1 => (intro w hSw; (try dsimp only at hSw); go_simp; try with_reducible rfl)
 try simp only [tdy]
 refine tkl 37 (some 49) ?vk8n38u1 rfl ?yk8n38u1 ?rk8n38u1
 case yk8n38u1 => (intro w hSw; (try dsimp only at hSw); go_simp; try with_reducible rfl)
 try simp only [tdy]
 refine tkl 38 (some 50) ?vk8x39 rfl ?yk8x39 ?rk8x39
 case yk8x39 => (intro w hSw; have ap4 := Hp4.out w hSw; go_simp; try with_reducible rfl)
 try simp only [tdy]
 refine tkl 39 (some 51) ?vk8n40u1 rfl ?yk8n40u1 ?rk8n40u1
 case yk8n40u1 => (intro w hSw; (try dsimp only at hSw); go_simp; try with_reducible rfl)
 try simp only [tdy]
 refine tkl 40 (some 52) ?vk8n41u1 rfl ?yk8n41u1 ?rk8n41u1
 case yk8n41u1 => (intro w hSw; (try dsimp only at hSw); go_simp; try with_reducible rfl)
 try simp only [tdy]
 refine tkl 41 (some 53) ?vk8x42 rfl ?yk8x42 ?rk8x42
 case yk8x42 => (intro w hSw; have aq8 := Hq8.out w hSw; go_simp; try with_reducible rfl)
 try simp only [tdy]
 refine tkl 42 (some 54) ?vk8n43u1 rfl ?yk8n43u1 ?rk8n43u1
 case yk8n43u1 => (intro w hSw; (try dsimp only at hSw); go_simp; try with_reducible rfl)
 try simp only [tdy]
 refine tkl 43 (some 55) ?vk8n44u1 rfl ?yk8n44u1 ?rk8n44u1
 case yk8n44u1 => (intro w hSw; (try dsimp only at hSw); go_simp; try with_reducible rfl)
 try simp only [tdy]
 refine tkl 44 (some 56) ?vk8n45u1 rfl ?yk8n45u1 ?rk8n45u1
 case yk8n45u1 => (intro w hSw; (try dsimp only at hSw); go_simp; try with_reducible rfl)
 try simp only [tdy]
 refine tkl 45 (some 57) ?vk8n46u1 rfl ?yk8n46u1 ?rk8n46u1
 case yk8n46u1 => (intro w hSw; (try dsimp only at hSw); go_simp; try with_reducible rfl)
 try simp only [tdy]
 refine tkl 46 (some 58) ?vk8x47 rfl ?yk8x47 ?rk8x47
 case yk8x47 => (intro w hSw; have aq9 := Hq9.out w hSw; have aq10 := Hq10.out w hSw; go_simp; try with_reducible rfl)
 try simp only [tdy]
 refine tkl 47 (some 59) ?vk8n48u1 rfl ?yk8n48u1 ?rk8n48u1
 case yk8n48u1 => (intro w hSw; (try dsimp only at hSw); go_simp; try with_reducible rfl)
 try simp only [tdy]
 refine tkl 48 (some 60) ?vk8x49 rfl ?yk8x49 ?rk8x49
 case yk8x49 => (intro w hSw; have ap4 := Hp4.out w hSw; go_simp; try with_reducible rfl)
 try simp only [tdy]
 refine one 49 (some 61) rfl (fun K hK => ?_)
 go_simp
 go_at_call 20; refine (HH.out.h7 _ (U3.out.trans (show Up Nul W2 _ from hHeld))).mono ?_; rintro e wb ⟨rfl, kb⟩
 refine hK.out _ _ ?kk8n50u1 (fun hHeld => ?_)
 case kk8n50u1 => exact (Up.trans (show Up Nul W2 _ from hHeld) kb)
 clear hK K
 try simp only [tdy]
 refine tkl 50 (some 62) ?vk8n51u1 rfl ?yk8n51u1 ?rk8n51u1
 case yk8n51u1 => (intro w hSw; (try dsimp only at hSw); go_simp; try with_reducible rfl)
 try simp only [tdy]
 refine tkl 51 (some 63) ?vk8n52u1 rfl ?yk8n52u1 ?rk8n52u1
 case yk8n52u1 => (intro w hSw; (try dsimp only at hSw); go_simp; try with_reducible rfl)
 try simp only [tdy]
 refine tkl 52 (some 64) ?vk8n53u1 rfl ?yk8n53u1 ?rk8n53u1
 case yk8n53u1 => (intro w hSw; (try dsimp only at hSw); go_simp; try with_reducible rfl)
 try simp only [tdy]
 refine tkl 53 (some 65) ?vk8x54 rfl ?yk8x54 ?rk8x54
 case yk8x54 => (intro w hSw; have ap6 := Hp6.out w hSw; go_simp; try with_reducible rfl)
 try simp only [tdy]
 refine tkl 54 (some 66) ?vk8n55u1 rfl ?yk8n55u1 ?rk8n55u1
 case yk8n55u1 => (intro w hSw; (try dsimp only at hSw); go_simp; try with_reducible rfl)
 try simp only [tdy]
 refine tkl 55 (some 67) ?vk8x56 rfl ?yk8x56 ?rk8x56
 case yk8x56 => (intro w hSw; have aq0 := Hq0.out w hSw; have aq1 := Hq1.out w hSw; have aq2 := Hq2.out w hSw; have aq3 := Hq3.out w hSw; have aq4 := Hq4.out w hSw; have aq5 := Hq5.out w hSw; have aq6 := Hq6.out w hSw; have aq7 := Hq7.out w hSw; have aq8 := Hq8.out w hSw; have aq9 := Hq9.out w hSw; have aq10 := Hq10.out w hSw; have aq11 := Hq11.out w hSw; have aq12 := Hq12.out w hSw; have aq13 := Hq13.out w hSw; have aq14 := Hq14.out w hSw; go_simp; try with_reducible rfl)
 try simp only [tdy]
 refine tkl 56 (some 68) ?vk8n57u1 rfl ?yk8n57u1 ?rk8n57u1
 case yk8n57u1 => (intro w hSw; (try dsimp only at hSw); go_simp; try with_reducible rfl)
 try simp only [tdy]
 refine tkl 57 (some 69) ?vk8x58 rfl ?yk8x58 ?rk8x58
 case yk8x58 => (intro w hSw; have ap4 := Hp4.out w hSw; go_simp; try with_reducible rfl)
 try simp only [tdy]
 refine one 58 (some 70) rfl (fun K hK => ?_)
 go_simp
 go_at_call 22; refine (H8.out _ (U3.out.trans (show Up Nul W2 _ from hHeld))).mono ?_; rintro e wb ⟨rfl, kb⟩
 refine hK.out _ _ ?kk8n59u1 (fun hHeld => ?_)
 case kk8n59u1 => exact (Up.trans (show Up Nul W2 _ from hHeld) kb)
 clear hK K
 try simp only [tdy]
 refine tkl 59 (some 71) ?vk8n60u1 rfl ?yk8n60u1 ?rk8n60u1
 case yk8n60u1 => (intro w hSw; (try dsimp only at hSw); go_simp; try with_reducible rfl)
 try simp only [tdy]
 refine tkl 60 (some 72) ?vk8n61u1 rfl ?yk8n61u1 ?rk8n61u1
 case yk8n61u1 => (intro w hSw; (try dsimp only at hSw); go_simp; try with_reducible rfl)
 try simp only [tdy]
 refine tkl 61 (some 73) ?vk8n62u1 rfl ?yk8n62u1 ?rk8n62u1
 case yk8n62u1 => (intro w hSw; (try dsimp only at hSw); go_simp; try with_reducible rfl)
 try simp only [tdy]
 refine tku 62 (some 74) rfl ?rk8n63u1
 try simp only [tdy]
 refine tku 63 (some 75) rfl ?rk8n64u1
 try simp only [tdy]
 refine tku 64 (some 76) rfl ?rk8n65u1
 try simp only [tdy]
 refine tku 65 (some 77) rfl ?rk8n66u1
 try simp only [tdy]
 refine tkl 66 (some 78) ?vk8n67u1 rfl ?yk8n67u1 ?rk8n67u1
 case yk8n67u1 => (intro w hSw; (try dsimp only at hSw); go_simp; try with_reducible rfl)
 try simp only [tdy]
 refine tkl 67 (some 79) ?vk8n68u1 rfl ?yk8n68u1 ?rk8n68u1
 case yk8n68u1 => (intro w hSw; (try dsimp only at hSw); go_simp; try with_reducible rfl)
 try simp only [tdy]
 refine tku 68 (some 80) rfl ?rk8n69u1
 try simp only [tdy]
 refine tku 69 (some 81) rfl ?rk8n70u1
 try simp only [tdy]
 refine tku 70 (some 82) rfl ?rk8n71u1
 try simp only [tdy]
 refine tku 71 (some 83) rfl ?rk8n72u1
 try simp only [tdy]
 refine tku 72 (some 84) rfl ?rk8n73u1
 try simp only [tdy]
 refine tku 73 (some 85) rfl ?rk8n74u1
 try simp only [tdy]
 refine tkl 74 (some 86) ?vk8n75u1 rfl ?yk8n75u1 ?rk8n75u1
 case yk8n75u1 => (intro w hSw; (try dsimp only at hSw); go_simp; try with_reducible rfl)
 try simp only [tdy]
 refine tkl 75 (some 2) ?vk8n76u1 rfl ?yk8n76u1 ?rk8n76u1
 case yk8n76u1 => (intro w hSw; (try dsimp only at hSw); go_simp; try with_reducible rfl)
 try simp only [tdy]
 refine wpAnyH_done (by kernel_rfl) ?_ _
 have HE := hid (U3.out.trans (show Up Nul W2 _ from hHeld))
 clear hHeld
 go_wp2
 go_ret
 exact ⟨by first | rfl | simp, HE.out⟩
end Go.Proofs.YtpdkcpjofofkoaaDoor
