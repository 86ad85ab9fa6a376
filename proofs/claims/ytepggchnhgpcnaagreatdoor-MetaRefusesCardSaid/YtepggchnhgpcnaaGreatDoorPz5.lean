/- 'Ok', by the first of its parts that is false. -/
import Derived.Test.YtepggchnhgpcnaaGreatDoorPkTidy
import Derived.Test.YtepggchnhgpcnaaGreatDoorPz3
import Derived.Test.YtepggchnhgpcnaaGreatDoorPz1
namespace Go.Proofs.YtepggchnhgpcnaaGreatDoor
open Go.RowKit
set_option linter.unusedVariables false
set_option linter.unusedSimpArgs false
set_option maxRecDepth 100000 in
set_option maxHeartbeats 4000000 in
theorem ok_case4 (w : World) (s : ByteArray) (n sid co : Int) (sa : Option Addr) (ns cs : Nat) (la : Option Addr) (nl cl : Nat) (t : Tb) (k : Nat) (c1 c2 c3 c4 c5 c6 c7 c8 c9 c10 : Bool) (hk : spn 1 8 (k : Int) = true) (hS : Shp w) (hc1 : c1 = true) (hc2 : c2 = true) (hc3 : c3 = true) (hc4 : c4 = false)
  (H : OkC w s n sid co sa ns cs la nl cl t k c1 c2 c3 c4 c5 c6 c7 c8 c9 c10) :
  Calls Tryz.prog 21 #[.agg #[.int .i64 (k : Nat), .string s, .int .i64 n, .int .i64 sid, .slice sa ns cs, .int .i64 co, .slice la nl cl, .int .i64 t.hot, .int .i64 t.warm, .int .i64 t.gap, .int .i64 t.add, .int .i64 t.top, .int .i64 t.half]] w
   fun e w' => e = .returned (.bool (c1 && c2 && c3 && c4 && c5 && c6 && c7 && c8 && c9 && c10)) ∧ Up Nul w w' := by
 subst hc1 hc2 hc3 hc4
 have HK := hid (fun W => kind_any (k : Int) W)
 rw [hk] at HK
 have hk9 : k < 9 := by
  unfold spn at hk
  simp at hk
  omega
 have i0 : (0 : Int) ≤ (k : Int) := by omega
 have i1 : (k : Int) < 9 := by omega
 have HH := hid H
 clear H
 obtain ⟨C, hC⟩ : ∃ C : Array Value, C = #[.int .i64 (k : Nat), .string s, .int .i64 n, .int .i64 sid, .slice sa ns cs, .int .i64 co, .slice la nl cl, .int .i64 t.hot, .int .i64 t.warm, .int .i64 t.gap, .int .i64 t.add, .int .i64 t.top, .int .i64 t.half] := ⟨_, rfl⟩
 have HUA := hid ((Up.refl Nul w).alloc (.cells C 28))
 have HBA : Hid ((w.alloc (.cells C 28)).heap[w.heap.size]? = some (.cells C 28 (0, 0))) := heap_alloc_new _ _
 have HLT : Hid (w.heap.size < (w.alloc (.cells C 28)).heap.size) := by show _ < _; simp
 have HSH := hid hS
 go_enter Tryz.func21, Tryz.ntmps21
 go_wp2_with fail
 rw [← hC]
 refine (HK.out _).mono ?_
 rintro e w1 ⟨rfl, u1⟩
 have hb := (u1.block _ HLT.out id).trans HBA.out
 have HU1 := hid (HUA.out.trans u1)
 have hlt := Nat.lt_of_lt_of_le HLT.out u1.size
 clear u1 HBA HUA HLT
 have y0 := (HSH.out.nxt HU1.out).c k 0 hk9 (by omega)
 have y1 := (HSH.out.nxt HU1.out).c k 1 hk9 (by omega)
 have y2 := (HSH.out.nxt HU1.out).c k 2 hk9 (by omega)
 have y3 := (HSH.out.nxt HU1.out).c k 3 hk9 (by omega)
 have y4 := (HSH.out.nxt HU1.out).c k 4 hk9 (by omega)
 have y5 := (HSH.out.nxt HU1.out).c k 5 hk9 (by omega)
 have y6 := (HSH.out.nxt HU1.out).c k 6 hk9 (by omega)
 have y7 := (HSH.out.nxt HU1.out).c k 7 hk9 (by omega)
 have y8 := (HSH.out.nxt HU1.out).c k 8 hk9 (by omega)
 have y9 := (HSH.out.nxt HU1.out).c k 9 hk9 (by omega)
 have y10 := (HSH.out.nxt HU1.out).c k 10 hk9 (by omega)
 have y11 := (HSH.out.nxt HU1.out).c k 11 hk9 (by omega)
 have y12 := (HSH.out.nxt HU1.out).c k 12 hk9 (by omega)
 have y13 := (HSH.out.nxt HU1.out).c k 13 hk9 (by omega)
 have y14 := (HSH.out.nxt HU1.out).c k 14 hk9 (by omega)
 rw [Nat.add_zero] at y0
 generalize w.heap.size = p at hb hlt ⊢
 have x0 : w1.cell? ⟨p, 0, none⟩ = some (.int .i64 (k : Nat)) := by simp [World.cell?, hb, hC]
 clear hk9
 go_wp2_with fail
 obtain ⟨W2, hW2⟩ : ∃ W, W = w1.alloc (.cells #[.int .i64 (sh k 0), .int .i64 (sh k 1), .int .i64 (sh k 2), .int .i64 (sh k 3), .int .i64 (sh k 4), .int .i64 (sh k 5), .int .i64 (sh k 6), .int .i64 (sh k 7), .int .i64 (sh k 8), .int .i64 (sh k 9), .int .i64 (sh k 10), .int .i64 (sh k 11), .int .i64 (sh k 12), .int .i64 (sh k 13), .int .i64 (sh k 14)] 105) := ⟨_, rfl⟩
 have U2 : Hid (Up Nul w1 W2) := by show Up _ _ _; rw [hW2]; exact (Up.refl Nul w1).alloc _
 have hq : W2.heap[w1.heap.size]? = some (.cells #[.int .i64 (sh k 0), .int .i64 (sh k 1), .int .i64 (sh k 2), .int .i64 (sh k 3), .int .i64 (sh k 4), .int .i64 (sh k 5), .int .i64 (sh k 6), .int .i64 (sh k 7), .int .i64 (sh k 8), .int .i64 (sh k 9), .int .i64 (sh k 10), .int .i64 (sh k 11), .int .i64 (sh k 12), .int .i64 (sh k 13), .int .i64 (sh k 14)] 105 (0, 0)) := by rw [hW2]; exact heap_alloc_new _ _
 have hp := (U2.out.block p hlt id).trans hb
 rw [hC] at hp
 have hq2 : w1.heap.size < W2.heap.size := by rw [hW2]; simp
 have hp2 := Nat.lt_of_lt_of_le hlt U2.out.size
 have U3 := hid (HU1.out.trans U2.out)
 rw [← hW2]
 clear hW2 x0 y0 y1 y2 y3 y4 y5 y6 y7 y8 y9 y10 y11 y12 y13 y14 hb U2 HU1 hlt
 generalize w1.heap.size = q at hq hq2 ⊢
 have Hp1 := celN 1 (.string s) hp2 hp rfl
 have Hp2 := celN 2 (.int .i64 n) hp2 hp rfl
 have Hp3 := celN 3 (.int .i64 sid) hp2 hp rfl
 have Hp4 := celN 4 (.slice sa ns cs) hp2 hp rfl
 have Hp5 := celN 5 (.int .i64 co) hp2 hp rfl
 have Hp6 := celN 6 (.slice la nl cl) hp2 hp rfl
 have Hp7 := celN 7 (.int .i64 t.hot) hp2 hp rfl
 have Hp8 := celN 8 (.int .i64 t.warm) hp2 hp rfl
 have Hp9 := celN 9 (.int .i64 t.gap) hp2 hp rfl
 have Hp10 := celN 10 (.int .i64 t.add) hp2 hp rfl
 have Hp11 := celN 11 (.int .i64 t.top) hp2 hp rfl
 have Hp12 := celN 12 (.int .i64 t.half) hp2 hp rfl
 have Hq0 := celN 0 (.int .i64 (sh k 0)) hq2 hq rfl
 have Hq1 := celN 1 (.int .i64 (sh k 1)) hq2 hq rfl
 have Hq2 := celN 2 (.int .i64 (sh k 2)) hq2 hq rfl
 have Hq3 := celN 3 (.int .i64 (sh k 3)) hq2 hq rfl
 have Hq4 := celN 4 (.int .i64 (sh k 4)) hq2 hq rfl
 have Hq5 := celN 5 (.int .i64 (sh k 5)) hq2 hq rfl
 have Hq6 := celN 6 (.int .i64 (sh k 6)) hq2 hq rfl
 have Hq7 := celN 7 (.int .i64 (sh k 7)) hq2 hq rfl
 have Hq8 := celN 8 (.int .i64 (sh k 8)) hq2 hq rfl
 have Hq9 := celN 9 (.int .i64 (sh k 9)) hq2 hq rfl
 have Hq10 := celN 10 (.int .i64 (sh k 10)) hq2 hq rfl
 have Hq11 := celN 11 (.int .i64 (sh k 11)) hq2 hq rfl
 have Hq12 := celN 12 (.int .i64 (sh k 12)) hq2 hq rfl
 have Hq13 := celN 13 (.int .i64 (sh k 13)) hq2 hq rfl
 have Hq14 := celN 14 (.int .i64 (sh k 14)) hq2 hq rfl
 clear hp hq hp2 hq2
 have HR := hid (Up.refl Nul W2)
 simp only [List.append]
 refine wp_region_held_drew (S := (fun W => Up Nul W2 W)) (by kernel_rfl) (by exact HR.out.drew) (fun hHeld => ?_)
 refine tkv 0 (some 12) rfl ?_
 refine tkl 1 (some 13) ?vk4x2 rfl ?yk4x2 ?rk4x2
 case yk4x2 => (intro w hSw; have aq0 := Hq0.out w hSw; have aq1 := Hq1.out w hSw; go_simp; try with_reducible rfl)
 try simp only [tdy]
 refine tkv 2 (some 14) rfl ?_
 refine tkl 3 (some 15) ?vk4x4 rfl ?yk4x4 ?rk4x4
 case yk4x4 => (intro w hSw; have ap1 := Hp1.out w hSw; go_simp; try with_reducible rfl)
 try simp only [tdy]
 refine tkv 4 (some 16) rfl ?_
 refine one 5 (some 17) rfl (fun K hK => ?_)
 go_simp
 skip
 refine hK.out _ _ ((by first | exact Up.alloc (show Up Nul W2 _ from hHeld) _ | exact (Up.alloc (show Up Nul W2 _ from HR.out) _).drew)) (fun hHeld => ?_)
 clear hK K
 try simp only [tdy]
 refine one 6 (some 18) rfl (fun K hK => ?_)
 go_simp
 go_at_call 56; refine (HH.out.h1 _ (U3.out.trans (show Up Nul W2 _ from hHeld)) _ (by first | exact World.cell?_alloc_new _ _ _ 0 | (simp; done) | go_simp)).mono ?_; rintro e wb ⟨rfl, kb⟩
 refine hK.out _ _ ((Up.trans (show Up Nul W2 _ from hHeld) kb)) (fun hHeld => ?_)
 clear hK K
 try simp only [tdy]
 refine tkv 7 (some 19) rfl ?_
 refine tkv 8 (some 20) rfl ?_
 refine tkl 9 (some 21) ?vk4x10 rfl ?yk4x10 ?rk4x10
 case yk4x10 => (intro w hSw; have ap1 := Hp1.out w hSw; go_simp; try with_reducible rfl)
 try simp only [tdy]
 refine one 10 (some 22) rfl (fun K hK => ?_)
 go_simp
 go_at_call 57; refine (HH.out.h2 _).mono ?_; rintro e wb ⟨rfl, kb⟩
 refine hK.out _ _ ((Up.trans (show Up Nul W2 _ from hHeld) kb)) (fun hHeld => ?_)
 clear hK K
 try simp only [tdy]
 refine tkv 11 (some 23) rfl ?_
 refine tkv 12 (some 24) rfl ?_
 refine tkv 13 (some 25) rfl ?_
 refine tkl 14 (some 26) ?vk4x15 rfl ?yk4x15 ?rk4x15
 case yk4x15 => (intro w hSw; have aq2 := Hq2.out w hSw; have aq3 := Hq3.out w hSw; go_simp; try with_reducible rfl)
 try simp only [tdy]
 refine tkv 15 (some 27) rfl ?_
 refine tkl 16 (some 28) ?vk4x17 rfl ?yk4x17 ?rk4x17
 case yk4x17 => (intro w hSw; have ap2 := Hp2.out w hSw; go_simp; try with_reducible rfl)
 try simp only [tdy]
 refine one 17 (some 29) rfl (fun K hK => ?_)
 go_simp
 skip
 refine hK.out _ _ ((by first | exact Up.alloc (show Up Nul W2 _ from hHeld) _ | exact (Up.alloc (show Up Nul W2 _ from HR.out) _).drew)) (fun hHeld => ?_)
 clear hK K
 try simp only [tdy]
 refine one 18 (some 30) rfl (fun K hK => ?_)
 go_simp
 go_at_call 56; refine (HH.out.h3 _ (U3.out.trans (show Up Nul W2 _ from hHeld)) _ (by first | exact World.cell?_alloc_new _ _ _ 0 | (simp; done) | go_simp)).mono ?_; rintro e wb ⟨rfl, kb⟩
 refine hK.out _ _ ((Up.trans (show Up Nul W2 _ from hHeld) kb)) (fun hHeld => ?_)
 clear hK K
 try simp only [tdy]
 refine tkv 19 (some 31) rfl ?_
 refine tkv 20 (some 32) rfl ?_
 refine tkv 21 (some 33) rfl ?_
 refine tkl 22 (some 34) ?vk4x23 rfl ?yk4x23 ?rk4x23
 case yk4x23 => (intro w hSw; have aq4 := Hq4.out w hSw; have aq5 := Hq5.out w hSw; go_simp; try with_reducible rfl)
 try simp only [tdy]
 refine tkv 23 (some 35) rfl ?_
 refine tkl 24 (some 36) ?vk4x25 rfl ?yk4x25 ?rk4x25
 case yk4x25 => (intro w hSw; have ap3 := Hp3.out w hSw; go_simp; try with_reducible rfl)
 try simp only [tdy]
 refine one 25 (some 37) rfl (fun K hK => ?_)
 go_simp
 skip
 refine hK.out _ _ ((by first | exact Up.alloc (show Up Nul W2 _ from hHeld) _ | exact (Up.alloc (show Up Nul W2 _ from HR.out) _).drew)) (fun hHeld => ?_)
 clear hK K
 try simp only [tdy]
 refine one 26 (some 38) rfl (fun K hK => ?_)
 go_simp
 go_at_call 56; refine (HH.out.h4 _ (U3.out.trans (show Up Nul W2 _ from hHeld)) _ (by first | exact World.cell?_alloc_new _ _ _ 0 | (simp; done) | go_simp)).mono ?_; rintro e wb ⟨rfl, kb⟩
 refine hK.out _ _ ((Up.trans (show Up Nul W2 _ from hHeld) kb)) (fun hHeld => ?_)
 clear hK K
 try simp only [tdy]
 refine tkv 27 (some 39) rfl ?_
 refine tkv 28 (some 40) rfl ?_
 refine tkx 29 (some 41) rfl ?_
 refine tkx 30 (some 42) rfl ?_
 refine tkx 31 (some 43) rfl ?_
 refine tkx 32 (some 44) rfl ?_
 refine tkx 33 (some 45) rfl ?_
 refine tkx 34 (some 46) rfl ?_
 refine tkv 35 (some 47) rfl ?_
 refine tkv 36 (some 48) rfl ?_
 refine tkx 37 (some 49) rfl ?_
 refine tkx 38 (some 50) rfl ?_
 refine tkx 39 (some 51) rfl ?_
 refine tkx 40 (some 52) rfl ?_
 refine tkx 41 (some 53) rfl ?_
 refine tkx 42 (some 54) rfl ?_
 refine tkv 43 (some 55) rfl ?_
 refine tkv 44 (some 56) rfl ?_
 refine tkx 45 (some 57) rfl ?_
 refine tkx 46 (some 58) rfl ?_
 refine tkx 47 (some 59) rfl ?_
 refine tkx 48 (some 60) rfl ?_
 refine tkx 49 (some 61) rfl ?_
 refine tkv 50 (some 62) rfl ?_
 refine tkv 51 (some 63) rfl ?_
 refine tkx 52 (some 64) rfl ?_
 refine tkx 53 (some 65) rfl ?_
 refine tkx 54 (some 66) rfl ?_
 refine tkx 55 (some 67) rfl ?_
 refine tkx 56 (some 68) rfl ?_
 refine tkx 57 (some 69) rfl ?_
 refine tkx 58 (some 70) rfl ?_
 refine tkx 59 (some 71) rfl ?_
 refine tkv 60 (some 72) rfl ?_
 refine tkv 61 (some 73) rfl ?_
 refine tkx 62 (some 74) rfl ?_
 refine tkx 63 (some 75) rfl ?_
 refine tkx 64 (some 76) rfl ?_
 refine tkx 65 (some 77) rfl ?_
 refine tkv 66 (some 78) rfl ?_
 refine tkv 67 (some 79) rfl ?_
 refine tkx 68 (some 80) rfl ?_
 refine tkx 69 (some 81) rfl ?_
 refine tkx 70 (some 82) rfl ?_
 refine tkx 71 (some 83) rfl ?_
 refine tkx 72 (some 84) rfl ?_
 refine tkx 73 (some 85) rfl ?_
 refine tkv 74 (some 86) rfl ?_
 refine tkv 75 (some 2) rfl ?_
 refine wpAnyH_done (by kernel_rfl) ?_ _
 have HE := hid (U3.out.trans (show Up Nul W2 _ from hHeld))
 clear hHeld
 go_wp2
 go_ret
 exact ⟨by first | rfl | simp, HE.out⟩
set_option maxRecDepth 100000 in
set_option maxHeartbeats 4000000 in
theorem ok_case5 (w : World) (s : ByteArray) (n sid co : Int) (sa : Option Addr) (ns cs : Nat) (la : Option Addr) (nl cl : Nat) (t : Tb) (k : Nat) (c1 c2 c3 c4 c5 c6 c7 c8 c9 c10 : Bool) (hk : spn 1 8 (k : Int) = true) (hS : Shp w) (hc1 : c1 = true) (hc2 : c2 = true) (hc3 : c3 = true) (hc4 : c4 = true) (hc5 : c5 = false)
  (H : OkC w s n sid co sa ns cs la nl cl t k c1 c2 c3 c4 c5 c6 c7 c8 c9 c10) :
  Calls Tryz.prog 21 #[.agg #[.int .i64 (k : Nat), .string s, .int .i64 n, .int .i64 sid, .slice sa ns cs, .int .i64 co, .slice la nl cl, .int .i64 t.hot, .int .i64 t.warm, .int .i64 t.gap, .int .i64 t.add, .int .i64 t.top, .int .i64 t.half]] w
   fun e w' => e = .returned (.bool (c1 && c2 && c3 && c4 && c5 && c6 && c7 && c8 && c9 && c10)) ∧ Up Nul w w' := by
 subst hc1 hc2 hc3 hc4 hc5
 have HK := hid (fun W => kind_any (k : Int) W)
 rw [hk] at HK
 have hk9 : k < 9 := by
  unfold spn at hk
  simp at hk
  omega
 have i0 : (0 : Int) ≤ (k : Int) := by omega
 have i1 : (k : Int) < 9 := by omega
 have HH := hid H
 clear H
 obtain ⟨C, hC⟩ : ∃ C : Array Value, C = #[.int .i64 (k : Nat), .string s, .int .i64 n, .int .i64 sid, .slice sa ns cs, .int .i64 co, .slice la nl cl, .int .i64 t.hot, .int .i64 t.warm, .int .i64 t.gap, .int .i64 t.add, .int .i64 t.top, .int .i64 t.half] := ⟨_, rfl⟩
 have HUA := hid ((Up.refl Nul w).alloc (.cells C 28))
 have HBA : Hid ((w.alloc (.cells C 28)).heap[w.heap.size]? = some (.cells C 28 (0, 0))) := heap_alloc_new _ _
 have HLT : Hid (w.heap.size < (w.alloc (.cells C 28)).heap.size) := by show _ < _; simp
 have HSH := hid hS
 go_enter Tryz.func21, Tryz.ntmps21
 go_wp2_with fail
 rw [← hC]
 refine (HK.out _).mono ?_
 rintro e w1 ⟨rfl, u1⟩
 have hb := (u1.block _ HLT.out id).trans HBA.out
 have HU1 := hid (HUA.out.trans u1)
 have hlt := Nat.lt_of_lt_of_le HLT.out u1.size
 clear u1 HBA HUA HLT
 have y0 := (HSH.out.nxt HU1.out).c k 0 hk9 (by omega)
 have y1 := (HSH.out.nxt HU1.out).c k 1 hk9 (by omega)
 have y2 := (HSH.out.nxt HU1.out).c k 2 hk9 (by omega)
 have y3 := (HSH.out.nxt HU1.out).c k 3 hk9 (by omega)
 have y4 := (HSH.out.nxt HU1.out).c k 4 hk9 (by omega)
 have y5 := (HSH.out.nxt HU1.out).c k 5 hk9 (by omega)
 have y6 := (HSH.out.nxt HU1.out).c k 6 hk9 (by omega)
 have y7 := (HSH.out.nxt HU1.out).c k 7 hk9 (by omega)
 have y8 := (HSH.out.nxt HU1.out).c k 8 hk9 (by omega)
 have y9 := (HSH.out.nxt HU1.out).c k 9 hk9 (by omega)
 have y10 := (HSH.out.nxt HU1.out).c k 10 hk9 (by omega)
 have y11 := (HSH.out.nxt HU1.out).c k 11 hk9 (by omega)
 have y12 := (HSH.out.nxt HU1.out).c k 12 hk9 (by omega)
 have y13 := (HSH.out.nxt HU1.out).c k 13 hk9 (by omega)
 have y14 := (HSH.out.nxt HU1.out).c k 14 hk9 (by omega)
 rw [Nat.add_zero] at y0
 generalize w.heap.size = p at hb hlt ⊢
 have x0 : w1.cell? ⟨p, 0, none⟩ = some (.int .i64 (k : Nat)) := by simp [World.cell?, hb, hC]
 clear hk9
 go_wp2_with fail
 obtain ⟨W2, hW2⟩ : ∃ W, W = w1.alloc (.cells #[.int .i64 (sh k 0), .int .i64 (sh k 1), .int .i64 (sh k 2), .int .i64 (sh k 3), .int .i64 (sh k 4), .int .i64 (sh k 5), .int .i64 (sh k 6), .int .i64 (sh k 7), .int .i64 (sh k 8), .int .i64 (sh k 9), .int .i64 (sh k 10), .int .i64 (sh k 11), .int .i64 (sh k 12), .int .i64 (sh k 13), .int .i64 (sh k 14)] 105) := ⟨_, rfl⟩
 have U2 : Hid (Up Nul w1 W2) := by show Up _ _ _; rw [hW2]; exact (Up.refl Nul w1).alloc _
 have hq : W2.heap[w1.heap.size]? = some (.cells #[.int .i64 (sh k 0), .int .i64 (sh k 1), .int .i64 (sh k 2), .int .i64 (sh k 3), .int .i64 (sh k 4), .int .i64 (sh k 5), .int .i64 (sh k 6), .int .i64 (sh k 7), .int .i64 (sh k 8), .int .i64 (sh k 9), .int .i64 (sh k 10), .int .i64 (sh k 11), .int .i64 (sh k 12), .int .i64 (sh k 13), .int .i64 (sh k 14)] 105 (0, 0)) := by rw [hW2]; exact heap_alloc_new _ _
 have hp := (U2.out.block p hlt id).trans hb
 rw [hC] at hp
 have hq2 : w1.heap.size < W2.heap.size := by rw [hW2]; simp
 have hp2 := Nat.lt_of_lt_of_le hlt U2.out.size
 have U3 := hid (HU1.out.trans U2.out)
 rw [← hW2]
 clear hW2 x0 y0 y1 y2 y3 y4 y5 y6 y7 y8 y9 y10 y11 y12 y13 y14 hb U2 HU1 hlt
 generalize w1.heap.size = q at hq hq2 ⊢
 have Hp1 := celN 1 (.string s) hp2 hp rfl
 have Hp2 := celN 2 (.int .i64 n) hp2 hp rfl
 have Hp3 := celN 3 (.int .i64 sid) hp2 hp rfl
 have Hp4 := celN 4 (.slice sa ns cs) hp2 hp rfl
 have Hp5 := celN 5 (.int .i64 co) hp2 hp rfl
 have Hp6 := celN 6 (.slice la nl cl) hp2 hp rfl
 have Hp7 := celN 7 (.int .i64 t.hot) hp2 hp rfl
 have Hp8 := celN 8 (.int .i64 t.warm) hp2 hp rfl
 have Hp9 := celN 9 (.int .i64 t.gap) hp2 hp rfl
 have Hp10 := celN 10 (.int .i64 t.add) hp2 hp rfl
 have Hp11 := celN 11 (.int .i64 t.top) hp2 hp rfl
 have Hp12 := celN 12 (.int .i64 t.half) hp2 hp rfl
 have Hq0 := celN 0 (.int .i64 (sh k 0)) hq2 hq rfl
 have Hq1 := celN 1 (.int .i64 (sh k 1)) hq2 hq rfl
 have Hq2 := celN 2 (.int .i64 (sh k 2)) hq2 hq rfl
 have Hq3 := celN 3 (.int .i64 (sh k 3)) hq2 hq rfl
 have Hq4 := celN 4 (.int .i64 (sh k 4)) hq2 hq rfl
 have Hq5 := celN 5 (.int .i64 (sh k 5)) hq2 hq rfl
 have Hq6 := celN 6 (.int .i64 (sh k 6)) hq2 hq rfl
 have Hq7 := celN 7 (.int .i64 (sh k 7)) hq2 hq rfl
 have Hq8 := celN 8 (.int .i64 (sh k 8)) hq2 hq rfl
 have Hq9 := celN 9 (.int .i64 (sh k 9)) hq2 hq rfl
 have Hq10 := celN 10 (.int .i64 (sh k 10)) hq2 hq rfl
 have Hq11 := celN 11 (.int .i64 (sh k 11)) hq2 hq rfl
 have Hq12 := celN 12 (.int .i64 (sh k 12)) hq2 hq rfl
 have Hq13 := celN 13 (.int .i64 (sh k 13)) hq2 hq rfl
 have Hq14 := celN 14 (.int .i64 (sh k 14)) hq2 hq rfl
 clear hp hq hp2 hq2
 have HR := hid (Up.refl Nul W2)
 simp only [List.append]
 refine wp_region_held_drew (S := (fun W => Up Nul W2 W)) (by kernel_rfl) (by exact HR.out.drew) (fun hHeld => ?_)
 refine tkv 0 (some 12) rfl ?_
 refine tkl 1 (some 13) ?vk5x2 rfl ?yk5x2 ?rk5x2
 case yk5x2 => (intro w hSw; have aq0 := Hq0.out w hSw; have aq1 := Hq1.out w hSw; go_simp; try with_reducible rfl)
 try simp only [tdy]
 refine tkv 2 (some 14) rfl ?_
 refine tkl 3 (some 15) ?vk5x4 rfl ?yk5x4 ?rk5x4
 case yk5x4 => (intro w hSw; have ap1 := Hp1.out w hSw; go_simp; try with_reducible rfl)
 try simp only [tdy]
 refine tkv 4 (some 16) rfl ?_
 refine one 5 (some 17) rfl (fun K hK => ?_)
 go_simp
 skip
 refine hK.out _ _ ((by first | exact Up.alloc (show Up Nul W2 _ from hHeld) _ | exact (Up.alloc (show Up Nul W2 _ from HR.out) _).drew)) (fun hHeld => ?_)
 clear hK K
 try simp only [tdy]
 refine one 6 (some 18) rfl (fun K hK => ?_)
 go_simp
 go_at_call 56; refine (HH.out.h1 _ (U3.out.trans (show Up Nul W2 _ from hHeld)) _ (by first | exact World.cell?_alloc_new _ _ _ 0 | (simp; done) | go_simp)).mono ?_; rintro e wb ⟨rfl, kb⟩
 refine hK.out _ _ ((Up.trans (show Up Nul W2 _ from hHeld) kb)) (fun hHeld => ?_)
 clear hK K
 try simp only [tdy]
 refine tkv 7 (some 19) rfl ?_
 refine tkv 8 (some 20) rfl ?_
 refine tkl 9 (some 21) ?vk5x10 rfl ?yk5x10 ?rk5x10
 case yk5x10 => (intro w hSw; have ap1 := Hp1.out w hSw; go_simp; try with_reducible rfl)
 try simp only [tdy]
 refine one 10 (some 22) rfl (fun K hK => ?_)
 go_simp
 go_at_call 57; refine (HH.out.h2 _).mono ?_; rintro e wb ⟨rfl, kb⟩
 refine hK.out _ _ ((Up.trans (show Up Nul W2 _ from hHeld) kb)) (fun hHeld => ?_)
 clear hK K
 try simp only [tdy]
 refine tkv 11 (some 23) rfl ?_
 refine tkv 12 (some 24) rfl ?_
 refine tkv 13 (some 25) rfl ?_
 refine tkl 14 (some 26) ?vk5x15 rfl ?yk5x15 ?rk5x15
 case yk5x15 => (intro w hSw; have aq2 := Hq2.out w hSw; have aq3 := Hq3.out w hSw; go_simp; try with_reducible rfl)
 try simp only [tdy]
 refine tkv 15 (some 27) rfl ?_
 refine tkl 16 (some 28) ?vk5x17 rfl ?yk5x17 ?rk5x17
 case yk5x17 => (intro w hSw; have ap2 := Hp2.out w hSw; go_simp; try with_reducible rfl)
 try simp only [tdy]
 refine one 17 (some 29) rfl (fun K hK => ?_)
 go_simp
 skip
 refine hK.out _ _ ((by first | exact Up.alloc (show Up Nul W2 _ from hHeld) _ | exact (Up.alloc (show Up Nul W2 _ from HR.out) _).drew)) (fun hHeld => ?_)
 clear hK K
 try simp only [tdy]
 refine one 18 (some 30) rfl (fun K hK => ?_)
 go_simp
 go_at_call 56; refine (HH.out.h3 _ (U3.out.trans (show Up Nul W2 _ from hHeld)) _ (by first | exact World.cell?_alloc_new _ _ _ 0 | (simp; done) | go_simp)).mono ?_; rintro e wb ⟨rfl, kb⟩
 refine hK.out _ _ ((Up.trans (show Up Nul W2 _ from hHeld) kb)) (fun hHeld => ?_)
 clear hK K
 try simp only [tdy]
 refine tkv 19 (some 31) rfl ?_
 refine tkv 20 (some 32) rfl ?_
 refine tkv 21 (some 33) rfl ?_
 refine tkl 22 (some 34) ?vk5x23 rfl ?yk5x23 ?rk5x23
 case yk5x23 => (intro w hSw; have aq4 := Hq4.out w hSw; have aq5 := Hq5.out w hSw; go_simp; try with_reducible rfl)
 try simp only [tdy]
 refine tkv 23 (some 35) rfl ?_
 refine tkl 24 (some 36) ?vk5x25 rfl ?yk5x25 ?rk5x25
 case yk5x25 => (intro w hSw; have ap3 := Hp3.out w hSw; go_simp; try with_reducible rfl)
 try simp only [tdy]
 refine one 25 (some 37) rfl (fun K hK => ?_)
 go_simp
 skip
 refine hK.out _ _ ((by first | exact Up.alloc (show Up Nul W2 _ from hHeld) _ | exact (Up.alloc (show Up Nul W2 _ from HR.out) _).drew)) (fun hHeld => ?_)
 clear hK K
 try simp only [tdy]
 refine one 26 (some 38) rfl (fun K hK => ?_)
 go_simp
 go_at_call 56; refine (HH.out.h4 _ (U3.out.trans (show Up Nul W2 _ from hHeld)) _ (by first | exact World.cell?_alloc_new _ _ _ 0 | (simp; done) | go_simp)).mono ?_; rintro e wb ⟨rfl, kb⟩
 refine hK.out _ _ ((Up.trans (show Up Nul W2 _ from hHeld) kb)) (fun hHeld => ?_)
 clear hK K
 try simp only [tdy]
 refine tkv 27 (some 39) rfl ?_
 refine tkv 28 (some 40) rfl ?_
 refine tkv 29 (some 41) rfl ?_
 refine tkl 30 (some 42) ?vk5x31 rfl ?yk5x31 ?rk5x31
 case yk5x31 => (intro w hSw; have aq6 := Hq6.out w hSw; have aq7 := Hq7.out w hSw; go_simp; try with_reducible rfl)
 try simp only [tdy]
 refine tkv 31 (some 43) rfl ?_
 refine tkl 32 (some 44) ?vk5x33 rfl ?yk5x33 ?rk5x33
 case yk5x33 => (intro w hSw; have ap5 := Hp5.out w hSw; go_simp; try with_reducible rfl)
 try simp only [tdy]
 refine one 33 (some 45) rfl (fun K hK => ?_)
 go_simp
 skip
 refine hK.out _ _ ((by first | exact Up.alloc (show Up Nul W2 _ from hHeld) _ | exact (Up.alloc (show Up Nul W2 _ from HR.out) _).drew)) (fun hHeld => ?_)
 clear hK K
 try simp only [tdy]
 refine one 34 (some 46) rfl (fun K hK => ?_)
 go_simp
 go_at_call 56; refine (HH.out.h5 _ (U3.out.trans (show Up Nul W2 _ from hHeld)) _ (by first | exact World.cell?_alloc_new _ _ _ 0 | (simp; done) | go_simp)).mono ?_; rintro e wb ⟨rfl, kb⟩
 refine hK.out _ _ ((Up.trans (show Up Nul W2 _ from hHeld) kb)) (fun hHeld => ?_)
 clear hK K
 try simp only [tdy]
 refine tkv 35 (some 47) rfl ?_
 refine tkv 36 (some 48) rfl ?_
 refine tkx 37 (some 49) rfl ?_
 refine tkx 38 (some 50) rfl ?_
 refine tkx 39 (some 51) rfl ?_
 refine tkx 40 (some 52) rfl ?_
 refine tkx 41 (some 53) rfl ?_
 refine tkx 42 (some 54) rfl ?_
 refine tkv 43 (some 55) rfl ?_
 refine tkv 44 (some 56) rfl ?_
 refine tkx 45 (some 57) rfl ?_
 refine tkx 46 (some 58) rfl ?_
 refine tkx 47 (some 59) rfl ?_
 refine tkx 48 (some 60) rfl ?_
 refine tkx 49 (some 61) rfl ?_
 refine tkv 50 (some 62) rfl ?_
 refine tkv 51 (some 63) rfl ?_
 refine tkx 52 (some 64) rfl ?_
 refine tkx 53 (some 65) rfl ?_
 refine tkx 54 (some 66) rfl ?_
 refine tkx 55 (some 67) rfl ?_
 refine tkx 56 (some 68) rfl ?_
 refine tkx 57 (some 69) rfl ?_
 refine tkx 58 (some 70) rfl ?_
 refine tkx 59 (some 71) rfl ?_
 refine tkv 60 (some 72) rfl ?_
 refine tkv 61 (some 73) rfl ?_
 refine tkx 62 (some 74) rfl ?_
 refine tkx 63 (some 75) rfl ?_
 refine tkx 64 (some 76) rfl ?_
 refine tkx 65 (some 77) rfl ?_
 refine tkv 66 (some 78) rfl ?_
 refine tkv 67 (some 79) rfl ?_
 refine tkx 68 (some 80) rfl ?_
 refine tkx 69 (some 81) rfl ?_
 refine tkx 70 (some 82) rfl ?_
 refine tkx 71 (some 83) rfl ?_
 refine tkx 72 (some 84) rfl ?_
 refine tkx 73 (some 85) rfl ?_
 refine tkv 74 (some 86) rfl ?_
 refine tkv 75 (some 2) rfl ?_
 refine wpAnyH_done (by kernel_rfl) ?_ _
 have HE := hid (U3.out.trans (show Up Nul W2 _ from hHeld))
 clear hHeld
 go_wp2
 go_ret
 exact ⟨by first | rfl | simp, HE.out⟩
set_option maxRecDepth 100000 in
set_option maxHeartbeats 4000000 in
theorem ok_case6 (w : World) (s : ByteArray) (n sid co : Int) (sa : Option Addr) (ns cs : Nat) (la : Option Addr) (nl cl : Nat) (t : Tb) (k : Nat) (c1 c2 c3 c4 c5 c6 c7 c8 c9 c10 : Bool) (hk : spn 1 8 (k : Int) = true) (hS : Shp w) (hc1 : c1 = true) (hc2 : c2 = true) (hc3 : c3 = true) (hc4 : c4 = true) (hc5 : c5 = true) (hc6 : c6 = false)
  (H : OkC w s n sid co sa ns cs la nl cl t k c1 c2 c3 c4 c5 c6 c7 c8 c9 c10) :
  Calls Tryz.prog 21 #[.agg #[.int .i64 (k : Nat), .string s, .int .i64 n, .int .i64 sid, .slice sa ns cs, .int .i64 co, .slice la nl cl, .int .i64 t.hot, .int .i64 t.warm, .int .i64 t.gap, .int .i64 t.add, .int .i64 t.top, .int .i64 t.half]] w
   fun e w' => e = .returned (.bool (c1 && c2 && c3 && c4 && c5 && c6 && c7 && c8 && c9 && c10)) ∧ Up Nul w w' := by
 subst hc1 hc2 hc3 hc4 hc5 hc6
 have h6e := H.h6
 have HK := hid (fun W => kind_any (k : Int) W)
 rw [hk] at HK
 have hk9 : k < 9 := by
  unfold spn at hk
  simp at hk
  omega
 have i0 : (0 : Int) ≤ (k : Int) := by omega
 have i1 : (k : Int) < 9 := by omega
 have HH := hid H
 clear H
 obtain ⟨C, hC⟩ : ∃ C : Array Value, C = #[.int .i64 (k : Nat), .string s, .int .i64 n, .int .i64 sid, .slice sa ns cs, .int .i64 co, .slice la nl cl, .int .i64 t.hot, .int .i64 t.warm, .int .i64 t.gap, .int .i64 t.add, .int .i64 t.top, .int .i64 t.half] := ⟨_, rfl⟩
 have HUA := hid ((Up.refl Nul w).alloc (.cells C 28))
 have HBA : Hid ((w.alloc (.cells C 28)).heap[w.heap.size]? = some (.cells C 28 (0, 0))) := heap_alloc_new _ _
 have HLT : Hid (w.heap.size < (w.alloc (.cells C 28)).heap.size) := by show _ < _; simp
 have HSH := hid hS
 go_enter Tryz.func21, Tryz.ntmps21
 go_wp2_with fail
 rw [← hC]
 refine (HK.out _).mono ?_
 rintro e w1 ⟨rfl, u1⟩
 have hb := (u1.block _ HLT.out id).trans HBA.out
 have HU1 := hid (HUA.out.trans u1)
 have hlt := Nat.lt_of_lt_of_le HLT.out u1.size
 clear u1 HBA HUA HLT
 have y0 := (HSH.out.nxt HU1.out).c k 0 hk9 (by omega)
 have y1 := (HSH.out.nxt HU1.out).c k 1 hk9 (by omega)
 have y2 := (HSH.out.nxt HU1.out).c k 2 hk9 (by omega)
 have y3 := (HSH.out.nxt HU1.out).c k 3 hk9 (by omega)
 have y4 := (HSH.out.nxt HU1.out).c k 4 hk9 (by omega)
 have y5 := (HSH.out.nxt HU1.out).c k 5 hk9 (by omega)
 have y6 := (HSH.out.nxt HU1.out).c k 6 hk9 (by omega)
 have y7 := (HSH.out.nxt HU1.out).c k 7 hk9 (by omega)
 have y8 := (HSH.out.nxt HU1.out).c k 8 hk9 (by omega)
 have y9 := (HSH.out.nxt HU1.out).c k 9 hk9 (by omega)
 have y10 := (HSH.out.nxt HU1.out).c k 10 hk9 (by omega)
 have y11 := (HSH.out.nxt HU1.out).c k 11 hk9 (by omega)
 have y12 := (HSH.out.nxt HU1.out).c k 12 hk9 (by omega)
 have y13 := (HSH.out.nxt HU1.out).c k 13 hk9 (by omega)
 have y14 := (HSH.out.nxt HU1.out).c k 14 hk9 (by omega)
 rw [Nat.add_zero] at y0
 generalize w.heap.size = p at hb hlt ⊢
 have x0 : w1.cell? ⟨p, 0, none⟩ = some (.int .i64 (k : Nat)) := by simp [World.cell?, hb, hC]
 clear hk9
 go_wp2_with fail
 obtain ⟨W2, hW2⟩ : ∃ W, W = w1.alloc (.cells #[.int .i64 (sh k 0), .int .i64 (sh k 1), .int .i64 (sh k 2), .int .i64 (sh k 3), .int .i64 (sh k 4), .int .i64 (sh k 5), .int .i64 (sh k 6), .int .i64 (sh k 7), .int .i64 (sh k 8), .int .i64 (sh k 9), .int .i64 (sh k 10), .int .i64 (sh k 11), .int .i64 (sh k 12), .int .i64 (sh k 13), .int .i64 (sh k 14)] 105) := ⟨_, rfl⟩
 have U2 : Hid (Up Nul w1 W2) := by show Up _ _ _; rw [hW2]; exact (Up.refl Nul w1).alloc _
 have hq : W2.heap[w1.heap.size]? = some (.cells #[.int .i64 (sh k 0), .int .i64 (sh k 1), .int .i64 (sh k 2), .int .i64 (sh k 3), .int .i64 (sh k 4), .int .i64 (sh k 5), .int .i64 (sh k 6), .int .i64 (sh k 7), .int .i64 (sh k 8), .int .i64 (sh k 9), .int .i64 (sh k 10), .int .i64 (sh k 11), .int .i64 (sh k 12), .int .i64 (sh k 13), .int .i64 (sh k 14)] 105 (0, 0)) := by rw [hW2]; exact heap_alloc_new _ _
 have hp := (U2.out.block p hlt id).trans hb
 rw [hC] at hp
 have hq2 : w1.heap.size < W2.heap.size := by rw [hW2]; simp
 have hp2 := Nat.lt_of_lt_of_le hlt U2.out.size
 have U3 := hid (HU1.out.trans U2.out)
 rw [← hW2]
 clear hW2 x0 y0 y1 y2 y3 y4 y5 y6 y7 y8 y9 y10 y11 y12 y13 y14 hb U2 HU1 hlt
 generalize w1.heap.size = q at hq hq2 ⊢
 have Hp1 := celN 1 (.string s) hp2 hp rfl
 have Hp2 := celN 2 (.int .i64 n) hp2 hp rfl
 have Hp3 := celN 3 (.int .i64 sid) hp2 hp rfl
 have Hp4 := celN 4 (.slice sa ns cs) hp2 hp rfl
 have Hp5 := celN 5 (.int .i64 co) hp2 hp rfl
 have Hp6 := celN 6 (.slice la nl cl) hp2 hp rfl
 have Hp7 := celN 7 (.int .i64 t.hot) hp2 hp rfl
 have Hp8 := celN 8 (.int .i64 t.warm) hp2 hp rfl
 have Hp9 := celN 9 (.int .i64 t.gap) hp2 hp rfl
 have Hp10 := celN 10 (.int .i64 t.add) hp2 hp rfl
 have Hp11 := celN 11 (.int .i64 t.top) hp2 hp rfl
 have Hp12 := celN 12 (.int .i64 t.half) hp2 hp rfl
 have Hq0 := celN 0 (.int .i64 (sh k 0)) hq2 hq rfl
 have Hq1 := celN 1 (.int .i64 (sh k 1)) hq2 hq rfl
 have Hq2 := celN 2 (.int .i64 (sh k 2)) hq2 hq rfl
 have Hq3 := celN 3 (.int .i64 (sh k 3)) hq2 hq rfl
 have Hq4 := celN 4 (.int .i64 (sh k 4)) hq2 hq rfl
 have Hq5 := celN 5 (.int .i64 (sh k 5)) hq2 hq rfl
 have Hq6 := celN 6 (.int .i64 (sh k 6)) hq2 hq rfl
 have Hq7 := celN 7 (.int .i64 (sh k 7)) hq2 hq rfl
 have Hq8 := celN 8 (.int .i64 (sh k 8)) hq2 hq rfl
 have Hq9 := celN 9 (.int .i64 (sh k 9)) hq2 hq rfl
 have Hq10 := celN 10 (.int .i64 (sh k 10)) hq2 hq rfl
 have Hq11 := celN 11 (.int .i64 (sh k 11)) hq2 hq rfl
 have Hq12 := celN 12 (.int .i64 (sh k 12)) hq2 hq rfl
 have Hq13 := celN 13 (.int .i64 (sh k 13)) hq2 hq rfl
 have Hq14 := celN 14 (.int .i64 (sh k 14)) hq2 hq rfl
 clear hp hq hp2 hq2
 have HR := hid (Up.refl Nul W2)
 simp only [List.append]
 refine wp_region_held_drew (S := (fun W => Up Nul W2 W)) (by kernel_rfl) (by exact HR.out.drew) (fun hHeld => ?_)
 refine tkv 0 (some 12) rfl ?_
 refine tkl 1 (some 13) ?vk6x2 rfl ?yk6x2 ?rk6x2
 case yk6x2 => (intro w hSw; have aq0 := Hq0.out w hSw; have aq1 := Hq1.out w hSw; go_simp; try with_reducible rfl)
 try simp only [tdy]
 refine tkv 2 (some 14) rfl ?_
 refine tkl 3 (some 15) ?vk6x4 rfl ?yk6x4 ?rk6x4
 case yk6x4 => (intro w hSw; have ap1 := Hp1.out w hSw; go_simp; try with_reducible rfl)
 try simp only [tdy]
 refine tkv 4 (some 16) rfl ?_
 refine one 5 (some 17) rfl (fun K hK => ?_)
 go_simp
 skip
 refine hK.out _ _ ((by first | exact Up.alloc (show Up Nul W2 _ from hHeld) _ | exact (Up.alloc (show Up Nul W2 _ from HR.out) _).drew)) (fun hHeld => ?_)
 clear hK K
 try simp only [tdy]
 refine one 6 (some 18) rfl (fun K hK => ?_)
 go_simp
 go_at_call 56; refine (HH.out.h1 _ (U3.out.trans (show Up Nul W2 _ from hHeld)) _ (by first | exact World.cell?_alloc_new _ _ _ 0 | (simp; done) | go_simp)).mono ?_; rintro e wb ⟨rfl, kb⟩
 refine hK.out _ _ ((Up.trans (show Up Nul W2 _ from hHeld) kb)) (fun hHeld => ?_)
 clear hK K
 try simp only [tdy]
 refine tkv 7 (some 19) rfl ?_
 refine tkv 8 (some 20) rfl ?_
 refine tkl 9 (some 21) ?vk6x10 rfl ?yk6x10 ?rk6x10
 case yk6x10 => (intro w hSw; have ap1 := Hp1.out w hSw; go_simp; try with_reducible rfl)
 try simp only [tdy]
 refine one 10 (some 22) rfl (fun K hK => ?_)
 go_simp
 go_at_call 57; refine (HH.out.h2 _).mono ?_; rintro e wb ⟨rfl, kb⟩
 refine hK.out _ _ ((Up.trans (show Up Nul W2 _ from hHeld) kb)) (fun hHeld => ?_)
 clear hK K
 try simp only [tdy]
 refine tkv 11 (some 23) rfl ?_
 refine tkv 12 (some 24) rfl ?_
 refine tkv 13 (some 25) rfl ?_
 refine tkl 14 (some 26) ?vk6x15 rfl ?yk6x15 ?rk6x15
 case yk6x15 => (intro w hSw; have aq2 := Hq2.out w hSw; have aq3 := Hq3.out w hSw; go_simp; try with_reducible rfl)
 try simp only [tdy]
 refine tkv 15 (some 27) rfl ?_
 refine tkl 16 (some 28) ?vk6x17 rfl ?yk6x17 ?rk6x17
 case yk6x17 => (intro w hSw; have ap2 := Hp2.out w hSw; go_simp; try with_reducible rfl)
 try simp only [tdy]
 refine one 17 (some 29) rfl (fun K hK => ?_)
 go_simp
 skip
 refine hK.out _ _ ((by first | exact Up.alloc (show Up Nul W2 _ from hHeld) _ | exact (Up.alloc (show Up Nul W2 _ from HR.out) _).drew)) (fun hHeld => ?_)
 clear hK K
 try simp only [tdy]
 refine one 18 (some 30) rfl (fun K hK => ?_)
 go_simp
 go_at_call 56; refine (HH.out.h3 _ (U3.out.trans (show Up Nul W2 _ from hHeld)) _ (by first | exact World.cell?_alloc_new _ _ _ 0 | (simp; done) | go_simp)).mono ?_; rintro e wb ⟨rfl, kb⟩
 refine hK.out _ _ ((Up.trans (show Up Nul W2 _ from hHeld) kb)) (fun hHeld => ?_)
 clear hK K
 try simp only [tdy]
 refine tkv 19 (some 31) rfl ?_
 refine tkv 20 (some 32) rfl ?_
 refine tkv 21 (some 33) rfl ?_
 refine tkl 22 (some 34) ?vk6x23 rfl ?yk6x23 ?rk6x23
 case yk6x23 => (intro w hSw; have aq4 := Hq4.out w hSw; have aq5 := Hq5.out w hSw; go_simp; try with_reducible rfl)
 try simp only [tdy]
 refine tkv 23 (some 35) rfl ?_
 refine tkl 24 (some 36) ?vk6x25 rfl ?yk6x25 ?rk6x25
 case yk6x25 => (intro w hSw; have ap3 := Hp3.out w hSw; go_simp; try with_reducible rfl)
 try simp only [tdy]
 refine one 25 (some 37) rfl (fun K hK => ?_)
 go_simp
 skip
 refine hK.out _ _ ((by first | exact Up.alloc (show Up Nul W2 _ from hHeld) _ | exact (Up.alloc (show Up Nul W2 _ from HR.out) _).drew)) (fun hHeld => ?_)
 clear hK K
 try simp only [tdy]
 refine one 26 (some 38) rfl (fun K hK => ?_)
 go_simp
 go_at_call 56; refine (HH.out.h4 _ (U3.out.trans (show Up Nul W2 _ from hHeld)) _ (by first | exact World.cell?_alloc_new _ _ _ 0 | (simp; done) | go_simp)).mono ?_; rintro e wb ⟨rfl, kb⟩
 refine hK.out _ _ ((Up.trans (show Up Nul W2 _ from hHeld) kb)) (fun hHeld => ?_)
 clear hK K
 try simp only [tdy]
 refine tkv 27 (some 39) rfl ?_
 refine tkv 28 (some 40) rfl ?_
 refine tkv 29 (some 41) rfl ?_
 refine tkl 30 (some 42) ?vk6x31 rfl ?yk6x31 ?rk6x31
 case yk6x31 => (intro w hSw; have aq6 := Hq6.out w hSw; have aq7 := Hq7.out w hSw; go_simp; try with_reducible rfl)
 try simp only [tdy]
 refine tkv 31 (some 43) rfl ?_
 refine tkl 32 (some 44) ?vk6x33 rfl ?yk6x33 ?rk6x33
 case yk6x33 => (intro w hSw; have ap5 := Hp5.out w hSw; go_simp; try with_reducible rfl)
 try simp only [tdy]
 refine one 33 (some 45) rfl (fun K hK => ?_)
 go_simp
 skip
 refine hK.out _ _ ((by first | exact Up.alloc (show Up Nul W2 _ from hHeld) _ | exact (Up.alloc (show Up Nul W2 _ from HR.out) _).drew)) (fun hHeld => ?_)
 clear hK K
 try simp only [tdy]
 refine one 34 (some 46) rfl (fun K hK => ?_)
 go_simp
 go_at_call 56; refine (HH.out.h5 _ (U3.out.trans (show Up Nul W2 _ from hHeld)) _ (by first | exact World.cell?_alloc_new _ _ _ 0 | (simp; done) | go_simp)).mono ?_; rintro e wb ⟨rfl, kb⟩
 refine hK.out _ _ ((Up.trans (show Up Nul W2 _ from hHeld) kb)) (fun hHeld => ?_)
 clear hK K
 try simp only [tdy]
 refine tkv 35 (some 47) rfl ?_
 refine tkv 36 (some 48) rfl ?_
 refine tkv 37 (some 49) rfl ?_
 refine tkl 38 (some 50) ?vk6x39 rfl ?yk6x39 ?rk6x39
 case yk6x39 => (intro w hSw; have ap4 := Hp4.out w hSw; go_simp; try with_reducible rfl)
 try simp only [tdy]
 refine tkv 39 (some 51) rfl ?_
 refine tkv 40 (some 52) rfl ?_
 refine tkl 41 (some 53) ?vk6x42 rfl ?yk6x42 ?rk6x42
 case yk6x42 => (intro w hSw; have aq8 := Hq8.out w hSw; go_simp; try with_reducible rfl)
 try simp only [tdy]
 refine tkv 42 (some 54) rfl ?_
 refine tkv 43 (some 55) rfl ?_
 refine tkv 44 (some 56) rfl ?_
 refine tkx 45 (some 57) rfl ?_
 refine tkx 46 (some 58) rfl ?_
 refine tkx 47 (some 59) rfl ?_
 refine tkx 48 (some 60) rfl ?_
 refine tkx 49 (some 61) rfl ?_
 refine tkv 50 (some 62) rfl ?_
 refine tkv 51 (some 63) rfl ?_
 refine tkx 52 (some 64) rfl ?_
 refine tkx 53 (some 65) rfl ?_
 refine tkx 54 (some 66) rfl ?_
 refine tkx 55 (some 67) rfl ?_
 refine tkx 56 (some 68) rfl ?_
 refine tkx 57 (some 69) rfl ?_
 refine tkx 58 (some 70) rfl ?_
 refine tkx 59 (some 71) rfl ?_
 refine tkv 60 (some 72) rfl ?_
 refine tkv 61 (some 73) rfl ?_
 refine tkx 62 (some 74) rfl ?_
 refine tkx 63 (some 75) rfl ?_
 refine tkx 64 (some 76) rfl ?_
 refine tkx 65 (some 77) rfl ?_
 refine tkv 66 (some 78) rfl ?_
 refine tkv 67 (some 79) rfl ?_
 refine tkx 68 (some 80) rfl ?_
 refine tkx 69 (some 81) rfl ?_
 refine tkx 70 (some 82) rfl ?_
 refine tkx 71 (some 83) rfl ?_
 refine tkx 72 (some 84) rfl ?_
 refine tkx 73 (some 85) rfl ?_
 refine tkv 74 (some 86) rfl ?_
 refine tkv 75 (some 2) rfl ?_
 refine wpAnyH_done (by kernel_rfl) ?_ _
 have HE := hid (U3.out.trans (show Up Nul W2 _ from hHeld))
 clear hHeld
 go_wp2
 go_ret
 exact ⟨by first | rfl | simp, HE.out⟩
end Go.Proofs.YtepggchnhgpcnaaGreatDoor
