/- 'Ok', by the first of its parts that is false. -/
import Derived.Test.YtepggchnhgpcnaaGreatDoorPkTidy
import Derived.Test.YtepggchnhgpcnaaGreatDoorPz3
import Derived.Test.YtepggchnhgpcnaaGreatDoorPz1
namespace Go.Proofs.YtepggchnhgpcnaaGreatDoor
open Go.RowKit
set_option linter.unusedVariables false
set_option linter.unusedSimpArgs false
set_option maxRecDepth 100000 in
set_option maxHeartbeats 4000000 in
theorem ok_case9 (w : World) (s : ByteArray) (n sid co : Int) (sa : Option Addr) (ns cs : Nat) (la : Option Addr) (nl cl : Nat) (t : Tb) (k : Nat) (c1 c2 c3 c4 c5 c6 c7 c8 c9 c10 : Bool) (hk : spn 1 8 (k : Int) = true) (hS : Shp w) (hc1 : c1 = true) (hc2 : c2 = true) (hc3 : c3 = true) (hc4 : c4 = true) (hc5 : c5 = true) (hc6 : c6 = true) (hc7 : c7 = true) (hc8 : c8 = true) (hc9 : c9 = false)
  (H : OkC w s n sid co sa ns cs la nl cl t k c1 c2 c3 c4 c5 c6 c7 c8 c9 c10) :
  Calls Tryz.prog 21 #[.agg #[.int .i64 (k : Nat), .string s, .int .i64 n, .int .i64 sid, .slice sa ns cs, .int .i64 co, .slice la nl cl, .int .i64 t.hot, .int .i64 t.warm, .int .i64 t.gap, .int .i64 t.add, .int .i64 t.top, .int .i64 t.half]] w
   fun e w' => e = .returned (.bool (c1 && c2 && c3 && c4 && c5 && c6 && c7 && c8 && c9 && c10)) ∧ Up Nul w w' := by
 subst hc1 hc2 hc3 hc4 hc5 hc6 hc7 hc8 hc9
 obtain ⟨q8, h8e, h8c⟩ := H.h8 rfl
 have H8 := hid h8c
 clear h8c
 have h6e := H.h6
 have HK := hid (fun W => kind_any (k : Int) W)
 rw [hk] at HK
 have hk9 : k < 9 := by
  unfold spn at hk
  simp at hk
  omega
 have i0 : (0 : Int) ≤ (k : Int) := by omega
 have i1 : (k : Int) < 9 := by omega
 have HH := hid H
 clear H
 obtain ⟨C, hC⟩ : ∃ C : Array Value, C = #[.int .i64 (k : Nat), .string s, .int .i64 n, .int .i64 sid, .slice sa ns cs, .int .i64 co, .slice la nl cl, .int .i64 t.hot, .int .i64 t.warm, .int .i64 t.gap, .int .i64 t.add, .int .i64 t.top, .int .i64 t.half] := ⟨_, rfl⟩
 have HUA := hid ((Up.refl Nul w).alloc (.cells C 28))
 have HBA : Hid ((w.alloc (.cells C 28)).heap[w.heap.size]? = some (.cells C 28 (0, 0))) := heap_alloc_new _ _
 have HLT : Hid (w.heap.size < (w.alloc (.cells C 28)).heap.size) := by show _ < _; simp
 have HSH := hid hS
 go_enter Tryz.func21, Tryz.ntmps21
 go_wp2_with fail
 rw [← hC]
 refine (HK.out _).mono ?_
 rintro e w1 ⟨rfl, u1⟩
 have hb := (u1.block _ HLT.out id).trans HBA.out
 have HU1 := hid (HUA.out.trans u1)
 have hlt := Nat.lt_of_lt_of_le HLT.out u1.size
 clear u1 HBA HUA HLT
 have y0 := (HSH.out.nxt HU1.out).c k 0 hk9 (by omega)
 have y1 := (HSH.out.nxt HU1.out).c k 1 hk9 (by omega)
 have y2 := (HSH.out.nxt HU1.out).c k 2 hk9 (by omega)
 have y3 := (HSH.out.nxt HU1.out).c k 3 hk9 (by omega)
 have y4 := (HSH.out.nxt HU1.out).c k 4 hk9 (by omega)
 have y5 := (HSH.out.nxt HU1.out).c k 5 hk9 (by omega)
 have y6 := (HSH.out.nxt HU1.out).c k 6 hk9 (by omega)
 have y7 := (HSH.out.nxt HU1.out).c k 7 hk9 (by omega)
 have y8 := (HSH.out.nxt HU1.out).c k 8 hk9 (by omega)
 have y9 := (HSH.out.nxt HU1.out).c k 9 hk9 (by omega)
 have y10 := (HSH.out.nxt HU1.out).c k 10 hk9 (by omega)
 have y11 := (HSH.out.nxt HU1.out).c k 11 hk9 (by omega)
 have y12 := (HSH.out.nxt HU1.out).c k 12 hk9 (by omega)
 have y13 := (HSH.out.nxt HU1.out).c k 13 hk9 (by omega)
 have y14 := (HSH.out.nxt HU1.out).c k 14 hk9 (by omega)
 rw [Nat.add_zero] at y0
 generalize w.heap.size = p at hb hlt ⊢
 have x0 : w1.cell? ⟨p, 0, none⟩ = some (.int .i64 (k : Nat)) := by simp [World.cell?, hb, hC]
 clear hk9
 go_wp2_with fail
 obtain ⟨W2, hW2⟩ : ∃ W, W = w1.alloc (.cells #[.int .i64 (sh k 0), .int .i64 (sh k 1), .int .i64 (sh k 2), .int .i64 (sh k 3), .int .i64 (sh k 4), .int .i64 (sh k 5), .int .i64 (sh k 6), .int .i64 (sh k 7), .int .i64 (sh k 8), .int .i64 (sh k 9), .int .i64 (sh k 10), .int .i64 (sh k 11), .int .i64 (sh k 12), .int .i64 (sh k 13), .int .i64 (sh k 14)] 105) := ⟨_, rfl⟩
 have U2 : Hid (Up Nul w1 W2) := by show Up _ _ _; rw [hW2]; exact (Up.refl Nul w1).alloc _
 have hq : W2.heap[w1.heap.size]? = some (.cells #[.int .i64 (sh k 0), .int .i64 (sh k 1), .int .i64 (sh k 2), .int .i64 (sh k 3), .int .i64 (sh k 4), .int .i64 (sh k 5), .int .i64 (sh k 6), .int .i64 (sh k 7), .int .i64 (sh k 8), .int .i64 (sh k 9), .int .i64 (sh k 10), .int .i64 (sh k 11), .int .i64 (sh k 12), .int .i64 (sh k 13), .int .i64 (sh k 14)] 105 (0, 0)) := by rw [hW2]; exact heap_alloc_new _ _
 have hp := (U2.out.block p hlt id).trans hb
 rw [hC] at hp
 have hq2 : w1.heap.size < W2.heap.size := by rw [hW2]; simp
 have hp2 := Nat.lt_of_lt_of_le hlt U2.out.size
 have U3 := hid (HU1.out.trans U2.out)
 rw [← hW2]
 clear hW2 x0 y0 y1 y2 y3 y4 y5 y6 y7 y8 y9 y10 y11 y12 y13 y14 hb U2 HU1 hlt
 generalize w1.heap.size = q at hq hq2 ⊢
 have Hp1 := celN 1 (.string s) hp2 hp rfl
 have Hp2 := celN 2 (.int .i64 n) hp2 hp rfl
 have Hp3 := celN 3 (.int .i64 sid) hp2 hp rfl
 have Hp4 := celN 4 (.slice sa ns cs) hp2 hp rfl
 have Hp5 := celN 5 (.int .i64 co) hp2 hp rfl
 have Hp6 := celN 6 (.slice la nl cl) hp2 hp rfl
 have Hp7 := celN 7 (.int .i64 t.hot) hp2 hp rfl
 have Hp8 := celN 8 (.int .i64 t.warm) hp2 hp rfl
 have Hp9 := celN 9 (.int .i64 t.gap) hp2 hp rfl
 have Hp10 := celN 10 (.int .i64 t.add) hp2 hp rfl
 have Hp11 := celN 11 (.int .i64 t.top) hp2 hp rfl
 have Hp12 := celN 12 (.int .i64 t.half) hp2 hp rfl
 have Hq0 := celN 0 (.int .i64 (sh k 0)) hq2 hq rfl
 have Hq1 := celN 1 (.int .i64 (sh k 1)) hq2 hq rfl
 have Hq2 := celN 2 (.int .i64 (sh k 2)) hq2 hq rfl
 have Hq3 := celN 3 (.int .i64 (sh k 3)) hq2 hq rfl
 have Hq4 := celN 4 (.int .i64 (sh k 4)) hq2 hq rfl
 have Hq5 := celN 5 (.int .i64 (sh k 5)) hq2 hq rfl
 have Hq6 := celN 6 (.int .i64 (sh k 6)) hq2 hq rfl
 have Hq7 := celN 7 (.int .i64 (sh k 7)) hq2 hq rfl
 have Hq8 := celN 8 (.int .i64 (sh k 8)) hq2 hq rfl
 have Hq9 := celN 9 (.int .i64 (sh k 9)) hq2 hq rfl
 have Hq10 := celN 10 (.int .i64 (sh k 10)) hq2 hq rfl
 have Hq11 := celN 11 (.int .i64 (sh k 11)) hq2 hq rfl
 have Hq12 := celN 12 (.int .i64 (sh k 12)) hq2 hq rfl
 have Hq13 := celN 13 (.int .i64 (sh k 13)) hq2 hq rfl
 have Hq14 := celN 14 (.int .i64 (sh k 14)) hq2 hq rfl
 clear hp hq hp2 hq2
 have HR := hid (Up.refl Nul W2)
 simp only [List.append]
 refine wp_region_held_drew (S := (fun W => Up Nul W2 W)) (by kernel_rfl) (by exact HR.out.drew) (fun hHeld => ?_)
 refine tkv 0 (some 12) rfl ?_
 refine tkl 1 (some 13) ?vk9x2 rfl ?yk9x2 ?rk9x2
 case yk9x2 => (intro w hSw; have aq0 := Hq0.out w hSw; have aq1 := Hq1.out w hSw; go_simp; try with_reducible rfl)
 try simp only [tdy]
 refine tkv 2 (some 14) rfl ?_
 refine tkl 3 (some 15) ?vk9x4 rfl ?yk9x4 ?rk9x4
 case yk9x4 => (intro w hSw; have ap1 := Hp1.out w hSw; go_simp; try with_reducible rfl)
 try simp only [tdy]
 refine tkv 4 (some 16) rfl ?_
 refine one 5 (some 17) rfl (fun K hK => ?_)
 go_simp
 skip
 refine hK.out _ _ ((by first | exact Up.alloc (show Up Nul W2 _ from hHeld) _ | exact (Up.alloc (show Up Nul W2 _ from HR.out) _).drew)) (fun hHeld => ?_)
 clear hK K
 try simp only [tdy]
 refine one 6 (some 18) rfl (fun K hK => ?_)
 go_simp
 go_at_call 56; refine (HH.out.h1 _ (U3.out.trans (show Up Nul W2 _ from hHeld)) _ (by first | exact World.cell?_alloc_new _ _ _ 0 | (simp; done) | go_simp)).mono ?_; rintro e wb ⟨rfl, kb⟩
 refine hK.out _ _ ((Up.trans (show Up Nul W2 _ from hHeld) kb)) (fun hHeld => ?_)
 clear hK K
 try simp only [tdy]
 refine tkv 7 (some 19) rfl ?_
 refine tkv 8 (some 20) rfl ?_
 refine tkl 9 (some 21) ?vk9x10 rfl ?yk9x10 ?rk9x10
 case yk9x10 => (intro w hSw; have ap1 := Hp1.out w hSw; go_simp; try with_reducible rfl)
 try simp only [tdy]
 refine one 10 (some 22) rfl (fun K hK => ?_)
 go_simp
 go_at_call 57; refine (HH.out.h2 _).mono ?_; rintro e wb ⟨rfl, kb⟩
 refine hK.out _ _ ((Up.trans (show Up Nul W2 _ from hHeld) kb)) (fun hHeld => ?_)
 clear hK K
 try simp only [tdy]
 refine tkv 11 (some 23) rfl ?_
 refine tkv 12 (some 24) rfl ?_
 refine tkv 13 (some 25) rfl ?_
 refine tkl 14 (some 26) ?vk9x15 rfl ?yk9x15 ?rk9x15
 case yk9x15 => (intro w hSw; have aq2 := Hq2.out w hSw; have aq3 := Hq3.out w hSw; go_simp; try with_reducible rfl)
 try simp only [tdy]
 refine tkv 15 (some 27) rfl ?_
 refine tkl 16 (some 28) ?vk9x17 rfl ?yk9x17 ?rk9x17
 case yk9x17 => (intro w hSw; have ap2 := Hp2.out w hSw; go_simp; try with_reducible rfl)
 try simp only [tdy]
 refine one 17 (some 29) rfl (fun K hK => ?_)
 go_simp
 skip
 refine hK.out _ _ ((by first | exact Up.alloc (show Up Nul W2 _ from hHeld) _ | exact (Up.alloc (show Up Nul W2 _ from HR.out) _).drew)) (fun hHeld => ?_)
 clear hK K
 try simp only [tdy]
 refine one 18 (some 30) rfl (fun K hK => ?_)
 go_simp
 go_at_call 56; refine (HH.out.h3 _ (U3.out.trans (show Up Nul W2 _ from hHeld)) _ (by first | exact World.cell?_alloc_new _ _ _ 0 | (simp; done) | go_simp)).mono ?_; rintro e wb ⟨rfl, kb⟩
 refine hK.out _ _ ((Up.trans (show Up Nul W2 _ from hHeld) kb)) (fun hHeld => ?_)
 clear hK K
 try simp only [tdy]
 refine tkv 19 (some 31) rfl ?_
 refine tkv 20 (some 32) rfl ?_
 refine tkv 21 (some 33) rfl ?_
 refine tkl 22 (some 34) ?vk9x23 rfl ?yk9x23 ?rk9x23
 case yk9x23 => (intro w hSw; have aq4 := Hq4.out w hSw; have aq5 := Hq5.out w hSw; go_simp; try with_reducible rfl)
 try simp only [tdy]
 refine tkv 23 (some 35) rfl ?_
 refine tkl 24 (some 36) ?vk9x25 rfl ?yk9x25 ?rk9x25
 case yk9x25 => (intro w hSw; have ap3 := Hp3.out w hSw; go_simp; try with_reducible rfl)
 try simp only [tdy]
 refine one 25 (some 37) rfl (fun K hK => ?_)
 go_simp
 skip
 refine hK.out _ _ ((by first | exact Up.alloc (show Up Nul W2 _ from hHeld) _ | exact (Up.alloc (show Up Nul W2 _ from HR.out) _).drew)) (fun hHeld => ?_)
 clear hK K
 try simp only [tdy]
 refine one 26 (some 38) rfl (fun K hK => ?_)
 go_simp
 go_at_call 56; refine (HH.out.h4 _ (U3.out.trans (show Up Nul W2 _ from hHeld)) _ (by first | exact World.cell?_alloc_new _ _ _ 0 | (simp; done) | go_simp)).mono ?_; rintro e wb ⟨rfl, kb⟩
 refine hK.out _ _ ((Up.trans (show Up Nul W2 _ from hHeld) kb)) (fun hHeld => ?_)
 clear hK K
 try simp only [tdy]
 refine tkv 27 (some 39) rfl ?_
 refine tkv 28 (some 40) rfl ?_
 refine tkv 29 (some 41) rfl ?_
 refine tkl 30 (some 42) ?vk9x31 rfl ?yk9x31 ?rk9x31
 case yk9x31 => (intro w hSw; have aq6 := Hq6.out w hSw; have aq7 := Hq7.out w hSw; go_simp; try with_reducible rfl)
 try simp only [tdy]
 refine tkv 31 (some 43) rfl ?_
 refine tkl 32 (some 44) ?vk9x33 rfl ?yk9x33 ?rk9x33
 case yk9x33 => (intro w hSw; have ap5 := Hp5.out w hSw; go_simp; try with_reducible rfl)
 try simp only [tdy]
 refine one 33 (some 45) rfl (fun K hK => ?_)
 go_simp
 skip
 refine hK.out _ _ ((by first | exact Up.alloc (show Up Nul W2 _ from hHeld) _ | exact (Up.alloc (show Up Nul W2 _ from HR.out) _).drew)) (fun hHeld => ?_)
 clear hK K
 try simp only [tdy]
 refine one 34 (some 46) rfl (fun K hK => ?_)
 go_simp
 go_at_call 56; refine (HH.out.h5 _ (U3.out.trans (show Up Nul W2 _ from hHeld)) _ (by first | exact World.cell?_alloc_new _ _ _ 0 | (simp; done) | go_simp)).mono ?_; rintro e wb ⟨rfl, kb⟩
 refine hK.out _ _ ((Up.trans (show Up Nul W2 _ from hHeld) kb)) (fun hHeld => ?_)
 clear hK K
 try simp only [tdy]
 refine tkv 35 (some 47) rfl ?_
 refine tkv 36 (some 48) rfl ?_
 refine tkv 37 (some 49) rfl ?_
 refine tkl 38 (some 50) ?vk9x39 rfl ?yk9x39 ?rk9x39
 case yk9x39 => (intro w hSw; have ap4 := Hp4.out w hSw; go_simp; try with_reducible rfl)
 try simp only [tdy]
 refine tkv 39 (some 51) rfl ?_
 refine tkv 40 (some 52) rfl ?_
 refine tkl 41 (some 53) ?vk9x42 rfl ?yk9x42 ?rk9x42
 case yk9x42 => (intro w hSw; have aq8 := Hq8.out w hSw; go_simp; try with_reducible rfl)
 try simp only [tdy]
 refine tkv 42 (some 54) rfl ?_
 refine tkv 43 (some 55) rfl ?_
 refine tkv 44 (some 56) rfl ?_
 refine tkv 45 (some 57) rfl ?_
 refine tkl 46 (some 58) ?vk9x47 rfl ?yk9x47 ?rk9x47
 case yk9x47 => (intro w hSw; have aq9 := Hq9.out w hSw; have aq10 := Hq10.out w hSw; go_simp; try with_reducible rfl)
 try simp only [tdy]
 refine tkv 47 (some 59) rfl ?_
 refine tkl 48 (some 60) ?vk9x49 rfl ?yk9x49 ?rk9x49
 case yk9x49 => (intro w hSw; have ap4 := Hp4.out w hSw; go_simp; try with_reducible rfl)
 try simp only [tdy]
 refine one 49 (some 61) rfl (fun K hK => ?_)
 go_simp
 go_at_call 56; refine (HH.out.h7 _ (U3.out.trans (show Up Nul W2 _ from hHeld))).mono ?_; rintro e wb ⟨rfl, kb⟩
 refine hK.out _ _ ((Up.trans (show Up Nul W2 _ from hHeld) kb)) (fun hHeld => ?_)
 clear hK K
 try simp only [tdy]
 refine tkv 50 (some 62) rfl ?_
 refine tkv 51 (some 63) rfl ?_
 refine tkv 52 (some 64) rfl ?_
 refine tkl 53 (some 65) ?vk9x54 rfl ?yk9x54 ?rk9x54
 case yk9x54 => (intro w hSw; have ap6 := Hp6.out w hSw; go_simp; try with_reducible rfl)
 try simp only [tdy]
 refine tkv 54 (some 66) rfl ?_
 refine tkl 55 (some 67) ?vk9x56 rfl ?yk9x56 ?rk9x56
 case yk9x56 => (intro w hSw; have aq0 := Hq0.out w hSw; have aq1 := Hq1.out w hSw; have aq2 := Hq2.out w hSw; have aq3 := Hq3.out w hSw; have aq4 := Hq4.out w hSw; have aq5 := Hq5.out w hSw; have aq6 := Hq6.out w hSw; have aq7 := Hq7.out w hSw; have aq8 := Hq8.out w hSw; have aq9 := Hq9.out w hSw; have aq10 := Hq10.out w hSw; have aq11 := Hq11.out w hSw; have aq12 := Hq12.out w hSw; have aq13 := Hq13.out w hSw; have aq14 := Hq14.out w hSw; go_simp; try with_reducible rfl)
 try simp only [tdy]
 refine tkv 56 (some 68) rfl ?_
 refine tkl 57 (some 69) ?vk9x58 rfl ?yk9x58 ?rk9x58
 case yk9x58 => (intro w hSw; have ap4 := Hp4.out w hSw; go_simp; try with_reducible rfl)
 try simp only [tdy]
 refine one 58 (some 70) rfl (fun K hK => ?_)
 go_simp
 go_at_call 58; refine (H8.out _ (U3.out.trans (show Up Nul W2 _ from hHeld))).mono ?_; rintro e wb ⟨rfl, kb⟩
 refine hK.out _ _ ((Up.trans (show Up Nul W2 _ from hHeld) kb)) (fun hHeld => ?_)
 clear hK K
 try simp only [tdy]
 refine tkv 59 (some 71) rfl ?_
 refine tkv 60 (some 72) rfl ?_
 refine tkv 61 (some 73) rfl ?_
 refine tkv 62 (some 74) rfl ?_
 refine tkl 63 (some 75) ?vk9x64 rfl ?yk9x64 ?rk9x64
 case yk9x64 => (intro w hSw; have ap6 := Hp6.out w hSw; go_simp; try with_reducible rfl)
 try simp only [tdy]
 refine one 64 (some 76) rfl (fun K hK => ?_)
 go_simp
 go_at_call 59; refine (HH.out.h9 _ (U3.out.trans (show Up Nul W2 _ from hHeld))).mono ?_; rintro e wb ⟨rfl, kb⟩
 refine hK.out _ _ ((Up.trans (show Up Nul W2 _ from hHeld) kb)) (fun hHeld => ?_)
 clear hK K
 try simp only [tdy]
 refine tkv 65 (some 77) rfl ?_
 refine tkv 66 (some 78) rfl ?_
 refine tkv 67 (some 79) rfl ?_
 refine tkx 68 (some 80) rfl ?_
 refine tkx 69 (some 81) rfl ?_
 refine tkx 70 (some 82) rfl ?_
 refine tkx 71 (some 83) rfl ?_
 refine tkx 72 (some 84) rfl ?_
 refine tkx 73 (some 85) rfl ?_
 refine tkv 74 (some 86) rfl ?_
 refine tkv 75 (some 2) rfl ?_
 refine wpAnyH_done (by kernel_rfl) ?_ _
 have HE := hid (U3.out.trans (show Up Nul W2 _ from hHeld))
 clear hHeld
 go_wp2
 go_ret
 exact ⟨by first | rfl | simp, HE.out⟩
set_option maxRecDepth 100000 in
set_option maxHeartbeats 4000000 in
theorem ok_case10 (w : World) (s : ByteArray) (n sid co : Int) (sa : Option Addr) (ns cs : Nat) (la : Option Addr) (nl cl : Nat) (t : Tb) (k : Nat) (c1 c2 c3 c4 c5 c6 c7 c8 c9 c10 : Bool) (hk : spn 1 8 (k : Int) = true) (hS : Shp w) (hc1 : c1 = true) (hc2 : c2 = true) (hc3 : c3 = true) (hc4 : c4 = true) (hc5 : c5 = true) (hc6 : c6 = true) (hc7 : c7 = true) (hc8 : c8 = true) (hc9 : c9 = true)
  (H : OkC w s n sid co sa ns cs la nl cl t k c1 c2 c3 c4 c5 c6 c7 c8 c9 c10) :
  Calls Tryz.prog 21 #[.agg #[.int .i64 (k : Nat), .string s, .int .i64 n, .int .i64 sid, .slice sa ns cs, .int .i64 co, .slice la nl cl, .int .i64 t.hot, .int .i64 t.warm, .int .i64 t.gap, .int .i64 t.add, .int .i64 t.top, .int .i64 t.half]] w
   fun e w' => e = .returned (.bool (c1 && c2 && c3 && c4 && c5 && c6 && c7 && c8 && c9 && c10)) ∧ Up Nul w w' := by
 subst hc1 hc2 hc3 hc4 hc5 hc6 hc7 hc8 hc9
 obtain ⟨q8, h8e, h8c⟩ := H.h8 rfl
 have H8 := hid h8c
 clear h8c
 have h6e := H.h6
 have HK := hid (fun W => kind_any (k : Int) W)
 rw [hk] at HK
 have hk9 : k < 9 := by
  unfold spn at hk
  simp at hk
  omega
 have i0 : (0 : Int) ≤ (k : Int) := by omega
 have i1 : (k : Int) < 9 := by omega
 have HH := hid H
 clear H
 obtain ⟨C, hC⟩ : ∃ C : Array Value, C = #[.int .i64 (k : Nat), .string s, .int .i64 n, .int .i64 sid, .slice sa ns cs, .int .i64 co, .slice la nl cl, .int .i64 t.hot, .int .i64 t.warm, .int .i64 t.gap, .int .i64 t.add, .int .i64 t.top, .int .i64 t.half] := ⟨_, rfl⟩
 have HUA := hid ((Up.refl Nul w).alloc (.cells C 28))
 have HBA : Hid ((w.alloc (.cells C 28)).heap[w.heap.size]? = some (.cells C 28 (0, 0))) := heap_alloc_new _ _
 have HLT : Hid (w.heap.size < (w.alloc (.cells C 28)).heap.size) := by show _ < _; simp
 have HSH := hid hS
 go_enter Tryz.func21, Tryz.ntmps21
 go_wp2_with fail
 rw [← hC]
 refine (HK.out _).mono ?_
 rintro e w1 ⟨rfl, u1⟩
 have hb := (u1.block _ HLT.out id).trans HBA.out
 have HU1 := hid (HUA.out.trans u1)
 have hlt := Nat.lt_of_lt_of_le HLT.out u1.size
 clear u1 HBA HUA HLT
 have y0 := (HSH.out.nxt HU1.out).c k 0 hk9 (by omega)
 have y1 := (HSH.out.nxt HU1.out).c k 1 hk9 (by omega)
 have y2 := (HSH.out.nxt HU1.out).c k 2 hk9 (by omega)
 have y3 := (HSH.out.nxt HU1.out).c k 3 hk9 (by omega)
 have y4 := (HSH.out.nxt HU1.out).c k 4 hk9 (by omega)
 have y5 := (HSH.out.nxt HU1.out).c k 5 hk9 (by omega)
 have y6 := (HSH.out.nxt HU1.out).c k 6 hk9 (by omega)
 have y7 := (HSH.out.nxt HU1.out).c k 7 hk9 (by omega)
 have y8 := (HSH.out.nxt HU1.out).c k 8 hk9 (by omega)
 have y9 := (HSH.out.nxt HU1.out).c k 9 hk9 (by omega)
 have y10 := (HSH.out.nxt HU1.out).c k 10 hk9 (by omega)
 have y11 := (HSH.out.nxt HU1.out).c k 11 hk9 (by omega)
 have y12 := (HSH.out.nxt HU1.out).c k 12 hk9 (by omega)
 have y13 := (HSH.out.nxt HU1.out).c k 13 hk9 (by omega)
 have y14 := (HSH.out.nxt HU1.out).c k 14 hk9 (by omega)
 rw [Nat.add_zero] at y0
 generalize w.heap.size = p at hb hlt ⊢
 have x0 : w1.cell? ⟨p, 0, none⟩ = some (.int .i64 (k : Nat)) := by simp [World.cell?, hb, hC]
 clear hk9
 go_wp2_with fail
 obtain ⟨W2, hW2⟩ : ∃ W, W = w1.alloc (.cells #[.int .i64 (sh k 0), .int .i64 (sh k 1), .int .i64 (sh k 2), .int .i64 (sh k 3), .int .i64 (sh k 4), .int .i64 (sh k 5), .int .i64 (sh k 6), .int .i64 (sh k 7), .int .i64 (sh k 8), .int .i64 (sh k 9), .int .i64 (sh k 10), .int .i64 (sh k 11), .int .i64 (sh k 12), .int .i64 (sh k 13), .int .i64 (sh k 14)] 105) := ⟨_, rfl⟩
 have U2 : Hid (Up Nul w1 W2) := by show Up _ _ _; rw [hW2]; exact (Up.refl Nul w1).alloc _
 have hq : W2.heap[w1.heap.size]? = some (.cells #[.int .i64 (sh k 0), .int .i64 (sh k 1), .int .i64 (sh k 2), .int .i64 (sh k 3), .int .i64 (sh k 4), .int .i64 (sh k 5), .int .i64 (sh k 6), .int .i64 (sh k 7), .int .i64 (sh k 8), .int .i64 (sh k 9), .int .i64 (sh k 10), .int .i64 (sh k 11), .int .i64 (sh k 12), .int .i64 (sh k 13), .int .i64 (sh k 14)] 105 (0, 0)) := by rw [hW2]; exact heap_alloc_new _ _
 have hp := (U2.out.block p hlt id).trans hb
 rw [hC] at hp
 have hq2 : w1.heap.size < W2.heap.size := by rw [hW2]; simp
 have hp2 := Nat.lt_of_lt_of_le hlt U2.out.size
 have U3 := hid (HU1.out.trans U2.out)
 rw [← hW2]
 clear hW2 x0 y0 y1 y2 y3 y4 y5 y6 y7 y8 y9 y10 y11 y12 y13 y14 hb U2 HU1 hlt
 generalize w1.heap.size = q at hq hq2 ⊢
 have Hp1 := celN 1 (.string s) hp2 hp rfl
 have Hp2 := celN 2 (.int .i64 n) hp2 hp rfl
 have Hp3 := celN 3 (.int .i64 sid) hp2 hp rfl
 have Hp4 := celN 4 (.slice sa ns cs) hp2 hp rfl
 have Hp5 := celN 5 (.int .i64 co) hp2 hp rfl
 have Hp6 := celN 6 (.slice la nl cl) hp2 hp rfl
 have Hp7 := celN 7 (.int .i64 t.hot) hp2 hp rfl
 have Hp8 := celN 8 (.int .i64 t.warm) hp2 hp rfl
 have Hp9 := celN 9 (.int .i64 t.gap) hp2 hp rfl
 have Hp10 := celN 10 (.int .i64 t.add) hp2 hp rfl
 have Hp11 := celN 11 (.int .i64 t.top) hp2 hp rfl
 have Hp12 := celN 12 (.int .i64 t.half) hp2 hp rfl
 have Hq0 := celN 0 (.int .i64 (sh k 0)) hq2 hq rfl
 have Hq1 := celN 1 (.int .i64 (sh k 1)) hq2 hq rfl
 have Hq2 := celN 2 (.int .i64 (sh k 2)) hq2 hq rfl
 have Hq3 := celN 3 (.int .i64 (sh k 3)) hq2 hq rfl
 have Hq4 := celN 4 (.int .i64 (sh k 4)) hq2 hq rfl
 have Hq5 := celN 5 (.int .i64 (sh k 5)) hq2 hq rfl
 have Hq6 := celN 6 (.int .i64 (sh k 6)) hq2 hq rfl
 have Hq7 := celN 7 (.int .i64 (sh k 7)) hq2 hq rfl
 have Hq8 := celN 8 (.int .i64 (sh k 8)) hq2 hq rfl
 have Hq9 := celN 9 (.int .i64 (sh k 9)) hq2 hq rfl
 have Hq10 := celN 10 (.int .i64 (sh k 10)) hq2 hq rfl
 have Hq11 := celN 11 (.int .i64 (sh k 11)) hq2 hq rfl
 have Hq12 := celN 12 (.int .i64 (sh k 12)) hq2 hq rfl
 have Hq13 := celN 13 (.int .i64 (sh k 13)) hq2 hq rfl
 have Hq14 := celN 14 (.int .i64 (sh k 14)) hq2 hq rfl
 clear hp hq hp2 hq2
 have HR := hid (Up.refl Nul W2)
 simp only [List.append]
 refine wp_region_held_drew (S := (fun W => Up Nul W2 W)) (by kernel_rfl) (by exact HR.out.drew) (fun hHeld => ?_)
 refine tkv 0 (some 12) rfl ?_
 refine tkl 1 (some 13) ?vk10x2 rfl ?yk10x2 ?rk10x2
 case yk10x2 => (intro w hSw; have aq0 := Hq0.out w hSw; have aq1 := Hq1.out w hSw; go_simp; try with_reducible rfl)
 try simp only [tdy]
 refine tkv 2 (some 14) rfl ?_
 refine tkl 3 (some 15) ?vk10x4 rfl ?yk10x4 ?rk10x4
 case yk10x4 => (intro w hSw; have ap1 := Hp1.out w hSw; go_simp; try with_reducible rfl)
 try simp only [tdy]
 refine tkv 4 (some 16) rfl ?_
 refine one 5 (some 17) rfl (fun K hK => ?_)
 go_simp
 skip
 refine hK.out _ _ ((by first | exact Up.alloc (show Up Nul W2 _ from hHeld) _ | exact (Up.alloc (show Up Nul W2 _ from HR.out) _).drew)) (fun hHeld => ?_)
 clear hK K
 try simp only [tdy]
 refine one 6 (some 18) rfl (fun K hK => ?_)
 go_simp
 go_at_call 56; refine (HH.out.h1 _ (U3.out.trans (show Up Nul W2 _ from hHeld)) _ (by first | exact World.cell?_alloc_new _ _ _ 0 | (simp; done) | go_simp)).mono ?_; rintro e wb ⟨rfl, kb⟩
 refine hK.out _ _ ((Up.trans (show Up Nul W2 _ from hHeld) kb)) (fun hHeld => ?_)
 clear hK K
 try simp only [tdy]
 refine tkv 7 (some 19) rfl ?_
 refine tkv 8 (some 20) rfl ?_
 refine tkl 9 (some 21) ?vk10x10 rfl ?yk10x10 ?rk10x10
 case yk10x10 => (intro w hSw; have ap1 := Hp1.out w hSw; go_simp; try with_reducible rfl)
 try simp only [tdy]
 refine one 10 (some 22) rfl (fun K hK => ?_)
 go_simp
 go_at_call 57; refine (HH.out.h2 _).mono ?_; rintro e wb ⟨rfl, kb⟩
 refine hK.out _ _ ((Up.trans (show Up Nul W2 _ from hHeld) kb)) (fun hHeld => ?_)
 clear hK K
 try simp only [tdy]
 refine tkv 11 (some 23) rfl ?_
 refine tkv 12 (some 24) rfl ?_
 refine tkv 13 (some 25) rfl ?_
 refine tkl 14 (some 26) ?vk10x15 rfl ?yk10x15 ?rk10x15
 case yk10x15 => (intro w hSw; have aq2 := Hq2.out w hSw; have aq3 := Hq3.out w hSw; go_simp; try with_reducible rfl)
 try simp only [tdy]
 refine tkv 15 (some 27) rfl ?_
 refine tkl 16 (some 28) ?vk10x17 rfl ?yk10x17 ?rk10x17
 case yk10x17 => (intro w hSw; have ap2 := Hp2.out w hSw; go_simp; try with_reducible rfl)
 try simp only [tdy]
 refine one 17 (some 29) rfl (fun K hK => ?_)
 go_simp
 skip
 refine hK.out _ _ ((by first | exact Up.alloc (show Up Nul W2 _ from hHeld) _ | exact (Up.alloc (show Up Nul W2 _ from HR.out) _).drew)) (fun hHeld => ?_)
 clear hK K
 try simp only [tdy]
 refine one 18 (some 30) rfl (fun K hK => ?_)
 go_simp
 go_at_call 56; refine (HH.out.h3 _ (U3.out.trans (show Up Nul W2 _ from hHeld)) _ (by first | exact World.cell?_alloc_new _ _ _ 0 | (simp; done) | go_simp)).mono ?_; rintro e wb ⟨rfl, kb⟩
 refine hK.out _ _ ((Up.trans (show Up Nul W2 _ from hHeld) kb)) (fun hHeld => ?_)
 clear hK K
 try simp only [tdy]
 refine tkv 19 (some 31) rfl ?_
 refine tkv 20 (some 32) rfl ?_
 refine tkv 21 (some 33) rfl ?_
 refine tkl 22 (some 34) ?vk10x23 rfl ?yk10x23 ?rk10x23
 case yk10x23 => (intro w hSw; have aq4 := Hq4.out w hSw; have aq5 := Hq5.out w hSw; go_simp; try with_reducible rfl)
 try simp only [tdy]
 refine tkv 23 (some 35) rfl ?_
 refine tkl 24 (some 36) ?vk10x25 rfl ?yk10x25 ?rk10x25
 case yk10x25 => (intro w hSw; have ap3 := Hp3.out w hSw; go_simp; try with_reducible rfl)
 try simp only [tdy]
 refine one 25 (some 37) rfl (fun K hK => ?_)
 go_simp
 skip
 refine hK.out _ _ ((by first | exact Up.alloc (show Up Nul W2 _ from hHeld) _ | exact (Up.alloc (show Up Nul W2 _ from HR.out) _).drew)) (fun hHeld => ?_)
 clear hK K
 try simp only [tdy]
 refine one 26 (some 38) rfl (fun K hK => ?_)
 go_simp
 go_at_call 56; refine (HH.out.h4 _ (U3.out.trans (show Up Nul W2 _ from hHeld)) _ (by first | exact World.cell?_alloc_new _ _ _ 0 | (simp; done) | go_simp)).mono ?_; rintro e wb ⟨rfl, kb⟩
 refine hK.out _ _ ((Up.trans (show Up Nul W2 _ from hHeld) kb)) (fun hHeld => ?_)
 clear hK K
 try simp only [tdy]
 refine tkv 27 (some 39) rfl ?_
 refine tkv 28 (some 40) rfl ?_
 refine tkv 29 (some 41) rfl ?_
 refine tkl 30 (some 42) ?vk10x31 rfl ?yk10x31 ?rk10x31
 case yk10x31 => (intro w hSw; have aq6 := Hq6.out w hSw; have aq7 := Hq7.out w hSw; go_simp; try with_reducible rfl)
 try simp only [tdy]
 refine tkv 31 (some 43) rfl ?_
 refine tkl 32 (some 44) ?vk10x33 rfl ?yk10x33 ?rk10x33
 case yk10x33 => (intro w hSw; have ap5 := Hp5.out w hSw; go_simp; try with_reducible rfl)
 try simp only [tdy]
 refine one 33 (some 45) rfl (fun K hK => ?_)
 go_simp
 skip
 refine hK.out _ _ ((by first | exact Up.alloc (show Up Nul W2 _ from hHeld) _ | exact (Up.alloc (show Up Nul W2 _ from HR.out) _).drew)) (fun hHeld => ?_)
 clear hK K
 try simp only [tdy]
 refine one 34 (some 46) rfl (fun K hK => ?_)
 go_simp
 go_at_call 56; refine (HH.out.h5 _ (U3.out.trans (show Up Nul W2 _ from hHeld)) _ (by first | exact World.cell?_alloc_new _ _ _ 0 | (simp; done) | go_simp)).mono ?_; rintro e wb ⟨rfl, kb⟩
 refine hK.out _ _ ((Up.trans (show Up Nul W2 _ from hHeld) kb)) (fun hHeld => ?_)
 clear hK K
 try simp only [tdy]
 refine tkv 35 (some 47) rfl ?_
 refine tkv 36 (some 48) rfl ?_
 refine tkv 37 (some 49) rfl ?_
 refine tkl 38 (some 50) ?vk10x39 rfl ?yk10x39 ?rk10x39
 case yk10x39 => (intro w hSw; have ap4 := Hp4.out w hSw; go_simp; try with_reducible rfl)
 try simp only [tdy]
 refine tkv 39 (some 51) rfl ?_
 refine tkv 40 (some 52) rfl ?_
 refine tkl 41 (some 53) ?vk10x42 rfl ?yk10x42 ?rk10x42
 case yk10x42 => (intro w hSw; have aq8 := Hq8.out w hSw; go_simp; try with_reducible rfl)
 try simp only [tdy]
 refine tkv 42 (some 54) rfl ?_
 refine tkv 43 (some 55) rfl ?_
 refine tkv 44 (some 56) rfl ?_
 refine tkv 45 (some 57) rfl ?_
 refine tkl 46 (some 58) ?vk10x47 rfl ?yk10x47 ?rk10x47
 case yk10x47 => (intro w hSw; have aq9 := Hq9.out w hSw; have aq10 := Hq10.out w hSw; go_simp; try with_reducible rfl)
 try simp only [tdy]
 refine tkv 47 (some 59) rfl ?_
 refine tkl 48 (some 60) ?vk10x49 rfl ?yk10x49 ?rk10x49
 case yk10x49 => (intro w hSw; have ap4 := Hp4.out w hSw; go_simp; try with_reducible rfl)
 try simp only [tdy]
 refine one 49 (some 61) rfl (fun K hK => ?_)
 go_simp
 go_at_call 56; refine (HH.out.h7 _ (U3.out.trans (show Up Nul W2 _ from hHeld))).mono ?_; rintro e wb ⟨rfl, kb⟩
 refine hK.out _ _ ((Up.trans (show Up Nul W2 _ from hHeld) kb)) (fun hHeld => ?_)
 clear hK K
 try simp only [tdy]
 refine tkv 50 (some 62) rfl ?_
 refine tkv 51 (some 63) rfl ?_
 refine tkv 52 (some 64) rfl ?_
 refine tkl 53 (some 65) ?vk10x54 rfl ?yk10x54 ?rk10x54
 case yk10x54 => (intro w hSw; have ap6 := Hp6.out w hSw; go_simp; try with_reducible rfl)
 try simp only [tdy]
 refine tkv 54 (some 66) rfl ?_
 refine tkl 55 (some 67) ?vk10x56 rfl ?yk10x56 ?rk10x56
 case yk10x56 => (intro w hSw; have aq0 := Hq0.out w hSw; have aq1 := Hq1.out w hSw; have aq2 := Hq2.out w hSw; have aq3 := Hq3.out w hSw; have aq4 := Hq4.out w hSw; have aq5 := Hq5.out w hSw; have aq6 := Hq6.out w hSw; have aq7 := Hq7.out w hSw; have aq8 := Hq8.out w hSw; have aq9 := Hq9.out w hSw; have aq10 := Hq10.out w hSw; have aq11 := Hq11.out w hSw; have aq12 := Hq12.out w hSw; have aq13 := Hq13.out w hSw; have aq14 := Hq14.out w hSw; go_simp; try with_reducible rfl)
 try simp only [tdy]
 refine tkv 56 (some 68) rfl ?_
 refine tkl 57 (some 69) ?vk10x58 rfl ?yk10x58 ?rk10x58
 case yk10x58 => (intro w hSw; have ap4 := Hp4.out w hSw; go_simp; try with_reducible rfl)
 try simp only [tdy]
 refine one 58 (some 70) rfl (fun K hK => ?_)
 go_simp
 go_at_call 58; refine (H8.out _ (U3.out.trans (show Up Nul W2 _ from hHeld))).mono ?_; rintro e wb ⟨rfl, kb⟩
 refine hK.out _ _ ((Up.trans (show Up Nul W2 _ from hHeld) kb)) (fun hHeld => ?_)
 clear hK K
 try simp only [tdy]
 refine tkv 59 (some 71) rfl ?_
 refine tkv 60 (some 72) rfl ?_
 refine tkv 61 (some 73) rfl ?_
 refine tkv 62 (some 74) rfl ?_
 refine tkl 63 (some 75) ?vk10x64 rfl ?yk10x64 ?rk10x64
 case yk10x64 => (intro w hSw; have ap6 := Hp6.out w hSw; go_simp; try with_reducible rfl)
 try simp only [tdy]
 refine one 64 (some 76) rfl (fun K hK => ?_)
 go_simp
 go_at_call 59; refine (HH.out.h9 _ (U3.out.trans (show Up Nul W2 _ from hHeld))).mono ?_; rintro e wb ⟨rfl, kb⟩
 refine hK.out _ _ ((Up.trans (show Up Nul W2 _ from hHeld) kb)) (fun hHeld => ?_)
 clear hK K
 try simp only [tdy]
 refine tkv 65 (some 77) rfl ?_
 refine tkv 66 (some 78) rfl ?_
 refine tkv 67 (some 79) rfl ?_
 refine tkv 68 (some 80) rfl ?_
 refine tkl 69 (some 81) ?vk10x70 rfl ?yk10x70 ?rk10x70
 case yk10x70 => (intro w hSw; have aq13 := Hq13.out w hSw; have aq14 := Hq14.out w hSw; go_simp; try with_reducible rfl)
 try simp only [tdy]
 refine tkv 70 (some 82) rfl ?_
 refine tkl 71 (some 83) ?vk10x72 rfl ?yk10x72 ?rk10x72
 case yk10x72 => (intro w hSw; have ap7 := Hp7.out w hSw; have ap8 := Hp8.out w hSw; have ap9 := Hp9.out w hSw; have ap10 := Hp10.out w hSw; have ap11 := Hp11.out w hSw; have ap12 := Hp12.out w hSw; go_simp; try with_reducible rfl)
 try simp only [tdy]
 refine one 72 (some 84) rfl (fun K hK => ?_)
 go_simp
 go_at_call 61; refine (table_any t _).mono ?_; rintro e wb ⟨gt, rfl, HT, kb⟩
 refine hK.out _ _ ((Up.trans (show Up Nul W2 _ from hHeld) kb)) (fun hHeld => ?_)
 clear hK K
 try simp only [tdy]
 refine one 73 (some 85) rfl (fun K hK => ?_)
 go_simp
 go_at_call 56; refine (HH.out.h10 _ _ HT).mono ?_; rintro e wb ⟨rfl, kb⟩
 refine hK.out _ _ ((Up.trans (show Up Nul W2 _ from hHeld) kb)) (fun hHeld => ?_)
 clear hK K
 try simp only [tdy]
 refine tkv 74 (some 86) rfl ?_
 refine tkv 75 (some 2) rfl ?_
 refine wpAnyH_done (by kernel_rfl) ?_ _
 have HE := hid (U3.out.trans (show Up Nul W2 _ from hHeld))
 clear hHeld
 go_wp2
 go_ret
 exact ⟨by first | rfl | simp, HE.out⟩
end Go.Proofs.YtepggchnhgpcnaaGreatDoor
