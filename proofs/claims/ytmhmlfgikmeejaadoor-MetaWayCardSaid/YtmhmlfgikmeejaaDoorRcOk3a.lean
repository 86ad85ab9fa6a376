/- 'Ok', by the first of its parts that is false. -/
import Derived.Test.YtmhmlfgikmeejaaDoorRcOkC
import Derived.Test.YtmhmlfgikmeejaaDoorRC
namespace Go.Proofs.YtmhmlfgikmeejaaDoor
open Go.RowKit
set_option linter.unusedVariables false
set_option linter.unusedSimpArgs false
set_option maxRecDepth 100000 in
set_option maxHeartbeats 4000000 in
theorem ok_case1 (w : World) (s : ByteArray) (n sid co : Int) (sa : Option Addr) (ns cs : Nat) (la : Option Addr) (nl cl : Nat) (t : Tb) (k : Nat) (c1 c2 c3 c4 c5 c6 c7 c8 c9 c10 : Bool) (hk : spn 1 8 (k : Int) = true) (hS : Shp w) (hc1 : c1 = false)
    (H : OkC w s n sid co sa ns cs la nl cl t k c1 c2 c3 c4 c5 c6 c7 c8 c9 c10) :
    Calls Tryd.prog 16 #[.agg #[.int .i64 (k : Nat), .string s, .int .i64 n, .int .i64 sid, .slice sa ns cs, .int .i64 co, .slice la nl cl, .int .i64 t.hot, .int .i64 t.warm, .int .i64 t.gap, .int .i64 t.add, .int .i64 t.top, .int .i64 t.half]] w
      fun e w' => e = .returned (.bool (c1 && c2 && c3 && c4 && c5 && c6 && c7 && c8 && c9 && c10)) ∧ Up Nul w w' := by
  subst hc1
  have HK := hid (fun W => kind_any (k : Int) W)
  rw [hk] at HK
  have hk9 : k < 9 := by
    unfold spn at hk
    simp at hk
    omega
  have i0 : (0 : Int) ≤ (k : Int) := by omega
  have i1 : (k : Int) < 9 := by omega
  have HH := hid H
  clear H
  obtain ⟨C, hC⟩ : ∃ C : Array Value, C = #[.int .i64 (k : Nat), .string s, .int .i64 n, .int .i64 sid, .slice sa ns cs, .int .i64 co, .slice la nl cl, .int .i64 t.hot, .int .i64 t.warm, .int .i64 t.gap, .int .i64 t.add, .int .i64 t.top, .int .i64 t.half] := ⟨_, rfl⟩
  have HUA := hid ((Up.refl Nul w).alloc (.cells C 33))
  have HBA : Hid ((w.alloc (.cells C 33)).heap[w.heap.size]? = some (.cells C 33 (0, 0))) := heap_alloc_new _ _
  have HLT : Hid (w.heap.size < (w.alloc (.cells C 33)).heap.size) := by show _ < _; simp
  have HSH := hid hS
  go_enter Tryd.func16, Tryd.ntmps16
  go_wp2_with fail
  rw [← hC]
  refine (HK.out _).mono ?_
  rintro e w1 ⟨rfl, u1⟩
  have hb := (u1.block _ HLT.out id).trans HBA.out
  have HU1 := hid (HUA.out.trans u1)
  have hlt := Nat.lt_of_lt_of_le HLT.out u1.size
  clear u1 HBA HUA HLT
  have y0 := (HSH.out.nxt HU1.out).c k 0 hk9 (by omega)
  have y1 := (HSH.out.nxt HU1.out).c k 1 hk9 (by omega)
  have y2 := (HSH.out.nxt HU1.out).c k 2 hk9 (by omega)
  have y3 := (HSH.out.nxt HU1.out).c k 3 hk9 (by omega)
  have y4 := (HSH.out.nxt HU1.out).c k 4 hk9 (by omega)
  have y5 := (HSH.out.nxt HU1.out).c k 5 hk9 (by omega)
  have y6 := (HSH.out.nxt HU1.out).c k 6 hk9 (by omega)
  have y7 := (HSH.out.nxt HU1.out).c k 7 hk9 (by omega)
  have y8 := (HSH.out.nxt HU1.out).c k 8 hk9 (by omega)
  have y9 := (HSH.out.nxt HU1.out).c k 9 hk9 (by omega)
  have y10 := (HSH.out.nxt HU1.out).c k 10 hk9 (by omega)
  have y11 := (HSH.out.nxt HU1.out).c k 11 hk9 (by omega)
  have y12 := (HSH.out.nxt HU1.out).c k 12 hk9 (by omega)
  have y13 := (HSH.out.nxt HU1.out).c k 13 hk9 (by omega)
  have y14 := (HSH.out.nxt HU1.out).c k 14 hk9 (by omega)
  rw [Nat.add_zero] at y0
  generalize w.heap.size = p at hb hlt ⊢
  have x0 : w1.cell? ⟨p, 0, none⟩ = some (.int .i64 (k : Nat)) := by simp [World.cell?, hb, hC]
  clear hk9
  go_wp2_with fail
  obtain ⟨W2, hW2⟩ : ∃ W, W = w1.alloc (.cells #[.int .i64 (sh k 0), .int .i64 (sh k 1), .int .i64 (sh k 2), .int .i64 (sh k 3), .int .i64 (sh k 4), .int .i64 (sh k 5), .int .i64 (sh k 6), .int .i64 (sh k 7), .int .i64 (sh k 8), .int .i64 (sh k 9), .int .i64 (sh k 10), .int .i64 (sh k 11), .int .i64 (sh k 12), .int .i64 (sh k 13), .int .i64 (sh k 14)] 73) := ⟨_, rfl⟩
  have U2 : Hid (Up Nul w1 W2) := by show Up _ _ _; rw [hW2]; exact (Up.refl Nul w1).alloc _
  have hq : W2.heap[w1.heap.size]? = some (.cells #[.int .i64 (sh k 0), .int .i64 (sh k 1), .int .i64 (sh k 2), .int .i64 (sh k 3), .int .i64 (sh k 4), .int .i64 (sh k 5), .int .i64 (sh k 6), .int .i64 (sh k 7), .int .i64 (sh k 8), .int .i64 (sh k 9), .int .i64 (sh k 10), .int .i64 (sh k 11), .int .i64 (sh k 12), .int .i64 (sh k 13), .int .i64 (sh k 14)] 73 (0, 0)) := by rw [hW2]; exact heap_alloc_new _ _
  have hp := (U2.out.block p hlt id).trans hb
  rw [hC] at hp
  have hq2 : w1.heap.size < W2.heap.size := by rw [hW2]; simp
  have hp2 := Nat.lt_of_lt_of_le hlt U2.out.size
  have U3 := hid (HU1.out.trans U2.out)
  rw [← hW2]
  clear hW2 x0 y0 y1 y2 y3 y4 y5 y6 y7 y8 y9 y10 y11 y12 y13 y14 hb U2 HU1 hlt
  generalize w1.heap.size = q at hq hq2 ⊢
  have Hp1 : Hid (∀ W, Up Nul W2 W → W.cell? ⟨p, 1, none⟩ = some (.string s)) := fun W u => by have a := (u.block p hp2 id).trans hp; simp only [World.cell?, a]; rfl
  have Hp2 : Hid (∀ W, Up Nul W2 W → W.cell? ⟨p, 2, none⟩ = some (.int .i64 n)) := fun W u => by have a := (u.block p hp2 id).trans hp; simp only [World.cell?, a]; rfl
  have Hp3 : Hid (∀ W, Up Nul W2 W → W.cell? ⟨p, 3, none⟩ = some (.int .i64 sid)) := fun W u => by have a := (u.block p hp2 id).trans hp; simp only [World.cell?, a]; rfl
  have Hp4 : Hid (∀ W, Up Nul W2 W → W.cell? ⟨p, 4, none⟩ = some (.slice sa ns cs)) := fun W u => by have a := (u.block p hp2 id).trans hp; simp only [World.cell?, a]; rfl
  have Hp5 : Hid (∀ W, Up Nul W2 W → W.cell? ⟨p, 5, none⟩ = some (.int .i64 co)) := fun W u => by have a := (u.block p hp2 id).trans hp; simp only [World.cell?, a]; rfl
  have Hp6 : Hid (∀ W, Up Nul W2 W → W.cell? ⟨p, 6, none⟩ = some (.slice la nl cl)) := fun W u => by have a := (u.block p hp2 id).trans hp; simp only [World.cell?, a]; rfl
  have Hp7 : Hid (∀ W, Up Nul W2 W → W.cell? ⟨p, 7, none⟩ = some (.int .i64 t.hot)) := fun W u => by have a := (u.block p hp2 id).trans hp; simp only [World.cell?, a]; rfl
  have Hp8 : Hid (∀ W, Up Nul W2 W → W.cell? ⟨p, 8, none⟩ = some (.int .i64 t.warm)) := fun W u => by have a := (u.block p hp2 id).trans hp; simp only [World.cell?, a]; rfl
  have Hp9 : Hid (∀ W, Up Nul W2 W → W.cell? ⟨p, 9, none⟩ = some (.int .i64 t.gap)) := fun W u => by have a := (u.block p hp2 id).trans hp; simp only [World.cell?, a]; rfl
  have Hp10 : Hid (∀ W, Up Nul W2 W → W.cell? ⟨p, 10, none⟩ = some (.int .i64 t.add)) := fun W u => by have a := (u.block p hp2 id).trans hp; simp only [World.cell?, a]; rfl
  have Hp11 : Hid (∀ W, Up Nul W2 W → W.cell? ⟨p, 11, none⟩ = some (.int .i64 t.top)) := fun W u => by have a := (u.block p hp2 id).trans hp; simp only [World.cell?, a]; rfl
  have Hp12 : Hid (∀ W, Up Nul W2 W → W.cell? ⟨p, 12, none⟩ = some (.int .i64 t.half)) := fun W u => by have a := (u.block p hp2 id).trans hp; simp only [World.cell?, a]; rfl
  have Hq0 : Hid (∀ W, Up Nul W2 W → W.cell? ⟨q, 0, none⟩ = some (.int .i64 (sh k 0))) := fun W u => by have a := (u.block q hq2 id).trans hq; simp only [World.cell?, a]; rfl
  have Hq1 : Hid (∀ W, Up Nul W2 W → W.cell? ⟨q, 1, none⟩ = some (.int .i64 (sh k 1))) := fun W u => by have a := (u.block q hq2 id).trans hq; simp only [World.cell?, a]; rfl
  have Hq2 : Hid (∀ W, Up Nul W2 W → W.cell? ⟨q, 2, none⟩ = some (.int .i64 (sh k 2))) := fun W u => by have a := (u.block q hq2 id).trans hq; simp only [World.cell?, a]; rfl
  have Hq3 : Hid (∀ W, Up Nul W2 W → W.cell? ⟨q, 3, none⟩ = some (.int .i64 (sh k 3))) := fun W u => by have a := (u.block q hq2 id).trans hq; simp only [World.cell?, a]; rfl
  have Hq4 : Hid (∀ W, Up Nul W2 W → W.cell? ⟨q, 4, none⟩ = some (.int .i64 (sh k 4))) := fun W u => by have a := (u.block q hq2 id).trans hq; simp only [World.cell?, a]; rfl
  have Hq5 : Hid (∀ W, Up Nul W2 W → W.cell? ⟨q, 5, none⟩ = some (.int .i64 (sh k 5))) := fun W u => by have a := (u.block q hq2 id).trans hq; simp only [World.cell?, a]; rfl
  have Hq6 : Hid (∀ W, Up Nul W2 W → W.cell? ⟨q, 6, none⟩ = some (.int .i64 (sh k 6))) := fun W u => by have a := (u.block q hq2 id).trans hq; simp only [World.cell?, a]; rfl
  have Hq7 : Hid (∀ W, Up Nul W2 W → W.cell? ⟨q, 7, none⟩ = some (.int .i64 (sh k 7))) := fun W u => by have a := (u.block q hq2 id).trans hq; simp only [World.cell?, a]; rfl
  have Hq8 : Hid (∀ W, Up Nul W2 W → W.cell? ⟨q, 8, none⟩ = some (.int .i64 (sh k 8))) := fun W u => by have a := (u.block q hq2 id).trans hq; simp only [World.cell?, a]; rfl
  have Hq9 : Hid (∀ W, Up Nul W2 W → W.cell? ⟨q, 9, none⟩ = some (.int .i64 (sh k 9))) := fun W u => by have a := (u.block q hq2 id).trans hq; simp only [World.cell?, a]; rfl
  have Hq10 : Hid (∀ W, Up Nul W2 W → W.cell? ⟨q, 10, none⟩ = some (.int .i64 (sh k 10))) := fun W u => by have a := (u.block q hq2 id).trans hq; simp only [World.cell?, a]; rfl
  have Hq11 : Hid (∀ W, Up Nul W2 W → W.cell? ⟨q, 11, none⟩ = some (.int .i64 (sh k 11))) := fun W u => by have a := (u.block q hq2 id).trans hq; simp only [World.cell?, a]; rfl
  have Hq12 : Hid (∀ W, Up Nul W2 W → W.cell? ⟨q, 12, none⟩ = some (.int .i64 (sh k 12))) := fun W u => by have a := (u.block q hq2 id).trans hq; simp only [World.cell?, a]; rfl
  have Hq13 : Hid (∀ W, Up Nul W2 W → W.cell? ⟨q, 13, none⟩ = some (.int .i64 (sh k 13))) := fun W u => by have a := (u.block q hq2 id).trans hq; simp only [World.cell?, a]; rfl
  have Hq14 : Hid (∀ W, Up Nul W2 W → W.cell? ⟨q, 14, none⟩ = some (.int .i64 (sh k 14))) := fun W u => by have a := (u.block q hq2 id).trans hq; simp only [World.cell?, a]; rfl
  clear hp hq hp2 hq2
  have HR := hid (Up.refl Nul W2)
  simp only [List.append]
  refine wp_region_held_drew (S := (fun W => Up Nul W2 W)) (by kernel_rfl) (by exact HR.out.drew) (fun hHeld => ?_)
  refine wpAnyH_take (i := 0) (oi := ⟨some 12, _, _, _, _, _⟩) (v := ?vk1n1u1) rfl (by kernel_rfl) (by kernel_rfl) (by kernel_rfl) (fun _ _ _ h => h) (Or.inl ⟨by rfl, ?yk1n1u1⟩) (by assumption) ?rk1n1u1
  case yk1n1u1 => (intro w hSw; (try dsimp only at hSw); go_simp; try with_reducible rfl)
  try simp only [Act.put, List.setIfInBounds_toArray, List.set_cons_zero, List.set_cons_succ]
  refine wpAnyH_take (i := 1) (oi := ⟨some 13, _, _, _, _, _⟩) (v := ?vk1x2) rfl (by kernel_rfl) (by kernel_rfl) (by kernel_rfl) (fun _ _ _ h => h) (Or.inl ⟨by rfl, ?yk1x2⟩) (by assumption) ?rk1x2
  case yk1x2 => (intro w hSw; have aq0 := Hq0.out w hSw; have aq1 := Hq1.out w hSw; go_simp; try with_reducible rfl)
  try simp only [Act.put, List.setIfInBounds_toArray, List.set_cons_zero, List.set_cons_succ]
  refine wpAnyH_take (i := 2) (oi := ⟨some 14, _, _, _, _, _⟩) (v := ?vk1n3u1) rfl (by kernel_rfl) (by kernel_rfl) (by kernel_rfl) (fun _ _ _ h => h) (Or.inl ⟨by rfl, ?yk1n3u1⟩) (by assumption) ?rk1n3u1
  case yk1n3u1 => (intro w hSw; (try dsimp only at hSw); go_simp; try with_reducible rfl)
  try simp only [Act.put, List.setIfInBounds_toArray, List.set_cons_zero, List.set_cons_succ]
  refine wpAnyH_take (i := 3) (oi := ⟨some 15, _, _, _, _, _⟩) (v := ?vk1x4) rfl (by kernel_rfl) (by kernel_rfl) (by kernel_rfl) (fun _ _ _ h => h) (Or.inl ⟨by rfl, ?yk1x4⟩) (by assumption) ?rk1x4
  case yk1x4 => (intro w hSw; have ap1 := Hp1.out w hSw; go_simp; try with_reducible rfl)
  try simp only [Act.put, List.setIfInBounds_toArray, List.set_cons_zero, List.set_cons_succ]
  refine wpAnyH_take (i := 4) (oi := ⟨some 16, _, _, _, _, _⟩) (v := ?vk1n5u1) rfl (by kernel_rfl) (by kernel_rfl) (by kernel_rfl) (fun _ _ _ h => h) (Or.inl ⟨by rfl, ?yk1n5u1⟩) (by assumption) ?rk1n5u1
  case yk1n5u1 => (intro w hSw; (try dsimp only at hSw); go_simp; try with_reducible rfl)
  try simp only [Act.put, List.setIfInBounds_toArray, List.set_cons_zero, List.set_cons_succ]
  refine wpAnyH_ready (rs := [5]) (by kernel_rfl) (by simp) ?_
  refine AllReadyH.cons (o := ⟨some 17, _, _, _, _, _⟩) rfl (fun K hK => ?_) AllReadyH.nil
  go_simp
  skip
  refine hK.out _ _ ?kk1n6u1 (fun hHeld => ?_)
  case kk1n6u1 => exact (by first | exact Up.alloc (show Up Nul W2 _ from hHeld) _ | exact (Up.alloc (show Up Nul W2 _ from HR.out) _).drew)
  clear hK K
  try simp only [Act.put, List.setIfInBounds_toArray, List.set_cons_zero, List.set_cons_succ]
  refine wpAnyH_ready (rs := [6]) (by kernel_rfl) (by simp) ?_
  refine AllReadyH.cons (o := ⟨some 18, _, _, _, _, _⟩) rfl (fun K hK => ?_) AllReadyH.nil
  go_simp
  go_at_call 25; refine (HH.out.h1 _ (U3.out.trans (show Up Nul W2 _ from hHeld)) _ (by first | exact World.cell?_alloc_new _ _ _ 0 | (simp; done) | go_simp)).mono ?_; rintro e wb ⟨rfl, kb⟩
  refine hK.out _ _ ?kk1n7u1 (fun hHeld => ?_)
  case kk1n7u1 => exact (Up.trans (show Up Nul W2 _ from hHeld) kb)
  clear hK K
  try simp only [Act.put, List.setIfInBounds_toArray, List.set_cons_zero, List.set_cons_succ]
  refine wpAnyH_take (i := 7) (oi := ⟨some 19, _, _, _, _, _⟩) (v := ?vk1n8u1) rfl (by kernel_rfl) (by kernel_rfl) (by kernel_rfl) (fun _ _ _ h => h) (Or.inl ⟨by rfl, ?yk1n8u1⟩) (by assumption) ?rk1n8u1
  case yk1n8u1 => (intro w hSw; (try dsimp only at hSw); go_simp; try with_reducible rfl)
  try simp only [Act.put, List.setIfInBounds_toArray, List.set_cons_zero, List.set_cons_succ]
  refine wpAnyH_take (i := 8) (oi := ⟨some 20, _, _, _, _, _⟩) (v := undef) rfl (by kernel_rfl) (by kernel_rfl) (by kernel_rfl) (fun _ _ _ h => h) (Or.inr ⟨by rfl, rfl⟩) (by assumption) ?rk1n9u1
  try simp only [Act.put, List.setIfInBounds_toArray, List.set_cons_zero, List.set_cons_succ]
  refine wpAnyH_take (i := 9) (oi := ⟨some 21, _, _, _, _, _⟩) (v := undef) rfl (by kernel_rfl) (by kernel_rfl) (by kernel_rfl) (fun _ _ _ h => h) (Or.inr ⟨by rfl, rfl⟩) (by assumption) ?rk1n10u1
  try simp only [Act.put, List.setIfInBounds_toArray, List.set_cons_zero, List.set_cons_succ]
  refine wpAnyH_take (i := 10) (oi := ⟨some 22, _, _, _, _, _⟩) (v := undef) rfl (by kernel_rfl) (by kernel_rfl) (by kernel_rfl) (fun _ _ _ h => h) (Or.inr ⟨by rfl, rfl⟩) (by assumption) ?rk1n11u1
  try simp only [Act.put, List.setIfInBounds_toArray, List.set_cons_zero, List.set_cons_succ]
  refine wpAnyH_take (i := 11) (oi := ⟨some 23, _, _, _, _, _⟩) (v := ?vk1n12u1) rfl (by kernel_rfl) (by kernel_rfl) (by kernel_rfl) (fun _ _ _ h => h) (Or.inl ⟨by rfl, ?yk1n12u1⟩) (by assumption) ?rk1n12u1
  case yk1n12u1 => (intro w hSw; (try dsimp only at hSw); go_simp; try with_reducible rfl)
  try simp only [Act.put, List.setIfInBounds_toArray, List.set_cons_zero, List.set_cons_succ]
  refine wpAnyH_take (i := 12) (oi := ⟨some 24, _, _, _, _, _⟩) (v := ?vk1n13u1) rfl (by kernel_rfl) (by kernel_rfl) (by kernel_rfl) (fun _ _ _ h => h) (Or.inl ⟨by rfl, ?yk1n13u1⟩) (by assumption) ?rk1n13u1
  case yk1n13u1 => (intro w hSw; (try dsimp only at hSw); go_simp; try with_reducible rfl)
  try simp only [Act.put, List.setIfInBounds_toArray, List.set_cons_zero, List.set_cons_succ]
  refine wpAnyH_take (i := 13) (oi := ⟨some 25, _, _, _, _, _⟩) (v := undef) rfl (by kernel_rfl) (by kernel_rfl) (by kernel_rfl) (fun _ _ _ h => h) (Or.inr ⟨by rfl, rfl⟩) (by assumption) ?rk1n14u1
  try simp only [Act.put, List.setIfInBounds_toArray, List.set_cons_zero, List.set_cons_succ]
  refine wpAnyH_take (i := 14) (oi := ⟨some 26, _, _, _, _, _⟩) (v := undef) rfl (by kernel_rfl) (by kernel_rfl) (by kernel_rfl) (fun _ _ _ h => h) (Or.inr ⟨by rfl, rfl⟩) (by assumption) ?rk1n15u1
  try simp only [Act.put, List.setIfInBounds_toArray, List.set_cons_zero, List.set_cons_succ]
  refine wpAnyH_take (i := 15) (oi := ⟨some 27, _, _, _, _, _⟩) (v := undef) rfl (by kernel_rfl) (by kernel_rfl) (by kernel_rfl) (fun _ _ _ h => h) (Or.inr ⟨by rfl, rfl⟩) (by assumption) ?rk1n16u1
  try simp only [Act.put, List.setIfInBounds_toArray, List.set_cons_zero, List.set_cons_succ]
  refine wpAnyH_take (i := 16) (oi := ⟨some 28, _, _, _, _, _⟩) (v := undef) rfl (by kernel_rfl) (by kernel_rfl) (by kernel_rfl) (fun _ _ _ h => h) (Or.inr ⟨by rfl, rfl⟩) (by assumption) ?rk1n17u1
  try simp only [Act.put, List.setIfInBounds_toArray, List.set_cons_zero, List.set_cons_succ]
  refine wpAnyH_take (i := 17) (oi := ⟨some 29, _, _, _, _, _⟩) (v := undef) rfl (by kernel_rfl) (by kernel_rfl) (by kernel_rfl) (fun _ _ _ h => h) (Or.inr ⟨by rfl, rfl⟩) (by assumption) ?rk1n18u1
  try simp only [Act.put, List.setIfInBounds_toArray, List.set_cons_zero, List.set_cons_succ]
  refine wpAnyH_take (i := 18) (oi := ⟨some 30, _, _, _, _, _⟩) (v := undef) rfl (by kernel_rfl) (by kernel_rfl) (by kernel_rfl) (fun _ _ _ h => h) (Or.inr ⟨by rfl, rfl⟩) (by assumption) ?rk1n19u1
  try simp only [Act.put, List.setIfInBounds_toArray, List.set_cons_zero, List.set_cons_succ]
  refine wpAnyH_take (i := 19) (oi := ⟨some 31, _, _, _, _, _⟩) (v := ?vk1n20u1) rfl (by kernel_rfl) (by kernel_rfl) (by kernel_rfl) (fun _ _ _ h => h) (Or.inl ⟨by rfl, ?yk1n20u1⟩) (by assumption) ?rk1n20u1
  case yk1n20u1 => (intro w hSw; (try dsimp only at hSw); go_simp; try with_reducible rfl)
  try simp only [Act.put, List.setIfInBounds_toArray, List.set_cons_zero, List.set_cons_succ]
  refine wpAnyH_take (i := 20) (oi := ⟨some 32, _, _, _, _, _⟩) (v := ?vk1n21u1) rfl (by kernel_rfl) (by kernel_rfl) (by kernel_rfl) (fun _ _ _ h => h) (Or.inl ⟨by rfl, ?yk1n21u1⟩) (by assumption) ?rk1n21u1
  case yk1n21u1 => (intro w hSw; (try dsimp only at hSw); go_simp; try with_reducible rfl)
  try simp only [Act.put, List.setIfInBounds_toArray, List.set_cons_zero, List.set_cons_succ]
  refine wpAnyH_take (i := 21) (oi := ⟨some 33, _, _, _, _, _⟩) (v := undef) rfl (by kernel_rfl) (by kernel_rfl) (by kernel_rfl) (fun _ _ _ h => h) (Or.inr ⟨by rfl, rfl⟩) (by assumption) ?rk1n22u1
  try simp only [Act.put, List.setIfInBounds_toArray, List.set_cons_zero, List.set_cons_succ]
  refine wpAnyH_take (i := 22) (oi := ⟨some 34, _, _, _, _, _⟩) (v := undef) rfl (by kernel_rfl) (by kernel_rfl) (by kernel_rfl) (fun _ _ _ h => h) (Or.inr ⟨by rfl, rfl⟩) (by assumption) ?rk1n23u1
  try simp only [Act.put, List.setIfInBounds_toArray, List.set_cons_zero, List.set_cons_succ]
  refine wpAnyH_take (i := 23) (oi := ⟨some 35, _, _, _, _, _⟩) (v := undef) rfl (by kernel_rfl) (by kernel_rfl) (by kernel_rfl) (fun _ _ _ h => h) (Or.inr ⟨by rfl, rfl⟩) (by assumption) ?rk1n24u1
  try simp only [Act.put, List.setIfInBounds_toArray, List.set_cons_zero, List.set_cons_succ]
  refine wpAnyH_take (i := 24) (oi := ⟨some 36, _, _, _, _, _⟩) (v := undef) rfl (by kernel_rfl) (by kernel_rfl) (by kernel_rfl) (fun _ _ _ h => h) (Or.inr ⟨by rfl, rfl⟩) (by assumption) ?rk1n25u1
  try simp only [Act.put, List.setIfInBounds_toArray, List.set_cons_zero, List.set_cons_succ]
  refine wpAnyH_take (i := 25) (oi := ⟨some 37, _, _, _, _, _⟩) (v := undef) rfl (by kernel_rfl) (by kernel_rfl) (by kernel_rfl) (fun _ _ _ h => h) (Or.inr ⟨by rfl, rfl⟩) (by assumption) ?rk1n26u1
  try simp only [Act.put, List.setIfInBounds_toArray, List.set_cons_zero, List.set_cons_succ]
  refine wpAnyH_take (i := 26) (oi := ⟨some 38, _, _, _, _, _⟩) (v := undef) rfl (by kernel_rfl) (by kernel_rfl) (by kernel_rfl) (fun _ _ _ h => h) (Or.inr ⟨by rfl, rfl⟩) (by assumption) ?rk1n27u1
  try simp only [Act.put, List.setIfInBounds_toArray, List.set_cons_zero, List.set_cons_succ]
  refine wpAnyH_take (i := 27) (oi := ⟨some 39, _, _, _, _, _⟩) (v := ?vk1n28u1) rfl (by kernel_rfl) (by kernel_rfl) (by kernel_rfl) (fun _ _ _ h => h) (Or.inl ⟨by rfl, ?yk1n28u1⟩) (by assumption) ?rk1n28u1
  case yk1n28u1 => (intro w hSw; (try dsimp only at hSw); go_simp; try with_reducible rfl)
  try simp only [Act.put, List.setIfInBounds_toArray, List.set_cons_zero, List.set_cons_succ]
  refine wpAnyH_take (i := 28) (oi := ⟨some 40, _, _, _, _, _⟩) (v := ?vk1n29u1) rfl (by kernel_rfl) (by kernel_rfl) (by kernel_rfl) (fun _ _ _ h => h) (Or.inl ⟨by rfl, ?yk1n29u1⟩) (by assumption) ?rk1n29u1
  case yk1n29u1 => (intro w hSw; (try dsimp only at hSw); go_simp; try with_reducible rfl)
  try simp only [Act.put, List.setIfInBounds_toArray, List.set_cons_zero, List.set_cons_succ]
  refine wpAnyH_take (i := 29) (oi := ⟨some 41, _, _, _, _, _⟩) (v := undef) rfl (by kernel_rfl) (by kernel_rfl) (by kernel_rfl) (fun _ _ _ h => h) (Or.inr ⟨by rfl, rfl⟩) (by assumption) ?rk1n30u1
  try simp only [Act.put, List.setIfInBounds_toArray, List.set_cons_zero, List.set_cons_succ]
  refine wpAnyH_take (i := 30) (oi := ⟨some 42, _, _, _, _, _⟩) (v := undef) rfl (by kernel_rfl) (by kernel_rfl) (by kernel_rfl) (fun _ _ _ h => h) (Or.inr ⟨by rfl, rfl⟩) (by assumption) ?rk1n31u1
  try simp only [Act.put, List.setIfInBounds_toArray, List.set_cons_zero, List.set_cons_succ]
  refine wpAnyH_take (i := 31) (oi := ⟨some 43, _, _, _, _, _⟩) (v := undef) rfl (by kernel_rfl) (by kernel_rfl) (by kernel_rfl) (fun _ _ _ h => h) (Or.inr ⟨by rfl, rfl⟩) (by assumption) ?rk1n32u1
  try simp only [Act.put, List.setIfInBounds_toArray, List.set_cons_zero, List.set_cons_succ]
  refine wpAnyH_take (i := 32) (oi := ⟨some 44, _, _, _, _, _⟩) (v := undef) rfl (by kernel_rfl) (by kernel_rfl) (by kernel_rfl) (fun _ _ _ h => h) (Or.inr ⟨by rfl, rfl⟩) (by assumption) ?rk1n33u1
  try simp only [Act.put, List.setIfInBounds_toArray, List.set_cons_zero, List.set_cons_succ]
  refine wpAnyH_take (i := 33) (oi := ⟨some 45, _, _, _, _, _⟩) (v := undef) rfl (by kernel_rfl) (by kernel_rfl) (by kernel_rfl) (fun _ _ _ h => h) (Or.inr ⟨by rfl, rfl⟩) (by assumption) ?rk1n34u1
  try simp only [Act.put, List.setIfInBounds_toArray, List.set_cons_zero, List.set_cons_succ]
  refine wpAnyH_take (i := 34) (oi := ⟨some 46, _, _, _, _, _⟩) (v := undef) rfl (by kernel_rfl) (by kernel_rfl) (by kernel_rfl) (fun _ _ _ h => h) (Or.inr ⟨by rfl, rfl⟩) (by assumption) ?rk1n35u1
  try simp only [Act.put, List.setIfInBounds_toArray, List.set_cons_zero, List.set_cons_succ]
  refine wpAnyH_take (i := 35) (oi := ⟨some 47, _, _, _, _, _⟩) (v := ?vk1n36u1) rfl (by kernel_rfl) (by kernel_rfl) (by kernel_rfl) (fun _ _ _ h => h) (Or.inl ⟨by rfl, ?yk1n36u1⟩) (by assumption) ?rk1n36u1
  case yk1n36u1 => (intro w hSw; (try dsimp only at hSw); go_simp; try with_reducible rfl)
  try simp only [Act.put, List.setIfInBounds_toArray, List.set_cons_zero, List.set_cons_succ]
  refine wpAnyH_take (i := 36) (oi := ⟨some 48, _, _, _, _, _⟩) (v := ?vk1n37u1) rfl (by kernel_rfl) (by kernel_rfl) (by kernel_rfl) (fun _ _ _ h => h) (Or.inl ⟨by rfl, ?yk1n37u1⟩) (by assumption) ?rk1n37u1
  case yk1n37u1 => (intro w hSw; (try dsimp only at hSw); go_simp; try with_reducible rfl)
  try simp only [Act.put, List.setIfInBounds_toArray, List.set_cons_zero, List.set_cons_succ]
  refine wpAnyH_take (i := 37) (oi := ⟨some 49, _, _, _, _, _⟩) (v := undef) rfl (by kernel_rfl) (by kernel_rfl) (by kernel_rfl) (fun _ _ _ h => h) (Or.inr ⟨by rfl, rfl⟩) (by assumption) ?rk1n38u1
  try simp only [Act.put, List.setIfInBounds_toArray, List.set_cons_zero, List.set_cons_succ]
  refine wpAnyH_take (i := 38) (oi := ⟨some 50, _, _, _, _, _⟩) (v := undef) rfl (by kernel_rfl) (by kernel_rfl) (by kernel_rfl) (fun _ _ _ h => h) (Or.inr ⟨by rfl, rfl⟩) (by assumption) ?rk1n39u1
  try simp only [Act.put, List.setIfInBounds_toArray, List.set_cons_zero, List.set_cons_succ]
  refine wpAnyH_take (i := 39) (oi := ⟨some 51, _, _, _, _, _⟩) (v := undef) rfl (by kernel_rfl) (by kernel_rfl) (by kernel_rfl) (fun _ _ _ h => h) (Or.inr ⟨by rfl, rfl⟩) (by assumption) ?rk1n40u1
  try simp only [Act.put, List.setIfInBounds_toArray, List.set_cons_zero, List.set_cons_succ]
  refine wpAnyH_take (i := 40) (oi := ⟨some 52, _, _, _, _, _⟩) (v := undef) rfl (by kernel_rfl) (by kernel_rfl) (by kernel_rfl) (fun _ _ _ h => h) (Or.inr ⟨by rfl, rfl⟩) (by assumption) ?rk1n41u1
  try simp only [Act.put, List.setIfInBounds_toArray, List.set_cons_zero, List.set_cons_succ]
  refine wpAnyH_take (i := 41) (oi := ⟨some 53, _, _, _, _, _⟩) (v := undef) rfl (by kernel_rfl) (by kernel_rfl) (by kernel_rfl) (fun _ _ _ h => h) (Or.inr ⟨by rfl, rfl⟩) (by assumption) ?rk1n42u1
  try simp only [Act.put, List.setIfInBounds_toArray, List.set_cons_zero, List.set_cons_succ]
  refine wpAnyH_take (i := 42) (oi := ⟨some 54, _, _, _, _, _⟩) (v := undef) rfl (by kernel_rfl) (by kernel_rfl) (by kernel_rfl) (fun _ _ _ h => h) (Or.inr ⟨by rfl, rfl⟩) (by assumption) ?rk1n43u1
  try simp only [Act.put, List.setIfInBounds_toArray, List.set_cons_zero, List.set_cons_succ]
  refine wpAnyH_take (i := 43) (oi := ⟨some 55, _, _, _, _, _⟩) (v := ?vk1n44u1) rfl (by kernel_rfl) (by kernel_rfl) (by kernel_rfl) (fun _ _ _ h => h) (Or.inl ⟨by rfl, ?yk1n44u1⟩) (by assumption) ?rk1n44u1
  case yk1n44u1 => (intro w hSw; (try dsimp only at hSw); go_simp; try with_reducible rfl)
  try simp only [Act.put, List.setIfInBounds_toArray, List.set_cons_zero, List.set_cons_succ]
  refine wpAnyH_take (i := 44) (oi := ⟨some 56, _, _, _, _, _⟩) (v := ?vk1n45u1) rfl (by kernel_rfl) (by kernel_rfl) (by kernel_rfl) (fun _ _ _ h => h) (Or.inl ⟨by rfl, ?yk1n45u1⟩) (by assumption) ?rk1n45u1
  case yk1n45u1 => (intro w hSw; (try dsimp only at hSw); go_simp; try with_reducible rfl)
  try simp only [Act.put, List.setIfInBounds_toArray, List.set_cons_zero, List.set_cons_succ]
  refine wpAnyH_take (i := 45) (oi := ⟨some 57, _, _, _, _, _⟩) (v := undef) rfl (by kernel_rfl) (by kernel_rfl) (by kernel_rfl) (fun _ _ _ h => h) (Or.inr ⟨by rfl, rfl⟩) (by assumption) ?rk1n46u1
  try simp only [Act.put, List.setIfInBounds_toArray, List.set_cons_zero, List.set_cons_succ]
  refine wpAnyH_take (i := 46) (oi := ⟨some 58, _, _, _, _, _⟩) (v := undef) rfl (by kernel_rfl) (by kernel_rfl) (by kernel_rfl) (fun _ _ _ h => h) (Or.inr ⟨by rfl, rfl⟩) (by assumption) ?rk1n47u1
  try simp only [Act.put, List.setIfInBounds_toArray, List.set_cons_zero, List.set_cons_succ]
  refine wpAnyH_take (i := 47) (oi := ⟨some 59, _, _, _, _, _⟩) (v := undef) rfl (by kernel_rfl) (by kernel_rfl) (by kernel_rfl) (fun _ _ _ h => h) (Or.inr ⟨by rfl, rfl⟩) (by assumption) ?rk1n48u1
  try simp only [Act.put, List.setIfInBounds_toArray, List.set_cons_zero, List.set_cons_succ]
  refine wpAnyH_take (i := 48) (oi := ⟨some 60, _, _, _, _, _⟩) (v := undef) rfl (by kernel_rfl) (by kernel_rfl) (by kernel_rfl) (fun _ _ _ h => h) (Or.inr ⟨by rfl, rfl⟩) (by assumption) ?rk1n49u1
  try simp only [Act.put, List.setIfInBounds_toArray, List.set_cons_zero, List.set_cons_succ]
  refine wpAnyH_take (i := 49) (oi := ⟨some 61, _, _, _, _, _⟩) (v := undef) rfl (by kernel_rfl) (by kernel_rfl) (by kernel_rfl) (fun _ _ _ h => h) (Or.inr ⟨by rfl, rfl⟩) (by assumption) ?rk1n50u1
  try simp only [Act.put, List.setIfInBounds_toArray, List.set_cons_zero, List.set_cons_succ]
  refine wpAnyH_take (i := 50) (oi := ⟨some 62, _, _, _, _, _⟩) (v := ?vk1n51u1) rfl (by kernel_rfl) (by kernel_rfl) (by kernel_rfl) (fun _ _ _ h => h) (Or.inl ⟨by rfl, ?yk1n51u1⟩) (by assumption) ?rk1n51u1
  case yk1n51u1 => (intro w hSw; (try dsimp only at hSw); go_simp; try with_reducible rfl)
  try simp only [Act.put, List.setIfInBounds_toArray, List.set_cons_zero, List.set_cons_succ]
  refine wpAnyH_take (i := 51) (oi := ⟨some 63, _, _, _, _, _⟩) (v := ?vk1n52u1) rfl (by kernel_rfl) (by kernel_rfl) (by kernel_rfl) (fun _ _ _ h => h) (Or.inl ⟨by rfl, ?yk1n52u1⟩) (by assumption) ?rk1n52u1
  case yk1n52u1 => (intro w hSw; (try dsimp only at hSw); go_simp; try with_reducible rfl)
  try simp only [Act.put, List.setIfInBounds_toArray, List.set_cons_zero, List.set_cons_succ]
  refine wpAnyH_take (i := 52) (oi := ⟨some 64, _, _, _, _, _⟩) (v := undef) rfl (by kernel_rfl) (by kernel_rfl) (by kernel_rfl) (fun _ _ _ h => h) (Or.inr ⟨by rfl, rfl⟩) (by assumption) ?rk1n53u1
  try simp only [Act.put, List.setIfInBounds_toArray, List.set_cons_zero, List.set_cons_succ]
  refine wpAnyH_take (i := 53) (oi := ⟨some 65, _, _, _, _, _⟩) (v := undef) rfl (by kernel_rfl) (by kernel_rfl) (by kernel_rfl) (fun _ _ _ h => h) (Or.inr ⟨by rfl, rfl⟩) (by assumption) ?rk1n54u1
  try simp only [Act.put, List.setIfInBounds_toArray, List.set_cons_zero, List.set_cons_succ]
  refine wpAnyH_take (i := 54) (oi := ⟨some 66, _, _, _, _, _⟩) (v := undef) rfl (by kernel_rfl) (by kernel_rfl) (by kernel_rfl) (fun _ _ _ h => h) (Or.inr ⟨by rfl, rfl⟩) (by assumption) ?rk1n55u1
  try simp only [Act.put, List.setIfInBounds_toArray, List.set_cons_zero, List.set_cons_succ]
  refine wpAnyH_take (i := 55) (oi := ⟨some 67, _, _, _, _, _⟩) (v := undef) rfl (by kernel_rfl) (by kernel_rfl) (by kernel_rfl) (fun _ _ _ h => h) (Or.inr ⟨by rfl, rfl⟩) (by assumption) ?rk1n56u1
  try simp only [Act.put, List.setIfInBounds_toArray, List.set_cons_zero, List.set_cons_succ]
  refine wpAnyH_take (i := 56) (oi := ⟨some 68, _, _, _, _, _⟩) (v := undef) rfl (by kernel_rfl) (by kernel_rfl) (by kernel_rfl) (fun _ _ _ h => h) (Or.inr ⟨by rfl, rfl⟩) (by assumption) ?rk1n57u1
  try simp only [Act.put, List.setIfInBounds_toArray, List.set_cons_zero, List.set_cons_succ]
  refine wpAnyH_take (i := 57) (oi := ⟨some 69, _, _, _, _, _⟩) (v := undef) rfl (by kernel_rfl) (by kernel_rfl) (by kernel_rfl) (fun _ _ _ h => h) (Or.inr ⟨by rfl, rfl⟩) (by assumption) ?rk1n58u1
  try simp only [Act.put, List.setIfInBounds_toArray, List.set_cons_zero, List.set_cons_succ]
  refine wpAnyH_take (i := 58) (oi := ⟨some 70, _, _, _, _, _⟩) (v := undef) rfl (by kernel_rfl) (by kernel_rfl) (by kernel_rfl) (fun _ _ _ h => h) (Or.inr ⟨by rfl, rfl⟩) (by assumption) ?rk1n59u1
  try simp only [Act.put, List.setIfInBounds_toArray, List.set_cons_zero, List.set_cons_succ]
  refine wpAnyH_take (i := 59) (oi := ⟨some 71, _, _, _, _, _⟩) (v := undef) rfl (by kernel_rfl) (by kernel_rfl) (by kernel_rfl) (fun _ _ _ h => h) (Or.inr ⟨by rfl, rfl⟩) (by assumption) ?rk1n60u1
  try simp only [Act.put, List.setIfInBounds_toArray, List.set_cons_zero, List.set_cons_succ]
  refine wpAnyH_take (i := 60) (oi := ⟨some 72, _, _, _, _, _⟩) (v := ?vk1n61u1) rfl (by kernel_rfl) (by kernel_rfl) (by kernel_rfl) (fun _ _ _ h => h) (Or.inl ⟨by rfl, ?yk1n61u1⟩) (by assumption) ?rk1n61u1
  case yk1n61u1 => (intro w hSw; (try dsimp only at hSw); go_simp; try with_reducible rfl)
  try simp only [Act.put, List.setIfInBounds_toArray, List.set_cons_zero, List.set_cons_succ]
  refine wpAnyH_take (i := 61) (oi := ⟨some 73, _, _, _, _, _⟩) (v := ?vk1n62u1) rfl (by kernel_rfl) (by kernel_rfl) (by kernel_rfl) (fun _ _ _ h => h) (Or.inl ⟨by rfl, ?yk1n62u1⟩) (by assumption) ?rk1n62u1
  case yk1n62u1 => (intro w hSw; (try dsimp only at hSw); go_simp; try with_reducible rfl)
  try simp only [Act.put, List.setIfInBounds_toArray, List.set_cons_zero, List.set_cons_succ]
  refine wpAnyH_take (i := 62) (oi := ⟨some 74, _, _, _, _, _⟩) (v := undef) rfl (by kernel_rfl) (by kernel_rfl) (by kernel_rfl) (fun _ _ _ h => h) (Or.inr ⟨by rfl, rfl⟩) (by assumption) ?rk1n63u1
  try simp only [Act.put, List.setIfInBounds_toArray, List.set_cons_zero, List.set_cons_succ]
  refine wpAnyH_take (i := 63) (oi := ⟨some 75, _, _, _, _, _⟩) (v := undef) rfl (by kernel_rfl) (by kernel_rfl) (by kernel_rfl) (fun _ _ _ h => h) (Or.inr ⟨by rfl, rfl⟩) (by assumption) ?rk1n64u1
  try simp only [Act.put, List.setIfInBounds_toArray, List.set_cons_zero, List.set_cons_succ]
  refine wpAnyH_take (i := 64) (oi := ⟨some 76, _, _, _, _, _⟩) (v := undef) rfl (by kernel_rfl) (by kernel_rfl) (by kernel_rfl) (fun _ _ _ h => h) (Or.inr ⟨by rfl, rfl⟩) (by assumption) ?rk1n65u1
  try simp only [Act.put, List.setIfInBounds_toArray, List.set_cons_zero, List.set_cons_succ]
  refine wpAnyH_take (i := 65) (oi := ⟨some 77, _, _, _, _, _⟩) (v := undef) rfl (by kernel_rfl) (by kernel_rfl) (by kernel_rfl) (fun _ _ _ h => h) (Or.inr ⟨by rfl, rfl⟩) (by assumption) ?rk1n66u1
  try simp only [Act.put, List.setIfInBounds_toArray, List.set_cons_zero, List.set_cons_succ]
  refine wpAnyH_take (i := 66) (oi := ⟨some 78, _, _, _, _, _⟩) (v := ?vk1n67u1) rfl (by kernel_rfl) (by kernel_rfl) (by kernel_rfl) (fun _ _ _ h => h) (Or.inl ⟨by rfl, ?yk1n67u1⟩) (by assumption) ?rk1n67u1
  case yk1n67u1 => (intro w hSw; (try dsimp only at hSw); go_simp; try with_reducible rfl)
  try simp only [Act.put, List.setIfInBounds_toArray, List.set_cons_zero, List.set_cons_succ]
  refine wpAnyH_take (i := 67) (oi := ⟨some 79, _, _, _, _, _⟩) (v := ?vk1n68u1) rfl (by kernel_rfl) (by kernel_rfl) (by kernel_rfl) (fun _ _ _ h => h) (Or.inl ⟨by rfl, ?yk1n68u1⟩) (by assumption) ?rk1n68u1
  case yk1n68u1 => (intro w hSw; (try dsimp only at hSw); go_simp; try with_reducible rfl)
  try simp only [Act.put, List.setIfInBounds_toArray, List.set_cons_zero, List.set_cons_succ]
  refine wpAnyH_take (i := 68) (oi := ⟨some 80, _, _, _, _, _⟩) (v := undef) rfl (by kernel_rfl) (by kernel_rfl) (by kernel_rfl) (fun _ _ _ h => h) (Or.inr ⟨by rfl, rfl⟩) (by assumption) ?rk1n69u1
  try simp only [Act.put, List.setIfInBounds_toArray, List.set_cons_zero, List.set_cons_succ]
  refine wpAnyH_take (i := 69) (oi := ⟨some 81, _, _, _, _, _⟩) (v := undef) rfl (by kernel_rfl) (by kernel_rfl) (by kernel_rfl) (fun _ _ _ h => h) (Or.inr ⟨by rfl, rfl⟩) (by assumption) ?rk1n70u1
  try simp only [Act.put, List.setIfInBounds_toArray, List.set_cons_zero, List.set_cons_succ]
  refine wpAnyH_take (i := 70) (oi := ⟨some 82, _, _, _, _, _⟩) (v := undef) rfl (by kernel_rfl) (by kernel_rfl) (by kernel_rfl) (fun _ _ _ h => h) (Or.inr ⟨by rfl, rfl⟩) (by assumption) ?rk1n71u1
  try simp only [Act.put, List.setIfInBounds_toArray, List.set_cons_zero, List.set_cons_succ]
  refine wpAnyH_take (i := 71) (oi := ⟨some 83, _, _, _, _, _⟩) (v := undef) rfl (by kernel_rfl) (by kernel_rfl) (by kernel_rfl) (fun _ _ _ h => h) (Or.inr ⟨by rfl, rfl⟩) (by assumption) ?rk1n72u1
  try simp only [Act.put, List.setIfInBounds_toArray, List.set_cons_zero, List.set_cons_succ]
  refine wpAnyH_take (i := 72) (oi := ⟨some 84, _, _, _, _, _⟩) (v := undef) rfl (by kernel_rfl) (by kernel_rfl) (by kernel_rfl) (fun _ _ _ h => h) (Or.inr ⟨by rfl, rfl⟩) (by assumption) ?rk1n73u1
  try simp only [Act.put, List.setIfInBounds_toArray, List.set_cons_zero, List.set_cons_succ]
  refine wpAnyH_take (i := 73) (oi := ⟨some 85, _, _, _, _, _⟩) (v := undef) rfl (by kernel_rfl) (by kernel_rfl) (by kernel_rfl) (fun _ _ _ h => h) (Or.inr ⟨by rfl, rfl⟩) (by assumption) ?rk1n74u1
  try simp only [Act.put, List.setIfInBounds_toArray, List.set_cons_zero, List.set_cons_succ]
  refine wpAnyH_take (i := 74) (oi := ⟨some 86, _, _, _, _, _⟩) (v := ?vk1n75u1) rfl (by kernel_rfl) (by kernel_rfl) (by kernel_rfl) (fun _ _ _ h => h) (Or.inl ⟨by rfl, ?yk1n75u1⟩) (by assumption) ?rk1n75u1
  case yk1n75u1 => (intro w hSw; (try dsimp only at hSw); go_simp; try with_reducible rfl)
  try simp only [Act.put, List.setIfInBounds_toArray, List.set_cons_zero, List.set_cons_succ]
  refine wpAnyH_take (i := 75) (oi := ⟨some 2, _, _, _, _, _⟩) (v := ?vk1n76u1) rfl (by kernel_rfl) (by kernel_rfl) (by kernel_rfl) (fun _ _ _ h => h) (Or.inl ⟨by rfl, ?yk1n76u1⟩) (by assumption) ?rk1n76u1
  case yk1n76u1 => (intro w hSw; (try dsimp only at hSw); go_simp; try with_reducible rfl)
  try simp only [Act.put, List.setIfInBounds_toArray, List.set_cons_zero, List.set_cons_succ]
  refine wpAnyH_done (by kernel_rfl) ?_ _
  have HE := hid (U3.out.trans (show Up Nul W2 _ from hHeld))
  clear hHeld
  go_wp2
  go_ret
  exact ⟨by first | rfl | simp, HE.out⟩
set_option maxRecDepth 100000 in
set_option maxHeartbeats 4000000 in
theorem ok_case2 (w : World) (s : ByteArray) (n sid co : Int) (sa : Option Addr) (ns cs : Nat) (la : Option Addr) (nl cl : Nat) (t : Tb) (k : Nat) (c1 c2 c3 c4 c5 c6 c7 c8 c9 c10 : Bool) (hk : spn 1 8 (k : Int) = true) (hS : Shp w) (hc1 : c1 = true) (hc2 : c2 = false)
    (H : OkC w s n sid co sa ns cs la nl cl t k c1 c2 c3 c4 c5 c6 c7 c8 c9 c10) :
    Calls Tryd.prog 16 #[.agg #[.int .i64 (k : Nat), .string s, .int .i64 n, .int .i64 sid, .slice sa ns cs, .int .i64 co, .slice la nl cl, .int .i64 t.hot, .int .i64 t.warm, .int .i64 t.gap, .int .i64 t.add, .int .i64 t.top, .int .i64 t.half]] w
      fun e w' => e = .returned (.bool (c1 && c2 && c3 && c4 && c5 && c6 && c7 && c8 && c9 && c10)) ∧ Up Nul w w' := by
  subst hc1 hc2
  have HK := hid (fun W => kind_any (k : Int) W)
  rw [hk] at HK
  have hk9 : k < 9 := by
    unfold spn at hk
    simp at hk
    omega
  have i0 : (0 : Int) ≤ (k : Int) := by omega
  have i1 : (k : Int) < 9 := by omega
  have HH := hid H
  clear H
  obtain ⟨C, hC⟩ : ∃ C : Array Value, C = #[.int .i64 (k : Nat), .string s, .int .i64 n, .int .i64 sid, .slice sa ns cs, .int .i64 co, .slice la nl cl, .int .i64 t.hot, .int .i64 t.warm, .int .i64 t.gap, .int .i64 t.add, .int .i64 t.top, .int .i64 t.half] := ⟨_, rfl⟩
  have HUA := hid ((Up.refl Nul w).alloc (.cells C 33))
  have HBA : Hid ((w.alloc (.cells C 33)).heap[w.heap.size]? = some (.cells C 33 (0, 0))) := heap_alloc_new _ _
  have HLT : Hid (w.heap.size < (w.alloc (.cells C 33)).heap.size) := by show _ < _; simp
  have HSH := hid hS
  go_enter Tryd.func16, Tryd.ntmps16
  go_wp2_with fail
  rw [← hC]
  refine (HK.out _).mono ?_
  rintro e w1 ⟨rfl, u1⟩
  have hb := (u1.block _ HLT.out id).trans HBA.out
  have HU1 := hid (HUA.out.trans u1)
  have hlt := Nat.lt_of_lt_of_le HLT.out u1.size
  clear u1 HBA HUA HLT
  have y0 := (HSH.out.nxt HU1.out).c k 0 hk9 (by omega)
  have y1 := (HSH.out.nxt HU1.out).c k 1 hk9 (by omega)
  have y2 := (HSH.out.nxt HU1.out).c k 2 hk9 (by omega)
  have y3 := (HSH.out.nxt HU1.out).c k 3 hk9 (by omega)
  have y4 := (HSH.out.nxt HU1.out).c k 4 hk9 (by omega)
  have y5 := (HSH.out.nxt HU1.out).c k 5 hk9 (by omega)
  have y6 := (HSH.out.nxt HU1.out).c k 6 hk9 (by omega)
  have y7 := (HSH.out.nxt HU1.out).c k 7 hk9 (by omega)
  have y8 := (HSH.out.nxt HU1.out).c k 8 hk9 (by omega)
  have y9 := (HSH.out.nxt HU1.out).c k 9 hk9 (by omega)
  have y10 := (HSH.out.nxt HU1.out).c k 10 hk9 (by omega)
  have y11 := (HSH.out.nxt HU1.out).c k 11 hk9 (by omega)
  have y12 := (HSH.out.nxt HU1.out).c k 12 hk9 (by omega)
  have y13 := (HSH.out.nxt HU1.out).c k 13 hk9 (by omega)
  have y14 := (HSH.out.nxt HU1.out).c k 14 hk9 (by omega)
  rw [Nat.add_zero] at y0
  generalize w.heap.size = p at hb hlt ⊢
  have x0 : w1.cell? ⟨p, 0, none⟩ = some (.int .i64 (k : Nat)) := by simp [World.cell?, hb, hC]
  clear hk9
  go_wp2_with fail
  obtain ⟨W2, hW2⟩ : ∃ W, W = w1.alloc (.cells #[.int .i64 (sh k 0), .int .i64 (sh k 1), .int .i64 (sh k 2), .int .i64 (sh k 3), .int .i64 (sh k 4), .int .i64 (sh k 5), .int .i64 (sh k 6), .int .i64 (sh k 7), .int .i64 (sh k 8), .int .i64 (sh k 9), .int .i64 (sh k 10), .int .i64 (sh k 11), .int .i64 (sh k 12), .int .i64 (sh k 13), .int .i64 (sh k 14)] 73) := ⟨_, rfl⟩
  have U2 : Hid (Up Nul w1 W2) := by show Up _ _ _; rw [hW2]; exact (Up.refl Nul w1).alloc _
  have hq : W2.heap[w1.heap.size]? = some (.cells #[.int .i64 (sh k 0), .int .i64 (sh k 1), .int .i64 (sh k 2), .int .i64 (sh k 3), .int .i64 (sh k 4), .int .i64 (sh k 5), .int .i64 (sh k 6), .int .i64 (sh k 7), .int .i64 (sh k 8), .int .i64 (sh k 9), .int .i64 (sh k 10), .int .i64 (sh k 11), .int .i64 (sh k 12), .int .i64 (sh k 13), .int .i64 (sh k 14)] 73 (0, 0)) := by rw [hW2]; exact heap_alloc_new _ _
  have hp := (U2.out.block p hlt id).trans hb
  rw [hC] at hp
  have hq2 : w1.heap.size < W2.heap.size := by rw [hW2]; simp
  have hp2 := Nat.lt_of_lt_of_le hlt U2.out.size
  have U3 := hid (HU1.out.trans U2.out)
  rw [← hW2]
  clear hW2 x0 y0 y1 y2 y3 y4 y5 y6 y7 y8 y9 y10 y11 y12 y13 y14 hb U2 HU1 hlt
  generalize w1.heap.size = q at hq hq2 ⊢
  have Hp1 : Hid (∀ W, Up Nul W2 W → W.cell? ⟨p, 1, none⟩ = some (.string s)) := fun W u => by have a := (u.block p hp2 id).trans hp; simp only [World.cell?, a]; rfl
  have Hp2 : Hid (∀ W, Up Nul W2 W → W.cell? ⟨p, 2, none⟩ = some (.int .i64 n)) := fun W u => by have a := (u.block p hp2 id).trans hp; simp only [World.cell?, a]; rfl
  have Hp3 : Hid (∀ W, Up Nul W2 W → W.cell? ⟨p, 3, none⟩ = some (.int .i64 sid)) := fun W u => by have a := (u.block p hp2 id).trans hp; simp only [World.cell?, a]; rfl
  have Hp4 : Hid (∀ W, Up Nul W2 W → W.cell? ⟨p, 4, none⟩ = some (.slice sa ns cs)) := fun W u => by have a := (u.block p hp2 id).trans hp; simp only [World.cell?, a]; rfl
  have Hp5 : Hid (∀ W, Up Nul W2 W → W.cell? ⟨p, 5, none⟩ = some (.int .i64 co)) := fun W u => by have a := (u.block p hp2 id).trans hp; simp only [World.cell?, a]; rfl
  have Hp6 : Hid (∀ W, Up Nul W2 W → W.cell? ⟨p, 6, none⟩ = some (.slice la nl cl)) := fun W u => by have a := (u.block p hp2 id).trans hp; simp only [World.cell?, a]; rfl
  have Hp7 : Hid (∀ W, Up Nul W2 W → W.cell? ⟨p, 7, none⟩ = some (.int .i64 t.hot)) := fun W u => by have a := (u.block p hp2 id).trans hp; simp only [World.cell?, a]; rfl
  have Hp8 : Hid (∀ W, Up Nul W2 W → W.cell? ⟨p, 8, none⟩ = some (.int .i64 t.warm)) := fun W u => by have a := (u.block p hp2 id).trans hp; simp only [World.cell?, a]; rfl
  have Hp9 : Hid (∀ W, Up Nul W2 W → W.cell? ⟨p, 9, none⟩ = some (.int .i64 t.gap)) := fun W u => by have a := (u.block p hp2 id).trans hp; simp only [World.cell?, a]; rfl
  have Hp10 : Hid (∀ W, Up Nul W2 W → W.cell? ⟨p, 10, none⟩ = some (.int .i64 t.add)) := fun W u => by have a := (u.block p hp2 id).trans hp; simp only [World.cell?, a]; rfl
  have Hp11 : Hid (∀ W, Up Nul W2 W → W.cell? ⟨p, 11, none⟩ = some (.int .i64 t.top)) := fun W u => by have a := (u.block p hp2 id).trans hp; simp only [World.cell?, a]; rfl
  have Hp12 : Hid (∀ W, Up Nul W2 W → W.cell? ⟨p, 12, none⟩ = some (.int .i64 t.half)) := fun W u => by have a := (u.block p hp2 id).trans hp; simp only [World.cell?, a]; rfl
  have Hq0 : Hid (∀ W, Up Nul W2 W → W.cell? ⟨q, 0, none⟩ = some (.int .i64 (sh k 0))) := fun W u => by have a := (u.block q hq2 id).trans hq; simp only [World.cell?, a]; rfl
  have Hq1 : Hid (∀ W, Up Nul W2 W → W.cell? ⟨q, 1, none⟩ = some (.int .i64 (sh k 1))) := fun W u => by have a := (u.block q hq2 id).trans hq; simp only [World.cell?, a]; rfl
  have Hq2 : Hid (∀ W, Up Nul W2 W → W.cell? ⟨q, 2, none⟩ = some (.int .i64 (sh k 2))) := fun W u => by have a := (u.block q hq2 id).trans hq; simp only [World.cell?, a]; rfl
  have Hq3 : Hid (∀ W, Up Nul W2 W → W.cell? ⟨q, 3, none⟩ = some (.int .i64 (sh k 3))) := fun W u => by have a := (u.block q hq2 id).trans hq; simp only [World.cell?, a]; rfl
  have Hq4 : Hid (∀ W, Up Nul W2 W → W.cell? ⟨q, 4, none⟩ = some (.int .i64 (sh k 4))) := fun W u => by have a := (u.block q hq2 id).trans hq; simp only [World.cell?, a]; rfl
  have Hq5 : Hid (∀ W, Up Nul W2 W → W.cell? ⟨q, 5, none⟩ = some (.int .i64 (sh k 5))) := fun W u => by have a := (u.block q hq2 id).trans hq; simp only [World.cell?, a]; rfl
  have Hq6 : Hid (∀ W, Up Nul W2 W → W.cell? ⟨q, 6, none⟩ = some (.int .i64 (sh k 6))) := fun W u => by have a := (u.block q hq2 id).trans hq; simp only [World.cell?, a]; rfl
  have Hq7 : Hid (∀ W, Up Nul W2 W → W.cell? ⟨q, 7, none⟩ = some (.int .i64 (sh k 7))) := fun W u => by have a := (u.block q hq2 id).trans hq; simp only [World.cell?, a]; rfl
  have Hq8 : Hid (∀ W, Up Nul W2 W → W.cell? ⟨q, 8, none⟩ = some (.int .i64 (sh k 8))) := fun W u => by have a := (u.block q hq2 id).trans hq; simp only [World.cell?, a]; rfl
  have Hq9 : Hid (∀ W, Up Nul W2 W → W.cell? ⟨q, 9, none⟩ = some (.int .i64 (sh k 9))) := fun W u => by have a := (u.block q hq2 id).trans hq; simp only [World.cell?, a]; rfl
  have Hq10 : Hid (∀ W, Up Nul W2 W → W.cell? ⟨q, 10, none⟩ = some (.int .i64 (sh k 10))) := fun W u => by have a := (u.block q hq2 id).trans hq; simp only [World.cell?, a]; rfl
  have Hq11 : Hid (∀ W, Up Nul W2 W → W.cell? ⟨q, 11, none⟩ = some (.int .i64 (sh k 11))) := fun W u => by have a := (u.block q hq2 id).trans hq; simp only [World.cell?, a]; rfl
  have Hq12 : Hid (∀ W, Up Nul W2 W → W.cell? ⟨q, 12, none⟩ = some (.int .i64 (sh k 12))) := fun W u => by have a := (u.block q hq2 id).trans hq; simp only [World.cell?, a]; rfl
  have Hq13 : Hid (∀ W, Up Nul W2 W → W.cell? ⟨q, 13, none⟩ = some (.int .i64 (sh k 13))) := fun W u => by have a := (u.block q hq2 id).trans hq; simp only [World.cell?, a]; rfl
  have Hq14 : Hid (∀ W, Up Nul W2 W → W.cell? ⟨q, 14, none⟩ = some (.int .i64 (sh k 14))) := fun W u => by have a := (u.block q hq2 id).trans hq; simp only [World.cell?, a]; rfl
  clear hp hq hp2 hq2
  have HR := hid (Up.refl Nul W2)
  simp only [List.append]
  refine wp_region_held_drew (S := (fun W => Up Nul W2 W)) (by kernel_rfl) (by exact HR.out.drew) (fun hHeld => ?_)
  refine wpAnyH_take (i := 0) (oi := ⟨some 12, _, _, _, _, _⟩) (v := ?vk2n1u1) rfl (by kernel_rfl) (by kernel_rfl) (by kernel_rfl) (fun _ _ _ h => h) (Or.inl ⟨by rfl, ?yk2n1u1⟩) (by assumption) ?rk2n1u1
  case yk2n1u1 => (intro w hSw; (try dsimp only at hSw); go_simp; try with_reducible rfl)
  try simp only [Act.put, List.setIfInBounds_toArray, List.set_cons_zero, List.set_cons_succ]
  refine wpAnyH_take (i := 1) (oi := ⟨some 13, _, _, _, _, _⟩) (v := ?vk2x2) rfl (by kernel_rfl) (by kernel_rfl) (by kernel_rfl) (fun _ _ _ h => h) (Or.inl ⟨by rfl, ?yk2x2⟩) (by assumption) ?rk2x2
  case yk2x2 => (intro w hSw; have aq0 := Hq0.out w hSw; have aq1 := Hq1.out w hSw; go_simp; try with_reducible rfl)
  try simp only [Act.put, List.setIfInBounds_toArray, List.set_cons_zero, List.set_cons_succ]
  refine wpAnyH_take (i := 2) (oi := ⟨some 14, _, _, _, _, _⟩) (v := ?vk2n3u1) rfl (by kernel_rfl) (by kernel_rfl) (by kernel_rfl) (fun _ _ _ h => h) (Or.inl ⟨by rfl, ?yk2n3u1⟩) (by assumption) ?rk2n3u1
  case yk2n3u1 => (intro w hSw; (try dsimp only at hSw); go_simp; try with_reducible rfl)
  try simp only [Act.put, List.setIfInBounds_toArray, List.set_cons_zero, List.set_cons_succ]
  refine wpAnyH_take (i := 3) (oi := ⟨some 15, _, _, _, _, _⟩) (v := ?vk2x4) rfl (by kernel_rfl) (by kernel_rfl) (by kernel_rfl) (fun _ _ _ h => h) (Or.inl ⟨by rfl, ?yk2x4⟩) (by assumption) ?rk2x4
  case yk2x4 => (intro w hSw; have ap1 := Hp1.out w hSw; go_simp; try with_reducible rfl)
  try simp only [Act.put, List.setIfInBounds_toArray, List.set_cons_zero, List.set_cons_succ]
  refine wpAnyH_take (i := 4) (oi := ⟨some 16, _, _, _, _, _⟩) (v := ?vk2n5u1) rfl (by kernel_rfl) (by kernel_rfl) (by kernel_rfl) (fun _ _ _ h => h) (Or.inl ⟨by rfl, ?yk2n5u1⟩) (by assumption) ?rk2n5u1
  case yk2n5u1 => (intro w hSw; (try dsimp only at hSw); go_simp; try with_reducible rfl)
  try simp only [Act.put, List.setIfInBounds_toArray, List.set_cons_zero, List.set_cons_succ]
  refine wpAnyH_ready (rs := [5]) (by kernel_rfl) (by simp) ?_
  refine AllReadyH.cons (o := ⟨some 17, _, _, _, _, _⟩) rfl (fun K hK => ?_) AllReadyH.nil
  go_simp
  skip
  refine hK.out _ _ ?kk2n6u1 (fun hHeld => ?_)
  case kk2n6u1 => exact (by first | exact Up.alloc (show Up Nul W2 _ from hHeld) _ | exact (Up.alloc (show Up Nul W2 _ from HR.out) _).drew)
  clear hK K
  try simp only [Act.put, List.setIfInBounds_toArray, List.set_cons_zero, List.set_cons_succ]
  refine wpAnyH_ready (rs := [6]) (by kernel_rfl) (by simp) ?_
  refine AllReadyH.cons (o := ⟨some 18, _, _, _, _, _⟩) rfl (fun K hK => ?_) AllReadyH.nil
  go_simp
  go_at_call 25; refine (HH.out.h1 _ (U3.out.trans (show Up Nul W2 _ from hHeld)) _ (by first | exact World.cell?_alloc_new _ _ _ 0 | (simp; done) | go_simp)).mono ?_; rintro e wb ⟨rfl, kb⟩
  refine hK.out _ _ ?kk2n7u1 (fun hHeld => ?_)
  case kk2n7u1 => exact (Up.trans (show Up Nul W2 _ from hHeld) kb)
  clear hK K
  try simp only [Act.put, List.setIfInBounds_toArray, List.set_cons_zero, List.set_cons_succ]
  refine wpAnyH_take (i := 7) (oi := ⟨some 19, _, _, _, _, _⟩) (v := ?vk2n8u1) rfl (by kernel_rfl) (by kernel_rfl) (by kernel_rfl) (fun _ _ _ h => h) (Or.inl ⟨by rfl, ?yk2n8u1⟩) (by assumption) ?rk2n8u1
  case yk2n8u1 => (intro w hSw; (try dsimp only at hSw); go_simp; try with_reducible rfl)
  try simp only [Act.put, List.setIfInBounds_toArray, List.set_cons_zero, List.set_cons_succ]
  refine wpAnyH_take (i := 8) (oi := ⟨some 20, _, _, _, _, _⟩) (v := ?vk2n9u1) rfl (by kernel_rfl) (by kernel_rfl) (by kernel_rfl) (fun _ _ _ h => h) (Or.inl ⟨by rfl, ?yk2n9u1⟩) (by assumption) ?rk2n9u1
  case yk2n9u1 => (intro w hSw; (try dsimp only at hSw); go_simp; try with_reducible rfl)
  try simp only [Act.put, List.setIfInBounds_toArray, List.set_cons_zero, List.set_cons_succ]
  refine wpAnyH_take (i := 9) (oi := ⟨some 21, _, _, _, _, _⟩) (v := ?vk2x10) rfl (by kernel_rfl) (by kernel_rfl) (by kernel_rfl) (fun _ _ _ h => h) (Or.inl ⟨by rfl, ?yk2x10⟩) (by assumption) ?rk2x10
  case yk2x10 => (intro w hSw; have ap1 := Hp1.out w hSw; go_simp; try with_reducible rfl)
  try simp only [Act.put, List.setIfInBounds_toArray, List.set_cons_zero, List.set_cons_succ]
  refine wpAnyH_ready (rs := [10]) (by kernel_rfl) (by simp) ?_
  refine AllReadyH.cons (o := ⟨some 22, _, _, _, _, _⟩) rfl (fun K hK => ?_) AllReadyH.nil
  go_simp
  go_at_call 26; refine (HH.out.h2 _).mono ?_; rintro e wb ⟨rfl, kb⟩
  refine hK.out _ _ ?kk2n11u1 (fun hHeld => ?_)
  case kk2n11u1 => exact (Up.trans (show Up Nul W2 _ from hHeld) kb)
  clear hK K
  try simp only [Act.put, List.setIfInBounds_toArray, List.set_cons_zero, List.set_cons_succ]
  refine wpAnyH_take (i := 11) (oi := ⟨some 23, _, _, _, _, _⟩) (v := ?vk2n12u1) rfl (by kernel_rfl) (by kernel_rfl) (by kernel_rfl) (fun _ _ _ h => h) (Or.inl ⟨by rfl, ?yk2n12u1⟩) (by assumption) ?rk2n12u1
  case yk2n12u1 => (intro w hSw; (try dsimp only at hSw); go_simp; try with_reducible rfl)
  try simp only [Act.put, List.setIfInBounds_toArray, List.set_cons_zero, List.set_cons_succ]
  refine wpAnyH_take (i := 12) (oi := ⟨some 24, _, _, _, _, _⟩) (v := ?vk2n13u1) rfl (by kernel_rfl) (by kernel_rfl) (by kernel_rfl) (fun _ _ _ h => h) (Or.inl ⟨by rfl, ?yk2n13u1⟩) (by assumption) ?rk2n13u1
  case yk2n13u1 => (intro w hSw; (try dsimp only at hSw); go_simp; try with_reducible rfl)
  try simp only [Act.put, List.setIfInBounds_toArray, List.set_cons_zero, List.set_cons_succ]
  refine wpAnyH_take (i := 13) (oi := ⟨some 25, _, _, _, _, _⟩) (v := undef) rfl (by kernel_rfl) (by kernel_rfl) (by kernel_rfl) (fun _ _ _ h => h) (Or.inr ⟨by rfl, rfl⟩) (by assumption) ?rk2n14u1
  try simp only [Act.put, List.setIfInBounds_toArray, List.set_cons_zero, List.set_cons_succ]
  refine wpAnyH_take (i := 14) (oi := ⟨some 26, _, _, _, _, _⟩) (v := undef) rfl (by kernel_rfl) (by kernel_rfl) (by kernel_rfl) (fun _ _ _ h => h) (Or.inr ⟨by rfl, rfl⟩) (by assumption) ?rk2n15u1
  try simp only [Act.put, List.setIfInBounds_toArray, List.set_cons_zero, List.set_cons_succ]
  refine wpAnyH_take (i := 15) (oi := ⟨some 27, _, _, _, _, _⟩) (v := undef) rfl (by kernel_rfl) (by kernel_rfl) (by kernel_rfl) (fun _ _ _ h => h) (Or.inr ⟨by rfl, rfl⟩) (by assumption) ?rk2n16u1
  try simp only [Act.put, List.setIfInBounds_toArray, List.set_cons_zero, List.set_cons_succ]
  refine wpAnyH_take (i := 16) (oi := ⟨some 28, _, _, _, _, _⟩) (v := undef) rfl (by kernel_rfl) (by kernel_rfl) (by kernel_rfl) (fun _ _ _ h => h) (Or.inr ⟨by rfl, rfl⟩) (by assumption) ?rk2n17u1
  try simp only [Act.put, List.setIfInBounds_toArray, List.set_cons_zero, List.set_cons_succ]
  refine wpAnyH_take (i := 17) (oi := ⟨some 29, _, _, _, _, _⟩) (v := undef) rfl (by kernel_rfl) (by kernel_rfl) (by kernel_rfl) (fun _ _ _ h => h) (Or.inr ⟨by rfl, rfl⟩) (by assumption) ?rk2n18u1
  try simp only [Act.put, List.setIfInBounds_toArray, List.set_cons_zero, List.set_cons_succ]
  refine wpAnyH_take (i := 18) (oi := ⟨some 30, _, _, _, _, _⟩) (v := undef) rfl (by kernel_rfl) (by kernel_rfl) (by kernel_rfl) (fun _ _ _ h => h) (Or.inr ⟨by rfl, rfl⟩) (by assumption) ?rk2n19u1
  try simp only [Act.put, List.setIfInBounds_toArray, List.set_cons_zero, List.set_cons_succ]
  refine wpAnyH_take (i := 19) (oi := ⟨some 31, _, _, _, _, _⟩) (v := ?vk2n20u1) rfl (by kernel_rfl) (by kernel_rfl) (by kernel_rfl) (fun _ _ _ h => h) (Or.inl ⟨by rfl, ?yk2n20u1⟩) (by assumption) ?rk2n20u1
  case yk2n20u1 => (intro w hSw; (try dsimp only at hSw); go_simp; try with_reducible rfl)
  try simp only [Act.put, List.setIfInBounds_toArray, List.set_cons_zero, List.set_cons_succ]
  refine wpAnyH_take (i := 20) (oi := ⟨some 32, _, _, _, _, _⟩) (v := ?vk2n21u1) rfl (by kernel_rfl) (by kernel_rfl) (by kernel_rfl) (fun _ _ _ h => h) (Or.inl ⟨by rfl, ?yk2n21u1⟩) (by assumption) ?rk2n21u1
  case yk2n21u1 => (intro w hSw; (try dsimp only at hSw); go_simp; try with_reducible rfl)
  try simp only [Act.put, List.setIfInBounds_toArray, List.set_cons_zero, List.set_cons_succ]
  refine wpAnyH_take (i := 21) (oi := ⟨some 33, _, _, _, _, _⟩) (v := undef) rfl (by kernel_rfl) (by kernel_rfl) (by kernel_rfl) (fun _ _ _ h => h) (Or.inr ⟨by rfl, rfl⟩) (by assumption) ?rk2n22u1
  try simp only [Act.put, List.setIfInBounds_toArray, List.set_cons_zero, List.set_cons_succ]
  refine wpAnyH_take (i := 22) (oi := ⟨some 34, _, _, _, _, _⟩) (v := undef) rfl (by kernel_rfl) (by kernel_rfl) (by kernel_rfl) (fun _ _ _ h => h) (Or.inr ⟨by rfl, rfl⟩) (by assumption) ?rk2n23u1
  try simp only [Act.put, List.setIfInBounds_toArray, List.set_cons_zero, List.set_cons_succ]
  refine wpAnyH_take (i := 23) (oi := ⟨some 35, _, _, _, _, _⟩) (v := undef) rfl (by kernel_rfl) (by kernel_rfl) (by kernel_rfl) (fun _ _ _ h => h) (Or.inr ⟨by rfl, rfl⟩) (by assumption) ?rk2n24u1
  try simp only [Act.put, List.setIfInBounds_toArray, List.set_cons_zero, List.set_cons_succ]
  refine wpAnyH_take (i := 24) (oi := ⟨some 36, _, _, _, _, _⟩) (v := undef) rfl (by kernel_rfl) (by kernel_rfl) (by kernel_rfl) (fun _ _ _ h => h) (Or.inr ⟨by rfl, rfl⟩) (by assumption) ?rk2n25u1
  try simp only [Act.put, List.setIfInBounds_toArray, List.set_cons_zero, List.set_cons_succ]
  refine wpAnyH_take (i := 25) (oi := ⟨some 37, _, _, _, _, _⟩) (v := undef) rfl (by kernel_rfl) (by kernel_rfl) (by kernel_rfl) (fun _ _ _ h => h) (Or.inr ⟨by rfl, rfl⟩) (by assumption) ?rk2n26u1
  try simp only [Act.put, List.setIfInBounds_toArray, List.set_cons_zero, List.set_cons_succ]
  refine wpAnyH_take (i := 26) (oi := ⟨some 38, _, _, _, _, _⟩) (v := undef) rfl (by kernel_rfl) (by kernel_rfl) (by kernel_rfl) (fun _ _ _ h => h) (Or.inr ⟨by rfl, rfl⟩) (by assumption) ?rk2n27u1
  try simp only [Act.put, List.setIfInBounds_toArray, List.set_cons_zero, List.set_cons_succ]
  refine wpAnyH_take (i := 27) (oi := ⟨some 39, _, _, _, _, _⟩) (v := ?vk2n28u1) rfl (by kernel_rfl) (by kernel_rfl) (by kernel_rfl) (fun _ _ _ h => h) (Or.inl ⟨by rfl, ?yk2n28u1⟩) (by assumption) ?rk2n28u1
  case yk2n28u1 => (intro w hSw; (try dsimp only at hSw); go_simp; try with_reducible rfl)
  try simp only [Act.put, List.setIfInBounds_toArray, List.set_cons_zero, List.set_cons_succ]
  refine wpAnyH_take (i := 28) (oi := ⟨some 40, _, _, _, _, _⟩) (v := ?vk2n29u1) rfl (by kernel_rfl) (by kernel_rfl) (by kernel_rfl) (fun _ _ _ h => h) (Or.inl ⟨by rfl, ?yk2n29u1⟩) (by assumption) ?rk2n29u1
  case yk2n29u1 => (intro w hSw; (try dsimp only at hSw); go_simp; try with_reducible rfl)
  try simp only [Act.put, List.setIfInBounds_toArray, List.set_cons_zero, List.set_cons_succ]
  refine wpAnyH_take (i := 29) (oi := ⟨some 41, _, _, _, _, _⟩) (v := undef) rfl (by kernel_rfl) (by kernel_rfl) (by kernel_rfl) (fun _ _ _ h => h) (Or.inr ⟨by rfl, rfl⟩) (by assumption) ?rk2n30u1
  try simp only [Act.put, List.setIfInBounds_toArray, List.set_cons_zero, List.set_cons_succ]
  refine wpAnyH_take (i := 30) (oi := ⟨some 42, _, _, _, _, _⟩) (v := undef) rfl (by kernel_rfl) (by kernel_rfl) (by kernel_rfl) (fun _ _ _ h => h) (Or.inr ⟨by rfl, rfl⟩) (by assumption) ?rk2n31u1
  try simp only [Act.put, List.setIfInBounds_toArray, List.set_cons_zero, List.set_cons_succ]
  refine wpAnyH_take (i := 31) (oi := ⟨some 43, _, _, _, _, _⟩) (v := undef) rfl (by kernel_rfl) (by kernel_rfl) (by kernel_rfl) (fun _ _ _ h => h) (Or.inr ⟨by rfl, rfl⟩) (by assumption) ?rk2n32u1
  try simp only [Act.put, List.setIfInBounds_toArray, List.set_cons_zero, List.set_cons_succ]
  refine wpAnyH_take (i := 32) (oi := ⟨some 44, _, _, _, _, _⟩) (v := undef) rfl (by kernel_rfl) (by kernel_rfl) (by kernel_rfl) (fun _ _ _ h => h) (Or.inr ⟨by rfl, rfl⟩) (by assumption) ?rk2n33u1
  try simp only [Act.put, List.setIfInBounds_toArray, List.set_cons_zero, List.set_cons_succ]
  refine wpAnyH_take (i := 33) (oi := ⟨some 45, _, _, _, _, _⟩) (v := undef) rfl (by kernel_rfl) (by kernel_rfl) (by kernel_rfl) (fun _ _ _ h => h) (Or.inr ⟨by rfl, rfl⟩) (by assumption) ?rk2n34u1
  try simp only [Act.put, List.setIfInBounds_toArray, List.set_cons_zero, List.set_cons_succ]
  refine wpAnyH_take (i := 34) (oi := ⟨some 46, _, _, _, _, _⟩) (v := undef) rfl (by kernel_rfl) (by kernel_rfl) (by kernel_rfl) (fun _ _ _ h => h) (Or.inr ⟨by rfl, rfl⟩) (by assumption) ?rk2n35u1
  try simp only [Act.put, List.setIfInBounds_toArray, List.set_cons_zero, List.set_cons_succ]
  refine wpAnyH_take (i := 35) (oi := ⟨some 47, _, _, _, _, _⟩) (v := ?vk2n36u1) rfl (by kernel_rfl) (by kernel_rfl) (by kernel_rfl) (fun _ _ _ h => h) (Or.inl ⟨by rfl, ?yk2n36u1⟩) (by assumption) ?rk2n36u1
  case yk2n36u1 => (intro w hSw; (try dsimp only at hSw); go_simp; try with_reducible rfl)
  try simp only [Act.put, List.setIfInBounds_toArray, List.set_cons_zero, List.set_cons_succ]
  refine wpAnyH_take (i := 36) (oi := ⟨some 48, _, _, _, _, _⟩) (v := ?vk2n37u1) rfl (by kernel_rfl) (by kernel_rfl) (by kernel_rfl) (fun _ _ _ h => h) (Or.inl ⟨by rfl, ?yk2n37u1⟩) (by assumption) ?rk2n37u1
  case yk2n37u1 => (intro w hSw; (try dsimp only at hSw); go_simp; try with_reducible rfl)
  try simp only [Act.put, List.setIfInBounds_toArray, List.set_cons_zero, List.set_cons_succ]
  refine wpAnyH_take (i := 37) (oi := ⟨some 49, _, _, _, _, _⟩) (v := undef) rfl (by kernel_rfl) (by kernel_rfl) (by kernel_rfl) (fun _ _ _ h => h) (Or.inr ⟨by rfl, rfl⟩) (by assumption) ?rk2n38u1
  try simp only [Act.put, List.setIfInBounds_toArray, List.set_cons_zero, List.set_cons_succ]
  refine wpAnyH_take (i := 38) (oi := ⟨some 50, _, _, _, _, _⟩) (v := undef) rfl (by kernel_rfl) (by kernel_rfl) (by kernel_rfl) (fun _ _ _ h => h) (Or.inr ⟨by rfl, rfl⟩) (by assumption) ?rk2n39u1
  try simp only [Act.put, List.setIfInBounds_toArray, List.set_cons_zero, List.set_cons_succ]
  refine wpAnyH_take (i := 39) (oi := ⟨some 51, _, _, _, _, _⟩) (v := undef) rfl (by kernel_rfl) (by kernel_rfl) (by kernel_rfl) (fun _ _ _ h => h) (Or.inr ⟨by rfl, rfl⟩) (by assumption) ?rk2n40u1
  try simp only [Act.put, List.setIfInBounds_toArray, List.set_cons_zero, List.set_cons_succ]
  refine wpAnyH_take (i := 40) (oi := ⟨some 52, _, _, _, _, _⟩) (v := undef) rfl (by kernel_rfl) (by kernel_rfl) (by kernel_rfl) (fun _ _ _ h => h) (Or.inr ⟨by rfl, rfl⟩) (by assumption) ?rk2n41u1
  try simp only [Act.put, List.setIfInBounds_toArray, List.set_cons_zero, List.set_cons_succ]
  refine wpAnyH_take (i := 41) (oi := ⟨some 53, _, _, _, _, _⟩) (v := undef) rfl (by kernel_rfl) (by kernel_rfl) (by kernel_rfl) (fun _ _ _ h => h) (Or.inr ⟨by rfl, rfl⟩) (by assumption) ?rk2n42u1
  try simp only [Act.put, List.setIfInBounds_toArray, List.set_cons_zero, List.set_cons_succ]
  refine wpAnyH_take (i := 42) (oi := ⟨some 54, _, _, _, _, _⟩) (v := undef) rfl (by kernel_rfl) (by kernel_rfl) (by kernel_rfl) (fun _ _ _ h => h) (Or.inr ⟨by rfl, rfl⟩) (by assumption) ?rk2n43u1
  try simp only [Act.put, List.setIfInBounds_toArray, List.set_cons_zero, List.set_cons_succ]
  refine wpAnyH_take (i := 43) (oi := ⟨some 55, _, _, _, _, _⟩) (v := ?vk2n44u1) rfl (by kernel_rfl) (by kernel_rfl) (by kernel_rfl) (fun _ _ _ h => h) (Or.inl ⟨by rfl, ?yk2n44u1⟩) (by assumption) ?rk2n44u1
  case yk2n44u1 => (intro w hSw; (try dsimp only at hSw); go_simp; try with_reducible rfl)
  try simp only [Act.put, List.setIfInBounds_toArray, List.set_cons_zero, List.set_cons_succ]
  refine wpAnyH_take (i := 44) (oi := ⟨some 56, _, _, _, _, _⟩) (v := ?vk2n45u1) rfl (by kernel_rfl) (by kernel_rfl) (by kernel_rfl) (fun _ _ _ h => h) (Or.inl ⟨by rfl, ?yk2n45u1⟩) (by assumption) ?rk2n45u1
  case yk2n45u1 => (intro w hSw; (try dsimp only at hSw); go_simp; try with_reducible rfl)
  try simp only [Act.put, List.setIfInBounds_toArray, List.set_cons_zero, List.set_cons_succ]
  refine wpAnyH_take (i := 45) (oi := ⟨some 57, _, _, _, _, _⟩) (v := undef) rfl (by kernel_rfl) (by kernel_rfl) (by kernel_rfl) (fun _ _ _ h => h) (Or.inr ⟨by rfl, rfl⟩) (by assumption) ?rk2n46u1
  try simp only [Act.put, List.setIfInBounds_toArray, List.set_cons_zero, List.set_cons_succ]
  refine wpAnyH_take (i := 46) (oi := ⟨some 58, _, _, _, _, _⟩) (v := undef) rfl (by kernel_rfl) (by kernel_rfl) (by kernel_rfl) (fun _ _ _ h => h) (Or.inr ⟨by rfl, rfl⟩) (by assumption) ?rk2n47u1
  try simp only [Act.put, List.setIfInBounds_toArray, List.set_cons_zero, List.set_cons_succ]
  refine wpAnyH_take (i := 47) (oi := ⟨some 59, _, _, _, _, _⟩) (v := undef) rfl (by kernel_rfl) (by kernel_rfl) (by kernel_rfl) (fun _ _ _ h => h) (Or.inr ⟨by rfl, rfl⟩) (by assumption) ?rk2n48u1
  try simp only [Act.put, List.setIfInBounds_toArray, List.set_cons_zero, List.set_cons_succ]
  refine wpAnyH_take (i := 48) (oi := ⟨some 60, _, _, _, _, _⟩) (v := undef) rfl (by kernel_rfl) (by kernel_rfl) (by kernel_rfl) (fun _ _ _ h => h) (Or.inr ⟨by rfl, rfl⟩) (by assumption) ?rk2n49u1
  try simp only [Act.put, List.setIfInBounds_toArray, List.set_cons_zero, List.set_cons_succ]
  refine wpAnyH_take (i := 49) (oi := ⟨some 61, _, _, _, _, _⟩) (v := undef) rfl (by kernel_rfl) (by kernel_rfl) (by kernel_rfl) (fun _ _ _ h => h) (Or.inr ⟨by rfl, rfl⟩) (by assumption) ?rk2n50u1
  try simp only [Act.put, List.setIfInBounds_toArray, List.set_cons_zero, List.set_cons_succ]
  refine wpAnyH_take (i := 50) (oi := ⟨some 62, _, _, _, _, _⟩) (v := ?vk2n51u1) rfl (by kernel_rfl) (by kernel_rfl) (by kernel_rfl) (fun _ _ _ h => h) (Or.inl ⟨by rfl, ?yk2n51u1⟩) (by assumption) ?rk2n51u1
  case yk2n51u1 => (intro w hSw; (try dsimp only at hSw); go_simp; try with_reducible rfl)
  try simp only [Act.put, List.setIfInBounds_toArray, List.set_cons_zero, List.set_cons_succ]
  refine wpAnyH_take (i := 51) (oi := ⟨some 63, _, _, _, _, _⟩) (v := ?vk2n52u1) rfl (by kernel_rfl) (by kernel_rfl) (by kernel_rfl) (fun _ _ _ h => h) (Or.inl ⟨by rfl, ?yk2n52u1⟩) (by assumption) ?rk2n52u1
  case yk2n52u1 => (intro w hSw; (try dsimp only at hSw); go_simp; try with_reducible rfl)
  try simp only [Act.put, List.setIfInBounds_toArray, List.set_cons_zero, List.set_cons_succ]
  refine wpAnyH_take (i := 52) (oi := ⟨some 64, _, _, _, _, _⟩) (v := undef) rfl (by kernel_rfl) (by kernel_rfl) (by kernel_rfl) (fun _ _ _ h => h) (Or.inr ⟨by rfl, rfl⟩) (by assumption) ?rk2n53u1
  try simp only [Act.put, List.setIfInBounds_toArray, List.set_cons_zero, List.set_cons_succ]
  refine wpAnyH_take (i := 53) (oi := ⟨some 65, _, _, _, _, _⟩) (v := undef) rfl (by kernel_rfl) (by kernel_rfl) (by kernel_rfl) (fun _ _ _ h => h) (Or.inr ⟨by rfl, rfl⟩) (by assumption) ?rk2n54u1
  try simp only [Act.put, List.setIfInBounds_toArray, List.set_cons_zero, List.set_cons_succ]
  refine wpAnyH_take (i := 54) (oi := ⟨some 66, _, _, _, _, _⟩) (v := undef) rfl (by kernel_rfl) (by kernel_rfl) (by kernel_rfl) (fun _ _ _ h => h) (Or.inr ⟨by rfl, rfl⟩) (by assumption) ?rk2n55u1
  try simp only [Act.put, List.setIfInBounds_toArray, List.set_cons_zero, List.set_cons_succ]
  refine wpAnyH_take (i := 55) (oi := ⟨some 67, _, _, _, _, _⟩) (v := undef) rfl (by kernel_rfl) (by kernel_rfl) (by kernel_rfl) (fun _ _ _ h => h) (Or.inr ⟨by rfl, rfl⟩) (by assumption) ?rk2n56u1
  try simp only [Act.put, List.setIfInBounds_toArray, List.set_cons_zero, List.set_cons_succ]
  refine wpAnyH_take (i := 56) (oi := ⟨some 68, _, _, _, _, _⟩) (v := undef) rfl (by kernel_rfl) (by kernel_rfl) (by kernel_rfl) (fun _ _ _ h => h) (Or.inr ⟨by rfl, rfl⟩) (by assumption) ?rk2n57u1
  try simp only [Act.put, List.setIfInBounds_toArray, List.set_cons_zero, List.set_cons_succ]
  refine wpAnyH_take (i := 57) (oi := ⟨some 69, _, _, _, _, _⟩) (v := undef) rfl (by kernel_rfl) (by kernel_rfl) (by kernel_rfl) (fun _ _ _ h => h) (Or.inr ⟨by rfl, rfl⟩) (by assumption) ?rk2n58u1
  try simp only [Act.put, List.setIfInBounds_toArray, List.set_cons_zero, List.set_cons_succ]
  refine wpAnyH_take (i := 58) (oi := ⟨some 70, _, _, _, _, _⟩) (v := undef) rfl (by kernel_rfl) (by kernel_rfl) (by kernel_rfl) (fun _ _ _ h => h) (Or.inr ⟨by rfl, rfl⟩) (by assumption) ?rk2n59u1
  try simp only [Act.put, List.setIfInBounds_toArray, List.set_cons_zero, List.set_cons_succ]
  refine wpAnyH_take (i := 59) (oi := ⟨some 71, _, _, _, _, _⟩) (v := undef) rfl (by kernel_rfl) (by kernel_rfl) (by kernel_rfl) (fun _ _ _ h => h) (Or.inr ⟨by rfl, rfl⟩) (by assumption) ?rk2n60u1
  try simp only [Act.put, List.setIfInBounds_toArray, List.set_cons_zero, List.set_cons_succ]
  refine wpAnyH_take (i := 60) (oi := ⟨some 72, _, _, _, _, _⟩) (v := ?vk2n61u1) rfl (by kernel_rfl) (by kernel_rfl) (by kernel_rfl) (fun _ _ _ h => h) (Or.inl ⟨by rfl, ?yk2n61u1⟩) (by assumption) ?rk2n61u1
  case yk2n61u1 => (intro w hSw; (try dsimp only at hSw); go_simp; try with_reducible rfl)
  try simp only [Act.put, List.setIfInBounds_toArray, List.set_cons_zero, List.set_cons_succ]
  refine wpAnyH_take (i := 61) (oi := ⟨some 73, _, _, _, _, _⟩) (v := ?vk2n62u1) rfl (by kernel_rfl) (by kernel_rfl) (by kernel_rfl) (fun _ _ _ h => h) (Or.inl ⟨by rfl, ?yk2n62u1⟩) (by assumption) ?rk2n62u1
  case yk2n62u1 => (intro w hSw; (try dsimp only at hSw); go_simp; try with_reducible rfl)
  try simp only [Act.put, List.setIfInBounds_toArray, List.set_cons_zero, List.set_cons_succ]
  refine wpAnyH_take (i := 62) (oi := ⟨some 74, _, _, _, _, _⟩) (v := undef) rfl (by kernel_rfl) (by kernel_rfl) (by kernel_rfl) (fun _ _ _ h => h) (Or.inr ⟨by rfl, rfl⟩) (by assumption) ?rk2n63u1
  try simp only [Act.put, List.setIfInBounds_toArray, List.set_cons_zero, List.set_cons_succ]
  refine wpAnyH_take (i := 63) (oi := ⟨some 75, _, _, _, _, _⟩) (v := undef) rfl (by kernel_rfl) (by kernel_rfl) (by kernel_rfl) (fun _ _ _ h => h) (Or.inr ⟨by rfl, rfl⟩) (by assumption) ?rk2n64u1
  try simp only [Act.put, List.setIfInBounds_toArray, List.set_cons_zero, List.set_cons_succ]
  refine wpAnyH_take (i := 64) (oi := ⟨some 76, _, _, _, _, _⟩) (v := undef) rfl (by kernel_rfl) (by kernel_rfl) (by kernel_rfl) (fun _ _ _ h => h) (Or.inr ⟨by rfl, rfl⟩) (by assumption) ?rk2n65u1
  try simp only [Act.put, List.setIfInBounds_toArray, List.set_cons_zero, List.set_cons_succ]
  refine wpAnyH_take (i := 65) (oi := ⟨some 77, _, _, _, _, _⟩) (v := undef) rfl (by kernel_rfl) (by kernel_rfl) (by kernel_rfl) (fun _ _ _ h => h) (Or.inr ⟨by rfl, rfl⟩) (by assumption) ?rk2n66u1
  try simp only [Act.put, List.setIfInBounds_toArray, List.set_cons_zero, List.set_cons_succ]
  refine wpAnyH_take (i := 66) (oi := ⟨some 78, _, _, _, _, _⟩) (v := ?vk2n67u1) rfl (by kernel_rfl) (by kernel_rfl) (by kernel_rfl) (fun _ _ _ h => h) (Or.inl ⟨by rfl, ?yk2n67u1⟩) (by assumption) ?rk2n67u1
  case yk2n67u1 => (intro w hSw; (try dsimp only at hSw); go_simp; try with_reducible rfl)
  try simp only [Act.put, List.setIfInBounds_toArray, List.set_cons_zero, List.set_cons_succ]
  refine wpAnyH_take (i := 67) (oi := ⟨some 79, _, _, _, _, _⟩) (v := ?vk2n68u1) rfl (by kernel_rfl) (by kernel_rfl) (by kernel_rfl) (fun _ _ _ h => h) (Or.inl ⟨by rfl, ?yk2n68u1⟩) (by assumption) ?rk2n68u1
  case yk2n68u1 => (intro w hSw; (try dsimp only at hSw); go_simp; try with_reducible rfl)
  try simp only [Act.put, List.setIfInBounds_toArray, List.set_cons_zero, List.set_cons_succ]
  refine wpAnyH_take (i := 68) (oi := ⟨some 80, _, _, _, _, _⟩) (v := undef) rfl (by kernel_rfl) (by kernel_rfl) (by kernel_rfl) (fun _ _ _ h => h) (Or.inr ⟨by rfl, rfl⟩) (by assumption) ?rk2n69u1
  try simp only [Act.put, List.setIfInBounds_toArray, List.set_cons_zero, List.set_cons_succ]
  refine wpAnyH_take (i := 69) (oi := ⟨some 81, _, _, _, _, _⟩) (v := undef) rfl (by kernel_rfl) (by kernel_rfl) (by kernel_rfl) (fun _ _ _ h => h) (Or.inr ⟨by rfl, rfl⟩) (by assumption) ?rk2n70u1
  try simp only [Act.put, List.setIfInBounds_toArray, List.set_cons_zero, List.set_cons_succ]
  refine wpAnyH_take (i := 70) (oi := ⟨some 82, _, _, _, _, _⟩) (v := undef) rfl (by kernel_rfl) (by kernel_rfl) (by kernel_rfl) (fun _ _ _ h => h) (Or.inr ⟨by rfl, rfl⟩) (by assumption) ?rk2n71u1
  try simp only [Act.put, List.setIfInBounds_toArray, List.set_cons_zero, List.set_cons_succ]
  refine wpAnyH_take (i := 71) (oi := ⟨some 83, _, _, _, _, _⟩) (v := undef) rfl (by kernel_rfl) (by kernel_rfl) (by kernel_rfl) (fun _ _ _ h => h) (Or.inr ⟨by rfl, rfl⟩) (by assumption) ?rk2n72u1
  try simp only [Act.put, List.setIfInBounds_toArray, List.set_cons_zero, List.set_cons_succ]
  refine wpAnyH_take (i := 72) (oi := ⟨some 84, _, _, _, _, _⟩) (v := undef) rfl (by kernel_rfl) (by kernel_rfl) (by kernel_rfl) (fun _ _ _ h => h) (Or.inr ⟨by rfl, rfl⟩) (by assumption) ?rk2n73u1
  try simp only [Act.put, List.setIfInBounds_toArray, List.set_cons_zero, List.set_cons_succ]
  refine wpAnyH_take (i := 73) (oi := ⟨some 85, _, _, _, _, _⟩) (v := undef) rfl (by kernel_rfl) (by kernel_rfl) (by kernel_rfl) (fun _ _ _ h => h) (Or.inr ⟨by rfl, rfl⟩) (by assumption) ?rk2n74u1
  try simp only [Act.put, List.setIfInBounds_toArray, List.set_cons_zero, List.set_cons_succ]
  refine wpAnyH_take (i := 74) (oi := ⟨some 86, _, _, _, _, _⟩) (v := ?vk2n75u1) rfl (by kernel_rfl) (by kernel_rfl) (by kernel_rfl) (fun _ _ _ h => h) (Or.inl ⟨by rfl, ?yk2n75u1⟩) (by assumption) ?rk2n75u1
  case yk2n75u1 => (intro w hSw; (try dsimp only at hSw); go_simp; try with_reducible rfl)
  try simp only [Act.put, List.setIfInBounds_toArray, List.set_cons_zero, List.set_cons_succ]
  refine wpAnyH_take (i := 75) (oi := ⟨some 2, _, _, _, _, _⟩) (v := ?vk2n76u1) rfl (by kernel_rfl) (by kernel_rfl) (by kernel_rfl) (fun _ _ _ h => h) (Or.inl ⟨by rfl, ?yk2n76u1⟩) (by assumption) ?rk2n76u1
  case yk2n76u1 => (intro w hSw; (try dsimp only at hSw); go_simp; try with_reducible rfl)
  try simp only [Act.put, List.setIfInBounds_toArray, List.set_cons_zero, List.set_cons_succ]
  refine wpAnyH_done (by kernel_rfl) ?_ _
  have HE := hid (U3.out.trans (show Up Nul W2 _ from hHeld))
  clear hHeld
  go_wp2
  go_ret
  exact ⟨by first | rfl | simp, HE.out⟩
set_option maxRecDepth 100000 in
set_option maxHeartbeats 4000000 in
theorem ok_case3 (w : World) (s : ByteArray) (n sid co : Int) (sa : Option Addr) (ns cs : Nat) (la : Option Addr) (nl cl : Nat) (t : Tb) (k : Nat) (c1 c2 c3 c4 c5 c6 c7 c8 c9 c10 : Bool) (hk : spn 1 8 (k : Int) = true) (hS : Shp w) (hc1 : c1 = true) (hc2 : c2 = true) (hc3 : c3 = false)
    (H : OkC w s n sid co sa ns cs la nl cl t k c1 c2 c3 c4 c5 c6 c7 c8 c9 c10) :
    Calls Tryd.prog 16 #[.agg #[.int .i64 (k : Nat), .string s, .int .i64 n, .int .i64 sid, .slice sa ns cs, .int .i64 co, .slice la nl cl, .int .i64 t.hot, .int .i64 t.warm, .int .i64 t.gap, .int .i64 t.add, .int .i64 t.top, .int .i64 t.half]] w
      fun e w' => e = .returned (.bool (c1 && c2 && c3 && c4 && c5 && c6 && c7 && c8 && c9 && c10)) ∧ Up Nul w w' := by
  subst hc1 hc2 hc3
  have HK := hid (fun W => kind_any (k : Int) W)
  rw [hk] at HK
  have hk9 : k < 9 := by
    unfold spn at hk
    simp at hk
    omega
  have i0 : (0 : Int) ≤ (k : Int) := by omega
  have i1 : (k : Int) < 9 := by omega
  have HH := hid H
  clear H
  obtain ⟨C, hC⟩ : ∃ C : Array Value, C = #[.int .i64 (k : Nat), .string s, .int .i64 n, .int .i64 sid, .slice sa ns cs, .int .i64 co, .slice la nl cl, .int .i64 t.hot, .int .i64 t.warm, .int .i64 t.gap, .int .i64 t.add, .int .i64 t.top, .int .i64 t.half] := ⟨_, rfl⟩
  have HUA := hid ((Up.refl Nul w).alloc (.cells C 33))
  have HBA : Hid ((w.alloc (.cells C 33)).heap[w.heap.size]? = some (.cells C 33 (0, 0))) := heap_alloc_new _ _
  have HLT : Hid (w.heap.size < (w.alloc (.cells C 33)).heap.size) := by show _ < _; simp
  have HSH := hid hS
  go_enter Tryd.func16, Tryd.ntmps16
  go_wp2_with fail
  rw [← hC]
  refine (HK.out _).mono ?_
  rintro e w1 ⟨rfl, u1⟩
  have hb := (u1.block _ HLT.out id).trans HBA.out
  have HU1 := hid (HUA.out.trans u1)
  have hlt := Nat.lt_of_lt_of_le HLT.out u1.size
  clear u1 HBA HUA HLT
  have y0 := (HSH.out.nxt HU1.out).c k 0 hk9 (by omega)
  have y1 := (HSH.out.nxt HU1.out).c k 1 hk9 (by omega)
  have y2 := (HSH.out.nxt HU1.out).c k 2 hk9 (by omega)
  have y3 := (HSH.out.nxt HU1.out).c k 3 hk9 (by omega)
  have y4 := (HSH.out.nxt HU1.out).c k 4 hk9 (by omega)
  have y5 := (HSH.out.nxt HU1.out).c k 5 hk9 (by omega)
  have y6 := (HSH.out.nxt HU1.out).c k 6 hk9 (by omega)
  have y7 := (HSH.out.nxt HU1.out).c k 7 hk9 (by omega)
  have y8 := (HSH.out.nxt HU1.out).c k 8 hk9 (by omega)
  have y9 := (HSH.out.nxt HU1.out).c k 9 hk9 (by omega)
  have y10 := (HSH.out.nxt HU1.out).c k 10 hk9 (by omega)
  have y11 := (HSH.out.nxt HU1.out).c k 11 hk9 (by omega)
  have y12 := (HSH.out.nxt HU1.out).c k 12 hk9 (by omega)
  have y13 := (HSH.out.nxt HU1.out).c k 13 hk9 (by omega)
  have y14 := (HSH.out.nxt HU1.out).c k 14 hk9 (by omega)
  rw [Nat.add_zero] at y0
  generalize w.heap.size = p at hb hlt ⊢
  have x0 : w1.cell? ⟨p, 0, none⟩ = some (.int .i64 (k : Nat)) := by simp [World.cell?, hb, hC]
  clear hk9
  go_wp2_with fail
  obtain ⟨W2, hW2⟩ : ∃ W, W = w1.alloc (.cells #[.int .i64 (sh k 0), .int .i64 (sh k 1), .int .i64 (sh k 2), .int .i64 (sh k 3), .int .i64 (sh k 4), .int .i64 (sh k 5), .int .i64 (sh k 6), .int .i64 (sh k 7), .int .i64 (sh k 8), .int .i64 (sh k 9), .int .i64 (sh k 10), .int .i64 (sh k 11), .int .i64 (sh k 12), .int .i64 (sh k 13), .int .i64 (sh k 14)] 73) := ⟨_, rfl⟩
  have U2 : Hid (Up Nul w1 W2) := by show Up _ _ _; rw [hW2]; exact (Up.refl Nul w1).alloc _
  have hq : W2.heap[w1.heap.size]? = some (.cells #[.int .i64 (sh k 0), .int .i64 (sh k 1), .int .i64 (sh k 2), .int .i64 (sh k 3), .int .i64 (sh k 4), .int .i64 (sh k 5), .int .i64 (sh k 6), .int .i64 (sh k 7), .int .i64 (sh k 8), .int .i64 (sh k 9), .int .i64 (sh k 10), .int .i64 (sh k 11), .int .i64 (sh k 12), .int .i64 (sh k 13), .int .i64 (sh k 14)] 73 (0, 0)) := by rw [hW2]; exact heap_alloc_new _ _
  have hp := (U2.out.block p hlt id).trans hb
  rw [hC] at hp
  have hq2 : w1.heap.size < W2.heap.size := by rw [hW2]; simp
  have hp2 := Nat.lt_of_lt_of_le hlt U2.out.size
  have U3 := hid (HU1.out.trans U2.out)
  rw [← hW2]
  clear hW2 x0 y0 y1 y2 y3 y4 y5 y6 y7 y8 y9 y10 y11 y12 y13 y14 hb U2 HU1 hlt
  generalize w1.heap.size = q at hq hq2 ⊢
  have Hp1 : Hid (∀ W, Up Nul W2 W → W.cell? ⟨p, 1, none⟩ = some (.string s)) := fun W u => by have a := (u.block p hp2 id).trans hp; simp only [World.cell?, a]; rfl
  have Hp2 : Hid (∀ W, Up Nul W2 W → W.cell? ⟨p, 2, none⟩ = some (.int .i64 n)) := fun W u => by have a := (u.block p hp2 id).trans hp; simp only [World.cell?, a]; rfl
  have Hp3 : Hid (∀ W, Up Nul W2 W → W.cell? ⟨p, 3, none⟩ = some (.int .i64 sid)) := fun W u => by have a := (u.block p hp2 id).trans hp; simp only [World.cell?, a]; rfl
  have Hp4 : Hid (∀ W, Up Nul W2 W → W.cell? ⟨p, 4, none⟩ = some (.slice sa ns cs)) := fun W u => by have a := (u.block p hp2 id).trans hp; simp only [World.cell?, a]; rfl
  have Hp5 : Hid (∀ W, Up Nul W2 W → W.cell? ⟨p, 5, none⟩ = some (.int .i64 co)) := fun W u => by have a := (u.block p hp2 id).trans hp; simp only [World.cell?, a]; rfl
  have Hp6 : Hid (∀ W, Up Nul W2 W → W.cell? ⟨p, 6, none⟩ = some (.slice la nl cl)) := fun W u => by have a := (u.block p hp2 id).trans hp; simp only [World.cell?, a]; rfl
  have Hp7 : Hid (∀ W, Up Nul W2 W → W.cell? ⟨p, 7, none⟩ = some (.int .i64 t.hot)) := fun W u => by have a := (u.block p hp2 id).trans hp; simp only [World.cell?, a]; rfl
  have Hp8 : Hid (∀ W, Up Nul W2 W → W.cell? ⟨p, 8, none⟩ = some (.int .i64 t.warm)) := fun W u => by have a := (u.block p hp2 id).trans hp; simp only [World.cell?, a]; rfl
  have Hp9 : Hid (∀ W, Up Nul W2 W → W.cell? ⟨p, 9, none⟩ = some (.int .i64 t.gap)) := fun W u => by have a := (u.block p hp2 id).trans hp; simp only [World.cell?, a]; rfl
  have Hp10 : Hid (∀ W, Up Nul W2 W → W.cell? ⟨p, 10, none⟩ = some (.int .i64 t.add)) := fun W u => by have a := (u.block p hp2 id).trans hp; simp only [World.cell?, a]; rfl
  have Hp11 : Hid (∀ W, Up Nul W2 W → W.cell? ⟨p, 11, none⟩ = some (.int .i64 t.top)) := fun W u => by have a := (u.block p hp2 id).trans hp; simp only [World.cell?, a]; rfl
  have Hp12 : Hid (∀ W, Up Nul W2 W → W.cell? ⟨p, 12, none⟩ = some (.int .i64 t.half)) := fun W u => by have a := (u.block p hp2 id).trans hp; simp only [World.cell?, a]; rfl
  have Hq0 : Hid (∀ W, Up Nul W2 W → W.cell? ⟨q, 0, none⟩ = some (.int .i64 (sh k 0))) := fun W u => by have a := (u.block q hq2 id).trans hq; simp only [World.cell?, a]; rfl
  have Hq1 : Hid (∀ W, Up Nul W2 W → W.cell? ⟨q, 1, none⟩ = some (.int .i64 (sh k 1))) := fun W u => by have a := (u.block q hq2 id).trans hq; simp only [World.cell?, a]; rfl
  have Hq2 : Hid (∀ W, Up Nul W2 W → W.cell? ⟨q, 2, none⟩ = some (.int .i64 (sh k 2))) := fun W u => by have a := (u.block q hq2 id).trans hq; simp only [World.cell?, a]; rfl
  have Hq3 : Hid (∀ W, Up Nul W2 W → W.cell? ⟨q, 3, none⟩ = some (.int .i64 (sh k 3))) := fun W u => by have a := (u.block q hq2 id).trans hq; simp only [World.cell?, a]; rfl
  have Hq4 : Hid (∀ W, Up Nul W2 W → W.cell? ⟨q, 4, none⟩ = some (.int .i64 (sh k 4))) := fun W u => by have a := (u.block q hq2 id).trans hq; simp only [World.cell?, a]; rfl
  have Hq5 : Hid (∀ W, Up Nul W2 W → W.cell? ⟨q, 5, none⟩ = some (.int .i64 (sh k 5))) := fun W u => by have a := (u.block q hq2 id).trans hq; simp only [World.cell?, a]; rfl
  have Hq6 : Hid (∀ W, Up Nul W2 W → W.cell? ⟨q, 6, none⟩ = some (.int .i64 (sh k 6))) := fun W u => by have a := (u.block q hq2 id).trans hq; simp only [World.cell?, a]; rfl
  have Hq7 : Hid (∀ W, Up Nul W2 W → W.cell? ⟨q, 7, none⟩ = some (.int .i64 (sh k 7))) := fun W u => by have a := (u.block q hq2 id).trans hq; simp only [World.cell?, a]; rfl
  have Hq8 : Hid (∀ W, Up Nul W2 W → W.cell? ⟨q, 8, none⟩ = some (.int .i64 (sh k 8))) := fun W u => by have a := (u.block q hq2 id).trans hq; simp only [World.cell?, a]; rfl
  have Hq9 : Hid (∀ W, Up Nul W2 W → W.cell? ⟨q, 9, none⟩ = some (.int .i64 (sh k 9))) := fun W u => by have a := (u.block q hq2 id).trans hq; simp only [World.cell?, a]; rfl
  have Hq10 : Hid (∀ W, Up Nul W2 W → W.cell? ⟨q, 10, none⟩ = some (.int .i64 (sh k 10))) := fun W u => by have a := (u.block q hq2 id).trans hq; simp only [World.cell?, a]; rfl
  have Hq11 : Hid (∀ W, Up Nul W2 W → W.cell? ⟨q, 11, none⟩ = some (.int .i64 (sh k 11))) := fun W u => by have a := (u.block q hq2 id).trans hq; simp only [World.cell?, a]; rfl
  have Hq12 : Hid (∀ W, Up Nul W2 W → W.cell? ⟨q, 12, none⟩ = some (.int .i64 (sh k 12))) := fun W u => by have a := (u.block q hq2 id).trans hq; simp only [World.cell?, a]; rfl
  have Hq13 : Hid (∀ W, Up Nul W2 W → W.cell? ⟨q, 13, none⟩ = some (.int .i64 (sh k 13))) := fun W u => by have a := (u.block q hq2 id).trans hq; simp only [World.cell?, a]; rfl
  have Hq14 : Hid (∀ W, Up Nul W2 W → W.cell? ⟨q, 14, none⟩ = some (.int .i64 (sh k 14))) := fun W u => by have a := (u.block q hq2 id).trans hq; simp only [World.cell?, a]; rfl
  clear hp hq hp2 hq2
  have HR := hid (Up.refl Nul W2)
  simp only [List.append]
  refine wp_region_held_drew (S := (fun W => Up Nul W2 W)) (by kernel_rfl) (by exact HR.out.drew) (fun hHeld => ?_)
  refine wpAnyH_take (i := 0) (oi := ⟨some 12, _, _, _, _, _⟩) (v := ?vk3n1u1) rfl (by kernel_rfl) (by kernel_rfl) (by kernel_rfl) (fun _ _ _ h => h) (Or.inl ⟨by rfl, ?yk3n1u1⟩) (by assumption) ?rk3n1u1
  case yk3n1u1 => (intro w hSw; (try dsimp only at hSw); go_simp; try with_reducible rfl)
  try simp only [Act.put, List.setIfInBounds_toArray, List.set_cons_zero, List.set_cons_succ]
  refine wpAnyH_take (i := 1) (oi := ⟨some 13, _, _, _, _, _⟩) (v := ?vk3x2) rfl (by kernel_rfl) (by kernel_rfl) (by kernel_rfl) (fun _ _ _ h => h) (Or.inl ⟨by rfl, ?yk3x2⟩) (by assumption) ?rk3x2
  case yk3x2 => (intro w hSw; have aq0 := Hq0.out w hSw; have aq1 := Hq1.out w hSw; go_simp; try with_reducible rfl)
  try simp only [Act.put, List.setIfInBounds_toArray, List.set_cons_zero, List.set_cons_succ]
  refine wpAnyH_take (i := 2) (oi := ⟨some 14, _, _, _, _, _⟩) (v := ?vk3n3u1) rfl (by kernel_rfl) (by kernel_rfl) (by kernel_rfl) (fun _ _ _ h => h) (Or.inl ⟨by rfl, ?yk3n3u1⟩) (by assumption) ?rk3n3u1
  case yk3n3u1 => (intro w hSw; (try dsimp only at hSw); go_simp; try with_reducible rfl)
  try simp only [Act.put, List.setIfInBounds_toArray, List.set_cons_zero, List.set_cons_succ]
  refine wpAnyH_take (i := 3) (oi := ⟨some 15, _, _, _, _, _⟩) (v := ?vk3x4) rfl (by kernel_rfl) (by kernel_rfl) (by kernel_rfl) (fun _ _ _ h => h) (Or.inl ⟨by rfl, ?yk3x4⟩) (by assumption) ?rk3x4
  case yk3x4 => (intro w hSw; have ap1 := Hp1.out w hSw; go_simp; try with_reducible rfl)
  try simp only [Act.put, List.setIfInBounds_toArray, List.set_cons_zero, List.set_cons_succ]
  refine wpAnyH_take (i := 4) (oi := ⟨some 16, _, _, _, _, _⟩) (v := ?vk3n5u1) rfl (by kernel_rfl) (by kernel_rfl) (by kernel_rfl) (fun _ _ _ h => h) (Or.inl ⟨by rfl, ?yk3n5u1⟩) (by assumption) ?rk3n5u1
  case yk3n5u1 => (intro w hSw; (try dsimp only at hSw); go_simp; try with_reducible rfl)
  try simp only [Act.put, List.setIfInBounds_toArray, List.set_cons_zero, List.set_cons_succ]
  refine wpAnyH_ready (rs := [5]) (by kernel_rfl) (by simp) ?_
  refine AllReadyH.cons (o := ⟨some 17, _, _, _, _, _⟩) rfl (fun K hK => ?_) AllReadyH.nil
  go_simp
  skip
  refine hK.out _ _ ?kk3n6u1 (fun hHeld => ?_)
  case kk3n6u1 => exact (by first | exact Up.alloc (show Up Nul W2 _ from hHeld) _ | exact (Up.alloc (show Up Nul W2 _ from HR.out) _).drew)
  clear hK K
  try simp only [Act.put, List.setIfInBounds_toArray, List.set_cons_zero, List.set_cons_succ]
  refine wpAnyH_ready (rs := [6]) (by kernel_rfl) (by simp) ?_
  refine AllReadyH.cons (o := ⟨some 18, _, _, _, _, _⟩) rfl (fun K hK => ?_) AllReadyH.nil
  go_simp
  go_at_call 25; refine (HH.out.h1 _ (U3.out.trans (show Up Nul W2 _ from hHeld)) _ (by first | exact World.cell?_alloc_new _ _ _ 0 | (simp; done) | go_simp)).mono ?_; rintro e wb ⟨rfl, kb⟩
  refine hK.out _ _ ?kk3n7u1 (fun hHeld => ?_)
  case kk3n7u1 => exact (Up.trans (show Up Nul W2 _ from hHeld) kb)
  clear hK K
  try simp only [Act.put, List.setIfInBounds_toArray, List.set_cons_zero, List.set_cons_succ]
  refine wpAnyH_take (i := 7) (oi := ⟨some 19, _, _, _, _, _⟩) (v := ?vk3n8u1) rfl (by kernel_rfl) (by kernel_rfl) (by kernel_rfl) (fun _ _ _ h => h) (Or.inl ⟨by rfl, ?yk3n8u1⟩) (by assumption) ?rk3n8u1
  case yk3n8u1 => (intro w hSw; (try dsimp only at hSw); go_simp; try with_reducible rfl)
  try simp only [Act.put, List.setIfInBounds_toArray, List.set_cons_zero, List.set_cons_succ]
  refine wpAnyH_take (i := 8) (oi := ⟨some 20, _, _, _, _, _⟩) (v := ?vk3n9u1) rfl (by kernel_rfl) (by kernel_rfl) (by kernel_rfl) (fun _ _ _ h => h) (Or.inl ⟨by rfl, ?yk3n9u1⟩) (by assumption) ?rk3n9u1
  case yk3n9u1 => (intro w hSw; (try dsimp only at hSw); go_simp; try with_reducible rfl)
  try simp only [Act.put, List.setIfInBounds_toArray, List.set_cons_zero, List.set_cons_succ]
  refine wpAnyH_take (i := 9) (oi := ⟨some 21, _, _, _, _, _⟩) (v := ?vk3x10) rfl (by kernel_rfl) (by kernel_rfl) (by kernel_rfl) (fun _ _ _ h => h) (Or.inl ⟨by rfl, ?yk3x10⟩) (by assumption) ?rk3x10
  case yk3x10 => (intro w hSw; have ap1 := Hp1.out w hSw; go_simp; try with_reducible rfl)
  try simp only [Act.put, List.setIfInBounds_toArray, List.set_cons_zero, List.set_cons_succ]
  refine wpAnyH_ready (rs := [10]) (by kernel_rfl) (by simp) ?_
  refine AllReadyH.cons (o := ⟨some 22, _, _, _, _, _⟩) rfl (fun K hK => ?_) AllReadyH.nil
  go_simp
  go_at_call 26; refine (HH.out.h2 _).mono ?_; rintro e wb ⟨rfl, kb⟩
  refine hK.out _ _ ?kk3n11u1 (fun hHeld => ?_)
  case kk3n11u1 => exact (Up.trans (show Up Nul W2 _ from hHeld) kb)
  clear hK K
  try simp only [Act.put, List.setIfInBounds_toArray, List.set_cons_zero, List.set_cons_succ]
  refine wpAnyH_take (i := 11) (oi := ⟨some 23, _, _, _, _, _⟩) (v := ?vk3n12u1) rfl (by kernel_rfl) (by kernel_rfl) (by kernel_rfl) (fun _ _ _ h => h) (Or.inl ⟨by rfl, ?yk3n12u1⟩) (by assumption) ?rk3n12u1
  case yk3n12u1 => (intro w hSw; (try dsimp only at hSw); go_simp; try with_reducible rfl)
  try simp only [Act.put, List.setIfInBounds_toArray, List.set_cons_zero, List.set_cons_succ]
  refine wpAnyH_take (i := 12) (oi := ⟨some 24, _, _, _, _, _⟩) (v := ?vk3n13u1) rfl (by kernel_rfl) (by kernel_rfl) (by kernel_rfl) (fun _ _ _ h => h) (Or.inl ⟨by rfl, ?yk3n13u1⟩) (by assumption) ?rk3n13u1
  case yk3n13u1 => (intro w hSw; (try dsimp only at hSw); go_simp; try with_reducible rfl)
  try simp only [Act.put, List.setIfInBounds_toArray, List.set_cons_zero, List.set_cons_succ]
  refine wpAnyH_take (i := 13) (oi := ⟨some 25, _, _, _, _, _⟩) (v := ?vk3n14u1) rfl (by kernel_rfl) (by kernel_rfl) (by kernel_rfl) (fun _ _ _ h => h) (Or.inl ⟨by rfl, ?yk3n14u1⟩) (by assumption) ?rk3n14u1
  case yk3n14u1 => (intro w hSw; (try dsimp only at hSw); go_simp; try with_reducible rfl)
  try simp only [Act.put, List.setIfInBounds_toArray, List.set_cons_zero, List.set_cons_succ]
  refine wpAnyH_take (i := 14) (oi := ⟨some 26, _, _, _, _, _⟩) (v := ?vk3x15) rfl (by kernel_rfl) (by kernel_rfl) (by kernel_rfl) (fun _ _ _ h => h) (Or.inl ⟨by rfl, ?yk3x15⟩) (by assumption) ?rk3x15
  case yk3x15 => (intro w hSw; have aq2 := Hq2.out w hSw; have aq3 := Hq3.out w hSw; go_simp; try with_reducible rfl)
  try simp only [Act.put, List.setIfInBounds_toArray, List.set_cons_zero, List.set_cons_succ]
  refine wpAnyH_take (i := 15) (oi := ⟨some 27, _, _, _, _, _⟩) (v := ?vk3n16u1) rfl (by kernel_rfl) (by kernel_rfl) (by kernel_rfl) (fun _ _ _ h => h) (Or.inl ⟨by rfl, ?yk3n16u1⟩) (by assumption) ?rk3n16u1
  case yk3n16u1 => (intro w hSw; (try dsimp only at hSw); go_simp; try with_reducible rfl)
  try simp only [Act.put, List.setIfInBounds_toArray, List.set_cons_zero, List.set_cons_succ]
  refine wpAnyH_take (i := 16) (oi := ⟨some 28, _, _, _, _, _⟩) (v := ?vk3x17) rfl (by kernel_rfl) (by kernel_rfl) (by kernel_rfl) (fun _ _ _ h => h) (Or.inl ⟨by rfl, ?yk3x17⟩) (by assumption) ?rk3x17
  case yk3x17 => (intro w hSw; have ap2 := Hp2.out w hSw; go_simp; try with_reducible rfl)
  try simp only [Act.put, List.setIfInBounds_toArray, List.set_cons_zero, List.set_cons_succ]
  refine wpAnyH_ready (rs := [17]) (by kernel_rfl) (by simp) ?_
  refine AllReadyH.cons (o := ⟨some 29, _, _, _, _, _⟩) rfl (fun K hK => ?_) AllReadyH.nil
  go_simp
  skip
  refine hK.out _ _ ?kk3n18u1 (fun hHeld => ?_)
  case kk3n18u1 => exact (by first | exact Up.alloc (show Up Nul W2 _ from hHeld) _ | exact (Up.alloc (show Up Nul W2 _ from HR.out) _).drew)
  clear hK K
  try simp only [Act.put, List.setIfInBounds_toArray, List.set_cons_zero, List.set_cons_succ]
  refine wpAnyH_ready (rs := [18]) (by kernel_rfl) (by simp) ?_
  refine AllReadyH.cons (o := ⟨some 30, _, _, _, _, _⟩) rfl (fun K hK => ?_) AllReadyH.nil
  go_simp
  go_at_call 25; refine (HH.out.h3 _ (U3.out.trans (show Up Nul W2 _ from hHeld)) _ (by first | exact World.cell?_alloc_new _ _ _ 0 | (simp; done) | go_simp)).mono ?_; rintro e wb ⟨rfl, kb⟩
  refine hK.out _ _ ?kk3n19u1 (fun hHeld => ?_)
  case kk3n19u1 => exact (Up.trans (show Up Nul W2 _ from hHeld) kb)
  clear hK K
  try simp only [Act.put, List.setIfInBounds_toArray, List.set_cons_zero, List.set_cons_succ]
  refine wpAnyH_take (i := 19) (oi := ⟨some 31, _, _, _, _, _⟩) (v := ?vk3n20u1) rfl (by kernel_rfl) (by kernel_rfl) (by kernel_rfl) (fun _ _ _ h => h) (Or.inl ⟨by rfl, ?yk3n20u1⟩) (by assumption) ?rk3n20u1
  case yk3n20u1 => (intro w hSw; (try dsimp only at hSw); go_simp; try with_reducible rfl)
  try simp only [Act.put, List.setIfInBounds_toArray, List.set_cons_zero, List.set_cons_succ]
  refine wpAnyH_take (i := 20) (oi := ⟨some 32, _, _, _, _, _⟩) (v := ?vk3n21u1) rfl (by kernel_rfl) (by kernel_rfl) (by kernel_rfl) (fun _ _ _ h => h) (Or.inl ⟨by rfl, ?yk3n21u1⟩) (by assumption) ?rk3n21u1
  case yk3n21u1 => (intro w hSw; (try dsimp only at hSw); go_simp; try with_reducible rfl)
  try simp only [Act.put, List.setIfInBounds_toArray, List.set_cons_zero, List.set_cons_succ]
  refine wpAnyH_take (i := 21) (oi := ⟨some 33, _, _, _, _, _⟩) (v := undef) rfl (by kernel_rfl) (by kernel_rfl) (by kernel_rfl) (fun _ _ _ h => h) (Or.inr ⟨by rfl, rfl⟩) (by assumption) ?rk3n22u1
  try simp only [Act.put, List.setIfInBounds_toArray, List.set_cons_zero, List.set_cons_succ]
  refine wpAnyH_take (i := 22) (oi := ⟨some 34, _, _, _, _, _⟩) (v := undef) rfl (by kernel_rfl) (by kernel_rfl) (by kernel_rfl) (fun _ _ _ h => h) (Or.inr ⟨by rfl, rfl⟩) (by assumption) ?rk3n23u1
  try simp only [Act.put, List.setIfInBounds_toArray, List.set_cons_zero, List.set_cons_succ]
  refine wpAnyH_take (i := 23) (oi := ⟨some 35, _, _, _, _, _⟩) (v := undef) rfl (by kernel_rfl) (by kernel_rfl) (by kernel_rfl) (fun _ _ _ h => h) (Or.inr ⟨by rfl, rfl⟩) (by assumption) ?rk3n24u1
  try simp only [Act.put, List.setIfInBounds_toArray, List.set_cons_zero, List.set_cons_succ]
  refine wpAnyH_take (i := 24) (oi := ⟨some 36, _, _, _, _, _⟩) (v := undef) rfl (by kernel_rfl) (by kernel_rfl) (by kernel_rfl) (fun _ _ _ h => h) (Or.inr ⟨by rfl, rfl⟩) (by assumption) ?rk3n25u1
  try simp only [Act.put, List.setIfInBounds_toArray, List.set_cons_zero, List.set_cons_succ]
  refine wpAnyH_take (i := 25) (oi := ⟨some 37, _, _, _, _, _⟩) (v := undef) rfl (by kernel_rfl) (by kernel_rfl) (by kernel_rfl) (fun _ _ _ h => h) (Or.inr ⟨by rfl, rfl⟩) (by assumption) ?rk3n26u1
  try simp only [Act.put, List.setIfInBounds_toArray, List.set_cons_zero, List.set_cons_succ]
  refine wpAnyH_take (i := 26) (oi := ⟨some 38, _, _, _, _, _⟩) (v := undef) rfl (by kernel_rfl) (by kernel_rfl) (by kernel_rfl) (fun _ _ _ h => h) (Or.inr ⟨by rfl, rfl⟩) (by assumption) ?rk3n27u1
  try simp only [Act.put, List.setIfInBounds_toArray, List.set_cons_zero, List.set_cons_succ]
  refine wpAnyH_take (i := 27) (oi := ⟨some 39, _, _, _, _, _⟩) (v := ?vk3n28u1) rfl (by kernel_rfl) (by kernel_rfl) (by kernel_rfl) (fun _ _ _ h => h) (Or.inl ⟨by rfl, ?yk3n28u1⟩) (by assumption) ?rk3n28u1
  case yk3n28u1 => (intro w hSw; (try dsimp only at hSw); go_simp; try with_reducible rfl)
  try simp only [Act.put, List.setIfInBounds_toArray, List.set_cons_zero, List.set_cons_succ]
  refine wpAnyH_take (i := 28) (oi := ⟨some 40, _, _, _, _, _⟩) (v := ?vk3n29u1) rfl (by kernel_rfl) (by kernel_rfl) (by kernel_rfl) (fun _ _ _ h => h) (Or.inl ⟨by rfl, ?yk3n29u1⟩) (by assumption) ?rk3n29u1
  case yk3n29u1 => (intro w hSw; (try dsimp only at hSw); go_simp; try with_reducible rfl)
  try simp only [Act.put, List.setIfInBounds_toArray, List.set_cons_zero, List.set_cons_succ]
  refine wpAnyH_take (i := 29) (oi := ⟨some 41, _, _, _, _, _⟩) (v := undef) rfl (by kernel_rfl) (by kernel_rfl) (by kernel_rfl) (fun _ _ _ h => h) (Or.inr ⟨by rfl, rfl⟩) (by assumption) ?rk3n30u1
  try simp only [Act.put, List.setIfInBounds_toArray, List.set_cons_zero, List.set_cons_succ]
  refine wpAnyH_take (i := 30) (oi := ⟨some 42, _, _, _, _, _⟩) (v := undef) rfl (by kernel_rfl) (by kernel_rfl) (by kernel_rfl) (fun _ _ _ h => h) (Or.inr ⟨by rfl, rfl⟩) (by assumption) ?rk3n31u1
  try simp only [Act.put, List.setIfInBounds_toArray, List.set_cons_zero, List.set_cons_succ]
  refine wpAnyH_take (i := 31) (oi := ⟨some 43, _, _, _, _, _⟩) (v := undef) rfl (by kernel_rfl) (by kernel_rfl) (by kernel_rfl) (fun _ _ _ h => h) (Or.inr ⟨by rfl, rfl⟩) (by assumption) ?rk3n32u1
  try simp only [Act.put, List.setIfInBounds_toArray, List.set_cons_zero, List.set_cons_succ]
  refine wpAnyH_take (i := 32) (oi := ⟨some 44, _, _, _, _, _⟩) (v := undef) rfl (by kernel_rfl) (by kernel_rfl) (by kernel_rfl) (fun _ _ _ h => h) (Or.inr ⟨by rfl, rfl⟩) (by assumption) ?rk3n33u1
  try simp only [Act.put, List.setIfInBounds_toArray, List.set_cons_zero, List.set_cons_succ]
  refine wpAnyH_take (i := 33) (oi := ⟨some 45, _, _, _, _, _⟩) (v := undef) rfl (by kernel_rfl) (by kernel_rfl) (by kernel_rfl) (fun _ _ _ h => h) (Or.inr ⟨by rfl, rfl⟩) (by assumption) ?rk3n34u1
  try simp only [Act.put, List.setIfInBounds_toArray, List.set_cons_zero, List.set_cons_succ]
  refine wpAnyH_take (i := 34) (oi := ⟨some 46, _, _, _, _, _⟩) (v := undef) rfl (by kernel_rfl) (by kernel_rfl) (by kernel_rfl) (fun _ _ _ h => h) (Or.inr ⟨by rfl, rfl⟩) (by assumption) ?rk3n35u1
  try simp only [Act.put, List.setIfInBounds_toArray, List.set_cons_zero, List.set_cons_succ]
  refine wpAnyH_take (i := 35) (oi := ⟨some 47, _, _, _, _, _⟩) (v := ?vk3n36u1) rfl (by kernel_rfl) (by kernel_rfl) (by kernel_rfl) (fun _ _ _ h => h) (Or.inl ⟨by rfl, ?yk3n36u1⟩) (by assumption) ?rk3n36u1
  case yk3n36u1 => (intro w hSw; (try dsimp only at hSw); go_simp; try with_reducible rfl)
  try simp only [Act.put, List.setIfInBounds_toArray, List.set_cons_zero, List.set_cons_succ]
  refine wpAnyH_take (i := 36) (oi := ⟨some 48, _, _, _, _, _⟩) (v := ?vk3n37u1) rfl (by kernel_rfl) (by kernel_rfl) (by kernel_rfl) (fun _ _ _ h => h) (Or.inl ⟨by rfl, ?yk3n37u1⟩) (by assumption) ?rk3n37u1
  case yk3n37u1 => (intro w hSw; (try dsimp only at hSw); go_simp; try with_reducible rfl)
  try simp only [Act.put, List.setIfInBounds_toArray, List.set_cons_zero, List.set_cons_succ]
  refine wpAnyH_take (i := 37) (oi := ⟨some 49, _, _, _, _, _⟩) (v := undef) rfl (by kernel_rfl) (by kernel_rfl) (by kernel_rfl) (fun _ _ _ h => h) (Or.inr ⟨by rfl, rfl⟩) (by assumption) ?rk3n38u1
  try simp only [Act.put, List.setIfInBounds_toArray, List.set_cons_zero, List.set_cons_succ]
  refine wpAnyH_take (i := 38) (oi := ⟨some 50, _, _, _, _, _⟩) (v := undef) rfl (by kernel_rfl) (by kernel_rfl) (by kernel_rfl) (fun _ _ _ h => h) (Or.inr ⟨by rfl, rfl⟩) (by assumption) ?rk3n39u1
  try simp only [Act.put, List.setIfInBounds_toArray, List.set_cons_zero, List.set_cons_succ]
  refine wpAnyH_take (i := 39) (oi := ⟨some 51, _, _, _, _, _⟩) (v := undef) rfl (by kernel_rfl) (by kernel_rfl) (by kernel_rfl) (fun _ _ _ h => h) (Or.inr ⟨by rfl, rfl⟩) (by assumption) ?rk3n40u1
  try simp only [Act.put, List.setIfInBounds_toArray, List.set_cons_zero, List.set_cons_succ]
  refine wpAnyH_take (i := 40) (oi := ⟨some 52, _, _, _, _, _⟩) (v := undef) rfl (by kernel_rfl) (by kernel_rfl) (by kernel_rfl) (fun _ _ _ h => h) (Or.inr ⟨by rfl, rfl⟩) (by assumption) ?rk3n41u1
  try simp only [Act.put, List.setIfInBounds_toArray, List.set_cons_zero, List.set_cons_succ]
  refine wpAnyH_take (i := 41) (oi := ⟨some 53, _, _, _, _, _⟩) (v := undef) rfl (by kernel_rfl) (by kernel_rfl) (by kernel_rfl) (fun _ _ _ h => h) (Or.inr ⟨by rfl, rfl⟩) (by assumption) ?rk3n42u1
  try simp only [Act.put, List.setIfInBounds_toArray, List.set_cons_zero, List.set_cons_succ]
  refine wpAnyH_take (i := 42) (oi := ⟨some 54, _, _, _, _, _⟩) (v := undef) rfl (by kernel_rfl) (by kernel_rfl) (by kernel_rfl) (fun _ _ _ h => h) (Or.inr ⟨by rfl, rfl⟩) (by assumption) ?rk3n43u1
  try simp only [Act.put, List.setIfInBounds_toArray, List.set_cons_zero, List.set_cons_succ]
  refine wpAnyH_take (i := 43) (oi := ⟨some 55, _, _, _, _, _⟩) (v := ?vk3n44u1) rfl (by kernel_rfl) (by kernel_rfl) (by kernel_rfl) (fun _ _ _ h => h) (Or.inl ⟨by rfl, ?yk3n44u1⟩) (by assumption) ?rk3n44u1
  case yk3n44u1 => (intro w hSw; (try dsimp only at hSw); go_simp; try with_reducible rfl)
  try simp only [Act.put, List.setIfInBounds_toArray, List.set_cons_zero, List.set_cons_succ]
  refine wpAnyH_take (i := 44) (oi := ⟨some 56, _, _, _, _, _⟩) (v := ?vk3n45u1) rfl (by kernel_rfl) (by kernel_rfl) (by kernel_rfl) (fun _ _ _ h => h) (Or.inl ⟨by rfl, ?yk3n45u1⟩) (by assumption) ?rk3n45u1
  case yk3n45u1 => (intro w hSw; (try dsimp only at hSw); go_simp; try with_reducible rfl)
  try simp only [Act.put, List.setIfInBounds_toArray, List.set_cons_zero, List.set_cons_succ]
  refine wpAnyH_take (i := 45) (oi := ⟨some 57, _, _, _, _, _⟩) (v := undef) rfl (by kernel_rfl) (by kernel_rfl) (by kernel_rfl) (fun _ _ _ h => h) (Or.inr ⟨by rfl, rfl⟩) (by assumption) ?rk3n46u1
  try simp only [Act.put, List.setIfInBounds_toArray, List.set_cons_zero, List.set_cons_succ]
  refine wpAnyH_take (i := 46) (oi := ⟨some 58, _, _, _, _, _⟩) (v := undef) rfl (by kernel_rfl) (by kernel_rfl) (by kernel_rfl) (fun _ _ _ h => h) (Or.inr ⟨by rfl, rfl⟩) (by assumption) ?rk3n47u1
  try simp only [Act.put, List.setIfInBounds_toArray, List.set_cons_zero, List.set_cons_succ]
  refine wpAnyH_take (i := 47) (oi := ⟨some 59, _, _, _, _, _⟩) (v := undef) rfl (by kernel_rfl) (by kernel_rfl) (by kernel_rfl) (fun _ _ _ h => h) (Or.inr ⟨by rfl, rfl⟩) (by assumption) ?rk3n48u1
  try simp only [Act.put, List.setIfInBounds_toArray, List.set_cons_zero, List.set_cons_succ]
  refine wpAnyH_take (i := 48) (oi := ⟨some 60, _, _, _, _, _⟩) (v := undef) rfl (by kernel_rfl) (by kernel_rfl) (by kernel_rfl) (fun _ _ _ h => h) (Or.inr ⟨by rfl, rfl⟩) (by assumption) ?rk3n49u1
  try simp only [Act.put, List.setIfInBounds_toArray, List.set_cons_zero, List.set_cons_succ]
  refine wpAnyH_take (i := 49) (oi := ⟨some 61, _, _, _, _, _⟩) (v := undef) rfl (by kernel_rfl) (by kernel_rfl) (by kernel_rfl) (fun _ _ _ h => h) (Or.inr ⟨by rfl, rfl⟩) (by assumption) ?rk3n50u1
  try simp only [Act.put, List.setIfInBounds_toArray, List.set_cons_zero, List.set_cons_succ]
  refine wpAnyH_take (i := 50) (oi := ⟨some 62, _, _, _, _, _⟩) (v := ?vk3n51u1) rfl (by kernel_rfl) (by kernel_rfl) (by kernel_rfl) (fun _ _ _ h => h) (Or.inl ⟨by rfl, ?yk3n51u1⟩) (by assumption) ?rk3n51u1
  case yk3n51u1 => (intro w hSw; (try dsimp only at hSw); go_simp; try with_reducible rfl)
  try simp only [Act.put, List.setIfInBounds_toArray, List.set_cons_zero, List.set_cons_succ]
  refine wpAnyH_take (i := 51) (oi := ⟨some 63, _, _, _, _, _⟩) (v := ?vk3n52u1) rfl (by kernel_rfl) (by kernel_rfl) (by kernel_rfl) (fun _ _ _ h => h) (Or.inl ⟨by rfl, ?yk3n52u1⟩) (by assumption) ?rk3n52u1
  case yk3n52u1 => (intro w hSw; (try dsimp only at hSw); go_simp; try with_reducible rfl)
  try simp only [Act.put, List.setIfInBounds_toArray, List.set_cons_zero, List.set_cons_succ]
  refine wpAnyH_take (i := 52) (oi := ⟨some 64, _, _, _, _, _⟩) (v := undef) rfl (by kernel_rfl) (by kernel_rfl) (by kernel_rfl) (fun _ _ _ h => h) (Or.inr ⟨by rfl, rfl⟩) (by assumption) ?rk3n53u1
  try simp only [Act.put, List.setIfInBounds_toArray, List.set_cons_zero, List.set_cons_succ]
  refine wpAnyH_take (i := 53) (oi := ⟨some 65, _, _, _, _, _⟩) (v := undef) rfl (by kernel_rfl) (by kernel_rfl) (by kernel_rfl) (fun _ _ _ h => h) (Or.inr ⟨by rfl, rfl⟩) (by assumption) ?rk3n54u1
  try simp only [Act.put, List.setIfInBounds_toArray, List.set_cons_zero, List.set_cons_succ]
  refine wpAnyH_take (i := 54) (oi := ⟨some 66, _, _, _, _, _⟩) (v := undef) rfl (by kernel_rfl) (by kernel_rfl) (by kernel_rfl) (fun _ _ _ h => h) (Or.inr ⟨by rfl, rfl⟩) (by assumption) ?rk3n55u1
  try simp only [Act.put, List.setIfInBounds_toArray, List.set_cons_zero, List.set_cons_succ]
  refine wpAnyH_take (i := 55) (oi := ⟨some 67, _, _, _, _, _⟩) (v := undef) rfl (by kernel_rfl) (by kernel_rfl) (by kernel_rfl) (fun _ _ _ h => h) (Or.inr ⟨by rfl, rfl⟩) (by assumption) ?rk3n56u1
  try simp only [Act.put, List.setIfInBounds_toArray, List.set_cons_zero, List.set_cons_succ]
  refine wpAnyH_take (i := 56) (oi := ⟨some 68, _, _, _, _, _⟩) (v := undef) rfl (by kernel_rfl) (by kernel_rfl) (by kernel_rfl) (fun _ _ _ h => h) (Or.inr ⟨by rfl, rfl⟩) (by assumption) ?rk3n57u1
  try simp only [Act.put, List.setIfInBounds_toArray, List.set_cons_zero, List.set_cons_succ]
  refine wpAnyH_take (i := 57) (oi := ⟨some 69, _, _, _, _, _⟩) (v := undef) rfl (by kernel_rfl) (by kernel_rfl) (by kernel_rfl) (fun _ _ _ h => h) (Or.inr ⟨by rfl, rfl⟩) (by assumption) ?rk3n58u1
  try simp only [Act.put, List.setIfInBounds_toArray, List.set_cons_zero, List.set_cons_succ]
  refine wpAnyH_take (i := 58) (oi := ⟨some 70, _, _, _, _, _⟩) (v := undef) rfl (by kernel_rfl) (by kernel_rfl) (by kernel_rfl) (fun _ _ _ h => h) (Or.inr ⟨by rfl, rfl⟩) (by assumption) ?rk3n59u1
  try simp only [Act.put, List.setIfInBounds_toArray, List.set_cons_zero, List.set_cons_succ]
  refine wpAnyH_take (i := 59) (oi := ⟨some 71, _, _, _, _, _⟩) (v := undef) rfl (by kernel_rfl) (by kernel_rfl) (by kernel_rfl) (fun _ _ _ h => h) (Or.inr ⟨by rfl, rfl⟩) (by assumption) ?rk3n60u1
  try simp only [Act.put, List.setIfInBounds_toArray, List.set_cons_zero, List.set_cons_succ]
  refine wpAnyH_take (i := 60) (oi := ⟨some 72, _, _, _, _, _⟩) (v := ?vk3n61u1) rfl (by kernel_rfl) (by kernel_rfl) (by kernel_rfl) (fun _ _ _ h => h) (Or.inl ⟨by rfl, ?yk3n61u1⟩) (by assumption) ?rk3n61u1
  case yk3n61u1 => (intro w hSw; (try dsimp only at hSw); go_simp; try with_reducible rfl)
  try simp only [Act.put, List.setIfInBounds_toArray, List.set_cons_zero, List.set_cons_succ]
  refine wpAnyH_take (i := 61) (oi := ⟨some 73, _, _, _, _, _⟩) (v := ?vk3n62u1) rfl (by kernel_rfl) (by kernel_rfl) (by kernel_rfl) (fun _ _ _ h => h) (Or.inl ⟨by rfl, ?yk3n62u1⟩) (by assumption) ?rk3n62u1
  case yk3n62u1 => (intro w hSw; (try dsimp only at hSw); go_simp; try with_reducible rfl)
  try simp only [Act.put, List.setIfInBounds_toArray, List.set_cons_zero, List.set_cons_succ]
  refine wpAnyH_take (i := 62) (oi := ⟨some 74, _, _, _, _, _⟩) (v := undef) rfl (by kernel_rfl) (by kernel_rfl) (by kernel_rfl) (fun _ _ _ h => h) (Or.inr ⟨by rfl, rfl⟩) (by assumption) ?rk3n63u1
  try simp only [Act.put, List.setIfInBounds_toArray, List.set_cons_zero, List.set_cons_succ]
  refine wpAnyH_take (i := 63) (oi := ⟨some 75, _, _, _, _, _⟩) (v := undef) rfl (by kernel_rfl) (by kernel_rfl) (by kernel_rfl) (fun _ _ _ h => h) (Or.inr ⟨by rfl, rfl⟩) (by assumption) ?rk3n64u1
  try simp only [Act.put, List.setIfInBounds_toArray, List.set_cons_zero, List.set_cons_succ]
  refine wpAnyH_take (i := 64) (oi := ⟨some 76, _, _, _, _, _⟩) (v := undef) rfl (by kernel_rfl) (by kernel_rfl) (by kernel_rfl) (fun _ _ _ h => h) (Or.inr ⟨by rfl, rfl⟩) (by assumption) ?rk3n65u1
  try simp only [Act.put, List.setIfInBounds_toArray, List.set_cons_zero, List.set_cons_succ]
  refine wpAnyH_take (i := 65) (oi := ⟨some 77, _, _, _, _, _⟩) (v := undef) rfl (by kernel_rfl) (by kernel_rfl) (by kernel_rfl) (fun _ _ _ h => h) (Or.inr ⟨by rfl, rfl⟩) (by assumption) ?rk3n66u1
  try simp only [Act.put, List.setIfInBounds_toArray, List.set_cons_zero, List.set_cons_succ]
  refine wpAnyH_take (i := 66) (oi := ⟨some 78, _, _, _, _, _⟩) (v := ?vk3n67u1) rfl (by kernel_rfl) (by kernel_rfl) (by kernel_rfl) (fun _ _ _ h => h) (Or.inl ⟨by rfl, ?yk3n67u1⟩) (by assumption) ?rk3n67u1
  case yk3n67u1 => (intro w hSw; (try dsimp only at hSw); go_simp; try with_reducible rfl)
  try simp only [Act.put, List.setIfInBounds_toArray, List.set_cons_zero, List.set_cons_succ]
  refine wpAnyH_take (i := 67) (oi := ⟨some 79, _, _, _, _, _⟩) (v := ?vk3n68u1) rfl (by kernel_rfl) (by kernel_rfl) (by kernel_rfl) (fun _ _ _ h => h) (Or.inl ⟨by rfl, ?yk3n68u1⟩) (by assumption) ?rk3n68u1
  case yk3n68u1 => (intro w hSw; (try dsimp only at hSw); go_simp; try with_reducible rfl)
  try simp only [Act.put, List.setIfInBounds_toArray, List.set_cons_zero, List.set_cons_succ]
  refine wpAnyH_take (i := 68) (oi := ⟨some 80, _, _, _, _, _⟩) (v := undef) rfl (by kernel_rfl) (by kernel_rfl) (by kernel_rfl) (fun _ _ _ h => h) (Or.inr ⟨by rfl, rfl⟩) (by assumption) ?rk3n69u1
  try simp only [Act.put, List.setIfInBounds_toArray, List.set_cons_zero, List.set_cons_succ]
  refine wpAnyH_take (i := 69) (oi := ⟨some 81, _, _, _, _, _⟩) (v := undef) rfl (by kernel_rfl) (by kernel_rfl) (by kernel_rfl) (fun _ _ _ h => h) (Or.inr ⟨by rfl, rfl⟩) (by assumption) ?rk3n70u1
  try simp only [Act.put, List.setIfInBounds_toArray, List.set_cons_zero, List.set_cons_succ]
  refine wpAnyH_take (i := 70) (oi := ⟨some 82, _, _, _, _, _⟩) (v := undef) rfl (by kernel_rfl) (by kernel_rfl) (by kernel_rfl) (fun _ _ _ h => h) (Or.inr ⟨by rfl, rfl⟩) (by assumption) ?rk3n71u1
  try simp only [Act.put, List.setIfInBounds_toArray, List.set_cons_zero, List.set_cons_succ]
  refine wpAnyH_take (i := 71) (oi := ⟨some 83, _, _, _, _, _⟩) (v := undef) rfl (by kernel_rfl) (by kernel_rfl) (by kernel_rfl) (fun _ _ _ h => h) (Or.inr ⟨by rfl, rfl⟩) (by assumption) ?rk3n72u1
  try simp only [Act.put, List.setIfInBounds_toArray, List.set_cons_zero, List.set_cons_succ]
  refine wpAnyH_take (i := 72) (oi := ⟨some 84, _, _, _, _, _⟩) (v := undef) rfl (by kernel_rfl) (by kernel_rfl) (by kernel_rfl) (fun _ _ _ h => h) (Or.inr ⟨by rfl, rfl⟩) (by assumption) ?rk3n73u1
  try simp only [Act.put, List.setIfInBounds_toArray, List.set_cons_zero, List.set_cons_succ]
  refine wpAnyH_take (i := 73) (oi := ⟨some 85, _, _, _, _, _⟩) (v := undef) rfl (by kernel_rfl) (by kernel_rfl) (by kernel_rfl) (fun _ _ _ h => h) (Or.inr ⟨by rfl, rfl⟩) (by assumption) ?rk3n74u1
  try simp only [Act.put, List.setIfInBounds_toArray, List.set_cons_zero, List.set_cons_succ]
  refine wpAnyH_take (i := 74) (oi := ⟨some 86, _, _, _, _, _⟩) (v := ?vk3n75u1) rfl (by kernel_rfl) (by kernel_rfl) (by kernel_rfl) (fun _ _ _ h => h) (Or.inl ⟨by rfl, ?yk3n75u1⟩) (by assumption) ?rk3n75u1
  case yk3n75u1 => (intro w hSw; (try dsimp only at hSw); go_simp; try with_reducible rfl)
  try simp only [Act.put, List.setIfInBounds_toArray, List.set_cons_zero, List.set_cons_succ]
  refine wpAnyH_take (i := 75) (oi := ⟨some 2, _, _, _, _, _⟩) (v := ?vk3n76u1) rfl (by kernel_rfl) (by kernel_rfl) (by kernel_rfl) (fun _ _ _ h => h) (Or.inl ⟨by rfl, ?yk3n76u1⟩) (by assumption) ?rk3n76u1
  case yk3n76u1 => (intro w hSw; (try dsimp only at hSw); go_simp; try with_reducible rfl)
  try simp only [Act.put, List.setIfInBounds_toArray, List.set_cons_zero, List.set_cons_succ]
  refine wpAnyH_done (by kernel_rfl) ?_ _
  have HE := hid (U3.out.trans (show Up Nul W2 _ from hHeld))
  clear hHeld
  go_wp2
  go_ret
  exact ⟨by first | rfl | simp, HE.out⟩
end Go.Proofs.YtmhmlfgikmeejaaDoor
