/- 'Ok', by the first of its parts that is false. -/
import Derived.Test.YtmhmlfgikmeejaaDoorRcOkC
import Derived.Test.YtmhmlfgikmeejaaDoorRC
namespace Go.Proofs.YtmhmlfgikmeejaaDoor
open Go.RowKit
set_option linter.unusedVariables false
set_option linter.unusedSimpArgs false
set_option maxRecDepth 100000 in
set_option maxHeartbeats 4000000 in
theorem ok_case4 (w : World) (s : ByteArray) (n sid co : Int) (sa : Option Addr) (ns cs : Nat) (la : Option Addr) (nl cl : Nat) (t : Tb) (k : Nat) (c1 c2 c3 c4 c5 c6 c7 c8 c9 c10 : Bool) (hk : spn 1 8 (k : Int) = true) (hS : Shp w) (hc1 : c1 = true) (hc2 : c2 = true) (hc3 : c3 = true) (hc4 : c4 = false)
    (H : OkC w s n sid co sa ns cs la nl cl t k c1 c2 c3 c4 c5 c6 c7 c8 c9 c10) :
    Calls Tryd.prog 16 #[.agg #[.int .i64 (k : Nat), .string s, .int .i64 n, .int .i64 sid, .slice sa ns cs, .int .i64 co, .slice la nl cl, .int .i64 t.hot, .int .i64 t.warm, .int .i64 t.gap, .int .i64 t.add, .int .i64 t.top, .int .i64 t.half]] w
      fun e w' => e = .returned (.bool (c1 && c2 && c3 && c4 && c5 && c6 && c7 && c8 && c9 && c10)) ∧ Up Nul w w' := by
  subst hc1 hc2 hc3 hc4
  have HK := hid (fun W => kind_any (k : Int) W)
  rw [hk] at HK
  have hk9 : k < 9 := by
    unfold spn at hk
    simp at hk
    omega
  have i0 : (0 : Int) ≤ (k : Int) := by omega
  have i1 : (k : Int) < 9 := by omega
  have HH := hid H
  clear H
  obtain ⟨C, hC⟩ : ∃ C : Array Value, C = #[.int .i64 (k : Nat), .string s, .int .i64 n, .int .i64 sid, .slice sa ns cs, .int .i64 co, .slice la nl cl, .int .i64 t.hot, .int .i64 t.warm, .int .i64 t.gap, .int .i64 t.add, .int .i64 t.top, .int .i64 t.half] := ⟨_, rfl⟩
  have HUA := hid ((Up.refl Nul w).alloc (.cells C 33))
  have HBA : Hid ((w.alloc (.cells C 33)).heap[w.heap.size]? = some (.cells C 33 (0, 0))) := heap_alloc_new _ _
  have HLT : Hid (w.heap.size < (w.alloc (.cells C 33)).heap.size) := by show _ < _; simp
  have HSH := hid hS
  go_enter Tryd.func16, Tryd.ntmps16
  go_wp2_with fail
  rw [← hC]
  refine (HK.out _).mono ?_
  rintro e w1 ⟨rfl, u1⟩
  have hb := (u1.block _ HLT.out id).trans HBA.out
  have HU1 := hid (HUA.out.trans u1)
  have hlt := Nat.lt_of_lt_of_le HLT.out u1.size
  clear u1 HBA HUA HLT
  have y0 := (HSH.out.nxt HU1.out).c k 0 hk9 (by omega)
  have y1 := (HSH.out.nxt HU1.out).c k 1 hk9 (by omega)
  have y2 := (HSH.out.nxt HU1.out).c k 2 hk9 (by omega)
  have y3 := (HSH.out.nxt HU1.out).c k 3 hk9 (by omega)
  have y4 := (HSH.out.nxt HU1.out).c k 4 hk9 (by omega)
  have y5 := (HSH.out.nxt HU1.out).c k 5 hk9 (by omega)
  have y6 := (HSH.out.nxt HU1.out).c k 6 hk9 (by omega)
  have y7 := (HSH.out.nxt HU1.out).c k 7 hk9 (by omega)
  have y8 := (HSH.out.nxt HU1.out).c k 8 hk9 (by omega)
  have y9 := (HSH.out.nxt HU1.out).c k 9 hk9 (by omega)
  have y10 := (HSH.out.nxt HU1.out).c k 10 hk9 (by omega)
  have y11 := (HSH.out.nxt HU1.out).c k 11 hk9 (by omega)
  have y12 := (HSH.out.nxt HU1.out).c k 12 hk9 (by omega)
  have y13 := (HSH.out.nxt HU1.out).c k 13 hk9 (by omega)
  have y14 := (HSH.out.nxt HU1.out).c k 14 hk9 (by omega)
  rw [Nat.add_zero] at y0
  generalize w.heap.size = p at hb hlt ⊢
  have x0 : w1.cell? ⟨p, 0, none⟩ = some (.int .i64 (k : Nat)) := by simp [World.cell?, hb, hC]
  clear hk9
  go_wp2_with fail
  obtain ⟨W2, hW2⟩ : ∃ W, W = w1.alloc (.cells #[.int .i64 (sh k 0), .int .i64 (sh k 1), .int .i64 (sh k 2), .int .i64 (sh k 3), .int .i64 (sh k 4), .int .i64 (sh k 5), .int .i64 (sh k 6), .int .i64 (sh k 7), .int .i64 (sh k 8), .int .i64 (sh k 9), .int .i64 (sh k 10), .int .i64 (sh k 11), .int .i64 (sh k 12), .int .i64 (sh k 13), .int .i64 (sh k 14)] 73) := ⟨_, rfl⟩
  have U2 : Hid (Up Nul w1 W2) := by show Up _ _ _; rw [hW2]; exact (Up.refl Nul w1).alloc _
  have hq : W2.heap[w1.heap.size]? = some (.cells #[.int .i64 (sh k 0), .int .i64 (sh k 1), .int .i64 (sh k 2), .int .i64 (sh k 3), .int .i64 (sh k 4), .int .i64 (sh k 5), .int .i64 (sh k 6), .int .i64 (sh k 7), .int .i64 (sh k 8), .int .i64 (sh k 9), .int .i64 (sh k 10), .int .i64 (sh k 11), .int .i64 (sh k 12), .int .i64 (sh k 13), .int .i64 (sh k 14)] 73 (0, 0)) := by rw [hW2]; exact heap_alloc_new _ _
  have hp := (U2.out.block p hlt id).trans hb
  rw [hC] at hp
  have hq2 : w1.heap.size < W2.heap.size := by rw [hW2]; simp
  have hp2 := Nat.lt_of_lt_of_le hlt U2.out.size
  have U3 := hid (HU1.out.trans U2.out)
  rw [← hW2]
  clear hW2 x0 y0 y1 y2 y3 y4 y5 y6 y7 y8 y9 y10 y11 y12 y13 y14 hb U2 HU1 hlt
  generalize w1.heap.size = q at hq hq2 ⊢
  have Hp1 : Hid (∀ W, Up Nul W2 W → W.cell? ⟨p, 1, none⟩ = some (.string s)) := fun W u => by have a := (u.block p hp2 id).trans hp; simp only [World.cell?, a]; rfl
  have Hp2 : Hid (∀ W, Up Nul W2 W → W.cell? ⟨p, 2, none⟩ = some (.int .i64 n)) := fun W u => by have a := (u.block p hp2 id).trans hp; simp only [World.cell?, a]; rfl
  have Hp3 : Hid (∀ W, Up Nul W2 W → W.cell? ⟨p, 3, none⟩ = some (.int .i64 sid)) := fun W u => by have a := (u.block p hp2 id).trans hp; simp only [World.cell?, a]; rfl
  have Hp4 : Hid (∀ W, Up Nul W2 W → W.cell? ⟨p, 4, none⟩ = some (.slice sa ns cs)) := fun W u => by have a := (u.block p hp2 id).trans hp; simp only [World.cell?, a]; rfl
  have Hp5 : Hid (∀ W, Up Nul W2 W → W.cell? ⟨p, 5, none⟩ = some (.int .i64 co)) := fun W u => by have a := (u.block p hp2 id).trans hp; simp only [World.cell?, a]; rfl
  have Hp6 : Hid (∀ W, Up Nul W2 W → W.cell? ⟨p, 6, none⟩ = some (.slice la nl cl)) := fun W u => by have a := (u.block p hp2 id).trans hp; simp only [World.cell?, a]; rfl
  have Hp7 : Hid (∀ W, Up Nul W2 W → W.cell? ⟨p, 7, none⟩ = some (.int .i64 t.hot)) := fun W u => by have a := (u.block p hp2 id).trans hp; simp only [World.cell?, a]; rfl
  have Hp8 : Hid (∀ W, Up Nul W2 W → W.cell? ⟨p, 8, none⟩ = some (.int .i64 t.warm)) := fun W u => by have a := (u.block p hp2 id).trans hp; simp only [World.cell?, a]; rfl
  have Hp9 : Hid (∀ W, Up Nul W2 W → W.cell? ⟨p, 9, none⟩ = some (.int .i64 t.gap)) := fun W u => by have a := (u.block p hp2 id).trans hp; simp only [World.cell?, a]; rfl
  have Hp10 : Hid (∀ W, Up Nul W2 W → W.cell? ⟨p, 10, none⟩ = some (.int .i64 t.add)) := fun W u => by have a := (u.block p hp2 id).trans hp; simp only [World.cell?, a]; rfl
  have Hp11 : Hid (∀ W, Up Nul W2 W → W.cell? ⟨p, 11, none⟩ = some (.int .i64 t.top)) := fun W u => by have a := (u.block p hp2 id).trans hp; simp only [World.cell?, a]; rfl
  have Hp12 : Hid (∀ W, Up Nul W2 W → W.cell? ⟨p, 12, none⟩ = some (.int .i64 t.half)) := fun W u => by have a := (u.block p hp2 id).trans hp; simp only [World.cell?, a]; rfl
  have Hq0 : Hid (∀ W, Up Nul W2 W → W.cell? ⟨q, 0, none⟩ = some (.int .i64 (sh k 0))) := fun W u => by have a := (u.block q hq2 id).trans hq; simp only [World.cell?, a]; rfl
  have Hq1 : Hid (∀ W, Up Nul W2 W → W.cell? ⟨q, 1, none⟩ = some (.int .i64 (sh k 1))) := fun W u => by have a := (u.block q hq2 id).trans hq; simp only [World.cell?, a]; rfl
  have Hq2 : Hid (∀ W, Up Nul W2 W → W.cell? ⟨q, 2, none⟩ = some (.int .i64 (sh k 2))) := fun W u => by have a := (u.block q hq2 id).trans hq; simp only [World.cell?, a]; rfl
  have Hq3 : Hid (∀ W, Up Nul W2 W → W.cell? ⟨q, 3, none⟩ = some (.int .i64 (sh k 3))) := fun W u => by have a := (u.block q hq2 id).trans hq; simp only [World.cell?, a]; rfl
  have Hq4 : Hid (∀ W, Up Nul W2 W → W.cell? ⟨q, 4, none⟩ = some (.int .i64 (sh k 4))) := fun W u => by have a := (u.block q hq2 id).trans hq; simp only [World.cell?, a]; rfl
  have Hq5 : Hid (∀ W, Up Nul W2 W → W.cell? ⟨q, 5, none⟩ = some (.int .i64 (sh k 5))) := fun W u => by have a := (u.block q hq2 id).trans hq; simp only [World.cell?, a]; rfl
  have Hq6 : Hid (∀ W, Up Nul W2 W → W.cell? ⟨q, 6, none⟩ = some (.int .i64 (sh k 6))) := fun W u => by have a := (u.block q hq2 id).trans hq; simp only [World.cell?, a]; rfl
  have Hq7 : Hid (∀ W, Up Nul W2 W → W.cell? ⟨q, 7, none⟩ = some (.int .i64 (sh k 7))) := fun W u => by have a := (u.block q hq2 id).trans hq; simp only [World.cell?, a]; rfl
  have Hq8 : Hid (∀ W, Up Nul W2 W → W.cell? ⟨q, 8, none⟩ = some (.int .i64 (sh k 8))) := fun W u => by have a := (u.block q hq2 id).trans hq; simp only [World.cell?, a]; rfl
  have Hq9 : Hid (∀ W, Up Nul W2 W → W.cell? ⟨q, 9, none⟩ = some (.int .i64 (sh k 9))) := fun W u => by have a := (u.block q hq2 id).trans hq; simp only [World.cell?, a]; rfl
  have Hq10 : Hid (∀ W, Up Nul W2 W → W.cell? ⟨q, 10, none⟩ = some (.int .i64 (sh k 10))) := fun W u => by have a := (u.block q hq2 id).trans hq; simp only [World.cell?, a]; rfl
  have Hq11 : Hid (∀ W, Up Nul W2 W → W.cell? ⟨q, 11, none⟩ = some (.int .i64 (sh k 11))) := fun W u => by have a := (u.block q hq2 id).trans hq; simp only [World.cell?, a]; rfl
  have Hq12 : Hid (∀ W, Up Nul W2 W → W.cell? ⟨q, 12, none⟩ = some (.int .i64 (sh k 12))) := fun W u => by have a := (u.block q hq2 id).trans hq; simp only [World.cell?, a]; rfl
  have Hq13 : Hid (∀ W, Up Nul W2 W → W.cell? ⟨q, 13, none⟩ = some (.int .i64 (sh k 13))) := fun W u => by have a := (u.block q hq2 id).trans hq; simp only [World.cell?, a]; rfl
  have Hq14 : Hid (∀ W, Up Nul W2 W → W.cell? ⟨q, 14, none⟩ = some (.int .i64 (sh k 14))) := fun W u => by have a := (u.block q hq2 id).trans hq; simp only [World.cell?, a]; rfl
  clear hp hq hp2 hq2
  have HR := hid (Up.refl Nul W2)
  simp only [List.append]
  refine wp_region_held_drew (S := (fun W => Up Nul W2 W)) (by kernel_rfl) (by exact HR.out.drew) (fun hHeld => ?_)
  refine wpAnyH_take (i := 0) (oi := ⟨some 12, _, _, _, _, _⟩) (v := ?vk4n1u1) rfl (by kernel_rfl) (by kernel_rfl) (by kernel_rfl) (fun _ _ _ h => h) (Or.inl ⟨by rfl, ?yk4n1u1⟩) (by assumption) ?rk4n1u1
  case yk4n1u1 => (intro w hSw; (try dsimp only at hSw); go_simp; try with_reducible rfl)
  try simp only [Act.put, List.setIfInBounds_toArray, List.set_cons_zero, List.set_cons_succ]
  refine wpAnyH_take (i := 1) (oi := ⟨some 13, _, _, _, _, _⟩) (v := ?vk4x2) rfl (by kernel_rfl) (by kernel_rfl) (by kernel_rfl) (fun _ _ _ h => h) (Or.inl ⟨by rfl, ?yk4x2⟩) (by assumption) ?rk4x2
  case yk4x2 => (intro w hSw; have aq0 := Hq0.out w hSw; have aq1 := Hq1.out w hSw; go_simp; try with_reducible rfl)
  try simp only [Act.put, List.setIfInBounds_toArray, List.set_cons_zero, List.set_cons_succ]
  refine wpAnyH_take (i := 2) (oi := ⟨some 14, _, _, _, _, _⟩) (v := ?vk4n3u1) rfl (by kernel_rfl) (by kernel_rfl) (by kernel_rfl) (fun _ _ _ h => h) (Or.inl ⟨by rfl, ?yk4n3u1⟩) (by assumption) ?rk4n3u1
  case yk4n3u1 => (intro w hSw; (try dsimp only at hSw); go_simp; try with_reducible rfl)
  try simp only [Act.put, List.setIfInBounds_toArray, List.set_cons_zero, List.set_cons_succ]
  refine wpAnyH_take (i := 3) (oi := ⟨some 15, _, _, _, _, _⟩) (v := ?vk4x4) rfl (by kernel_rfl) (by kernel_rfl) (by kernel_rfl) (fun _ _ _ h => h) (Or.inl ⟨by rfl, ?yk4x4⟩) (by assumption) ?rk4x4
  case yk4x4 => (intro w hSw; have ap1 := Hp1.out w hSw; go_simp; try with_reducible rfl)
  try simp only [Act.put, List.setIfInBounds_toArray, List.set_cons_zero, List.set_cons_succ]
  refine wpAnyH_take (i := 4) (oi := ⟨some 16, _, _, _, _, _⟩) (v := ?vk4n5u1) rfl (by kernel_rfl) (by kernel_rfl) (by kernel_rfl) (fun _ _ _ h => h) (Or.inl ⟨by rfl, ?yk4n5u1⟩) (by assumption) ?rk4n5u1
  case yk4n5u1 => (intro w hSw; (try dsimp only at hSw); go_simp; try with_reducible rfl)
  try simp only [Act.put, List.setIfInBounds_toArray, List.set_cons_zero, List.set_cons_succ]
  refine wpAnyH_ready (rs := [5]) (by kernel_rfl) (by simp) ?_
  refine AllReadyH.cons (o := ⟨some 17, _, _, _, _, _⟩) rfl (fun K hK => ?_) AllReadyH.nil
  go_simp
  skip
  refine hK.out _ _ ?kk4n6u1 (fun hHeld => ?_)
  case kk4n6u1 => exact (by first | exact Up.alloc (show Up Nul W2 _ from hHeld) _ | exact (Up.alloc (show Up Nul W2 _ from HR.out) _).drew)
  clear hK K
  try simp only [Act.put, List.setIfInBounds_toArray, List.set_cons_zero, List.set_cons_succ]
  refine wpAnyH_ready (rs := [6]) (by kernel_rfl) (by simp) ?_
  refine AllReadyH.cons (o := ⟨some 18, _, _, _, _, _⟩) rfl (fun K hK => ?_) AllReadyH.nil
  go_simp
  go_at_call 25; refine (HH.out.h1 _ (U3.out.trans (show Up Nul W2 _ from hHeld)) _ (by first | exact World.cell?_alloc_new _ _ _ 0 | (simp; done) | go_simp)).mono ?_; rintro e wb ⟨rfl, kb⟩
  refine hK.out _ _ ?kk4n7u1 (fun hHeld => ?_)
  case kk4n7u1 => exact (Up.trans (show Up Nul W2 _ from hHeld) kb)
  clear hK K
  try simp only [Act.put, List.setIfInBounds_toArray, List.set_cons_zero, List.set_cons_succ]
  refine wpAnyH_take (i := 7) (oi := ⟨some 19, _, _, _, _, _⟩) (v := ?vk4n8u1) rfl (by kernel_rfl) (by kernel_rfl) (by kernel_rfl) (fun _ _ _ h => h) (Or.inl ⟨by rfl, ?yk4n8u1⟩) (by assumption) ?rk4n8u1
  case yk4n8u1 => (intro w hSw; (try dsimp only at hSw); go_simp; try with_reducible rfl)
  try simp only [Act.put, List.setIfInBounds_toArray, List.set_cons_zero, List.set_cons_succ]
  refine wpAnyH_take (i := 8) (oi := ⟨some 20, _, _, _, _, _⟩) (v := ?vk4n9u1) rfl (by kernel_rfl) (by kernel_rfl) (by kernel_rfl) (fun _ _ _ h => h) (Or.inl ⟨by rfl, ?yk4n9u1⟩) (by assumption) ?rk4n9u1
  case yk4n9u1 => (intro w hSw; (try dsimp only at hSw); go_simp; try with_reducible rfl)
  try simp only [Act.put, List.setIfInBounds_toArray, List.set_cons_zero, List.set_cons_succ]
  refine wpAnyH_take (i := 9) (oi := ⟨some 21, _, _, _, _, _⟩) (v := ?vk4x10) rfl (by kernel_rfl) (by kernel_rfl) (by kernel_rfl) (fun _ _ _ h => h) (Or.inl ⟨by rfl, ?yk4x10⟩) (by assumption) ?rk4x10
  case yk4x10 => (intro w hSw; have ap1 := Hp1.out w hSw; go_simp; try with_reducible rfl)
  try simp only [Act.put, List.setIfInBounds_toArray, List.set_cons_zero, List.set_cons_succ]
  refine wpAnyH_ready (rs := [10]) (by kernel_rfl) (by simp) ?_
  refine AllReadyH.cons (o := ⟨some 22, _, _, _, _, _⟩) rfl (fun K hK => ?_) AllReadyH.nil
  go_simp
  go_at_call 26; refine (HH.out.h2 _).mono ?_; rintro e wb ⟨rfl, kb⟩
  refine hK.out _ _ ?kk4n11u1 (fun hHeld => ?_)
  case kk4n11u1 => exact (Up.trans (show Up Nul W2 _ from hHeld) kb)
  clear hK K
  try simp only [Act.put, List.setIfInBounds_toArray, List.set_cons_zero, List.set_cons_succ]
  refine wpAnyH_take (i := 11) (oi := ⟨some 23, _, _, _, _, _⟩) (v := ?vk4n12u1) rfl (by kernel_rfl) (by kernel_rfl) (by kernel_rfl) (fun _ _ _ h => h) (Or.inl ⟨by rfl, ?yk4n12u1⟩) (by assumption) ?rk4n12u1
  case yk4n12u1 => (intro w hSw; (try dsimp only at hSw); go_simp; try with_reducible rfl)
  try simp only [Act.put, List.setIfInBounds_toArray, List.set_cons_zero, List.set_cons_succ]
  refine wpAnyH_take (i := 12) (oi := ⟨some 24, _, _, _, _, _⟩) (v := ?vk4n13u1) rfl (by kernel_rfl) (by kernel_rfl) (by kernel_rfl) (fun _ _ _ h => h) (Or.inl ⟨by rfl, ?yk4n13u1⟩) (by assumption) ?rk4n13u1
  case yk4n13u1 => (intro w hSw; (try dsimp only at hSw); go_simp; try with_reducible rfl)
  try simp only [Act.put, List.setIfInBounds_toArray, List.set_cons_zero, List.set_cons_succ]
  refine wpAnyH_take (i := 13) (oi := ⟨some 25, _, _, _, _, _⟩) (v := ?vk4n14u1) rfl (by kernel_rfl) (by kernel_rfl) (by kernel_rfl) (fun _ _ _ h => h) (Or.inl ⟨by rfl, ?yk4n14u1⟩) (by assumption) ?rk4n14u1
  case yk4n14u1 => (intro w hSw; (try dsimp only at hSw); go_simp; try with_reducible rfl)
  try simp only [Act.put, List.setIfInBounds_toArray, List.set_cons_zero, List.set_cons_succ]
  refine wpAnyH_take (i := 14) (oi := ⟨some 26, _, _, _, _, _⟩) (v := ?vk4x15) rfl (by kernel_rfl) (by kernel_rfl) (by kernel_rfl) (fun _ _ _ h => h) (Or.inl ⟨by rfl, ?yk4x15⟩) (by assumption) ?rk4x15
  case yk4x15 => (intro w hSw; have aq2 := Hq2.out w hSw; have aq3 := Hq3.out w hSw; go_simp; try with_reducible rfl)
  try simp only [Act.put, List.setIfInBounds_toArray, List.set_cons_zero, List.set_cons_succ]
  refine wpAnyH_take (i := 15) (oi := ⟨some 27, _, _, _, _, _⟩) (v := ?vk4n16u1) rfl (by kernel_rfl) (by kernel_rfl) (by kernel_rfl) (fun _ _ _ h => h) (Or.inl ⟨by rfl, ?yk4n16u1⟩) (by assumption) ?rk4n16u1
  case yk4n16u1 => (intro w hSw; (try dsimp only at hSw); go_simp; try with_reducible rfl)
  try simp only [Act.put, List.setIfInBounds_toArray, List.set_cons_zero, List.set_cons_succ]
  refine wpAnyH_take (i := 16) (oi := ⟨some 28, _, _, _, _, _⟩) (v := ?vk4x17) rfl (by kernel_rfl) (by kernel_rfl) (by kernel_rfl) (fun _ _ _ h => h) (Or.inl ⟨by rfl, ?yk4x17⟩) (by assumption) ?rk4x17
  case yk4x17 => (intro w hSw; have ap2 := Hp2.out w hSw; go_simp; try with_reducible rfl)
  try simp only [Act.put, List.setIfInBounds_toArray, List.set_cons_zero, List.set_cons_succ]
  refine wpAnyH_ready (rs := [17]) (by kernel_rfl) (by simp) ?_
  refine AllReadyH.cons (o := ⟨some 29, _, _, _, _, _⟩) rfl (fun K hK => ?_) AllReadyH.nil
  go_simp
  skip
  refine hK.out _ _ ?kk4n18u1 (fun hHeld => ?_)
  case kk4n18u1 => exact (by first | exact Up.alloc (show Up Nul W2 _ from hHeld) _ | exact (Up.alloc (show Up Nul W2 _ from HR.out) _).drew)
  clear hK K
  try simp only [Act.put, List.setIfInBounds_toArray, List.set_cons_zero, List.set_cons_succ]
  refine wpAnyH_ready (rs := [18]) (by kernel_rfl) (by simp) ?_
  refine AllReadyH.cons (o := ⟨some 30, _, _, _, _, _⟩) rfl (fun K hK => ?_) AllReadyH.nil
  go_simp
  go_at_call 25; refine (HH.out.h3 _ (U3.out.trans (show Up Nul W2 _ from hHeld)) _ (by first | exact World.cell?_alloc_new _ _ _ 0 | (simp; done) | go_simp)).mono ?_; rintro e wb ⟨rfl, kb⟩
  refine hK.out _ _ ?kk4n19u1 (fun hHeld => ?_)
  case kk4n19u1 => exact (Up.trans (show Up Nul W2 _ from hHeld) kb)
  clear hK K
  try simp only [Act.put, List.setIfInBounds_toArray, List.set_cons_zero, List.set_cons_succ]
  refine wpAnyH_take (i := 19) (oi := ⟨some 31, _, _, _, _, _⟩) (v := ?vk4n20u1) rfl (by kernel_rfl) (by kernel_rfl) (by kernel_rfl) (fun _ _ _ h => h) (Or.inl ⟨by rfl, ?yk4n20u1⟩) (by assumption) ?rk4n20u1
  case yk4n20u1 => (intro w hSw; (try dsimp only at hSw); go_simp; try with_reducible rfl)
  try simp only [Act.put, List.setIfInBounds_toArray, List.set_cons_zero, List.set_cons_succ]
  refine wpAnyH_take (i := 20) (oi := ⟨some 32, _, _, _, _, _⟩) (v := ?vk4n21u1) rfl (by kernel_rfl) (by kernel_rfl) (by kernel_rfl) (fun _ _ _ h => h) (Or.inl ⟨by rfl, ?yk4n21u1⟩) (by assumption) ?rk4n21u1
  case yk4n21u1 => (intro w hSw; (try dsimp only at hSw); go_simp; try with_reducible rfl)
  try simp only [Act.put, List.setIfInBounds_toArray, List.set_cons_zero, List.set_cons_succ]
  refine wpAnyH_take (i := 21) (oi := ⟨some 33, _, _, _, _, _⟩) (v := ?vk4n22u1) rfl (by kernel_rfl) (by kernel_rfl) (by kernel_rfl) (fun _ _ _ h => h) (Or.inl ⟨by rfl, ?yk4n22u1⟩) (by assumption) ?rk4n22u1
  case yk4n22u1 => (intro w hSw; (try dsimp only at hSw); go_simp; try with_reducible rfl)
  try simp only [Act.put, List.setIfInBounds_toArray, List.set_cons_zero, List.set_cons_succ]
  refine wpAnyH_take (i := 22) (oi := ⟨some 34, _, _, _, _, _⟩) (v := ?vk4x23) rfl (by kernel_rfl) (by kernel_rfl) (by kernel_rfl) (fun _ _ _ h => h) (Or.inl ⟨by rfl, ?yk4x23⟩) (by assumption) ?rk4x23
  case yk4x23 => (intro w hSw; have aq4 := Hq4.out w hSw; have aq5 := Hq5.out w hSw; go_simp; try with_reducible rfl)
  try simp only [Act.put, List.setIfInBounds_toArray, List.set_cons_zero, List.set_cons_succ]
  refine wpAnyH_take (i := 23) (oi := ⟨some 35, _, _, _, _, _⟩) (v := ?vk4n24u1) rfl (by kernel_rfl) (by kernel_rfl) (by kernel_rfl) (fun _ _ _ h => h) (Or.inl ⟨by rfl, ?yk4n24u1⟩) (by assumption) ?rk4n24u1
  case yk4n24u1 => (intro w hSw; (try dsimp only at hSw); go_simp; try with_reducible rfl)
  try simp only [Act.put, List.setIfInBounds_toArray, List.set_cons_zero, List.set_cons_succ]
  refine wpAnyH_take (i := 24) (oi := ⟨some 36, _, _, _, _, _⟩) (v := ?vk4x25) rfl (by kernel_rfl) (by kernel_rfl) (by kernel_rfl) (fun _ _ _ h => h) (Or.inl ⟨by rfl, ?yk4x25⟩) (by assumption) ?rk4x25
  case yk4x25 => (intro w hSw; have ap3 := Hp3.out w hSw; go_simp; try with_reducible rfl)
  try simp only [Act.put, List.setIfInBounds_toArray, List.set_cons_zero, List.set_cons_succ]
  refine wpAnyH_ready (rs := [25]) (by kernel_rfl) (by simp) ?_
  refine AllReadyH.cons (o := ⟨some 37, _, _, _, _, _⟩) rfl (fun K hK => ?_) AllReadyH.nil
  go_simp
  skip
  refine hK.out _ _ ?kk4n26u1 (fun hHeld => ?_)
  case kk4n26u1 => exact (by first | exact Up.alloc (show Up Nul W2 _ from hHeld) _ | exact (Up.alloc (show Up Nul W2 _ from HR.out) _).drew)
  clear hK K
  try simp only [Act.put, List.setIfInBounds_toArray, List.set_cons_zero, List.set_cons_succ]
  refine wpAnyH_ready (rs := [26]) (by kernel_rfl) (by simp) ?_
  refine AllReadyH.cons (o := ⟨some 38, _, _, _, _, _⟩) rfl (fun K hK => ?_) AllReadyH.nil
  go_simp
  go_at_call 25; refine (HH.out.h4 _ (U3.out.trans (show Up Nul W2 _ from hHeld)) _ (by first | exact World.cell?_alloc_new _ _ _ 0 | (simp; done) | go_simp)).mono ?_; rintro e wb ⟨rfl, kb⟩
  refine hK.out _ _ ?kk4n27u1 (fun hHeld => ?_)
  case kk4n27u1 => exact (Up.trans (show Up Nul W2 _ from hHeld) kb)
  clear hK K
  try simp only [Act.put, List.setIfInBounds_toArray, List.set_cons_zero, List.set_cons_succ]
  refine wpAnyH_take (i := 27) (oi := ⟨some 39, _, _, _, _, _⟩) (v := ?vk4n28u1) rfl (by kernel_rfl) (by kernel_rfl) (by kernel_rfl) (fun _ _ _ h => h) (Or.inl ⟨by rfl, ?yk4n28u1⟩) (by assumption) ?rk4n28u1
  case yk4n28u1 => (intro w hSw; (try dsimp only at hSw); go_simp; try with_reducible rfl)
  try simp only [Act.put, List.setIfInBounds_toArray, List.set_cons_zero, List.set_cons_succ]
  refine wpAnyH_take (i := 28) (oi := ⟨some 40, _, _, _, _, _⟩) (v := ?vk4n29u1) rfl (by kernel_rfl) (by kernel_rfl) (by kernel_rfl) (fun _ _ _ h => h) (Or.inl ⟨by rfl, ?yk4n29u1⟩) (by assumption) ?rk4n29u1
  case yk4n29u1 => (intro w hSw; (try dsimp only at hSw); go_simp; try with_reducible rfl)
  try simp only [Act.put, List.setIfInBounds_toArray, List.set_cons_zero, List.set_cons_succ]
  refine wpAnyH_take (i := 29) (oi := ⟨some 41, _, _, _, _, _⟩) (v := undef) rfl (by kernel_rfl) (by kernel_rfl) (by kernel_rfl) (fun _ _ _ h => h) (Or.inr ⟨by rfl, rfl⟩) (by assumption) ?rk4n30u1
  try simp only [Act.put, List.setIfInBounds_toArray, List.set_cons_zero, List.set_cons_succ]
  refine wpAnyH_take (i := 30) (oi := ⟨some 42, _, _, _, _, _⟩) (v := undef) rfl (by kernel_rfl) (by kernel_rfl) (by kernel_rfl) (fun _ _ _ h => h) (Or.inr ⟨by rfl, rfl⟩) (by assumption) ?rk4n31u1
  try simp only [Act.put, List.setIfInBounds_toArray, List.set_cons_zero, List.set_cons_succ]
  refine wpAnyH_take (i := 31) (oi := ⟨some 43, _, _, _, _, _⟩) (v := undef) rfl (by kernel_rfl) (by kernel_rfl) (by kernel_rfl) (fun _ _ _ h => h) (Or.inr ⟨by rfl, rfl⟩) (by assumption) ?rk4n32u1
  try simp only [Act.put, List.setIfInBounds_toArray, List.set_cons_zero, List.set_cons_succ]
  refine wpAnyH_take (i := 32) (oi := ⟨some 44, _, _, _, _, _⟩) (v := undef) rfl (by kernel_rfl) (by kernel_rfl) (by kernel_rfl) (fun _ _ _ h => h) (Or.inr ⟨by rfl, rfl⟩) (by assumption) ?rk4n33u1
  try simp only [Act.put, List.setIfInBounds_toArray, List.set_cons_zero, List.set_cons_succ]
  refine wpAnyH_take (i := 33) (oi := ⟨some 45, _, _, _, _, _⟩) (v := undef) rfl (by kernel_rfl) (by kernel_rfl) (by kernel_rfl) (fun _ _ _ h => h) (Or.inr ⟨by rfl, rfl⟩) (by assumption) ?rk4n34u1
  try simp only [Act.put, List.setIfInBounds_toArray, List.set_cons_zero, List.set_cons_succ]
  refine wpAnyH_take (i := 34) (oi := ⟨some 46, _, _, _, _, _⟩) (v := undef) rfl (by kernel_rfl) (by kernel_rfl) (by kernel_rfl) (fun _ _ _ h => h) (Or.inr ⟨by rfl, rfl⟩) (by assumption) ?rk4n35u1
  try simp only [Act.put, List.setIfInBounds_toArray, List.set_cons_zero, List.set_cons_succ]
  refine wpAnyH_take (i := 35) (oi := ⟨some 47, _, _, _, _, _⟩) (v := ?vk4n36u1) rfl (by kernel_rfl) (by kernel_rfl) (by kernel_rfl) (fun _ _ _ h => h) (Or.inl ⟨by rfl, ?yk4n36u1⟩) (by assumption) ?rk4n36u1
  case yk4n36u1 => (intro w hSw; (try dsimp only at hSw); go_simp; try with_reducible rfl)
  try simp only [Act.put, List.setIfInBounds_toArray, List.set_cons_zero, List.set_cons_succ]
  refine wpAnyH_take (i := 36) (oi := ⟨some 48, _, _, _, _, _⟩) (v := ?vk4n37u1) rfl (by kernel_rfl) (by kernel_rfl) (by kernel_rfl) (fun _ _ _ h => h) (Or.inl ⟨by rfl, ?yk4n37u1⟩) (by assumption) ?rk4n37u1
  case yk4n37u1 => (intro w hSw; (try dsimp only at hSw); go_simp; try with_reducible rfl)
  try simp only [Act.put, List.setIfInBounds_toArray, List.set_cons_zero, List.set_cons_succ]
  refine wpAnyH_take (i := 37) (oi := ⟨some 49, _, _, _, _, _⟩) (v := undef) rfl (by kernel_rfl) (by kernel_rfl) (by kernel_rfl) (fun _ _ _ h => h) (Or.inr ⟨by rfl, rfl⟩) (by assumption) ?rk4n38u1
  try simp only [Act.put, List.setIfInBounds_toArray, List.set_cons_zero, List.set_cons_succ]
  refine wpAnyH_take (i := 38) (oi := ⟨some 50, _, _, _, _, _⟩) (v := undef) rfl (by kernel_rfl) (by kernel_rfl) (by kernel_rfl) (fun _ _ _ h => h) (Or.inr ⟨by rfl, rfl⟩) (by assumption) ?rk4n39u1
  try simp only [Act.put, List.setIfInBounds_toArray, List.set_cons_zero, List.set_cons_succ]
  refine wpAnyH_take (i := 39) (oi := ⟨some 51, _, _, _, _, _⟩) (v := undef) rfl (by kernel_rfl) (by kernel_rfl) (by kernel_rfl) (fun _ _ _ h => h) (Or.inr ⟨by rfl, rfl⟩) (by assumption) ?rk4n40u1
  try simp only [Act.put, List.setIfInBounds_toArray, List.set_cons_zero, List.set_cons_succ]
  refine wpAnyH_take (i := 40) (oi := ⟨some 52, _, _, _, _, _⟩) (v := undef) rfl (by kernel_rfl) (by kernel_rfl) (by kernel_rfl) (fun _ _ _ h => h) (Or.inr ⟨by rfl, rfl⟩) (by assumption) ?rk4n41u1
  try simp only [Act.put, List.setIfInBounds_toArray, List.set_cons_zero, List.set_cons_succ]
  refine wpAnyH_take (i := 41) (oi := ⟨some 53, _, _, _, _, _⟩) (v := undef) rfl (by kernel_rfl) (by kernel_rfl) (by kernel_rfl) (fun _ _ _ h => h) (Or.inr ⟨by rfl, rfl⟩) (by assumption) ?rk4n42u1
  try simp only [Act.put, List.setIfInBounds_toArray, List.set_cons_zero, List.set_cons_succ]
  refine wpAnyH_take (i := 42) (oi := ⟨some 54, _, _, _, _, _⟩) (v := undef) rfl (by kernel_rfl) (by kernel_rfl) (by kernel_rfl) (fun _ _ _ h => h) (Or.inr ⟨by rfl, rfl⟩) (by assumption) ?rk4n43u1
  try simp only [Act.put, List.setIfInBounds_toArray, List.set_cons_zero, List.set_cons_succ]
  refine wpAnyH_take (i := 43) (oi := ⟨some 55, _, _, _, _, _⟩) (v := ?vk4n44u1) rfl (by kernel_rfl) (by kernel_rfl) (by kernel_rfl) (fun _ _ _ h => h) (Or.inl ⟨by rfl, ?yk4n44u1⟩) (by assumption) ?rk4n44u1
  case yk4n44u1 => (intro w hSw; (try dsimp only at hSw); go_simp; try with_reducible rfl)
  try simp only [Act.put, List.setIfInBounds_toArray, List.set_cons_zero, List.set_cons_succ]
  refine wpAnyH_take (i := 44) (oi := ⟨some 56, _, _, _, _, _⟩) (v := ?vk4n45u1) rfl (by kernel_rfl) (by kernel_rfl) (by kernel_rfl) (fun _ _ _ h => h) (Or.inl ⟨by rfl, ?yk4n45u1⟩) (by assumption) ?rk4n45u1
  case yk4n45u1 => (intro w hSw; (try dsimp only at hSw); go_simp; try with_reducible rfl)
  try simp only [Act.put, List.setIfInBounds_toArray, List.set_cons_zero, List.set_cons_succ]
  refine wpAnyH_take (i := 45) (oi := ⟨some 57, _, _, _, _, _⟩) (v := undef) rfl (by kernel_rfl) (by kernel_rfl) (by kernel_rfl) (fun _ _ _ h => h) (Or.inr ⟨by rfl, rfl⟩) (by assumption) ?rk4n46u1
  try simp only [Act.put, List.setIfInBounds_toArray, List.set_cons_zero, List.set_cons_succ]
  refine wpAnyH_take (i := 46) (oi := ⟨some 58, _, _, _, _, _⟩) (v := undef) rfl (by kernel_rfl) (by kernel_rfl) (by kernel_rfl) (fun _ _ _ h => h) (Or.inr ⟨by rfl, rfl⟩) (by assumption) ?rk4n47u1
  try simp only [Act.put, List.setIfInBounds_toArray, List.set_cons_zero, List.set_cons_succ]
  refine wpAnyH_take (i := 47) (oi := ⟨some 59, _, _, _, _, _⟩) (v := undef) rfl (by kernel_rfl) (by kernel_rfl) (by kernel_rfl) (fun _ _ _ h => h) (Or.inr ⟨by rfl, rfl⟩) (by assumption) ?rk4n48u1
  try simp only [Act.put, List.setIfInBounds_toArray, List.set_cons_zero, List.set_cons_succ]
  refine wpAnyH_take (i := 48) (oi := ⟨some 60, _, _, _, _, _⟩) (v := undef) rfl (by kernel_rfl) (by kernel_rfl) (by kernel_rfl) (fun _ _ _ h => h) (Or.inr ⟨by rfl, rfl⟩) (by assumption) ?rk4n49u1
  try simp only [Act.put, List.setIfInBounds_toArray, List.set_cons_zero, List.set_cons_succ]
  refine wpAnyH_take (i := 49) (oi := ⟨some 61, _, _, _, _, _⟩) (v := undef) rfl (by kernel_rfl) (by kernel_rfl) (by kernel_rfl) (fun _ _ _ h => h) (Or.inr ⟨by rfl, rfl⟩) (by assumption) ?rk4n50u1
  try simp only [Act.put, List.setIfInBounds_toArray, List.set_cons_zero, List.set_cons_succ]
  refine wpAnyH_take (i := 50) (oi := ⟨some 62, _, _, _, _, _⟩) (v := ?vk4n51u1) rfl (by kernel_rfl) (by kernel_rfl) (by kernel_rfl) (fun _ _ _ h => h) (Or.inl ⟨by rfl, ?yk4n51u1⟩) (by assumption) ?rk4n51u1
  case yk4n51u1 => (intro w hSw; (try dsimp only at hSw); go_simp; try with_reducible rfl)
  try simp only [Act.put, List.setIfInBounds_toArray, List.set_cons_zero, List.set_cons_succ]
  refine wpAnyH_take (i := 51) (oi := ⟨some 63, _, _, _, _, _⟩) (v := ?vk4n52u1) rfl (by kernel_rfl) (by kernel_rfl) (by kernel_rfl) (fun _ _ _ h => h) (Or.inl ⟨by rfl, ?yk4n52u1⟩) (by assumption) ?rk4n52u1
  case yk4n52u1 => (intro w hSw; (try dsimp only at hSw); go_simp; try with_reducible rfl)
  try simp only [Act.put, List.setIfInBounds_toArray, List.set_cons_zero, List.set_cons_succ]
  refine wpAnyH_take (i := 52) (oi := ⟨some 64, _, _, _, _, _⟩) (v := undef) rfl (by kernel_rfl) (by kernel_rfl) (by kernel_rfl) (fun _ _ _ h => h) (Or.inr ⟨by rfl, rfl⟩) (by assumption) ?rk4n53u1
  try simp only [Act.put, List.setIfInBounds_toArray, List.set_cons_zero, List.set_cons_succ]
  refine wpAnyH_take (i := 53) (oi := ⟨some 65, _, _, _, _, _⟩) (v := undef) rfl (by kernel_rfl) (by kernel_rfl) (by kernel_rfl) (fun _ _ _ h => h) (Or.inr ⟨by rfl, rfl⟩) (by assumption) ?rk4n54u1
  try simp only [Act.put, List.setIfInBounds_toArray, List.set_cons_zero, List.set_cons_succ]
  refine wpAnyH_take (i := 54) (oi := ⟨some 66, _, _, _, _, _⟩) (v := undef) rfl (by kernel_rfl) (by kernel_rfl) (by kernel_rfl) (fun _ _ _ h => h) (Or.inr ⟨by rfl, rfl⟩) (by assumption) ?rk4n55u1
  try simp only [Act.put, List.setIfInBounds_toArray, List.set_cons_zero, List.set_cons_succ]
  refine wpAnyH_take (i := 55) (oi := ⟨some 67, _, _, _, _, _⟩) (v := undef) rfl (by kernel_rfl) (by kernel_rfl) (by kernel_rfl) (fun _ _ _ h => h) (Or.inr ⟨by rfl, rfl⟩) (by assumption) ?rk4n56u1
  try simp only [Act.put, List.setIfInBounds_toArray, List.set_cons_zero, List.set_cons_succ]
  refine wpAnyH_take (i := 56) (oi := ⟨some 68, _, _, _, _, _⟩) (v := undef) rfl (by kernel_rfl) (by kernel_rfl) (by kernel_rfl) (fun _ _ _ h => h) (Or.inr ⟨by rfl, rfl⟩) (by assumption) ?rk4n57u1
  try simp only [Act.put, List.setIfInBounds_toArray, List.set_cons_zero, List.set_cons_succ]
  refine wpAnyH_take (i := 57) (oi := ⟨some 69, _, _, _, _, _⟩) (v := undef) rfl (by kernel_rfl) (by kernel_rfl) (by kernel_rfl) (fun _ _ _ h => h) (Or.inr ⟨by rfl, rfl⟩) (by assumption) ?rk4n58u1
  try simp only [Act.put, List.setIfInBounds_toArray, List.set_cons_zero, List.set_cons_succ]
  refine wpAnyH_take (i := 58) (oi := ⟨some 70, _, _, _, _, _⟩) (v := undef) rfl (by kernel_rfl) (by kernel_rfl) (by kernel_rfl) (fun _ _ _ h => h) (Or.inr ⟨by rfl, rfl⟩) (by assumption) ?rk4n59u1
  try simp only [Act.put, List.setIfInBounds_toArray, List.set_cons_zero, List.set_cons_succ]
  refine wpAnyH_take (i := 59) (oi := ⟨some 71, _, _, _, _, _⟩) (v := undef) rfl (by kernel_rfl) (by kernel_rfl) (by kernel_rfl) (fun _ _ _ h => h) (Or.inr ⟨by rfl, rfl⟩) (by assumption) ?rk4n60u1
  try simp only [Act.put, List.setIfInBounds_toArray, List.set_cons_zero, List.set_cons_succ]
  refine wpAnyH_take (i := 60) (oi := ⟨some 72, _, _, _, _, _⟩) (v := ?vk4n61u1) rfl (by kernel_rfl) (by kernel_rfl) (by kernel_rfl) (fun _ _ _ h => h) (Or.inl ⟨by rfl, ?yk4n61u1⟩) (by assumption) ?rk4n61u1
  case yk4n61u1 => (intro w hSw; (try dsimp only at hSw); go_simp; try with_reducible rfl)
  try simp only [Act.put, List.setIfInBounds_toArray, List.set_cons_zero, List.set_cons_succ]
  refine wpAnyH_take (i := 61) (oi := ⟨some 73, _, _, _, _, _⟩) (v := ?vk4n62u1) rfl (by kernel_rfl) (by kernel_rfl) (by kernel_rfl) (fun _ _ _ h => h) (Or.inl ⟨by rfl, ?yk4n62u1⟩) (by assumption) ?rk4n62u1
  case yk4n62u1 => (intro w hSw; (try dsimp only at hSw); go_simp; try with_reducible rfl)
  try simp only [Act.put, List.setIfInBounds_toArray, List.set_cons_zero, List.set_cons_succ]
  refine wpAnyH_take (i := 62) (oi := ⟨some 74, _, _, _, _, _⟩) (v := undef) rfl (by kernel_rfl) (by kernel_rfl) (by kernel_rfl) (fun _ _ _ h => h) (Or.inr ⟨by rfl, rfl⟩) (by assumption) ?rk4n63u1
  try simp only [Act.put, List.setIfInBounds_toArray, List.set_cons_zero, List.set_cons_succ]
  refine wpAnyH_take (i := 63) (oi := ⟨some 75, _, _, _, _, _⟩) (v := undef) rfl (by kernel_rfl) (by kernel_rfl) (by kernel_rfl) (fun _ _ _ h => h) (Or.inr ⟨by rfl, rfl⟩) (by assumption) ?rk4n64u1
  try simp only [Act.put, List.setIfInBounds_toArray, List.set_cons_zero, List.set_cons_succ]
  refine wpAnyH_take (i := 64) (oi := ⟨some 76, _, _, _, _, _⟩) (v := undef) rfl (by kernel_rfl) (by kernel_rfl) (by kernel_rfl) (fun _ _ _ h => h) (Or.inr ⟨by rfl, rfl⟩) (by assumption) ?rk4n65u1
  try simp only [Act.put, List.setIfInBounds_toArray, List.set_cons_zero, List.set_cons_succ]
  refine wpAnyH_take (i := 65) (oi := ⟨some 77, _, _, _, _, _⟩) (v := undef) rfl (by kernel_rfl) (by kernel_rfl) (by kernel_rfl) (fun _ _ _ h => h) (Or.inr ⟨by rfl, rfl⟩) (by assumption) ?rk4n66u1
  try simp only [Act.put, List.setIfInBounds_toArray, List.set_cons_zero, List.set_cons_succ]
  refine wpAnyH_take (i := 66) (oi := ⟨some 78, _, _, _, _, _⟩) (v := ?vk4n67u1) rfl (by kernel_rfl) (by kernel_rfl) (by kernel_rfl) (fun _ _ _ h => h) (Or.inl ⟨by rfl, ?yk4n67u1⟩) (by assumption) ?rk4n67u1
  case yk4n67u1 => (intro w hSw; (try dsimp only at hSw); go_simp; try with_reducible rfl)
  try simp only [Act.put, List.setIfInBounds_toArray, List.set_cons_zero, List.set_cons_succ]
  refine wpAnyH_take (i := 67) (oi := ⟨some 79, _, _, _, _, _⟩) (v := ?vk4n68u1) rfl (by kernel_rfl) (by kernel_rfl) (by kernel_rfl) (fun _ _ _ h => h) (Or.inl ⟨by rfl, ?yk4n68u1⟩) (by assumption) ?rk4n68u1
  case yk4n68u1 => (intro w hSw; (try dsimp only at hSw); go_simp; try with_reducible rfl)
  try simp only [Act.put, List.setIfInBounds_toArray, List.set_cons_zero, List.set_cons_succ]
  refine wpAnyH_take (i := 68) (oi := ⟨some 80, _, _, _, _, _⟩) (v := undef) rfl (by kernel_rfl) (by kernel_rfl) (by kernel_rfl) (fun _ _ _ h => h) (Or.inr ⟨by rfl, rfl⟩) (by assumption) ?rk4n69u1
  try simp only [Act.put, List.setIfInBounds_toArray, List.set_cons_zero, List.set_cons_succ]
  refine wpAnyH_take (i := 69) (oi := ⟨some 81, _, _, _, _, _⟩) (v := undef) rfl (by kernel_rfl) (by kernel_rfl) (by kernel_rfl) (fun _ _ _ h => h) (Or.inr ⟨by rfl, rfl⟩) (by assumption) ?rk4n70u1
  try simp only [Act.put, List.setIfInBounds_toArray, List.set_cons_zero, List.set_cons_succ]
  refine wpAnyH_take (i := 70) (oi := ⟨some 82, _, _, _, _, _⟩) (v := undef) rfl (by kernel_rfl) (by kernel_rfl) (by kernel_rfl) (fun _ _ _ h => h) (Or.inr ⟨by rfl, rfl⟩) (by assumption) ?rk4n71u1
  try simp only [Act.put, List.setIfInBounds_toArray, List.set_cons_zero, List.set_cons_succ]
  refine wpAnyH_take (i := 71) (oi := ⟨some 83, _, _, _, _, _⟩) (v := undef) rfl (by kernel_rfl) (by kernel_rfl) (by kernel_rfl) (fun _ _ _ h => h) (Or.inr ⟨by rfl, rfl⟩) (by assumption) ?rk4n72u1
  try simp only [Act.put, List.setIfInBounds_toArray, List.set_cons_zero, List.set_cons_succ]
  refine wpAnyH_take (i := 72) (oi := ⟨some 84, _, _, _, _, _⟩) (v := undef) rfl (by kernel_rfl) (by kernel_rfl) (by kernel_rfl) (fun _ _ _ h => h) (Or.inr ⟨by rfl, rfl⟩) (by assumption) ?rk4n73u1
  try simp only [Act.put, List.setIfInBounds_toArray, List.set_cons_zero, List.set_cons_succ]
  refine wpAnyH_take (i := 73) (oi := ⟨some 85, _, _, _, _, _⟩) (v := undef) rfl (by kernel_rfl) (by kernel_rfl) (by kernel_rfl) (fun _ _ _ h => h) (Or.inr ⟨by rfl, rfl⟩) (by assumption) ?rk4n74u1
  try simp only [Act.put, List.setIfInBounds_toArray, List.set_cons_zero, List.set_cons_succ]
  refine wpAnyH_take (i := 74) (oi := ⟨some 86, _, _, _, _, _⟩) (v := ?vk4n75u1) rfl (by kernel_rfl) (by kernel_rfl) (by kernel_rfl) (fun _ _ _ h => h) (Or.inl ⟨by rfl, ?yk4n75u1⟩) (by assumption) ?rk4n75u1
  case yk4n75u1 => (intro w hSw; (try dsimp only at hSw); go_simp; try with_reducible rfl)
  try simp only [Act.put, List.setIfInBounds_toArray, List.set_cons_zero, List.set_cons_succ]
  refine wpAnyH_take (i := 75) (oi := ⟨some 2, _, _, _, _, _⟩) (v := ?vk4n76u1) rfl (by kernel_rfl) (by kernel_rfl) (by kernel_rfl) (fun _ _ _ h => h) (Or.inl ⟨by rfl, ?yk4n76u1⟩) (by assumption) ?rk4n76u1
  case yk4n76u1 => (intro w hSw; (try dsimp only at hSw); go_simp; try with_reducible rfl)
  try simp only [Act.put, List.setIfInBounds_toArray, List.set_cons_zero, List.set_cons_succ]
  refine wpAnyH_done (by kernel_rfl) ?_ _
  have HE := hid (U3.out.trans (show Up Nul W2 _ from hHeld))
  clear hHeld
  go_wp2
  go_ret
  exact ⟨by first | rfl | simp, HE.out⟩
set_option maxRecDepth 100000 in
set_option maxHeartbeats 4000000 in
theorem ok_case5 (w : World) (s : ByteArray) (n sid co : Int) (sa : Option Addr) (ns cs : Nat) (la : Option Addr) (nl cl : Nat) (t : Tb) (k : Nat) (c1 c2 c3 c4 c5 c6 c7 c8 c9 c10 : Bool) (hk : spn 1 8 (k : Int) = true) (hS : Shp w) (hc1 : c1 = true) (hc2 : c2 = true) (hc3 : c3 = true) (hc4 : c4 = true) (hc5 : c5 = false)
    (H : OkC w s n sid co sa ns cs la nl cl t k c1 c2 c3 c4 c5 c6 c7 c8 c9 c10) :
    Calls Tryd.prog 16 #[.agg #[.int .i64 (k : Nat), .string s, .int .i64 n, .int .i64 sid, .slice sa ns cs, .int .i64 co, .slice la nl cl, .int .i64 t.hot, .int .i64 t.warm, .int .i64 t.gap, .int .i64 t.add, .int .i64 t.top, .int .i64 t.half]] w
      fun e w' => e = .returned (.bool (c1 && c2 && c3 && c4 && c5 && c6 && c7 && c8 && c9 && c10)) ∧ Up Nul w w' := by
  subst hc1 hc2 hc3 hc4 hc5
  have HK := hid (fun W => kind_any (k : Int) W)
  rw [hk] at HK
  have hk9 : k < 9 := by
    unfold spn at hk
    simp at hk
    omega
  have i0 : (0 : Int) ≤ (k : Int) := by omega
  have i1 : (k : Int) < 9 := by omega
  have HH := hid H
  clear H
  obtain ⟨C, hC⟩ : ∃ C : Array Value, C = #[.int .i64 (k : Nat), .string s, .int .i64 n, .int .i64 sid, .slice sa ns cs, .int .i64 co, .slice la nl cl, .int .i64 t.hot, .int .i64 t.warm, .int .i64 t.gap, .int .i64 t.add, .int .i64 t.top, .int .i64 t.half] := ⟨_, rfl⟩
  have HUA := hid ((Up.refl Nul w).alloc (.cells C 33))
  have HBA : Hid ((w.alloc (.cells C 33)).heap[w.heap.size]? = some (.cells C 33 (0, 0))) := heap_alloc_new _ _
  have HLT : Hid (w.heap.size < (w.alloc (.cells C 33)).heap.size) := by show _ < _; simp
  have HSH := hid hS
  go_enter Tryd.func16, Tryd.ntmps16
  go_wp2_with fail
  rw [← hC]
  refine (HK.out _).mono ?_
  rintro e w1 ⟨rfl, u1⟩
  have hb := (u1.block _ HLT.out id).trans HBA.out
  have HU1 := hid (HUA.out.trans u1)
  have hlt := Nat.lt_of_lt_of_le HLT.out u1.size
  clear u1 HBA HUA HLT
  have y0 := (HSH.out.nxt HU1.out).c k 0 hk9 (by omega)
  have y1 := (HSH.out.nxt HU1.out).c k 1 hk9 (by omega)
  have y2 := (HSH.out.nxt HU1.out).c k 2 hk9 (by omega)
  have y3 := (HSH.out.nxt HU1.out).c k 3 hk9 (by omega)
  have y4 := (HSH.out.nxt HU1.out).c k 4 hk9 (by omega)
  have y5 := (HSH.out.nxt HU1.out).c k 5 hk9 (by omega)
  have y6 := (HSH.out.nxt HU1.out).c k 6 hk9 (by omega)
  have y7 := (HSH.out.nxt HU1.out).c k 7 hk9 (by omega)
  have y8 := (HSH.out.nxt HU1.out).c k 8 hk9 (by omega)
  have y9 := (HSH.out.nxt HU1.out).c k 9 hk9 (by omega)
  have y10 := (HSH.out.nxt HU1.out).c k 10 hk9 (by omega)
  have y11 := (HSH.out.nxt HU1.out).c k 11 hk9 (by omega)
  have y12 := (HSH.out.nxt HU1.out).c k 12 hk9 (by omega)
  have y13 := (HSH.out.nxt HU1.out).c k 13 hk9 (by omega)
  have y14 := (HSH.out.nxt HU1.out).c k 14 hk9 (by omega)
  rw [Nat.add_zero] at y0
  generalize w.heap.size = p at hb hlt ⊢
  have x0 : w1.cell? ⟨p, 0, none⟩ = some (.int .i64 (k : Nat)) := by simp [World.cell?, hb, hC]
  clear hk9
  go_wp2_with fail
  obtain ⟨W2, hW2⟩ : ∃ W, W = w1.alloc (.cells #[.int .i64 (sh k 0), .int .i64 (sh k 1), .int .i64 (sh k 2), .int .i64 (sh k 3), .int .i64 (sh k 4), .int .i64 (sh k 5), .int .i64 (sh k 6), .int .i64 (sh k 7), .int .i64 (sh k 8), .int .i64 (sh k 9), .int .i64 (sh k 10), .int .i64 (sh k 11), .int .i64 (sh k 12), .int .i64 (sh k 13), .int .i64 (sh k 14)] 73) := ⟨_, rfl⟩
  have U2 : Hid (Up Nul w1 W2) := by show Up _ _ _; rw [hW2]; exact (Up.refl Nul w1).alloc _
  have hq : W2.heap[w1.heap.size]? = some (.cells #[.int .i64 (sh k 0), .int .i64 (sh k 1), .int .i64 (sh k 2), .int .i64 (sh k 3), .int .i64 (sh k 4), .int .i64 (sh k 5), .int .i64 (sh k 6), .int .i64 (sh k 7), .int .i64 (sh k 8), .int .i64 (sh k 9), .int .i64 (sh k 10), .int .i64 (sh k 11), .int .i64 (sh k 12), .int .i64 (sh k 13), .int .i64 (sh k 14)] 73 (0, 0)) := by rw [hW2]; exact heap_alloc_new _ _
  have hp := (U2.out.block p hlt id).trans hb
  rw [hC] at hp
  have hq2 : w1.heap.size < W2.heap.size := by rw [hW2]; simp
  have hp2 := Nat.lt_of_lt_of_le hlt U2.out.size
  have U3 := hid (HU1.out.trans U2.out)
  rw [← hW2]
  clear hW2 x0 y0 y1 y2 y3 y4 y5 y6 y7 y8 y9 y10 y11 y12 y13 y14 hb U2 HU1 hlt
  generalize w1.heap.size = q at hq hq2 ⊢
  have Hp1 : Hid (∀ W, Up Nul W2 W → W.cell? ⟨p, 1, none⟩ = some (.string s)) := fun W u => by have a := (u.block p hp2 id).trans hp; simp only [World.cell?, a]; rfl
  have Hp2 : Hid (∀ W, Up Nul W2 W → W.cell? ⟨p, 2, none⟩ = some (.int .i64 n)) := fun W u => by have a := (u.block p hp2 id).trans hp; simp only [World.cell?, a]; rfl
  have Hp3 : Hid (∀ W, Up Nul W2 W → W.cell? ⟨p, 3, none⟩ = some (.int .i64 sid)) := fun W u => by have a := (u.block p hp2 id).trans hp; simp only [World.cell?, a]; rfl
  have Hp4 : Hid (∀ W, Up Nul W2 W → W.cell? ⟨p, 4, none⟩ = some (.slice sa ns cs)) := fun W u => by have a := (u.block p hp2 id).trans hp; simp only [World.cell?, a]; rfl
  have Hp5 : Hid (∀ W, Up Nul W2 W → W.cell? ⟨p, 5, none⟩ = some (.int .i64 co)) := fun W u => by have a := (u.block p hp2 id).trans hp; simp only [World.cell?, a]; rfl
  have Hp6 : Hid (∀ W, Up Nul W2 W → W.cell? ⟨p, 6, none⟩ = some (.slice la nl cl)) := fun W u => by have a := (u.block p hp2 id).trans hp; simp only [World.cell?, a]; rfl
  have Hp7 : Hid (∀ W, Up Nul W2 W → W.cell? ⟨p, 7, none⟩ = some (.int .i64 t.hot)) := fun W u => by have a := (u.block p hp2 id).trans hp; simp only [World.cell?, a]; rfl
  have Hp8 : Hid (∀ W, Up Nul W2 W → W.cell? ⟨p, 8, none⟩ = some (.int .i64 t.warm)) := fun W u => by have a := (u.block p hp2 id).trans hp; simp only [World.cell?, a]; rfl
  have Hp9 : Hid (∀ W, Up Nul W2 W → W.cell? ⟨p, 9, none⟩ = some (.int .i64 t.gap)) := fun W u => by have a := (u.block p hp2 id).trans hp; simp only [World.cell?, a]; rfl
  have Hp10 : Hid (∀ W, Up Nul W2 W → W.cell? ⟨p, 10, none⟩ = some (.int .i64 t.add)) := fun W u => by have a := (u.block p hp2 id).trans hp; simp only [World.cell?, a]; rfl
  have Hp11 : Hid (∀ W, Up Nul W2 W → W.cell? ⟨p, 11, none⟩ = some (.int .i64 t.top)) := fun W u => by have a := (u.block p hp2 id).trans hp; simp only [World.cell?, a]; rfl
  have Hp12 : Hid (∀ W, Up Nul W2 W → W.cell? ⟨p, 12, none⟩ = some (.int .i64 t.half)) := fun W u => by have a := (u.block p hp2 id).trans hp; simp only [World.cell?, a]; rfl
  have Hq0 : Hid (∀ W, Up Nul W2 W → W.cell? ⟨q, 0, none⟩ = some (.int .i64 (sh k 0))) := fun W u => by have a := (u.block q hq2 id).trans hq; simp only [World.cell?, a]; rfl
  have Hq1 : Hid (∀ W, Up Nul W2 W → W.cell? ⟨q, 1, none⟩ = some (.int .i64 (sh k 1))) := fun W u => by have a := (u.block q hq2 id).trans hq; simp only [World.cell?, a]; rfl
  have Hq2 : Hid (∀ W, Up Nul W2 W → W.cell? ⟨q, 2, none⟩ = some (.int .i64 (sh k 2))) := fun W u => by have a := (u.block q hq2 id).trans hq; simp only [World.cell?, a]; rfl
  have Hq3 : Hid (∀ W, Up Nul W2 W → W.cell? ⟨q, 3, none⟩ = some (.int .i64 (sh k 3))) := fun W u => by have a := (u.block q hq2 id).trans hq; simp only [World.cell?, a]; rfl
  have Hq4 : Hid (∀ W, Up Nul W2 W → W.cell? ⟨q, 4, none⟩ = some (.int .i64 (sh k 4))) := fun W u => by have a := (u.block q hq2 id).trans hq; simp only [World.cell?, a]; rfl
  have Hq5 : Hid (∀ W, Up Nul W2 W → W.cell? ⟨q, 5, none⟩ = some (.int .i64 (sh k 5))) := fun W u => by have a := (u.block q hq2 id).trans hq; simp only [World.cell?, a]; rfl
  have Hq6 : Hid (∀ W, Up Nul W2 W → W.cell? ⟨q, 6, none⟩ = some (.int .i64 (sh k 6))) := fun W u => by have a := (u.block q hq2 id).trans hq; simp only [World.cell?, a]; rfl
  have Hq7 : Hid (∀ W, Up Nul W2 W → W.cell? ⟨q, 7, none⟩ = some (.int .i64 (sh k 7))) := fun W u => by have a := (u.block q hq2 id).trans hq; simp only [World.cell?, a]; rfl
  have Hq8 : Hid (∀ W, Up Nul W2 W → W.cell? ⟨q, 8, none⟩ = some (.int .i64 (sh k 8))) := fun W u => by have a := (u.block q hq2 id).trans hq; simp only [World.cell?, a]; rfl
  have Hq9 : Hid (∀ W, Up Nul W2 W → W.cell? ⟨q, 9, none⟩ = some (.int .i64 (sh k 9))) := fun W u => by have a := (u.block q hq2 id).trans hq; simp only [World.cell?, a]; rfl
  have Hq10 : Hid (∀ W, Up Nul W2 W → W.cell? ⟨q, 10, none⟩ = some (.int .i64 (sh k 10))) := fun W u => by have a := (u.block q hq2 id).trans hq; simp only [World.cell?, a]; rfl
  have Hq11 : Hid (∀ W, Up Nul W2 W → W.cell? ⟨q, 11, none⟩ = some (.int .i64 (sh k 11))) := fun W u => by have a := (u.block q hq2 id).trans hq; simp only [World.cell?, a]; rfl
  have Hq12 : Hid (∀ W, Up Nul W2 W → W.cell? ⟨q, 12, none⟩ = some (.int .i64 (sh k 12))) := fun W u => by have a := (u.block q hq2 id).trans hq; simp only [World.cell?, a]; rfl
  have Hq13 : Hid (∀ W, Up Nul W2 W → W.cell? ⟨q, 13, none⟩ = some (.int .i64 (sh k 13))) := fun W u => by have a := (u.block q hq2 id).trans hq; simp only [World.cell?, a]; rfl
  have Hq14 : Hid (∀ W, Up Nul W2 W → W.cell? ⟨q, 14, none⟩ = some (.int .i64 (sh k 14))) := fun W u => by have a := (u.block q hq2 id).trans hq; simp only [World.cell?, a]; rfl
  clear hp hq hp2 hq2
  have HR := hid (Up.refl Nul W2)
  simp only [List.append]
  refine wp_region_held_drew (S := (fun W => Up Nul W2 W)) (by kernel_rfl) (by exact HR.out.drew) (fun hHeld => ?_)
  refine wpAnyH_take (i := 0) (oi := ⟨some 12, _, _, _, _, _⟩) (v := ?vk5n1u1) rfl (by kernel_rfl) (by kernel_rfl) (by kernel_rfl) (fun _ _ _ h => h) (Or.inl ⟨by rfl, ?yk5n1u1⟩) (by assumption) ?rk5n1u1
  case yk5n1u1 => (intro w hSw; (try dsimp only at hSw); go_simp; try with_reducible rfl)
  try simp only [Act.put, List.setIfInBounds_toArray, List.set_cons_zero, List.set_cons_succ]
  refine wpAnyH_take (i := 1) (oi := ⟨some 13, _, _, _, _, _⟩) (v := ?vk5x2) rfl (by kernel_rfl) (by kernel_rfl) (by kernel_rfl) (fun _ _ _ h => h) (Or.inl ⟨by rfl, ?yk5x2⟩) (by assumption) ?rk5x2
  case yk5x2 => (intro w hSw; have aq0 := Hq0.out w hSw; have aq1 := Hq1.out w hSw; go_simp; try with_reducible rfl)
  try simp only [Act.put, List.setIfInBounds_toArray, List.set_cons_zero, List.set_cons_succ]
  refine wpAnyH_take (i := 2) (oi := ⟨some 14, _, _, _, _, _⟩) (v := ?vk5n3u1) rfl (by kernel_rfl) (by kernel_rfl) (by kernel_rfl) (fun _ _ _ h => h) (Or.inl ⟨by rfl, ?yk5n3u1⟩) (by assumption) ?rk5n3u1
  case yk5n3u1 => (intro w hSw; (try dsimp only at hSw); go_simp; try with_reducible rfl)
  try simp only [Act.put, List.setIfInBounds_toArray, List.set_cons_zero, List.set_cons_succ]
  refine wpAnyH_take (i := 3) (oi := ⟨some 15, _, _, _, _, _⟩) (v := ?vk5x4) rfl (by kernel_rfl) (by kernel_rfl) (by kernel_rfl) (fun _ _ _ h => h) (Or.inl ⟨by rfl, ?yk5x4⟩) (by assumption) ?rk5x4
  case yk5x4 => (intro w hSw; have ap1 := Hp1.out w hSw; go_simp; try with_reducible rfl)
  try simp only [Act.put, List.setIfInBounds_toArray, List.set_cons_zero, List.set_cons_succ]
  refine wpAnyH_take (i := 4) (oi := ⟨some 16, _, _, _, _, _⟩) (v := ?vk5n5u1) rfl (by kernel_rfl) (by kernel_rfl) (by kernel_rfl) (fun _ _ _ h => h) (Or.inl ⟨by rfl, ?yk5n5u1⟩) (by assumption) ?rk5n5u1
  case yk5n5u1 => (intro w hSw; (try dsimp only at hSw); go_simp; try with_reducible rfl)
  try simp only [Act.put, List.setIfInBounds_toArray, List.set_cons_zero, List.set_cons_succ]
  refine wpAnyH_ready (rs := [5]) (by kernel_rfl) (by simp) ?_
  refine AllReadyH.cons (o := ⟨some 17, _, _, _, _, _⟩) rfl (fun K hK => ?_) AllReadyH.nil
  go_simp
  skip
  refine hK.out _ _ ?kk5n6u1 (fun hHeld => ?_)
  case kk5n6u1 => exact (by first | exact Up.alloc (show Up Nul W2 _ from hHeld) _ | exact (Up.alloc (show Up Nul W2 _ from HR.out) _).drew)
  clear hK K
  try simp only [Act.put, List.setIfInBounds_toArray, List.set_cons_zero, List.set_cons_succ]
  refine wpAnyH_ready (rs := [6]) (by kernel_rfl) (by simp) ?_
  refine AllReadyH.cons (o := ⟨some 18, _, _, _, _, _⟩) rfl (fun K hK => ?_) AllReadyH.nil
  go_simp
  go_at_call 25; refine (HH.out.h1 _ (U3.out.trans (show Up Nul W2 _ from hHeld)) _ (by first | exact World.cell?_alloc_new _ _ _ 0 | (simp; done) | go_simp)).mono ?_; rintro e wb ⟨rfl, kb⟩
  refine hK.out _ _ ?kk5n7u1 (fun hHeld => ?_)
  case kk5n7u1 => exact (Up.trans (show Up Nul W2 _ from hHeld) kb)
  clear hK K
  try simp only [Act.put, List.setIfInBounds_toArray, List.set_cons_zero, List.set_cons_succ]
  refine wpAnyH_take (i := 7) (oi := ⟨some 19, _, _, _, _, _⟩) (v := ?vk5n8u1) rfl (by kernel_rfl) (by kernel_rfl) (by kernel_rfl) (fun _ _ _ h => h) (Or.inl ⟨by rfl, ?yk5n8u1⟩) (by assumption) ?rk5n8u1
  case yk5n8u1 => (intro w hSw; (try dsimp only at hSw); go_simp; try with_reducible rfl)
  try simp only [Act.put, List.setIfInBounds_toArray, List.set_cons_zero, List.set_cons_succ]
  refine wpAnyH_take (i := 8) (oi := ⟨some 20, _, _, _, _, _⟩) (v := ?vk5n9u1) rfl (by kernel_rfl) (by kernel_rfl) (by kernel_rfl) (fun _ _ _ h => h) (Or.inl ⟨by rfl, ?yk5n9u1⟩) (by assumption) ?rk5n9u1
  case yk5n9u1 => (intro w hSw; (try dsimp only at hSw); go_simp; try with_reducible rfl)
  try simp only [Act.put, List.setIfInBounds_toArray, List.set_cons_zero, List.set_cons_succ]
  refine wpAnyH_take (i := 9) (oi := ⟨some 21, _, _, _, _, _⟩) (v := ?vk5x10) rfl (by kernel_rfl) (by kernel_rfl) (by kernel_rfl) (fun _ _ _ h => h) (Or.inl ⟨by rfl, ?yk5x10⟩) (by assumption) ?rk5x10
  case yk5x10 => (intro w hSw; have ap1 := Hp1.out w hSw; go_simp; try with_reducible rfl)
  try simp only [Act.put, List.setIfInBounds_toArray, List.set_cons_zero, List.set_cons_succ]
  refine wpAnyH_ready (rs := [10]) (by kernel_rfl) (by simp) ?_
  refine AllReadyH.cons (o := ⟨some 22, _, _, _, _, _⟩) rfl (fun K hK => ?_) AllReadyH.nil
  go_simp
  go_at_call 26; refine (HH.out.h2 _).mono ?_; rintro e wb ⟨rfl, kb⟩
  refine hK.out _ _ ?kk5n11u1 (fun hHeld => ?_)
  case kk5n11u1 => exact (Up.trans (show Up Nul W2 _ from hHeld) kb)
  clear hK K
  try simp only [Act.put, List.setIfInBounds_toArray, List.set_cons_zero, List.set_cons_succ]
  refine wpAnyH_take (i := 11) (oi := ⟨some 23, _, _, _, _, _⟩) (v := ?vk5n12u1) rfl (by kernel_rfl) (by kernel_rfl) (by kernel_rfl) (fun _ _ _ h => h) (Or.inl ⟨by rfl, ?yk5n12u1⟩) (by assumption) ?rk5n12u1
  case yk5n12u1 => (intro w hSw; (try dsimp only at hSw); go_simp; try with_reducible rfl)
  try simp only [Act.put, List.setIfInBounds_toArray, List.set_cons_zero, List.set_cons_succ]
  refine wpAnyH_take (i := 12) (oi := ⟨some 24, _, _, _, _, _⟩) (v := ?vk5n13u1) rfl (by kernel_rfl) (by kernel_rfl) (by kernel_rfl) (fun _ _ _ h => h) (Or.inl ⟨by rfl, ?yk5n13u1⟩) (by assumption) ?rk5n13u1
  case yk5n13u1 => (intro w hSw; (try dsimp only at hSw); go_simp; try with_reducible rfl)
  try simp only [Act.put, List.setIfInBounds_toArray, List.set_cons_zero, List.set_cons_succ]
  refine wpAnyH_take (i := 13) (oi := ⟨some 25, _, _, _, _, _⟩) (v := ?vk5n14u1) rfl (by kernel_rfl) (by kernel_rfl) (by kernel_rfl) (fun _ _ _ h => h) (Or.inl ⟨by rfl, ?yk5n14u1⟩) (by assumption) ?rk5n14u1
  case yk5n14u1 => (intro w hSw; (try dsimp only at hSw); go_simp; try with_reducible rfl)
  try simp only [Act.put, List.setIfInBounds_toArray, List.set_cons_zero, List.set_cons_succ]
  refine wpAnyH_take (i := 14) (oi := ⟨some 26, _, _, _, _, _⟩) (v := ?vk5x15) rfl (by kernel_rfl) (by kernel_rfl) (by kernel_rfl) (fun _ _ _ h => h) (Or.inl ⟨by rfl, ?yk5x15⟩) (by assumption) ?rk5x15
  case yk5x15 => (intro w hSw; have aq2 := Hq2.out w hSw; have aq3 := Hq3.out w hSw; go_simp; try with_reducible rfl)
  try simp only [Act.put, List.setIfInBounds_toArray, List.set_cons_zero, List.set_cons_succ]
  refine wpAnyH_take (i := 15) (oi := ⟨some 27, _, _, _, _, _⟩) (v := ?vk5n16u1) rfl (by kernel_rfl) (by kernel_rfl) (by kernel_rfl) (fun _ _ _ h => h) (Or.inl ⟨by rfl, ?yk5n16u1⟩) (by assumption) ?rk5n16u1
  case yk5n16u1 => (intro w hSw; (try dsimp only at hSw); go_simp; try with_reducible rfl)
  try simp only [Act.put, List.setIfInBounds_toArray, List.set_cons_zero, List.set_cons_succ]
  refine wpAnyH_take (i := 16) (oi := ⟨some 28, _, _, _, _, _⟩) (v := ?vk5x17) rfl (by kernel_rfl) (by kernel_rfl) (by kernel_rfl) (fun _ _ _ h => h) (Or.inl ⟨by rfl, ?yk5x17⟩) (by assumption) ?rk5x17
  case yk5x17 => (intro w hSw; have ap2 := Hp2.out w hSw; go_simp; try with_reducible rfl)
  try simp only [Act.put, List.setIfInBounds_toArray, List.set_cons_zero, List.set_cons_succ]
  refine wpAnyH_ready (rs := [17]) (by kernel_rfl) (by simp) ?_
  refine AllReadyH.cons (o := ⟨some 29, _, _, _, _, _⟩) rfl (fun K hK => ?_) AllReadyH.nil
  go_simp
  skip
  refine hK.out _ _ ?kk5n18u1 (fun hHeld => ?_)
  case kk5n18u1 => exact (by first | exact Up.alloc (show Up Nul W2 _ from hHeld) _ | exact (Up.alloc (show Up Nul W2 _ from HR.out) _).drew)
  clear hK K
  try simp only [Act.put, List.setIfInBounds_toArray, List.set_cons_zero, List.set_cons_succ]
  refine wpAnyH_ready (rs := [18]) (by kernel_rfl) (by simp) ?_
  refine AllReadyH.cons (o := ⟨some 30, _, _, _, _, _⟩) rfl (fun K hK => ?_) AllReadyH.nil
  go_simp
  go_at_call 25; refine (HH.out.h3 _ (U3.out.trans (show Up Nul W2 _ from hHeld)) _ (by first | exact World.cell?_alloc_new _ _ _ 0 | (simp; done) | go_simp)).mono ?_; rintro e wb ⟨rfl, kb⟩
  refine hK.out _ _ ?kk5n19u1 (fun hHeld => ?_)
  case kk5n19u1 => exact (Up.trans (show Up Nul W2 _ from hHeld) kb)
  clear hK K
  try simp only [Act.put, List.setIfInBounds_toArray, List.set_cons_zero, List.set_cons_succ]
  refine wpAnyH_take (i := 19) (oi := ⟨some 31, _, _, _, _, _⟩) (v := ?vk5n20u1) rfl (by kernel_rfl) (by kernel_rfl) (by kernel_rfl) (fun _ _ _ h => h) (Or.inl ⟨by rfl, ?yk5n20u1⟩) (by assumption) ?rk5n20u1
  case yk5n20u1 => (intro w hSw; (try dsimp only at hSw); go_simp; try with_reducible rfl)
  try simp only [Act.put, List.setIfInBounds_toArray, List.set_cons_zero, List.set_cons_succ]
  refine wpAnyH_take (i := 20) (oi := ⟨some 32, _, _, _, _, _⟩) (v := ?vk5n21u1) rfl (by kernel_rfl) (by kernel_rfl) (by kernel_rfl) (fun _ _ _ h => h) (Or.inl ⟨by rfl, ?yk5n21u1⟩) (by assumption) ?rk5n21u1
  case yk5n21u1 => (intro w hSw; (try dsimp only at hSw); go_simp; try with_reducible rfl)
  try simp only [Act.put, List.setIfInBounds_toArray, List.set_cons_zero, List.set_cons_succ]
  refine wpAnyH_take (i := 21) (oi := ⟨some 33, _, _, _, _, _⟩) (v := ?vk5n22u1) rfl (by kernel_rfl) (by kernel_rfl) (by kernel_rfl) (fun _ _ _ h => h) (Or.inl ⟨by rfl, ?yk5n22u1⟩) (by assumption) ?rk5n22u1
  case yk5n22u1 => (intro w hSw; (try dsimp only at hSw); go_simp; try with_reducible rfl)
  try simp only [Act.put, List.setIfInBounds_toArray, List.set_cons_zero, List.set_cons_succ]
  refine wpAnyH_take (i := 22) (oi := ⟨some 34, _, _, _, _, _⟩) (v := ?vk5x23) rfl (by kernel_rfl) (by kernel_rfl) (by kernel_rfl) (fun _ _ _ h => h) (Or.inl ⟨by rfl, ?yk5x23⟩) (by assumption) ?rk5x23
  case yk5x23 => (intro w hSw; have aq4 := Hq4.out w hSw; have aq5 := Hq5.out w hSw; go_simp; try with_reducible rfl)
  try simp only [Act.put, List.setIfInBounds_toArray, List.set_cons_zero, List.set_cons_succ]
  refine wpAnyH_take (i := 23) (oi := ⟨some 35, _, _, _, _, _⟩) (v := ?vk5n24u1) rfl (by kernel_rfl) (by kernel_rfl) (by kernel_rfl) (fun _ _ _ h => h) (Or.inl ⟨by rfl, ?yk5n24u1⟩) (by assumption) ?rk5n24u1
  case yk5n24u1 => (intro w hSw; (try dsimp only at hSw); go_simp; try with_reducible rfl)
  try simp only [Act.put, List.setIfInBounds_toArray, List.set_cons_zero, List.set_cons_succ]
  refine wpAnyH_take (i := 24) (oi := ⟨some 36, _, _, _, _, _⟩) (v := ?vk5x25) rfl (by kernel_rfl) (by kernel_rfl) (by kernel_rfl) (fun _ _ _ h => h) (Or.inl ⟨by rfl, ?yk5x25⟩) (by assumption) ?rk5x25
  case yk5x25 => (intro w hSw; have ap3 := Hp3.out w hSw; go_simp; try with_reducible rfl)
  try simp only [Act.put, List.setIfInBounds_toArray, List.set_cons_zero, List.set_cons_succ]
  refine wpAnyH_ready (rs := [25]) (by kernel_rfl) (by simp) ?_
  refine AllReadyH.cons (o := ⟨some 37, _, _, _, _, _⟩) rfl (fun K hK => ?_) AllReadyH.nil
  go_simp
  skip
  refine hK.out _ _ ?kk5n26u1 (fun hHeld => ?_)
  case kk5n26u1 => exact (by first | exact Up.alloc (show Up Nul W2 _ from hHeld) _ | exact (Up.alloc (show Up Nul W2 _ from HR.out) _).drew)
  clear hK K
  try simp only [Act.put, List.setIfInBounds_toArray, List.set_cons_zero, List.set_cons_succ]
  refine wpAnyH_ready (rs := [26]) (by kernel_rfl) (by simp) ?_
  refine AllReadyH.cons (o := ⟨some 38, _, _, _, _, _⟩) rfl (fun K hK => ?_) AllReadyH.nil
  go_simp
  go_at_call 25; refine (HH.out.h4 _ (U3.out.trans (show Up Nul W2 _ from hHeld)) _ (by first | exact World.cell?_alloc_new _ _ _ 0 | (simp; done) | go_simp)).mono ?_; rintro e wb ⟨rfl, kb⟩
  refine hK.out _ _ ?kk5n27u1 (fun hHeld => ?_)
  case kk5n27u1 => exact (Up.trans (show Up Nul W2 _ from hHeld) kb)
  clear hK K
  try simp only [Act.put, List.setIfInBounds_toArray, List.set_cons_zero, List.set_cons_succ]
  refine wpAnyH_take (i := 27) (oi := ⟨some 39, _, _, _, _, _⟩) (v := ?vk5n28u1) rfl (by kernel_rfl) (by kernel_rfl) (by kernel_rfl) (fun _ _ _ h => h) (Or.inl ⟨by rfl, ?yk5n28u1⟩) (by assumption) ?rk5n28u1
  case yk5n28u1 => (intro w hSw; (try dsimp only at hSw); go_simp; try with_reducible rfl)
  try simp only [Act.put, List.setIfInBounds_toArray, List.set_cons_zero, List.set_cons_succ]
  refine wpAnyH_take (i := 28) (oi := ⟨some 40, _, _, _, _, _⟩) (v := ?vk5n29u1) rfl (by kernel_rfl) (by kernel_rfl) (by kernel_rfl) (fun _ _ _ h => h) (Or.inl ⟨by rfl, ?yk5n29u1⟩) (by assumption) ?rk5n29u1
  case yk5n29u1 => (intro w hSw; (try dsimp only at hSw); go_simp; try with_reducible rfl)
  try simp only [Act.put, List.setIfInBounds_toArray, List.set_cons_zero, List.set_cons_succ]
  refine wpAnyH_take (i := 29) (oi := ⟨some 41, _, _, _, _, _⟩) (v := ?vk5n30u1) rfl (by kernel_rfl) (by kernel_rfl) (by kernel_rfl) (fun _ _ _ h => h) (Or.inl ⟨by rfl, ?yk5n30u1⟩) (by assumption) ?rk5n30u1
  case yk5n30u1 => (intro w hSw; (try dsimp only at hSw); go_simp; try with_reducible rfl)
  try simp only [Act.put, List.setIfInBounds_toArray, List.set_cons_zero, List.set_cons_succ]
  refine wpAnyH_take (i := 30) (oi := ⟨some 42, _, _, _, _, _⟩) (v := ?vk5x31) rfl (by kernel_rfl) (by kernel_rfl) (by kernel_rfl) (fun _ _ _ h => h) (Or.inl ⟨by rfl, ?yk5x31⟩) (by assumption) ?rk5x31
  case yk5x31 => (intro w hSw; have aq6 := Hq6.out w hSw; have aq7 := Hq7.out w hSw; go_simp; try with_reducible rfl)
  try simp only [Act.put, List.setIfInBounds_toArray, List.set_cons_zero, List.set_cons_succ]
  refine wpAnyH_take (i := 31) (oi := ⟨some 43, _, _, _, _, _⟩) (v := ?vk5n32u1) rfl (by kernel_rfl) (by kernel_rfl) (by kernel_rfl) (fun _ _ _ h => h) (Or.inl ⟨by rfl, ?yk5n32u1⟩) (by assumption) ?rk5n32u1
  case yk5n32u1 => (intro w hSw; (try dsimp only at hSw); go_simp; try with_reducible rfl)
  try simp only [Act.put, List.setIfInBounds_toArray, List.set_cons_zero, List.set_cons_succ]
  refine wpAnyH_take (i := 32) (oi := ⟨some 44, _, _, _, _, _⟩) (v := ?vk5x33) rfl (by kernel_rfl) (by kernel_rfl) (by kernel_rfl) (fun _ _ _ h => h) (Or.inl ⟨by rfl, ?yk5x33⟩) (by assumption) ?rk5x33
  case yk5x33 => (intro w hSw; have ap5 := Hp5.out w hSw; go_simp; try with_reducible rfl)
  try simp only [Act.put, List.setIfInBounds_toArray, List.set_cons_zero, List.set_cons_succ]
  refine wpAnyH_ready (rs := [33]) (by kernel_rfl) (by simp) ?_
  refine AllReadyH.cons (o := ⟨some 45, _, _, _, _, _⟩) rfl (fun K hK => ?_) AllReadyH.nil
  go_simp
  skip
  refine hK.out _ _ ?kk5n34u1 (fun hHeld => ?_)
  case kk5n34u1 => exact (by first | exact Up.alloc (show Up Nul W2 _ from hHeld) _ | exact (Up.alloc (show Up Nul W2 _ from HR.out) _).drew)
  clear hK K
  try simp only [Act.put, List.setIfInBounds_toArray, List.set_cons_zero, List.set_cons_succ]
  refine wpAnyH_ready (rs := [34]) (by kernel_rfl) (by simp) ?_
  refine AllReadyH.cons (o := ⟨some 46, _, _, _, _, _⟩) rfl (fun K hK => ?_) AllReadyH.nil
  go_simp
  go_at_call 25; refine (HH.out.h5 _ (U3.out.trans (show Up Nul W2 _ from hHeld)) _ (by first | exact World.cell?_alloc_new _ _ _ 0 | (simp; done) | go_simp)).mono ?_; rintro e wb ⟨rfl, kb⟩
  refine hK.out _ _ ?kk5n35u1 (fun hHeld => ?_)
  case kk5n35u1 => exact (Up.trans (show Up Nul W2 _ from hHeld) kb)
  clear hK K
  try simp only [Act.put, List.setIfInBounds_toArray, List.set_cons_zero, List.set_cons_succ]
  refine wpAnyH_take (i := 35) (oi := ⟨some 47, _, _, _, _, _⟩) (v := ?vk5n36u1) rfl (by kernel_rfl) (by kernel_rfl) (by kernel_rfl) (fun _ _ _ h => h) (Or.inl ⟨by rfl, ?yk5n36u1⟩) (by assumption) ?rk5n36u1
  case yk5n36u1 => (intro w hSw; (try dsimp only at hSw); go_simp; try with_reducible rfl)
  try simp only [Act.put, List.setIfInBounds_toArray, List.set_cons_zero, List.set_cons_succ]
  refine wpAnyH_take (i := 36) (oi := ⟨some 48, _, _, _, _, _⟩) (v := ?vk5n37u1) rfl (by kernel_rfl) (by kernel_rfl) (by kernel_rfl) (fun _ _ _ h => h) (Or.inl ⟨by rfl, ?yk5n37u1⟩) (by assumption) ?rk5n37u1
  case yk5n37u1 => (intro w hSw; (try dsimp only at hSw); go_simp; try with_reducible rfl)
  try simp only [Act.put, List.setIfInBounds_toArray, List.set_cons_zero, List.set_cons_succ]
  refine wpAnyH_take (i := 37) (oi := ⟨some 49, _, _, _, _, _⟩) (v := undef) rfl (by kernel_rfl) (by kernel_rfl) (by kernel_rfl) (fun _ _ _ h => h) (Or.inr ⟨by rfl, rfl⟩) (by assumption) ?rk5n38u1
  try simp only [Act.put, List.setIfInBounds_toArray, List.set_cons_zero, List.set_cons_succ]
  refine wpAnyH_take (i := 38) (oi := ⟨some 50, _, _, _, _, _⟩) (v := undef) rfl (by kernel_rfl) (by kernel_rfl) (by kernel_rfl) (fun _ _ _ h => h) (Or.inr ⟨by rfl, rfl⟩) (by assumption) ?rk5n39u1
  try simp only [Act.put, List.setIfInBounds_toArray, List.set_cons_zero, List.set_cons_succ]
  refine wpAnyH_take (i := 39) (oi := ⟨some 51, _, _, _, _, _⟩) (v := undef) rfl (by kernel_rfl) (by kernel_rfl) (by kernel_rfl) (fun _ _ _ h => h) (Or.inr ⟨by rfl, rfl⟩) (by assumption) ?rk5n40u1
  try simp only [Act.put, List.setIfInBounds_toArray, List.set_cons_zero, List.set_cons_succ]
  refine wpAnyH_take (i := 40) (oi := ⟨some 52, _, _, _, _, _⟩) (v := undef) rfl (by kernel_rfl) (by kernel_rfl) (by kernel_rfl) (fun _ _ _ h => h) (Or.inr ⟨by rfl, rfl⟩) (by assumption) ?rk5n41u1
  try simp only [Act.put, List.setIfInBounds_toArray, List.set_cons_zero, List.set_cons_succ]
  refine wpAnyH_take (i := 41) (oi := ⟨some 53, _, _, _, _, _⟩) (v := undef) rfl (by kernel_rfl) (by kernel_rfl) (by kernel_rfl) (fun _ _ _ h => h) (Or.inr ⟨by rfl, rfl⟩) (by assumption) ?rk5n42u1
  try simp only [Act.put, List.setIfInBounds_toArray, List.set_cons_zero, List.set_cons_succ]
  refine wpAnyH_take (i := 42) (oi := ⟨some 54, _, _, _, _, _⟩) (v := undef) rfl (by kernel_rfl) (by kernel_rfl) (by kernel_rfl) (fun _ _ _ h => h) (Or.inr ⟨by rfl, rfl⟩) (by assumption) ?rk5n43u1
  try simp only [Act.put, List.setIfInBounds_toArray, List.set_cons_zero, List.set_cons_succ]
  refine wpAnyH_take (i := 43) (oi := ⟨some 55, _, _, _, _, _⟩) (v := ?vk5n44u1) rfl (by kernel_rfl) (by kernel_rfl) (by kernel_rfl) (fun _ _ _ h => h) (Or.inl ⟨by rfl, ?yk5n44u1⟩) (by assumption) ?rk5n44u1
  case yk5n44u1 => (intro w hSw; (try dsimp only at hSw); go_simp; try with_reducible rfl)
  try simp only [Act.put, List.setIfInBounds_toArray, List.set_cons_zero, List.set_cons_succ]
  refine wpAnyH_take (i := 44) (oi := ⟨some 56, _, _, _, _, _⟩) (v := ?vk5n45u1) rfl (by kernel_rfl) (by kernel_rfl) (by kernel_rfl) (fun _ _ _ h => h) (Or.inl ⟨by rfl, ?yk5n45u1⟩) (by assumption) ?rk5n45u1
  case yk5n45u1 => (intro w hSw; (try dsimp only at hSw); go_simp; try with_reducible rfl)
  try simp only [Act.put, List.setIfInBounds_toArray, List.set_cons_zero, List.set_cons_succ]
  refine wpAnyH_take (i := 45) (oi := ⟨some 57, _, _, _, _, _⟩) (v := undef) rfl (by kernel_rfl) (by kernel_rfl) (by kernel_rfl) (fun _ _ _ h => h) (Or.inr ⟨by rfl, rfl⟩) (by assumption) ?rk5n46u1
  try simp only [Act.put, List.setIfInBounds_toArray, List.set_cons_zero, List.set_cons_succ]
  refine wpAnyH_take (i := 46) (oi := ⟨some 58, _, _, _, _, _⟩) (v := undef) rfl (by kernel_rfl) (by kernel_rfl) (by kernel_rfl) (fun _ _ _ h => h) (Or.inr ⟨by rfl, rfl⟩) (by assumption) ?rk5n47u1
  try simp only [Act.put, List.setIfInBounds_toArray, List.set_cons_zero, List.set_cons_succ]
  refine wpAnyH_take (i := 47) (oi := ⟨some 59, _, _, _, _, _⟩) (v := undef) rfl (by kernel_rfl) (by kernel_rfl) (by kernel_rfl) (fun _ _ _ h => h) (Or.inr ⟨by rfl, rfl⟩) (by assumption) ?rk5n48u1
  try simp only [Act.put, List.setIfInBounds_toArray, List.set_cons_zero, List.set_cons_succ]
  refine wpAnyH_take (i := 48) (oi := ⟨some 60, _, _, _, _, _⟩) (v := undef) rfl (by kernel_rfl) (by kernel_rfl) (by kernel_rfl) (fun _ _ _ h => h) (Or.inr ⟨by rfl, rfl⟩) (by assumption) ?rk5n49u1
  try simp only [Act.put, List.setIfInBounds_toArray, List.set_cons_zero, List.set_cons_succ]
  refine wpAnyH_take (i := 49) (oi := ⟨some 61, _, _, _, _, _⟩) (v := undef) rfl (by kernel_rfl) (by kernel_rfl) (by kernel_rfl) (fun _ _ _ h => h) (Or.inr ⟨by rfl, rfl⟩) (by assumption) ?rk5n50u1
  try simp only [Act.put, List.setIfInBounds_toArray, List.set_cons_zero, List.set_cons_succ]
  refine wpAnyH_take (i := 50) (oi := ⟨some 62, _, _, _, _, _⟩) (v := ?vk5n51u1) rfl (by kernel_rfl) (by kernel_rfl) (by kernel_rfl) (fun _ _ _ h => h) (Or.inl ⟨by rfl, ?yk5n51u1⟩) (by assumption) ?rk5n51u1
  case yk5n51u1 => (intro w hSw; (try dsimp only at hSw); go_simp; try with_reducible rfl)
  try simp only [Act.put, List.setIfInBounds_toArray, List.set_cons_zero, List.set_cons_succ]
  refine wpAnyH_take (i := 51) (oi := ⟨some 63, _, _, _, _, _⟩) (v := ?vk5n52u1) rfl (by kernel_rfl) (by kernel_rfl) (by kernel_rfl) (fun _ _ _ h => h) (Or.inl ⟨by rfl, ?yk5n52u1⟩) (by assumption) ?rk5n52u1
  case yk5n52u1 => (intro w hSw; (try dsimp only at hSw); go_simp; try with_reducible rfl)
  try simp only [Act.put, List.setIfInBounds_toArray, List.set_cons_zero, List.set_cons_succ]
  refine wpAnyH_take (i := 52) (oi := ⟨some 64, _, _, _, _, _⟩) (v := undef) rfl (by kernel_rfl) (by kernel_rfl) (by kernel_rfl) (fun _ _ _ h => h) (Or.inr ⟨by rfl, rfl⟩) (by assumption) ?rk5n53u1
  try simp only [Act.put, List.setIfInBounds_toArray, List.set_cons_zero, List.set_cons_succ]
  refine wpAnyH_take (i := 53) (oi := ⟨some 65, _, _, _, _, _⟩) (v := undef) rfl (by kernel_rfl) (by kernel_rfl) (by kernel_rfl) (fun _ _ _ h => h) (Or.inr ⟨by rfl, rfl⟩) (by assumption) ?rk5n54u1
  try simp only [Act.put, List.setIfInBounds_toArray, List.set_cons_zero, List.set_cons_succ]
  refine wpAnyH_take (i := 54) (oi := ⟨some 66, _, _, _, _, _⟩) (v := undef) rfl (by kernel_rfl) (by kernel_rfl) (by kernel_rfl) (fun _ _ _ h => h) (Or.inr ⟨by rfl, rfl⟩) (by assumption) ?rk5n55u1
  try simp only [Act.put, List.setIfInBounds_toArray, List.set_cons_zero, List.set_cons_succ]
  refine wpAnyH_take (i := 55) (oi := ⟨some 67, _, _, _, _, _⟩) (v := undef) rfl (by kernel_rfl) (by kernel_rfl) (by kernel_rfl) (fun _ _ _ h => h) (Or.inr ⟨by rfl, rfl⟩) (by assumption) ?rk5n56u1
  try simp only [Act.put, List.setIfInBounds_toArray, List.set_cons_zero, List.set_cons_succ]
  refine wpAnyH_take (i := 56) (oi := ⟨some 68, _, _, _, _, _⟩) (v := undef) rfl (by kernel_rfl) (by kernel_rfl) (by kernel_rfl) (fun _ _ _ h => h) (Or.inr ⟨by rfl, rfl⟩) (by assumption) ?rk5n57u1
  try simp only [Act.put, List.setIfInBounds_toArray, List.set_cons_zero, List.set_cons_succ]
  refine wpAnyH_take (i := 57) (oi := ⟨some 69, _, _, _, _, _⟩) (v := undef) rfl (by kernel_rfl) (by kernel_rfl) (by kernel_rfl) (fun _ _ _ h => h) (Or.inr ⟨by rfl, rfl⟩) (by assumption) ?rk5n58u1
  try simp only [Act.put, List.setIfInBounds_toArray, List.set_cons_zero, List.set_cons_succ]
  refine wpAnyH_take (i := 58) (oi := ⟨some 70, _, _, _, _, _⟩) (v := undef) rfl (by kernel_rfl) (by kernel_rfl) (by kernel_rfl) (fun _ _ _ h => h) (Or.inr ⟨by rfl, rfl⟩) (by assumption) ?rk5n59u1
  try simp only [Act.put, List.setIfInBounds_toArray, List.set_cons_zero, List.set_cons_succ]
  refine wpAnyH_take (i := 59) (oi := ⟨some 71, _, _, _, _, _⟩) (v := undef) rfl (by kernel_rfl) (by kernel_rfl) (by kernel_rfl) (fun _ _ _ h => h) (Or.inr ⟨by rfl, rfl⟩) (by assumption) ?rk5n60u1
  try simp only [Act.put, List.setIfInBounds_toArray, List.set_cons_zero, List.set_cons_succ]
  refine wpAnyH_take (i := 60) (oi := ⟨some 72, _, _, _, _, _⟩) (v := ?vk5n61u1) rfl (by kernel_rfl) (by kernel_rfl) (by kernel_rfl) (fun _ _ _ h => h) (Or.inl ⟨by rfl, ?yk5n61u1⟩) (by assumption) ?rk5n61u1
  case yk5n61u1 => (intro w hSw; (try dsimp only at hSw); go_simp; try with_reducible rfl)
  try simp only [Act.put, List.setIfInBounds_toArray, List.set_cons_zero, List.set_cons_succ]
  refine wpAnyH_take (i := 61) (oi := ⟨some 73, _, _, _, _, _⟩) (v := ?vk5n62u1) rfl (by kernel_rfl) (by kernel_rfl) (by kernel_rfl) (fun _ _ _ h => h) (Or.inl ⟨by rfl, ?yk5n62u1⟩) (by assumption) ?rk5n62u1
  case yk5n62u1 => (intro w hSw; (try dsimp only at hSw); go_simp; try with_reducible rfl)
  try simp only [Act.put, List.setIfInBounds_toArray, List.set_cons_zero, List.set_cons_succ]
  refine wpAnyH_take (i := 62) (oi := ⟨some 74, _, _, _, _, _⟩) (v := undef) rfl (by kernel_rfl) (by kernel_rfl) (by kernel_rfl) (fun _ _ _ h => h) (Or.inr ⟨by rfl, rfl⟩) (by assumption) ?rk5n63u1
  try simp only [Act.put, List.setIfInBounds_toArray, List.set_cons_zero, List.set_cons_succ]
  refine wpAnyH_take (i := 63) (oi := ⟨some 75, _, _, _, _, _⟩) (v := undef) rfl (by kernel_rfl) (by kernel_rfl) (by kernel_rfl) (fun _ _ _ h => h) (Or.inr ⟨by rfl, rfl⟩) (by assumption) ?rk5n64u1
  try simp only [Act.put, List.setIfInBounds_toArray, List.set_cons_zero, List.set_cons_succ]
  refine wpAnyH_take (i := 64) (oi := ⟨some 76, _, _, _, _, _⟩) (v := undef) rfl (by kernel_rfl) (by kernel_rfl) (by kernel_rfl) (fun _ _ _ h => h) (Or.inr ⟨by rfl, rfl⟩) (by assumption) ?rk5n65u1
  try simp only [Act.put, List.setIfInBounds_toArray, List.set_cons_zero, List.set_cons_succ]
  refine wpAnyH_take (i := 65) (oi := ⟨some 77, _, _, _, _, _⟩) (v := undef) rfl (by kernel_rfl) (by kernel_rfl) (by kernel_rfl) (fun _ _ _ h => h) (Or.inr ⟨by rfl, rfl⟩) (by assumption) ?rk5n66u1
  try simp only [Act.put, List.setIfInBounds_toArray, List.set_cons_zero, List.set_cons_succ]
  refine wpAnyH_take (i := 66) (oi := ⟨some 78, _, _, _, _, _⟩) (v := ?vk5n67u1) rfl (by kernel_rfl) (by kernel_rfl) (by kernel_rfl) (fun _ _ _ h => h) (Or.inl ⟨by rfl, ?yk5n67u1⟩) (by assumption) ?rk5n67u1
  case yk5n67u1 => (intro w hSw; (try dsimp only at hSw); go_simp; try with_reducible rfl)
  try simp only [Act.put, List.setIfInBounds_toArray, List.set_cons_zero, List.set_cons_succ]
  refine wpAnyH_take (i := 67) (oi := ⟨some 79, _, _, _, _, _⟩) (v := ?vk5n68u1) rfl (by kernel_rfl) (by kernel_rfl) (by kernel_rfl) (fun _ _ _ h => h) (Or.inl ⟨by rfl, ?yk5n68u1⟩) (by assumption) ?rk5n68u1
  case yk5n68u1 => (intro w hSw; (try dsimp only at hSw); go_simp; try with_reducible rfl)
  try simp only [Act.put, List.setIfInBounds_toArray, List.set_cons_zero, List.set_cons_succ]
  refine wpAnyH_take (i := 68) (oi := ⟨some 80, _, _, _, _, _⟩) (v := undef) rfl (by kernel_rfl) (by kernel_rfl) (by kernel_rfl) (fun _ _ _ h => h) (Or.inr ⟨by rfl, rfl⟩) (by assumption) ?rk5n69u1
  try simp only [Act.put, List.setIfInBounds_toArray, List.set_cons_zero, List.set_cons_succ]
  refine wpAnyH_take (i := 69) (oi := ⟨some 81, _, _, _, _, _⟩) (v := undef) rfl (by kernel_rfl) (by kernel_rfl) (by kernel_rfl) (fun _ _ _ h => h) (Or.inr ⟨by rfl, rfl⟩) (by assumption) ?rk5n70u1
  try simp only [Act.put, List.setIfInBounds_toArray, List.set_cons_zero, List.set_cons_succ]
  refine wpAnyH_take (i := 70) (oi := ⟨some 82, _, _, _, _, _⟩) (v := undef) rfl (by kernel_rfl) (by kernel_rfl) (by kernel_rfl) (fun _ _ _ h => h) (Or.inr ⟨by rfl, rfl⟩) (by assumption) ?rk5n71u1
  try simp only [Act.put, List.setIfInBounds_toArray, List.set_cons_zero, List.set_cons_succ]
  refine wpAnyH_take (i := 71) (oi := ⟨some 83, _, _, _, _, _⟩) (v := undef) rfl (by kernel_rfl) (by kernel_rfl) (by kernel_rfl) (fun _ _ _ h => h) (Or.inr ⟨by rfl, rfl⟩) (by assumption) ?rk5n72u1
  try simp only [Act.put, List.setIfInBounds_toArray, List.set_cons_zero, List.set_cons_succ]
  refine wpAnyH_take (i := 72) (oi := ⟨some 84, _, _, _, _, _⟩) (v := undef) rfl (by kernel_rfl) (by kernel_rfl) (by kernel_rfl) (fun _ _ _ h => h) (Or.inr ⟨by rfl, rfl⟩) (by assumption) ?rk5n73u1
  try simp only [Act.put, List.setIfInBounds_toArray, List.set_cons_zero, List.set_cons_succ]
  refine wpAnyH_take (i := 73) (oi := ⟨some 85, _, _, _, _, _⟩) (v := undef) rfl (by kernel_rfl) (by kernel_rfl) (by kernel_rfl) (fun _ _ _ h => h) (Or.inr ⟨by rfl, rfl⟩) (by assumption) ?rk5n74u1
  try simp only [Act.put, List.setIfInBounds_toArray, List.set_cons_zero, List.set_cons_succ]
  refine wpAnyH_take (i := 74) (oi := ⟨some 86, _, _, _, _, _⟩) (v := ?vk5n75u1) rfl (by kernel_rfl) (by kernel_rfl) (by kernel_rfl) (fun _ _ _ h => h) (Or.inl ⟨by rfl, ?yk5n75u1⟩) (by assumption) ?rk5n75u1
  case yk5n75u1 => (intro w hSw; (try dsimp only at hSw); go_simp; try with_reducible rfl)
  try simp only [Act.put, List.setIfInBounds_toArray, List.set_cons_zero, List.set_cons_succ]
  refine wpAnyH_take (i := 75) (oi := ⟨some 2, _, _, _, _, _⟩) (v := ?vk5n76u1) rfl (by kernel_rfl) (by kernel_rfl) (by kernel_rfl) (fun _ _ _ h => h) (Or.inl ⟨by rfl, ?yk5n76u1⟩) (by assumption) ?rk5n76u1
  case yk5n76u1 => (intro w hSw; (try dsimp only at hSw); go_simp; try with_reducible rfl)
  try simp only [Act.put, List.setIfInBounds_toArray, List.set_cons_zero, List.set_cons_succ]
  refine wpAnyH_done (by kernel_rfl) ?_ _
  have HE := hid (U3.out.trans (show Up Nul W2 _ from hHeld))
  clear hHeld
  go_wp2
  go_ret
  exact ⟨by first | rfl | simp, HE.out⟩
set_option maxRecDepth 100000 in
set_option maxHeartbeats 4000000 in
theorem ok_case6 (w : World) (s : ByteArray) (n sid co : Int) (sa : Option Addr) (ns cs : Nat) (la : Option Addr) (nl cl : Nat) (t : Tb) (k : Nat) (c1 c2 c3 c4 c5 c6 c7 c8 c9 c10 : Bool) (hk : spn 1 8 (k : Int) = true) (hS : Shp w) (hc1 : c1 = true) (hc2 : c2 = true) (hc3 : c3 = true) (hc4 : c4 = true) (hc5 : c5 = true) (hc6 : c6 = false)
    (H : OkC w s n sid co sa ns cs la nl cl t k c1 c2 c3 c4 c5 c6 c7 c8 c9 c10) :
    Calls Tryd.prog 16 #[.agg #[.int .i64 (k : Nat), .string s, .int .i64 n, .int .i64 sid, .slice sa ns cs, .int .i64 co, .slice la nl cl, .int .i64 t.hot, .int .i64 t.warm, .int .i64 t.gap, .int .i64 t.add, .int .i64 t.top, .int .i64 t.half]] w
      fun e w' => e = .returned (.bool (c1 && c2 && c3 && c4 && c5 && c6 && c7 && c8 && c9 && c10)) ∧ Up Nul w w' := by
  subst hc1 hc2 hc3 hc4 hc5 hc6
  have h6e := H.h6
  have HK := hid (fun W => kind_any (k : Int) W)
  rw [hk] at HK
  have hk9 : k < 9 := by
    unfold spn at hk
    simp at hk
    omega
  have i0 : (0 : Int) ≤ (k : Int) := by omega
  have i1 : (k : Int) < 9 := by omega
  have HH := hid H
  clear H
  obtain ⟨C, hC⟩ : ∃ C : Array Value, C = #[.int .i64 (k : Nat), .string s, .int .i64 n, .int .i64 sid, .slice sa ns cs, .int .i64 co, .slice la nl cl, .int .i64 t.hot, .int .i64 t.warm, .int .i64 t.gap, .int .i64 t.add, .int .i64 t.top, .int .i64 t.half] := ⟨_, rfl⟩
  have HUA := hid ((Up.refl Nul w).alloc (.cells C 33))
  have HBA : Hid ((w.alloc (.cells C 33)).heap[w.heap.size]? = some (.cells C 33 (0, 0))) := heap_alloc_new _ _
  have HLT : Hid (w.heap.size < (w.alloc (.cells C 33)).heap.size) := by show _ < _; simp
  have HSH := hid hS
  go_enter Tryd.func16, Tryd.ntmps16
  go_wp2_with fail
  rw [← hC]
  refine (HK.out _).mono ?_
  rintro e w1 ⟨rfl, u1⟩
  have hb := (u1.block _ HLT.out id).trans HBA.out
  have HU1 := hid (HUA.out.trans u1)
  have hlt := Nat.lt_of_lt_of_le HLT.out u1.size
  clear u1 HBA HUA HLT
  have y0 := (HSH.out.nxt HU1.out).c k 0 hk9 (by omega)
  have y1 := (HSH.out.nxt HU1.out).c k 1 hk9 (by omega)
  have y2 := (HSH.out.nxt HU1.out).c k 2 hk9 (by omega)
  have y3 := (HSH.out.nxt HU1.out).c k 3 hk9 (by omega)
  have y4 := (HSH.out.nxt HU1.out).c k 4 hk9 (by omega)
  have y5 := (HSH.out.nxt HU1.out).c k 5 hk9 (by omega)
  have y6 := (HSH.out.nxt HU1.out).c k 6 hk9 (by omega)
  have y7 := (HSH.out.nxt HU1.out).c k 7 hk9 (by omega)
  have y8 := (HSH.out.nxt HU1.out).c k 8 hk9 (by omega)
  have y9 := (HSH.out.nxt HU1.out).c k 9 hk9 (by omega)
  have y10 := (HSH.out.nxt HU1.out).c k 10 hk9 (by omega)
  have y11 := (HSH.out.nxt HU1.out).c k 11 hk9 (by omega)
  have y12 := (HSH.out.nxt HU1.out).c k 12 hk9 (by omega)
  have y13 := (HSH.out.nxt HU1.out).c k 13 hk9 (by omega)
  have y14 := (HSH.out.nxt HU1.out).c k 14 hk9 (by omega)
  rw [Nat.add_zero] at y0
  generalize w.heap.size = p at hb hlt ⊢
  have x0 : w1.cell? ⟨p, 0, none⟩ = some (.int .i64 (k : Nat)) := by simp [World.cell?, hb, hC]
  clear hk9
  go_wp2_with fail
  obtain ⟨W2, hW2⟩ : ∃ W, W = w1.alloc (.cells #[.int .i64 (sh k 0), .int .i64 (sh k 1), .int .i64 (sh k 2), .int .i64 (sh k 3), .int .i64 (sh k 4), .int .i64 (sh k 5), .int .i64 (sh k 6), .int .i64 (sh k 7), .int .i64 (sh k 8), .int .i64 (sh k 9), .int .i64 (sh k 10), .int .i64 (sh k 11), .int .i64 (sh k 12), .int .i64 (sh k 13), .int .i64 (sh k 14)] 73) := ⟨_, rfl⟩
  have U2 : Hid (Up Nul w1 W2) := by show Up _ _ _; rw [hW2]; exact (Up.refl Nul w1).alloc _
  have hq : W2.heap[w1.heap.size]? = some (.cells #[.int .i64 (sh k 0), .int .i64 (sh k 1), .int .i64 (sh k 2), .int .i64 (sh k 3), .int .i64 (sh k 4), .int .i64 (sh k 5), .int .i64 (sh k 6), .int .i64 (sh k 7), .int .i64 (sh k 8), .int .i64 (sh k 9), .int .i64 (sh k 10), .int .i64 (sh k 11), .int .i64 (sh k 12), .int .i64 (sh k 13), .int .i64 (sh k 14)] 73 (0, 0)) := by rw [hW2]; exact heap_alloc_new _ _
  have hp := (U2.out.block p hlt id).trans hb
  rw [hC] at hp
  have hq2 : w1.heap.size < W2.heap.size := by rw [hW2]; simp
  have hp2 := Nat.lt_of_lt_of_le hlt U2.out.size
  have U3 := hid (HU1.out.trans U2.out)
  rw [← hW2]
  clear hW2 x0 y0 y1 y2 y3 y4 y5 y6 y7 y8 y9 y10 y11 y12 y13 y14 hb U2 HU1 hlt
  generalize w1.heap.size = q at hq hq2 ⊢
  have Hp1 : Hid (∀ W, Up Nul W2 W → W.cell? ⟨p, 1, none⟩ = some (.string s)) := fun W u => by have a := (u.block p hp2 id).trans hp; simp only [World.cell?, a]; rfl
  have Hp2 : Hid (∀ W, Up Nul W2 W → W.cell? ⟨p, 2, none⟩ = some (.int .i64 n)) := fun W u => by have a := (u.block p hp2 id).trans hp; simp only [World.cell?, a]; rfl
  have Hp3 : Hid (∀ W, Up Nul W2 W → W.cell? ⟨p, 3, none⟩ = some (.int .i64 sid)) := fun W u => by have a := (u.block p hp2 id).trans hp; simp only [World.cell?, a]; rfl
  have Hp4 : Hid (∀ W, Up Nul W2 W → W.cell? ⟨p, 4, none⟩ = some (.slice sa ns cs)) := fun W u => by have a := (u.block p hp2 id).trans hp; simp only [World.cell?, a]; rfl
  have Hp5 : Hid (∀ W, Up Nul W2 W → W.cell? ⟨p, 5, none⟩ = some (.int .i64 co)) := fun W u => by have a := (u.block p hp2 id).trans hp; simp only [World.cell?, a]; rfl
  have Hp6 : Hid (∀ W, Up Nul W2 W → W.cell? ⟨p, 6, none⟩ = some (.slice la nl cl)) := fun W u => by have a := (u.block p hp2 id).trans hp; simp only [World.cell?, a]; rfl
  have Hp7 : Hid (∀ W, Up Nul W2 W → W.cell? ⟨p, 7, none⟩ = some (.int .i64 t.hot)) := fun W u => by have a := (u.block p hp2 id).trans hp; simp only [World.cell?, a]; rfl
  have Hp8 : Hid (∀ W, Up Nul W2 W → W.cell? ⟨p, 8, none⟩ = some (.int .i64 t.warm)) := fun W u => by have a := (u.block p hp2 id).trans hp; simp only [World.cell?, a]; rfl
  have Hp9 : Hid (∀ W, Up Nul W2 W → W.cell? ⟨p, 9, none⟩ = some (.int .i64 t.gap)) := fun W u => by have a := (u.block p hp2 id).trans hp; simp only [World.cell?, a]; rfl
  have Hp10 : Hid (∀ W, Up Nul W2 W → W.cell? ⟨p, 10, none⟩ = some (.int .i64 t.add)) := fun W u => by have a := (u.block p hp2 id).trans hp; simp only [World.cell?, a]; rfl
  have Hp11 : Hid (∀ W, Up Nul W2 W → W.cell? ⟨p, 11, none⟩ = some (.int .i64 t.top)) := fun W u => by have a := (u.block p hp2 id).trans hp; simp only [World.cell?, a]; rfl
  have Hp12 : Hid (∀ W, Up Nul W2 W → W.cell? ⟨p, 12, none⟩ = some (.int .i64 t.half)) := fun W u => by have a := (u.block p hp2 id).trans hp; simp only [World.cell?, a]; rfl
  have Hq0 : Hid (∀ W, Up Nul W2 W → W.cell? ⟨q, 0, none⟩ = some (.int .i64 (sh k 0))) := fun W u => by have a := (u.block q hq2 id).trans hq; simp only [World.cell?, a]; rfl
  have Hq1 : Hid (∀ W, Up Nul W2 W → W.cell? ⟨q, 1, none⟩ = some (.int .i64 (sh k 1))) := fun W u => by have a := (u.block q hq2 id).trans hq; simp only [World.cell?, a]; rfl
  have Hq2 : Hid (∀ W, Up Nul W2 W → W.cell? ⟨q, 2, none⟩ = some (.int .i64 (sh k 2))) := fun W u => by have a := (u.block q hq2 id).trans hq; simp only [World.cell?, a]; rfl
  have Hq3 : Hid (∀ W, Up Nul W2 W → W.cell? ⟨q, 3, none⟩ = some (.int .i64 (sh k 3))) := fun W u => by have a := (u.block q hq2 id).trans hq; simp only [World.cell?, a]; rfl
  have Hq4 : Hid (∀ W, Up Nul W2 W → W.cell? ⟨q, 4, none⟩ = some (.int .i64 (sh k 4))) := fun W u => by have a := (u.block q hq2 id).trans hq; simp only [World.cell?, a]; rfl
  have Hq5 : Hid (∀ W, Up Nul W2 W → W.cell? ⟨q, 5, none⟩ = some (.int .i64 (sh k 5))) := fun W u => by have a := (u.block q hq2 id).trans hq; simp only [World.cell?, a]; rfl
  have Hq6 : Hid (∀ W, Up Nul W2 W → W.cell? ⟨q, 6, none⟩ = some (.int .i64 (sh k 6))) := fun W u => by have a := (u.block q hq2 id).trans hq; simp only [World.cell?, a]; rfl
  have Hq7 : Hid (∀ W, Up Nul W2 W → W.cell? ⟨q, 7, none⟩ = some (.int .i64 (sh k 7))) := fun W u => by have a := (u.block q hq2 id).trans hq; simp only [World.cell?, a]; rfl
  have Hq8 : Hid (∀ W, Up Nul W2 W → W.cell? ⟨q, 8, none⟩ = some (.int .i64 (sh k 8))) := fun W u => by have a := (u.block q hq2 id).trans hq; simp only [World.cell?, a]; rfl
  have Hq9 : Hid (∀ W, Up Nul W2 W → W.cell? ⟨q, 9, none⟩ = some (.int .i64 (sh k 9))) := fun W u => by have a := (u.block q hq2 id).trans hq; simp only [World.cell?, a]; rfl
  have Hq10 : Hid (∀ W, Up Nul W2 W → W.cell? ⟨q, 10, none⟩ = some (.int .i64 (sh k 10))) := fun W u => by have a := (u.block q hq2 id).trans hq; simp only [World.cell?, a]; rfl
  have Hq11 : Hid (∀ W, Up Nul W2 W → W.cell? ⟨q, 11, none⟩ = some (.int .i64 (sh k 11))) := fun W u => by have a := (u.block q hq2 id).trans hq; simp only [World.cell?, a]; rfl
  have Hq12 : Hid (∀ W, Up Nul W2 W → W.cell? ⟨q, 12, none⟩ = some (.int .i64 (sh k 12))) := fun W u => by have a := (u.block q hq2 id).trans hq; simp only [World.cell?, a]; rfl
  have Hq13 : Hid (∀ W, Up Nul W2 W → W.cell? ⟨q, 13, none⟩ = some (.int .i64 (sh k 13))) := fun W u => by have a := (u.block q hq2 id).trans hq; simp only [World.cell?, a]; rfl
  have Hq14 : Hid (∀ W, Up Nul W2 W → W.cell? ⟨q, 14, none⟩ = some (.int .i64 (sh k 14))) := fun W u => by have a := (u.block q hq2 id).trans hq; simp only [World.cell?, a]; rfl
  clear hp hq hp2 hq2
  have HR := hid (Up.refl Nul W2)
  simp only [List.append]
  refine wp_region_held_drew (S := (fun W => Up Nul W2 W)) (by kernel_rfl) (by exact HR.out.drew) (fun hHeld => ?_)
  refine wpAnyH_take (i := 0) (oi := ⟨some 12, _, _, _, _, _⟩) (v := ?vk6n1u1) rfl (by kernel_rfl) (by kernel_rfl) (by kernel_rfl) (fun _ _ _ h => h) (Or.inl ⟨by rfl, ?yk6n1u1⟩) (by assumption) ?rk6n1u1
  case yk6n1u1 => (intro w hSw; (try dsimp only at hSw); go_simp; try with_reducible rfl)
  try simp only [Act.put, List.setIfInBounds_toArray, List.set_cons_zero, List.set_cons_succ]
  refine wpAnyH_take (i := 1) (oi := ⟨some 13, _, _, _, _, _⟩) (v := ?vk6x2) rfl (by kernel_rfl) (by kernel_rfl) (by kernel_rfl) (fun _ _ _ h => h) (Or.inl ⟨by rfl, ?yk6x2⟩) (by assumption) ?rk6x2
  case yk6x2 => (intro w hSw; have aq0 := Hq0.out w hSw; have aq1 := Hq1.out w hSw; go_simp; try with_reducible rfl)
  try simp only [Act.put, List.setIfInBounds_toArray, List.set_cons_zero, List.set_cons_succ]
  refine wpAnyH_take (i := 2) (oi := ⟨some 14, _, _, _, _, _⟩) (v := ?vk6n3u1) rfl (by kernel_rfl) (by kernel_rfl) (by kernel_rfl) (fun _ _ _ h => h) (Or.inl ⟨by rfl, ?yk6n3u1⟩) (by assumption) ?rk6n3u1
  case yk6n3u1 => (intro w hSw; (try dsimp only at hSw); go_simp; try with_reducible rfl)
  try simp only [Act.put, List.setIfInBounds_toArray, List.set_cons_zero, List.set_cons_succ]
  refine wpAnyH_take (i := 3) (oi := ⟨some 15, _, _, _, _, _⟩) (v := ?vk6x4) rfl (by kernel_rfl) (by kernel_rfl) (by kernel_rfl) (fun _ _ _ h => h) (Or.inl ⟨by rfl, ?yk6x4⟩) (by assumption) ?rk6x4
  case yk6x4 => (intro w hSw; have ap1 := Hp1.out w hSw; go_simp; try with_reducible rfl)
  try simp only [Act.put, List.setIfInBounds_toArray, List.set_cons_zero, List.set_cons_succ]
  refine wpAnyH_take (i := 4) (oi := ⟨some 16, _, _, _, _, _⟩) (v := ?vk6n5u1) rfl (by kernel_rfl) (by kernel_rfl) (by kernel_rfl) (fun _ _ _ h => h) (Or.inl ⟨by rfl, ?yk6n5u1⟩) (by assumption) ?rk6n5u1
  case yk6n5u1 => (intro w hSw; (try dsimp only at hSw); go_simp; try with_reducible rfl)
  try simp only [Act.put, List.setIfInBounds_toArray, List.set_cons_zero, List.set_cons_succ]
  refine wpAnyH_ready (rs := [5]) (by kernel_rfl) (by simp) ?_
  refine AllReadyH.cons (o := ⟨some 17, _, _, _, _, _⟩) rfl (fun K hK => ?_) AllReadyH.nil
  go_simp
  skip
  refine hK.out _ _ ?kk6n6u1 (fun hHeld => ?_)
  case kk6n6u1 => exact (by first | exact Up.alloc (show Up Nul W2 _ from hHeld) _ | exact (Up.alloc (show Up Nul W2 _ from HR.out) _).drew)
  clear hK K
  try simp only [Act.put, List.setIfInBounds_toArray, List.set_cons_zero, List.set_cons_succ]
  refine wpAnyH_ready (rs := [6]) (by kernel_rfl) (by simp) ?_
  refine AllReadyH.cons (o := ⟨some 18, _, _, _, _, _⟩) rfl (fun K hK => ?_) AllReadyH.nil
  go_simp
  go_at_call 25; refine (HH.out.h1 _ (U3.out.trans (show Up Nul W2 _ from hHeld)) _ (by first | exact World.cell?_alloc_new _ _ _ 0 | (simp; done) | go_simp)).mono ?_; rintro e wb ⟨rfl, kb⟩
  refine hK.out _ _ ?kk6n7u1 (fun hHeld => ?_)
  case kk6n7u1 => exact (Up.trans (show Up Nul W2 _ from hHeld) kb)
  clear hK K
  try simp only [Act.put, List.setIfInBounds_toArray, List.set_cons_zero, List.set_cons_succ]
  refine wpAnyH_take (i := 7) (oi := ⟨some 19, _, _, _, _, _⟩) (v := ?vk6n8u1) rfl (by kernel_rfl) (by kernel_rfl) (by kernel_rfl) (fun _ _ _ h => h) (Or.inl ⟨by rfl, ?yk6n8u1⟩) (by assumption) ?rk6n8u1
  case yk6n8u1 => (intro w hSw; (try dsimp only at hSw); go_simp; try with_reducible rfl)
  try simp only [Act.put, List.setIfInBounds_toArray, List.set_cons_zero, List.set_cons_succ]
  refine wpAnyH_take (i := 8) (oi := ⟨some 20, _, _, _, _, _⟩) (v := ?vk6n9u1) rfl (by kernel_rfl) (by kernel_rfl) (by kernel_rfl) (fun _ _ _ h => h) (Or.inl ⟨by rfl, ?yk6n9u1⟩) (by assumption) ?rk6n9u1
  case yk6n9u1 => (intro w hSw; (try dsimp only at hSw); go_simp; try with_reducible rfl)
  try simp only [Act.put, List.setIfInBounds_toArray, List.set_cons_zero, List.set_cons_succ]
  refine wpAnyH_take (i := 9) (oi := ⟨some 21, _, _, _, _, _⟩) (v := ?vk6x10) rfl (by kernel_rfl) (by kernel_rfl) (by kernel_rfl) (fun _ _ _ h => h) (Or.inl ⟨by rfl, ?yk6x10⟩) (by assumption) ?rk6x10
  case yk6x10 => (intro w hSw; have ap1 := Hp1.out w hSw; go_simp; try with_reducible rfl)
  try simp only [Act.put, List.setIfInBounds_toArray, List.set_cons_zero, List.set_cons_succ]
  refine wpAnyH_ready (rs := [10]) (by kernel_rfl) (by simp) ?_
  refine AllReadyH.cons (o := ⟨some 22, _, _, _, _, _⟩) rfl (fun K hK => ?_) AllReadyH.nil
  go_simp
  go_at_call 26; refine (HH.out.h2 _).mono ?_; rintro e wb ⟨rfl, kb⟩
  refine hK.out _ _ ?kk6n11u1 (fun hHeld => ?_)
  case kk6n11u1 => exact (Up.trans (show Up Nul W2 _ from hHeld) kb)
  clear hK K
  try simp only [Act.put, List.setIfInBounds_toArray, List.set_cons_zero, List.set_cons_succ]
  refine wpAnyH_take (i := 11) (oi := ⟨some 23, _, _, _, _, _⟩) (v := ?vk6n12u1) rfl (by kernel_rfl) (by kernel_rfl) (by kernel_rfl) (fun _ _ _ h => h) (Or.inl ⟨by rfl, ?yk6n12u1⟩) (by assumption) ?rk6n12u1
  case yk6n12u1 => (intro w hSw; (try dsimp only at hSw); go_simp; try with_reducible rfl)
  try simp only [Act.put, List.setIfInBounds_toArray, List.set_cons_zero, List.set_cons_succ]
  refine wpAnyH_take (i := 12) (oi := ⟨some 24, _, _, _, _, _⟩) (v := ?vk6n13u1) rfl (by kernel_rfl) (by kernel_rfl) (by kernel_rfl) (fun _ _ _ h => h) (Or.inl ⟨by rfl, ?yk6n13u1⟩) (by assumption) ?rk6n13u1
  case yk6n13u1 => (intro w hSw; (try dsimp only at hSw); go_simp; try with_reducible rfl)
  try simp only [Act.put, List.setIfInBounds_toArray, List.set_cons_zero, List.set_cons_succ]
  refine wpAnyH_take (i := 13) (oi := ⟨some 25, _, _, _, _, _⟩) (v := ?vk6n14u1) rfl (by kernel_rfl) (by kernel_rfl) (by kernel_rfl) (fun _ _ _ h => h) (Or.inl ⟨by rfl, ?yk6n14u1⟩) (by assumption) ?rk6n14u1
  case yk6n14u1 => (intro w hSw; (try dsimp only at hSw); go_simp; try with_reducible rfl)
  try simp only [Act.put, List.setIfInBounds_toArray, List.set_cons_zero, List.set_cons_succ]
  refine wpAnyH_take (i := 14) (oi := ⟨some 26, _, _, _, _, _⟩) (v := ?vk6x15) rfl (by kernel_rfl) (by kernel_rfl) (by kernel_rfl) (fun _ _ _ h => h) (Or.inl ⟨by rfl, ?yk6x15⟩) (by assumption) ?rk6x15
  case yk6x15 => (intro w hSw; have aq2 := Hq2.out w hSw; have aq3 := Hq3.out w hSw; go_simp; try with_reducible rfl)
  try simp only [Act.put, List.setIfInBounds_toArray, List.set_cons_zero, List.set_cons_succ]
  refine wpAnyH_take (i := 15) (oi := ⟨some 27, _, _, _, _, _⟩) (v := ?vk6n16u1) rfl (by kernel_rfl) (by kernel_rfl) (by kernel_rfl) (fun _ _ _ h => h) (Or.inl ⟨by rfl, ?yk6n16u1⟩) (by assumption) ?rk6n16u1
  case yk6n16u1 => (intro w hSw; (try dsimp only at hSw); go_simp; try with_reducible rfl)
  try simp only [Act.put, List.setIfInBounds_toArray, List.set_cons_zero, List.set_cons_succ]
  refine wpAnyH_take (i := 16) (oi := ⟨some 28, _, _, _, _, _⟩) (v := ?vk6x17) rfl (by kernel_rfl) (by kernel_rfl) (by kernel_rfl) (fun _ _ _ h => h) (Or.inl ⟨by rfl, ?yk6x17⟩) (by assumption) ?rk6x17
  case yk6x17 => (intro w hSw; have ap2 := Hp2.out w hSw; go_simp; try with_reducible rfl)
  try simp only [Act.put, List.setIfInBounds_toArray, List.set_cons_zero, List.set_cons_succ]
  refine wpAnyH_ready (rs := [17]) (by kernel_rfl) (by simp) ?_
  refine AllReadyH.cons (o := ⟨some 29, _, _, _, _, _⟩) rfl (fun K hK => ?_) AllReadyH.nil
  go_simp
  skip
  refine hK.out _ _ ?kk6n18u1 (fun hHeld => ?_)
  case kk6n18u1 => exact (by first | exact Up.alloc (show Up Nul W2 _ from hHeld) _ | exact (Up.alloc (show Up Nul W2 _ from HR.out) _).drew)
  clear hK K
  try simp only [Act.put, List.setIfInBounds_toArray, List.set_cons_zero, List.set_cons_succ]
  refine wpAnyH_ready (rs := [18]) (by kernel_rfl) (by simp) ?_
  refine AllReadyH.cons (o := ⟨some 30, _, _, _, _, _⟩) rfl (fun K hK => ?_) AllReadyH.nil
  go_simp
  go_at_call 25; refine (HH.out.h3 _ (U3.out.trans (show Up Nul W2 _ from hHeld)) _ (by first | exact World.cell?_alloc_new _ _ _ 0 | (simp; done) | go_simp)).mono ?_; rintro e wb ⟨rfl, kb⟩
  refine hK.out _ _ ?kk6n19u1 (fun hHeld => ?_)
  case kk6n19u1 => exact (Up.trans (show Up Nul W2 _ from hHeld) kb)
  clear hK K
  try simp only [Act.put, List.setIfInBounds_toArray, List.set_cons_zero, List.set_cons_succ]
  refine wpAnyH_take (i := 19) (oi := ⟨some 31, _, _, _, _, _⟩) (v := ?vk6n20u1) rfl (by kernel_rfl) (by kernel_rfl) (by kernel_rfl) (fun _ _ _ h => h) (Or.inl ⟨by rfl, ?yk6n20u1⟩) (by assumption) ?rk6n20u1
  case yk6n20u1 => (intro w hSw; (try dsimp only at hSw); go_simp; try with_reducible rfl)
  try simp only [Act.put, List.setIfInBounds_toArray, List.set_cons_zero, List.set_cons_succ]
  refine wpAnyH_take (i := 20) (oi := ⟨some 32, _, _, _, _, _⟩) (v := ?vk6n21u1) rfl (by kernel_rfl) (by kernel_rfl) (by kernel_rfl) (fun _ _ _ h => h) (Or.inl ⟨by rfl, ?yk6n21u1⟩) (by assumption) ?rk6n21u1
  case yk6n21u1 => (intro w hSw; (try dsimp only at hSw); go_simp; try with_reducible rfl)
  try simp only [Act.put, List.setIfInBounds_toArray, List.set_cons_zero, List.set_cons_succ]
  refine wpAnyH_take (i := 21) (oi := ⟨some 33, _, _, _, _, _⟩) (v := ?vk6n22u1) rfl (by kernel_rfl) (by kernel_rfl) (by kernel_rfl) (fun _ _ _ h => h) (Or.inl ⟨by rfl, ?yk6n22u1⟩) (by assumption) ?rk6n22u1
  case yk6n22u1 => (intro w hSw; (try dsimp only at hSw); go_simp; try with_reducible rfl)
  try simp only [Act.put, List.setIfInBounds_toArray, List.set_cons_zero, List.set_cons_succ]
  refine wpAnyH_take (i := 22) (oi := ⟨some 34, _, _, _, _, _⟩) (v := ?vk6x23) rfl (by kernel_rfl) (by kernel_rfl) (by kernel_rfl) (fun _ _ _ h => h) (Or.inl ⟨by rfl, ?yk6x23⟩) (by assumption) ?rk6x23
  case yk6x23 => (intro w hSw; have aq4 := Hq4.out w hSw; have aq5 := Hq5.out w hSw; go_simp; try with_reducible rfl)
  try simp only [Act.put, List.setIfInBounds_toArray, List.set_cons_zero, List.set_cons_succ]
  refine wpAnyH_take (i := 23) (oi := ⟨some 35, _, _, _, _, _⟩) (v := ?vk6n24u1) rfl (by kernel_rfl) (by kernel_rfl) (by kernel_rfl) (fun _ _ _ h => h) (Or.inl ⟨by rfl, ?yk6n24u1⟩) (by assumption) ?rk6n24u1
  case yk6n24u1 => (intro w hSw; (try dsimp only at hSw); go_simp; try with_reducible rfl)
  try simp only [Act.put, List.setIfInBounds_toArray, List.set_cons_zero, List.set_cons_succ]
  refine wpAnyH_take (i := 24) (oi := ⟨some 36, _, _, _, _, _⟩) (v := ?vk6x25) rfl (by kernel_rfl) (by kernel_rfl) (by kernel_rfl) (fun _ _ _ h => h) (Or.inl ⟨by rfl, ?yk6x25⟩) (by assumption) ?rk6x25
  case yk6x25 => (intro w hSw; have ap3 := Hp3.out w hSw; go_simp; try with_reducible rfl)
  try simp only [Act.put, List.setIfInBounds_toArray, List.set_cons_zero, List.set_cons_succ]
  refine wpAnyH_ready (rs := [25]) (by kernel_rfl) (by simp) ?_
  refine AllReadyH.cons (o := ⟨some 37, _, _, _, _, _⟩) rfl (fun K hK => ?_) AllReadyH.nil
  go_simp
  skip
  refine hK.out _ _ ?kk6n26u1 (fun hHeld => ?_)
  case kk6n26u1 => exact (by first | exact Up.alloc (show Up Nul W2 _ from hHeld) _ | exact (Up.alloc (show Up Nul W2 _ from HR.out) _).drew)
  clear hK K
  try simp only [Act.put, List.setIfInBounds_toArray, List.set_cons_zero, List.set_cons_succ]
  refine wpAnyH_ready (rs := [26]) (by kernel_rfl) (by simp) ?_
  refine AllReadyH.cons (o := ⟨some 38, _, _, _, _, _⟩) rfl (fun K hK => ?_) AllReadyH.nil
  go_simp
  go_at_call 25; refine (HH.out.h4 _ (U3.out.trans (show Up Nul W2 _ from hHeld)) _ (by first | exact World.cell?_alloc_new _ _ _ 0 | (simp; done) | go_simp)).mono ?_; rintro e wb ⟨rfl, kb⟩
  refine hK.out _ _ ?kk6n27u1 (fun hHeld => ?_)
  case kk6n27u1 => exact (Up.trans (show Up Nul W2 _ from hHeld) kb)
  clear hK K
  try simp only [Act.put, List.setIfInBounds_toArray, List.set_cons_zero, List.set_cons_succ]
  refine wpAnyH_take (i := 27) (oi := ⟨some 39, _, _, _, _, _⟩) (v := ?vk6n28u1) rfl (by kernel_rfl) (by kernel_rfl) (by kernel_rfl) (fun _ _ _ h => h) (Or.inl ⟨by rfl, ?yk6n28u1⟩) (by assumption) ?rk6n28u1
  case yk6n28u1 => (intro w hSw; (try dsimp only at hSw); go_simp; try with_reducible rfl)
  try simp only [Act.put, List.setIfInBounds_toArray, List.set_cons_zero, List.set_cons_succ]
  refine wpAnyH_take (i := 28) (oi := ⟨some 40, _, _, _, _, _⟩) (v := ?vk6n29u1) rfl (by kernel_rfl) (by kernel_rfl) (by kernel_rfl) (fun _ _ _ h => h) (Or.inl ⟨by rfl, ?yk6n29u1⟩) (by assumption) ?rk6n29u1
  case yk6n29u1 => (intro w hSw; (try dsimp only at hSw); go_simp; try with_reducible rfl)
  try simp only [Act.put, List.setIfInBounds_toArray, List.set_cons_zero, List.set_cons_succ]
  refine wpAnyH_take (i := 29) (oi := ⟨some 41, _, _, _, _, _⟩) (v := ?vk6n30u1) rfl (by kernel_rfl) (by kernel_rfl) (by kernel_rfl) (fun _ _ _ h => h) (Or.inl ⟨by rfl, ?yk6n30u1⟩) (by assumption) ?rk6n30u1
  case yk6n30u1 => (intro w hSw; (try dsimp only at hSw); go_simp; try with_reducible rfl)
  try simp only [Act.put, List.setIfInBounds_toArray, List.set_cons_zero, List.set_cons_succ]
  refine wpAnyH_take (i := 30) (oi := ⟨some 42, _, _, _, _, _⟩) (v := ?vk6x31) rfl (by kernel_rfl) (by kernel_rfl) (by kernel_rfl) (fun _ _ _ h => h) (Or.inl ⟨by rfl, ?yk6x31⟩) (by assumption) ?rk6x31
  case yk6x31 => (intro w hSw; have aq6 := Hq6.out w hSw; have aq7 := Hq7.out w hSw; go_simp; try with_reducible rfl)
  try simp only [Act.put, List.setIfInBounds_toArray, List.set_cons_zero, List.set_cons_succ]
  refine wpAnyH_take (i := 31) (oi := ⟨some 43, _, _, _, _, _⟩) (v := ?vk6n32u1) rfl (by kernel_rfl) (by kernel_rfl) (by kernel_rfl) (fun _ _ _ h => h) (Or.inl ⟨by rfl, ?yk6n32u1⟩) (by assumption) ?rk6n32u1
  case yk6n32u1 => (intro w hSw; (try dsimp only at hSw); go_simp; try with_reducible rfl)
  try simp only [Act.put, List.setIfInBounds_toArray, List.set_cons_zero, List.set_cons_succ]
  refine wpAnyH_take (i := 32) (oi := ⟨some 44, _, _, _, _, _⟩) (v := ?vk6x33) rfl (by kernel_rfl) (by kernel_rfl) (by kernel_rfl) (fun _ _ _ h => h) (Or.inl ⟨by rfl, ?yk6x33⟩) (by assumption) ?rk6x33
  case yk6x33 => (intro w hSw; have ap5 := Hp5.out w hSw; go_simp; try with_reducible rfl)
  try simp only [Act.put, List.setIfInBounds_toArray, List.set_cons_zero, List.set_cons_succ]
  refine wpAnyH_ready (rs := [33]) (by kernel_rfl) (by simp) ?_
  refine AllReadyH.cons (o := ⟨some 45, _, _, _, _, _⟩) rfl (fun K hK => ?_) AllReadyH.nil
  go_simp
  skip
  refine hK.out _ _ ?kk6n34u1 (fun hHeld => ?_)
  case kk6n34u1 => exact (by first | exact Up.alloc (show Up Nul W2 _ from hHeld) _ | exact (Up.alloc (show Up Nul W2 _ from HR.out) _).drew)
  clear hK K
  try simp only [Act.put, List.setIfInBounds_toArray, List.set_cons_zero, List.set_cons_succ]
  refine wpAnyH_ready (rs := [34]) (by kernel_rfl) (by simp) ?_
  refine AllReadyH.cons (o := ⟨some 46, _, _, _, _, _⟩) rfl (fun K hK => ?_) AllReadyH.nil
  go_simp
  go_at_call 25; refine (HH.out.h5 _ (U3.out.trans (show Up Nul W2 _ from hHeld)) _ (by first | exact World.cell?_alloc_new _ _ _ 0 | (simp; done) | go_simp)).mono ?_; rintro e wb ⟨rfl, kb⟩
  refine hK.out _ _ ?kk6n35u1 (fun hHeld => ?_)
  case kk6n35u1 => exact (Up.trans (show Up Nul W2 _ from hHeld) kb)
  clear hK K
  try simp only [Act.put, List.setIfInBounds_toArray, List.set_cons_zero, List.set_cons_succ]
  refine wpAnyH_take (i := 35) (oi := ⟨some 47, _, _, _, _, _⟩) (v := ?vk6n36u1) rfl (by kernel_rfl) (by kernel_rfl) (by kernel_rfl) (fun _ _ _ h => h) (Or.inl ⟨by rfl, ?yk6n36u1⟩) (by assumption) ?rk6n36u1
  case yk6n36u1 => (intro w hSw; (try dsimp only at hSw); go_simp; try with_reducible rfl)
  try simp only [Act.put, List.setIfInBounds_toArray, List.set_cons_zero, List.set_cons_succ]
  refine wpAnyH_take (i := 36) (oi := ⟨some 48, _, _, _, _, _⟩) (v := ?vk6n37u1) rfl (by kernel_rfl) (by kernel_rfl) (by kernel_rfl) (fun _ _ _ h => h) (Or.inl ⟨by rfl, ?yk6n37u1⟩) (by assumption) ?rk6n37u1
  case yk6n37u1 => (intro w hSw; (try dsimp only at hSw); go_simp; try with_reducible rfl)
  try simp only [Act.put, List.setIfInBounds_toArray, List.set_cons_zero, List.set_cons_succ]
  refine wpAnyH_take (i := 37) (oi := ⟨some 49, _, _, _, _, _⟩) (v := ?vk6n38u1) rfl (by kernel_rfl) (by kernel_rfl) (by kernel_rfl) (fun _ _ _ h => h) (Or.inl ⟨by rfl, ?yk6n38u1⟩) (by assumption) ?rk6n38u1
  case yk6n38u1 => (intro w hSw; (try dsimp only at hSw); go_simp; try with_reducible rfl)
  try simp only [Act.put, List.setIfInBounds_toArray, List.set_cons_zero, List.set_cons_succ]
  refine wpAnyH_take (i := 38) (oi := ⟨some 50, _, _, _, _, _⟩) (v := ?vk6x39) rfl (by kernel_rfl) (by kernel_rfl) (by kernel_rfl) (fun _ _ _ h => h) (Or.inl ⟨by rfl, ?yk6x39⟩) (by assumption) ?rk6x39
  case yk6x39 => (intro w hSw; have ap4 := Hp4.out w hSw; go_simp; try with_reducible rfl)
  try simp only [Act.put, List.setIfInBounds_toArray, List.set_cons_zero, List.set_cons_succ]
  refine wpAnyH_take (i := 39) (oi := ⟨some 51, _, _, _, _, _⟩) (v := ?vk6n40u1) rfl (by kernel_rfl) (by kernel_rfl) (by kernel_rfl) (fun _ _ _ h => h) (Or.inl ⟨by rfl, ?yk6n40u1⟩) (by assumption) ?rk6n40u1
  case yk6n40u1 => (intro w hSw; (try dsimp only at hSw); go_simp; try with_reducible rfl)
  try simp only [Act.put, List.setIfInBounds_toArray, List.set_cons_zero, List.set_cons_succ]
  refine wpAnyH_take (i := 40) (oi := ⟨some 52, _, _, _, _, _⟩) (v := ?vk6n41u1) rfl (by kernel_rfl) (by kernel_rfl) (by kernel_rfl) (fun _ _ _ h => h) (Or.inl ⟨by rfl, ?yk6n41u1⟩) (by assumption) ?rk6n41u1
  case yk6n41u1 => (intro w hSw; (try dsimp only at hSw); go_simp; try with_reducible rfl)
  try simp only [Act.put, List.setIfInBounds_toArray, List.set_cons_zero, List.set_cons_succ]
  refine wpAnyH_take (i := 41) (oi := ⟨some 53, _, _, _, _, _⟩) (v := ?vk6x42) rfl (by kernel_rfl) (by kernel_rfl) (by kernel_rfl) (fun _ _ _ h => h) (Or.inl ⟨by rfl, ?yk6x42⟩) (by assumption) ?rk6x42
  case yk6x42 => (intro w hSw; have aq8 := Hq8.out w hSw; go_simp; try with_reducible rfl)
  try simp only [Act.put, List.setIfInBounds_toArray, List.set_cons_zero, List.set_cons_succ]
  refine wpAnyH_take (i := 42) (oi := ⟨some 54, _, _, _, _, _⟩) (v := ?vk6n43u1) rfl (by kernel_rfl) (by kernel_rfl) (by kernel_rfl) (fun _ _ _ h => h) (Or.inl ⟨by rfl, ?yk6n43u1⟩) (by assumption) ?rk6n43u1
  case yk6n43u1 => (intro w hSw; (try dsimp only at hSw); go_simp; try with_reducible rfl)
  try simp only [Act.put, List.setIfInBounds_toArray, List.set_cons_zero, List.set_cons_succ]
  refine wpAnyH_take (i := 43) (oi := ⟨some 55, _, _, _, _, _⟩) (v := ?vk6n44u1) rfl (by kernel_rfl) (by kernel_rfl) (by kernel_rfl) (fun _ _ _ h => h) (Or.inl ⟨by rfl, ?yk6n44u1⟩) (by assumption) ?rk6n44u1
  case yk6n44u1 => (intro w hSw; (try dsimp only at hSw); go_simp; try with_reducible rfl)
  try simp only [Act.put, List.setIfInBounds_toArray, List.set_cons_zero, List.set_cons_succ]
  refine wpAnyH_take (i := 44) (oi := ⟨some 56, _, _, _, _, _⟩) (v := ?vk6n45u1) rfl (by kernel_rfl) (by kernel_rfl) (by kernel_rfl) (fun _ _ _ h => h) (Or.inl ⟨by rfl, ?yk6n45u1⟩) (by assumption) ?rk6n45u1
  case yk6n45u1 => (intro w hSw; (try dsimp only at hSw); go_simp; try with_reducible rfl)
  try simp only [Act.put, List.setIfInBounds_toArray, List.set_cons_zero, List.set_cons_succ]
  refine wpAnyH_take (i := 45) (oi := ⟨some 57, _, _, _, _, _⟩) (v := undef) rfl (by kernel_rfl) (by kernel_rfl) (by kernel_rfl) (fun _ _ _ h => h) (Or.inr ⟨by rfl, rfl⟩) (by assumption) ?rk6n46u1
  try simp only [Act.put, List.setIfInBounds_toArray, List.set_cons_zero, List.set_cons_succ]
  refine wpAnyH_take (i := 46) (oi := ⟨some 58, _, _, _, _, _⟩) (v := undef) rfl (by kernel_rfl) (by kernel_rfl) (by kernel_rfl) (fun _ _ _ h => h) (Or.inr ⟨by rfl, rfl⟩) (by assumption) ?rk6n47u1
  try simp only [Act.put, List.setIfInBounds_toArray, List.set_cons_zero, List.set_cons_succ]
  refine wpAnyH_take (i := 47) (oi := ⟨some 59, _, _, _, _, _⟩) (v := undef) rfl (by kernel_rfl) (by kernel_rfl) (by kernel_rfl) (fun _ _ _ h => h) (Or.inr ⟨by rfl, rfl⟩) (by assumption) ?rk6n48u1
  try simp only [Act.put, List.setIfInBounds_toArray, List.set_cons_zero, List.set_cons_succ]
  refine wpAnyH_take (i := 48) (oi := ⟨some 60, _, _, _, _, _⟩) (v := undef) rfl (by kernel_rfl) (by kernel_rfl) (by kernel_rfl) (fun _ _ _ h => h) (Or.inr ⟨by rfl, rfl⟩) (by assumption) ?rk6n49u1
  try simp only [Act.put, List.setIfInBounds_toArray, List.set_cons_zero, List.set_cons_succ]
  refine wpAnyH_take (i := 49) (oi := ⟨some 61, _, _, _, _, _⟩) (v := undef) rfl (by kernel_rfl) (by kernel_rfl) (by kernel_rfl) (fun _ _ _ h => h) (Or.inr ⟨by rfl, rfl⟩) (by assumption) ?rk6n50u1
  try simp only [Act.put, List.setIfInBounds_toArray, List.set_cons_zero, List.set_cons_succ]
  refine wpAnyH_take (i := 50) (oi := ⟨some 62, _, _, _, _, _⟩) (v := ?vk6n51u1) rfl (by kernel_rfl) (by kernel_rfl) (by kernel_rfl) (fun _ _ _ h => h) (Or.inl ⟨by rfl, ?yk6n51u1⟩) (by assumption) ?rk6n51u1
  case yk6n51u1 => (intro w hSw; (try dsimp only at hSw); go_simp; try with_reducible rfl)
  try simp only [Act.put, List.setIfInBounds_toArray, List.set_cons_zero, List.set_cons_succ]
  refine wpAnyH_take (i := 51) (oi := ⟨some 63, _, _, _, _, _⟩) (v := ?vk6n52u1) rfl (by kernel_rfl) (by kernel_rfl) (by kernel_rfl) (fun _ _ _ h => h) (Or.inl ⟨by rfl, ?yk6n52u1⟩) (by assumption) ?rk6n52u1
  case yk6n52u1 => (intro w hSw; (try dsimp only at hSw); go_simp; try with_reducible rfl)
  try simp only [Act.put, List.setIfInBounds_toArray, List.set_cons_zero, List.set_cons_succ]
  refine wpAnyH_take (i := 52) (oi := ⟨some 64, _, _, _, _, _⟩) (v := undef) rfl (by kernel_rfl) (by kernel_rfl) (by kernel_rfl) (fun _ _ _ h => h) (Or.inr ⟨by rfl, rfl⟩) (by assumption) ?rk6n53u1
  try simp only [Act.put, List.setIfInBounds_toArray, List.set_cons_zero, List.set_cons_succ]
  refine wpAnyH_take (i := 53) (oi := ⟨some 65, _, _, _, _, _⟩) (v := undef) rfl (by kernel_rfl) (by kernel_rfl) (by kernel_rfl) (fun _ _ _ h => h) (Or.inr ⟨by rfl, rfl⟩) (by assumption) ?rk6n54u1
  try simp only [Act.put, List.setIfInBounds_toArray, List.set_cons_zero, List.set_cons_succ]
  refine wpAnyH_take (i := 54) (oi := ⟨some 66, _, _, _, _, _⟩) (v := undef) rfl (by kernel_rfl) (by kernel_rfl) (by kernel_rfl) (fun _ _ _ h => h) (Or.inr ⟨by rfl, rfl⟩) (by assumption) ?rk6n55u1
  try simp only [Act.put, List.setIfInBounds_toArray, List.set_cons_zero, List.set_cons_succ]
  refine wpAnyH_take (i := 55) (oi := ⟨some 67, _, _, _, _, _⟩) (v := undef) rfl (by kernel_rfl) (by kernel_rfl) (by kernel_rfl) (fun _ _ _ h => h) (Or.inr ⟨by rfl, rfl⟩) (by assumption) ?rk6n56u1
  try simp only [Act.put, List.setIfInBounds_toArray, List.set_cons_zero, List.set_cons_succ]
  refine wpAnyH_take (i := 56) (oi := ⟨some 68, _, _, _, _, _⟩) (v := undef) rfl (by kernel_rfl) (by kernel_rfl) (by kernel_rfl) (fun _ _ _ h => h) (Or.inr ⟨by rfl, rfl⟩) (by assumption) ?rk6n57u1
  try simp only [Act.put, List.setIfInBounds_toArray, List.set_cons_zero, List.set_cons_succ]
  refine wpAnyH_take (i := 57) (oi := ⟨some 69, _, _, _, _, _⟩) (v := undef) rfl (by kernel_rfl) (by kernel_rfl) (by kernel_rfl) (fun _ _ _ h => h) (Or.inr ⟨by rfl, rfl⟩) (by assumption) ?rk6n58u1
  try simp only [Act.put, List.setIfInBounds_toArray, List.set_cons_zero, List.set_cons_succ]
  refine wpAnyH_take (i := 58) (oi := ⟨some 70, _, _, _, _, _⟩) (v := undef) rfl (by kernel_rfl) (by kernel_rfl) (by kernel_rfl) (fun _ _ _ h => h) (Or.inr ⟨by rfl, rfl⟩) (by assumption) ?rk6n59u1
  try simp only [Act.put, List.setIfInBounds_toArray, List.set_cons_zero, List.set_cons_succ]
  refine wpAnyH_take (i := 59) (oi := ⟨some 71, _, _, _, _, _⟩) (v := undef) rfl (by kernel_rfl) (by kernel_rfl) (by kernel_rfl) (fun _ _ _ h => h) (Or.inr ⟨by rfl, rfl⟩) (by assumption) ?rk6n60u1
  try simp only [Act.put, List.setIfInBounds_toArray, List.set_cons_zero, List.set_cons_succ]
  refine wpAnyH_take (i := 60) (oi := ⟨some 72, _, _, _, _, _⟩) (v := ?vk6n61u1) rfl (by kernel_rfl) (by kernel_rfl) (by kernel_rfl) (fun _ _ _ h => h) (Or.inl ⟨by rfl, ?yk6n61u1⟩) (by assumption) ?rk6n61u1
  case yk6n61u1 => (intro w hSw; (try dsimp only at hSw); go_simp; try with_reducible rfl)
  try simp only [Act.put, List.setIfInBounds_toArray, List.set_cons_zero, List.set_cons_succ]
  refine wpAnyH_take (i := 61) (oi := ⟨some 73, _, _, _, _, _⟩) (v := ?vk6n62u1) rfl (by kernel_rfl) (by kernel_rfl) (by kernel_rfl) (fun _ _ _ h => h) (Or.inl ⟨by rfl, ?yk6n62u1⟩) (by assumption) ?rk6n62u1
  case yk6n62u1 => (intro w hSw; (try dsimp only at hSw); go_simp; try with_reducible rfl)
  try simp only [Act.put, List.setIfInBounds_toArray, List.set_cons_zero, List.set_cons_succ]
  refine wpAnyH_take (i := 62) (oi := ⟨some 74, _, _, _, _, _⟩) (v := undef) rfl (by kernel_rfl) (by kernel_rfl) (by kernel_rfl) (fun _ _ _ h => h) (Or.inr ⟨by rfl, rfl⟩) (by assumption) ?rk6n63u1
  try simp only [Act.put, List.setIfInBounds_toArray, List.set_cons_zero, List.set_cons_succ]
  refine wpAnyH_take (i := 63) (oi := ⟨some 75, _, _, _, _, _⟩) (v := undef) rfl (by kernel_rfl) (by kernel_rfl) (by kernel_rfl) (fun _ _ _ h => h) (Or.inr ⟨by rfl, rfl⟩) (by assumption) ?rk6n64u1
  try simp only [Act.put, List.setIfInBounds_toArray, List.set_cons_zero, List.set_cons_succ]
  refine wpAnyH_take (i := 64) (oi := ⟨some 76, _, _, _, _, _⟩) (v := undef) rfl (by kernel_rfl) (by kernel_rfl) (by kernel_rfl) (fun _ _ _ h => h) (Or.inr ⟨by rfl, rfl⟩) (by assumption) ?rk6n65u1
  try simp only [Act.put, List.setIfInBounds_toArray, List.set_cons_zero, List.set_cons_succ]
  refine wpAnyH_take (i := 65) (oi := ⟨some 77, _, _, _, _, _⟩) (v := undef) rfl (by kernel_rfl) (by kernel_rfl) (by kernel_rfl) (fun _ _ _ h => h) (Or.inr ⟨by rfl, rfl⟩) (by assumption) ?rk6n66u1
  try simp only [Act.put, List.setIfInBounds_toArray, List.set_cons_zero, List.set_cons_succ]
  refine wpAnyH_take (i := 66) (oi := ⟨some 78, _, _, _, _, _⟩) (v := ?vk6n67u1) rfl (by kernel_rfl) (by kernel_rfl) (by kernel_rfl) (fun _ _ _ h => h) (Or.inl ⟨by rfl, ?yk6n67u1⟩) (by assumption) ?rk6n67u1
  case yk6n67u1 => (intro w hSw; (try dsimp only at hSw); go_simp; try with_reducible rfl)
  try simp only [Act.put, List.setIfInBounds_toArray, List.set_cons_zero, List.set_cons_succ]
  refine wpAnyH_take (i := 67) (oi := ⟨some 79, _, _, _, _, _⟩) (v := ?vk6n68u1) rfl (by kernel_rfl) (by kernel_rfl) (by kernel_rfl) (fun _ _ _ h => h) (Or.inl ⟨by rfl, ?yk6n68u1⟩) (by assumption) ?rk6n68u1
  case yk6n68u1 => (intro w hSw; (try dsimp only at hSw); go_simp; try with_reducible rfl)
  try simp only [Act.put, List.setIfInBounds_toArray, List.set_cons_zero, List.set_cons_succ]
  refine wpAnyH_take (i := 68) (oi := ⟨some 80, _, _, _, _, _⟩) (v := undef) rfl (by kernel_rfl) (by kernel_rfl) (by kernel_rfl) (fun _ _ _ h => h) (Or.inr ⟨by rfl, rfl⟩) (by assumption) ?rk6n69u1
  try simp only [Act.put, List.setIfInBounds_toArray, List.set_cons_zero, List.set_cons_succ]
  refine wpAnyH_take (i := 69) (oi := ⟨some 81, _, _, _, _, _⟩) (v := undef) rfl (by kernel_rfl) (by kernel_rfl) (by kernel_rfl) (fun _ _ _ h => h) (Or.inr ⟨by rfl, rfl⟩) (by assumption) ?rk6n70u1
  try simp only [Act.put, List.setIfInBounds_toArray, List.set_cons_zero, List.set_cons_succ]
  refine wpAnyH_take (i := 70) (oi := ⟨some 82, _, _, _, _, _⟩) (v := undef) rfl (by kernel_rfl) (by kernel_rfl) (by kernel_rfl) (fun _ _ _ h => h) (Or.inr ⟨by rfl, rfl⟩) (by assumption) ?rk6n71u1
  try simp only [Act.put, List.setIfInBounds_toArray, List.set_cons_zero, List.set_cons_succ]
  refine wpAnyH_take (i := 71) (oi := ⟨some 83, _, _, _, _, _⟩) (v := undef) rfl (by kernel_rfl) (by kernel_rfl) (by kernel_rfl) (fun _ _ _ h => h) (Or.inr ⟨by rfl, rfl⟩) (by assumption) ?rk6n72u1
  try simp only [Act.put, List.setIfInBounds_toArray, List.set_cons_zero, List.set_cons_succ]
  refine wpAnyH_take (i := 72) (oi := ⟨some 84, _, _, _, _, _⟩) (v := undef) rfl (by kernel_rfl) (by kernel_rfl) (by kernel_rfl) (fun _ _ _ h => h) (Or.inr ⟨by rfl, rfl⟩) (by assumption) ?rk6n73u1
  try simp only [Act.put, List.setIfInBounds_toArray, List.set_cons_zero, List.set_cons_succ]
  refine wpAnyH_take (i := 73) (oi := ⟨some 85, _, _, _, _, _⟩) (v := undef) rfl (by kernel_rfl) (by kernel_rfl) (by kernel_rfl) (fun _ _ _ h => h) (Or.inr ⟨by rfl, rfl⟩) (by assumption) ?rk6n74u1
  try simp only [Act.put, List.setIfInBounds_toArray, List.set_cons_zero, List.set_cons_succ]
  refine wpAnyH_take (i := 74) (oi := ⟨some 86, _, _, _, _, _⟩) (v := ?vk6n75u1) rfl (by kernel_rfl) (by kernel_rfl) (by kernel_rfl) (fun _ _ _ h => h) (Or.inl ⟨by rfl, ?yk6n75u1⟩) (by assumption) ?rk6n75u1
  case yk6n75u1 => (intro w hSw; (try dsimp only at hSw); go_simp; try with_reducible rfl)
  try simp only [Act.put, List.setIfInBounds_toArray, List.set_cons_zero, List.set_cons_succ]
  refine wpAnyH_take (i := 75) (oi := ⟨some 2, _, _, _, _, _⟩) (v := ?vk6n76u1) rfl (by kernel_rfl) (by kernel_rfl) (by kernel_rfl) (fun _ _ _ h => h) (Or.inl ⟨by rfl, ?yk6n76u1⟩) (by assumption) ?rk6n76u1
  case yk6n76u1 => (intro w hSw; (try dsimp only at hSw); go_simp; try with_reducible rfl)
  try simp only [Act.put, List.setIfInBounds_toArray, List.set_cons_zero, List.set_cons_succ]
  refine wpAnyH_done (by kernel_rfl) ?_ _
  have HE := hid (U3.out.trans (show Up Nul W2 _ from hHeld))
  clear hHeld
  go_wp2
  go_ret
  exact ⟨by first | rfl | simp, HE.out⟩
end Go.Proofs.YtmhmlfgikmeejaaDoor
