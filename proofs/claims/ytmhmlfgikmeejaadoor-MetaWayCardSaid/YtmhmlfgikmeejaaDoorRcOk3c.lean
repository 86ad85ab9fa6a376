/- 'Ok', by the first of its parts that is false. -/
import Derived.Test.YtmhmlfgikmeejaaDoorRcOkC
import Derived.Test.YtmhmlfgikmeejaaDoorRC
namespace Go.Proofs.YtmhmlfgikmeejaaDoor
open Go.RowKit
set_option linter.unusedVariables false
set_option linter.unusedSimpArgs false
set_option maxRecDepth 100000 in
set_option maxHeartbeats 4000000 in
theorem ok_case7 (w : World) (s : ByteArray) (n sid co : Int) (sa : Option Addr) (ns cs : Nat) (la : Option Addr) (nl cl : Nat) (t : Tb) (k : Nat) (c1 c2 c3 c4 c5 c6 c7 c8 c9 c10 : Bool) (hk : spn 1 8 (k : Int) = true) (hS : Shp w) (hc1 : c1 = true) (hc2 : c2 = true) (hc3 : c3 = true) (hc4 : c4 = true) (hc5 : c5 = true) (hc6 : c6 = true) (hc7 : c7 = false)
    (H : OkC w s n sid co sa ns cs la nl cl t k c1 c2 c3 c4 c5 c6 c7 c8 c9 c10) :
    Calls Tryd.prog 16 #[.agg #[.int .i64 (k : Nat), .string s, .int .i64 n, .int .i64 sid, .slice sa ns cs, .int .i64 co, .slice la nl cl, .int .i64 t.hot, .int .i64 t.warm, .int .i64 t.gap, .int .i64 t.add, .int .i64 t.top, .int .i64 t.half]] w
      fun e w' => e = .returned (.bool (c1 && c2 && c3 && c4 && c5 && c6 && c7 && c8 && c9 && c10)) ∧ Up Nul w w' := by
  subst hc1 hc2 hc3 hc4 hc5 hc6 hc7
  have h6e := H.h6
  have HK := hid (fun W => kind_any (k : Int) W)
  rw [hk] at HK
  have hk9 : k < 9 := by
    unfold spn at hk
    simp at hk
    omega
  have i0 : (0 : Int) ≤ (k : Int) := by omega
  have i1 : (k : Int) < 9 := by omega
  have HH := hid H
  clear H
  obtain ⟨C, hC⟩ : ∃ C : Array Value, C = #[.int .i64 (k : Nat), .string s, .int .i64 n, .int .i64 sid, .slice sa ns cs, .int .i64 co, .slice la nl cl, .int .i64 t.hot, .int .i64 t.warm, .int .i64 t.gap, .int .i64 t.add, .int .i64 t.top, .int .i64 t.half] := ⟨_, rfl⟩
  have HUA := hid ((Up.refl Nul w).alloc (.cells C 33))
  have HBA : Hid ((w.alloc (.cells C 33)).heap[w.heap.size]? = some (.cells C 33 (0, 0))) := heap_alloc_new _ _
  have HLT : Hid (w.heap.size < (w.alloc (.cells C 33)).heap.size) := by show _ < _; simp
  have HSH := hid hS
  go_enter Tryd.func16, Tryd.ntmps16
  go_wp2_with fail
  rw [← hC]
  refine (HK.out _).mono ?_
  rintro e w1 ⟨rfl, u1⟩
  have hb := (u1.block _ HLT.out id).trans HBA.out
  have HU1 := hid (HUA.out.trans u1)
  have hlt := Nat.lt_of_lt_of_le HLT.out u1.size
  clear u1 HBA HUA HLT
  have y0 := (HSH.out.nxt HU1.out).c k 0 hk9 (by omega)
  have y1 := (HSH.out.nxt HU1.out).c k 1 hk9 (by omega)
  have y2 := (HSH.out.nxt HU1.out).c k 2 hk9 (by omega)
  have y3 := (HSH.out.nxt HU1.out).c k 3 hk9 (by omega)
  have y4 := (HSH.out.nxt HU1.out).c k 4 hk9 (by omega)
  have y5 := (HSH.out.nxt HU1.out).c k 5 hk9 (by omega)
  have y6 := (HSH.out.nxt HU1.out).c k 6 hk9 (by omega)
  have y7 := (HSH.out.nxt HU1.out).c k 7 hk9 (by omega)
  have y8 := (HSH.out.nxt HU1.out).c k 8 hk9 (by omega)
  have y9 := (HSH.out.nxt HU1.out).c k 9 hk9 (by omega)
  have y10 := (HSH.out.nxt HU1.out).c k 10 hk9 (by omega)
  have y11 := (HSH.out.nxt HU1.out).c k 11 hk9 (by omega)
  have y12 := (HSH.out.nxt HU1.out).c k 12 hk9 (by omega)
  have y13 := (HSH.out.nxt HU1.out).c k 13 hk9 (by omega)
  have y14 := (HSH.out.nxt HU1.out).c k 14 hk9 (by omega)
  rw [Nat.add_zero] at y0
  generalize w.heap.size = p at hb hlt ⊢
  have x0 : w1.cell? ⟨p, 0, none⟩ = some (.int .i64 (k : Nat)) := by simp [World.cell?, hb, hC]
  clear hk9
  go_wp2_with fail
  obtain ⟨W2, hW2⟩ : ∃ W, W = w1.alloc (.cells #[.int .i64 (sh k 0), .int .i64 (sh k 1), .int .i64 (sh k 2), .int .i64 (sh k 3), .int .i64 (sh k 4), .int .i64 (sh k 5), .int .i64 (sh k 6), .int .i64 (sh k 7), .int .i64 (sh k 8), .int .i64 (sh k 9), .int .i64 (sh k 10), .int .i64 (sh k 11), .int .i64 (sh k 12), .int .i64 (sh k 13), .int .i64 (sh k 14)] 73) := ⟨_, rfl⟩
  have U2 : Hid (Up Nul w1 W2) := by show Up _ _ _; rw [hW2]; exact (Up.refl Nul w1).alloc _
  have hq : W2.heap[w1.heap.size]? = some (.cells #[.int .i64 (sh k 0), .int .i64 (sh k 1), .int .i64 (sh k 2), .int .i64 (sh k 3), .int .i64 (sh k 4), .int .i64 (sh k 5), .int .i64 (sh k 6), .int .i64 (sh k 7), .int .i64 (sh k 8), .int .i64 (sh k 9), .int .i64 (sh k 10), .int .i64 (sh k 11), .int .i64 (sh k 12), .int .i64 (sh k 13), .int .i64 (sh k 14)] 73 (0, 0)) := by rw [hW2]; exact heap_alloc_new _ _
  have hp := (U2.out.block p hlt id).trans hb
  rw [hC] at hp
  have hq2 : w1.heap.size < W2.heap.size := by rw [hW2]; simp
  have hp2 := Nat.lt_of_lt_of_le hlt U2.out.size
  have U3 := hid (HU1.out.trans U2.out)
  rw [← hW2]
  clear hW2 x0 y0 y1 y2 y3 y4 y5 y6 y7 y8 y9 y10 y11 y12 y13 y14 hb U2 HU1 hlt
  generalize w1.heap.size = q at hq hq2 ⊢
  have Hp1 : Hid (∀ W, Up Nul W2 W → W.cell? ⟨p, 1, none⟩ = some (.string s)) := fun W u => by have a := (u.block p hp2 id).trans hp; simp only [World.cell?, a]; rfl
  have Hp2 : Hid (∀ W, Up Nul W2 W → W.cell? ⟨p, 2, none⟩ = some (.int .i64 n)) := fun W u => by have a := (u.block p hp2 id).trans hp; simp only [World.cell?, a]; rfl
  have Hp3 : Hid (∀ W, Up Nul W2 W → W.cell? ⟨p, 3, none⟩ = some (.int .i64 sid)) := fun W u => by have a := (u.block p hp2 id).trans hp; simp only [World.cell?, a]; rfl
  have Hp4 : Hid (∀ W, Up Nul W2 W → W.cell? ⟨p, 4, none⟩ = some (.slice sa ns cs)) := fun W u => by have a := (u.block p hp2 id).trans hp; simp only [World.cell?, a]; rfl
  have Hp5 : Hid (∀ W, Up Nul W2 W → W.cell? ⟨p, 5, none⟩ = some (.int .i64 co)) := fun W u => by have a := (u.block p hp2 id).trans hp; simp only [World.cell?, a]; rfl
  have Hp6 : Hid (∀ W, Up Nul W2 W → W.cell? ⟨p, 6, none⟩ = some (.slice la nl cl)) := fun W u => by have a := (u.block p hp2 id).trans hp; simp only [World.cell?, a]; rfl
  have Hp7 : Hid (∀ W, Up Nul W2 W → W.cell? ⟨p, 7, none⟩ = some (.int .i64 t.hot)) := fun W u => by have a := (u.block p hp2 id).trans hp; simp only [World.cell?, a]; rfl
  have Hp8 : Hid (∀ W, Up Nul W2 W → W.cell? ⟨p, 8, none⟩ = some (.int .i64 t.warm)) := fun W u => by have a := (u.block p hp2 id).trans hp; simp only [World.cell?, a]; rfl
  have Hp9 : Hid (∀ W, Up Nul W2 W → W.cell? ⟨p, 9, none⟩ = some (.int .i64 t.gap)) := fun W u => by have a := (u.block p hp2 id).trans hp; simp only [World.cell?, a]; rfl
  have Hp10 : Hid (∀ W, Up Nul W2 W → W.cell? ⟨p, 10, none⟩ = some (.int .i64 t.add)) := fun W u => by have a := (u.block p hp2 id).trans hp; simp only [World.cell?, a]; rfl
  have Hp11 : Hid (∀ W, Up Nul W2 W → W.cell? ⟨p, 11, none⟩ = some (.int .i64 t.top)) := fun W u => by have a := (u.block p hp2 id).trans hp; simp only [World.cell?, a]; rfl
  have Hp12 : Hid (∀ W, Up Nul W2 W → W.cell? ⟨p, 12, none⟩ = some (.int .i64 t.half)) := fun W u => by have a := (u.block p hp2 id).trans hp; simp only [World.cell?, a]; rfl
  have Hq0 : Hid (∀ W, Up Nul W2 W → W.cell? ⟨q, 0, none⟩ = some (.int .i64 (sh k 0))) := fun W u => by have a := (u.block q hq2 id).trans hq; simp only [World.cell?, a]; rfl
  have Hq1 : Hid (∀ W, Up Nul W2 W → W.cell? ⟨q, 1, none⟩ = some (.int .i64 (sh k 1))) := fun W u => by have a := (u.block q hq2 id).trans hq; simp only [World.cell?, a]; rfl
  have Hq2 : Hid (∀ W, Up Nul W2 W → W.cell? ⟨q, 2, none⟩ = some (.int .i64 (sh k 2))) := fun W u => by have a := (u.block q hq2 id).trans hq; simp only [World.cell?, a]; rfl
  have Hq3 : Hid (∀ W, Up Nul W2 W → W.cell? ⟨q, 3, none⟩ = some (.int .i64 (sh k 3))) := fun W u => by have a := (u.block q hq2 id).trans hq; simp only [World.cell?, a]; rfl
  have Hq4 : Hid (∀ W, Up Nul W2 W → W.cell? ⟨q, 4, none⟩ = some (.int .i64 (sh k 4))) := fun W u => by have a := (u.block q hq2 id).trans hq; simp only [World.cell?, a]; rfl
  have Hq5 : Hid (∀ W, Up Nul W2 W → W.cell? ⟨q, 5, none⟩ = some (.int .i64 (sh k 5))) := fun W u => by have a := (u.block q hq2 id).trans hq; simp only [World.cell?, a]; rfl
  have Hq6 : Hid (∀ W, Up Nul W2 W → W.cell? ⟨q, 6, none⟩ = some (.int .i64 (sh k 6))) := fun W u => by have a := (u.block q hq2 id).trans hq; simp only [World.cell?, a]; rfl
  have Hq7 : Hid (∀ W, Up Nul W2 W → W.cell? ⟨q, 7, none⟩ = some (.int .i64 (sh k 7))) := fun W u => by have a := (u.block q hq2 id).trans hq; simp only [World.cell?, a]; rfl
  have Hq8 : Hid (∀ W, Up Nul W2 W → W.cell? ⟨q, 8, none⟩ = some (.int .i64 (sh k 8))) := fun W u => by have a := (u.block q hq2 id).trans hq; simp only [World.cell?, a]; rfl
  have Hq9 : Hid (∀ W, Up Nul W2 W → W.cell? ⟨q, 9, none⟩ = some (.int .i64 (sh k 9))) := fun W u => by have a := (u.block q hq2 id).trans hq; simp only [World.cell?, a]; rfl
  have Hq10 : Hid (∀ W, Up Nul W2 W → W.cell? ⟨q, 10, none⟩ = some (.int .i64 (sh k 10))) := fun W u => by have a := (u.block q hq2 id).trans hq; simp only [World.cell?, a]; rfl
  have Hq11 : Hid (∀ W, Up Nul W2 W → W.cell? ⟨q, 11, none⟩ = some (.int .i64 (sh k 11))) := fun W u => by have a := (u.block q hq2 id).trans hq; simp only [World.cell?, a]; rfl
  have Hq12 : Hid (∀ W, Up Nul W2 W → W.cell? ⟨q, 12, none⟩ = some (.int .i64 (sh k 12))) := fun W u => by have a := (u.block q hq2 id).trans hq; simp only [World.cell?, a]; rfl
  have Hq13 : Hid (∀ W, Up Nul W2 W → W.cell? ⟨q, 13, none⟩ = some (.int .i64 (sh k 13))) := fun W u => by have a := (u.block q hq2 id).trans hq; simp only [World.cell?, a]; rfl
  have Hq14 : Hid (∀ W, Up Nul W2 W → W.cell? ⟨q, 14, none⟩ = some (.int .i64 (sh k 14))) := fun W u => by have a := (u.block q hq2 id).trans hq; simp only [World.cell?, a]; rfl
  clear hp hq hp2 hq2
  have HR := hid (Up.refl Nul W2)
  simp only [List.append]
  refine wp_region_held_drew (S := (fun W => Up Nul W2 W)) (by kernel_rfl) (by exact HR.out.drew) (fun hHeld => ?_)
  refine wpAnyH_take (i := 0) (oi := ⟨some 12, _, _, _, _, _⟩) (v := ?vk7n1u1) rfl (by kernel_rfl) (by kernel_rfl) (by kernel_rfl) (fun _ _ _ h => h) (Or.inl ⟨by rfl, ?yk7n1u1⟩) (by assumption) ?rk7n1u1
  case yk7n1u1 => (intro w hSw; (try dsimp only at hSw); go_simp; try with_reducible rfl)
  try simp only [Act.put, List.setIfInBounds_toArray, List.set_cons_zero, List.set_cons_succ]
  refine wpAnyH_take (i := 1) (oi := ⟨some 13, _, _, _, _, _⟩) (v := ?vk7x2) rfl (by kernel_rfl) (by kernel_rfl) (by kernel_rfl) (fun _ _ _ h => h) (Or.inl ⟨by rfl, ?yk7x2⟩) (by assumption) ?rk7x2
  case yk7x2 => (intro w hSw; have aq0 := Hq0.out w hSw; have aq1 := Hq1.out w hSw; go_simp; try with_reducible rfl)
  try simp only [Act.put, List.setIfInBounds_toArray, List.set_cons_zero, List.set_cons_succ]
  refine wpAnyH_take (i := 2) (oi := ⟨some 14, _, _, _, _, _⟩) (v := ?vk7n3u1) rfl (by kernel_rfl) (by kernel_rfl) (by kernel_rfl) (fun _ _ _ h => h) (Or.inl ⟨by rfl, ?yk7n3u1⟩) (by assumption) ?rk7n3u1
  case yk7n3u1 => (intro w hSw; (try dsimp only at hSw); go_simp; try with_reducible rfl)
  try simp only [Act.put, List.setIfInBounds_toArray, List.set_cons_zero, List.set_cons_succ]
  refine wpAnyH_take (i := 3) (oi := ⟨some 15, _, _, _, _, _⟩) (v := ?vk7x4) rfl (by kernel_rfl) (by kernel_rfl) (by kernel_rfl) (fun _ _ _ h => h) (Or.inl ⟨by rfl, ?yk7x4⟩) (by assumption) ?rk7x4
  case yk7x4 => (intro w hSw; have ap1 := Hp1.out w hSw; go_simp; try with_reducible rfl)
  try simp only [Act.put, List.setIfInBounds_toArray, List.set_cons_zero, List.set_cons_succ]
  refine wpAnyH_take (i := 4) (oi := ⟨some 16, _, _, _, _, _⟩) (v := ?vk7n5u1) rfl (by kernel_rfl) (by kernel_rfl) (by kernel_rfl) (fun _ _ _ h => h) (Or.inl ⟨by rfl, ?yk7n5u1⟩) (by assumption) ?rk7n5u1
  case yk7n5u1 => (intro w hSw; (try dsimp only at hSw); go_simp; try with_reducible rfl)
  try simp only [Act.put, List.setIfInBounds_toArray, List.set_cons_zero, List.set_cons_succ]
  refine wpAnyH_ready (rs := [5]) (by kernel_rfl) (by simp) ?_
  refine AllReadyH.cons (o := ⟨some 17, _, _, _, _, _⟩) rfl (fun K hK => ?_) AllReadyH.nil
  go_simp
  skip
  refine hK.out _ _ ?kk7n6u1 (fun hHeld => ?_)
  case kk7n6u1 => exact (by first | exact Up.alloc (show Up Nul W2 _ from hHeld) _ | exact (Up.alloc (show Up Nul W2 _ from HR.out) _).drew)
  clear hK K
  try simp only [Act.put, List.setIfInBounds_toArray, List.set_cons_zero, List.set_cons_succ]
  refine wpAnyH_ready (rs := [6]) (by kernel_rfl) (by simp) ?_
  refine AllReadyH.cons (o := ⟨some 18, _, _, _, _, _⟩) rfl (fun K hK => ?_) AllReadyH.nil
  go_simp
  go_at_call 25; refine (HH.out.h1 _ (U3.out.trans (show Up Nul W2 _ from hHeld)) _ (by first | exact World.cell?_alloc_new _ _ _ 0 | (simp; done) | go_simp)).mono ?_; rintro e wb ⟨rfl, kb⟩
  refine hK.out _ _ ?kk7n7u1 (fun hHeld => ?_)
  case kk7n7u1 => exact (Up.trans (show Up Nul W2 _ from hHeld) kb)
  clear hK K
  try simp only [Act.put, List.setIfInBounds_toArray, List.set_cons_zero, List.set_cons_succ]
  refine wpAnyH_take (i := 7) (oi := ⟨some 19, _, _, _, _, _⟩) (v := ?vk7n8u1) rfl (by kernel_rfl) (by kernel_rfl) (by kernel_rfl) (fun _ _ _ h => h) (Or.inl ⟨by rfl, ?yk7n8u1⟩) (by assumption) ?rk7n8u1
  case yk7n8u1 => (intro w hSw; (try dsimp only at hSw); go_simp; try with_reducible rfl)
  try simp only [Act.put, List.setIfInBounds_toArray, List.set_cons_zero, List.set_cons_succ]
  refine wpAnyH_take (i := 8) (oi := ⟨some 20, _, _, _, _, _⟩) (v := ?vk7n9u1) rfl (by kernel_rfl) (by kernel_rfl) (by kernel_rfl) (fun _ _ _ h => h) (Or.inl ⟨by rfl, ?yk7n9u1⟩) (by assumption) ?rk7n9u1
  case yk7n9u1 => (intro w hSw; (try dsimp only at hSw); go_simp; try with_reducible rfl)
  try simp only [Act.put, List.setIfInBounds_toArray, List.set_cons_zero, List.set_cons_succ]
  refine wpAnyH_take (i := 9) (oi := ⟨some 21, _, _, _, _, _⟩) (v := ?vk7x10) rfl (by kernel_rfl) (by kernel_rfl) (by kernel_rfl) (fun _ _ _ h => h) (Or.inl ⟨by rfl, ?yk7x10⟩) (by assumption) ?rk7x10
  case yk7x10 => (intro w hSw; have ap1 := Hp1.out w hSw; go_simp; try with_reducible rfl)
  try simp only [Act.put, List.setIfInBounds_toArray, List.set_cons_zero, List.set_cons_succ]
  refine wpAnyH_ready (rs := [10]) (by kernel_rfl) (by simp) ?_
  refine AllReadyH.cons (o := ⟨some 22, _, _, _, _, _⟩) rfl (fun K hK => ?_) AllReadyH.nil
  go_simp
  go_at_call 26; refine (HH.out.h2 _).mono ?_; rintro e wb ⟨rfl, kb⟩
  refine hK.out _ _ ?kk7n11u1 (fun hHeld => ?_)
  case kk7n11u1 => exact (Up.trans (show Up Nul W2 _ from hHeld) kb)
  clear hK K
  try simp only [Act.put, List.setIfInBounds_toArray, List.set_cons_zero, List.set_cons_succ]
  refine wpAnyH_take (i := 11) (oi := ⟨some 23, _, _, _, _, _⟩) (v := ?vk7n12u1) rfl (by kernel_rfl) (by kernel_rfl) (by kernel_rfl) (fun _ _ _ h => h) (Or.inl ⟨by rfl, ?yk7n12u1⟩) (by assumption) ?rk7n12u1
  case yk7n12u1 => (intro w hSw; (try dsimp only at hSw); go_simp; try with_reducible rfl)
  try simp only [Act.put, List.setIfInBounds_toArray, List.set_cons_zero, List.set_cons_succ]
  refine wpAnyH_take (i := 12) (oi := ⟨some 24, _, _, _, _, _⟩) (v := ?vk7n13u1) rfl (by kernel_rfl) (by kernel_rfl) (by kernel_rfl) (fun _ _ _ h => h) (Or.inl ⟨by rfl, ?yk7n13u1⟩) (by assumption) ?rk7n13u1
  case yk7n13u1 => (intro w hSw; (try dsimp only at hSw); go_simp; try with_reducible rfl)
  try simp only [Act.put, List.setIfInBounds_toArray, List.set_cons_zero, List.set_cons_succ]
  refine wpAnyH_take (i := 13) (oi := ⟨some 25, _, _, _, _, _⟩) (v := ?vk7n14u1) rfl (by kernel_rfl) (by kernel_rfl) (by kernel_rfl) (fun _ _ _ h => h) (Or.inl ⟨by rfl, ?yk7n14u1⟩) (by assumption) ?rk7n14u1
  case yk7n14u1 => (intro w hSw; (try dsimp only at hSw); go_simp; try with_reducible rfl)
  try simp only [Act.put, List.setIfInBounds_toArray, List.set_cons_zero, List.set_cons_succ]
  refine wpAnyH_take (i := 14) (oi := ⟨some 26, _, _, _, _, _⟩) (v := ?vk7x15) rfl (by kernel_rfl) (by kernel_rfl) (by kernel_rfl) (fun _ _ _ h => h) (Or.inl ⟨by rfl, ?yk7x15⟩) (by assumption) ?rk7x15
  case yk7x15 => (intro w hSw; have aq2 := Hq2.out w hSw; have aq3 := Hq3.out w hSw; go_simp; try with_reducible rfl)
  try simp only [Act.put, List.setIfInBounds_toArray, List.set_cons_zero, List.set_cons_succ]
  refine wpAnyH_take (i := 15) (oi := ⟨some 27, _, _, _, _, _⟩) (v := ?vk7n16u1) rfl (by kernel_rfl) (by kernel_rfl) (by kernel_rfl) (fun _ _ _ h => h) (Or.inl ⟨by rfl, ?yk7n16u1⟩) (by assumption) ?rk7n16u1
  case yk7n16u1 => (intro w hSw; (try dsimp only at hSw); go_simp; try with_reducible rfl)
  try simp only [Act.put, List.setIfInBounds_toArray, List.set_cons_zero, List.set_cons_succ]
  refine wpAnyH_take (i := 16) (oi := ⟨some 28, _, _, _, _, _⟩) (v := ?vk7x17) rfl (by kernel_rfl) (by kernel_rfl) (by kernel_rfl) (fun _ _ _ h => h) (Or.inl ⟨by rfl, ?yk7x17⟩) (by assumption) ?rk7x17
  case yk7x17 => (intro w hSw; have ap2 := Hp2.out w hSw; go_simp; try with_reducible rfl)
  try simp only [Act.put, List.setIfInBounds_toArray, List.set_cons_zero, List.set_cons_succ]
  refine wpAnyH_ready (rs := [17]) (by kernel_rfl) (by simp) ?_
  refine AllReadyH.cons (o := ⟨some 29, _, _, _, _, _⟩) rfl (fun K hK => ?_) AllReadyH.nil
  go_simp
  skip
  refine hK.out _ _ ?kk7n18u1 (fun hHeld => ?_)
  case kk7n18u1 => exact (by first | exact Up.alloc (show Up Nul W2 _ from hHeld) _ | exact (Up.alloc (show Up Nul W2 _ from HR.out) _).drew)
  clear hK K
  try simp only [Act.put, List.setIfInBounds_toArray, List.set_cons_zero, List.set_cons_succ]
  refine wpAnyH_ready (rs := [18]) (by kernel_rfl) (by simp) ?_
  refine AllReadyH.cons (o := ⟨some 30, _, _, _, _, _⟩) rfl (fun K hK => ?_) AllReadyH.nil
  go_simp
  go_at_call 25; refine (HH.out.h3 _ (U3.out.trans (show Up Nul W2 _ from hHeld)) _ (by first | exact World.cell?_alloc_new _ _ _ 0 | (simp; done) | go_simp)).mono ?_; rintro e wb ⟨rfl, kb⟩
  refine hK.out _ _ ?kk7n19u1 (fun hHeld => ?_)
  case kk7n19u1 => exact (Up.trans (show Up Nul W2 _ from hHeld) kb)
  clear hK K
  try simp only [Act.put, List.setIfInBounds_toArray, List.set_cons_zero, List.set_cons_succ]
  refine wpAnyH_take (i := 19) (oi := ⟨some 31, _, _, _, _, _⟩) (v := ?vk7n20u1) rfl (by kernel_rfl) (by kernel_rfl) (by kernel_rfl) (fun _ _ _ h => h) (Or.inl ⟨by rfl, ?yk7n20u1⟩) (by assumption) ?rk7n20u1
  case yk7n20u1 => (intro w hSw; (try dsimp only at hSw); go_simp; try with_reducible rfl)
  try simp only [Act.put, List.setIfInBounds_toArray, List.set_cons_zero, List.set_cons_succ]
  refine wpAnyH_take (i := 20) (oi := ⟨some 32, _, _, _, _, _⟩) (v := ?vk7n21u1) rfl (by kernel_rfl) (by kernel_rfl) (by kernel_rfl) (fun _ _ _ h => h) (Or.inl ⟨by rfl, ?yk7n21u1⟩) (by assumption) ?rk7n21u1
  case yk7n21u1 => (intro w hSw; (try dsimp only at hSw); go_simp; try with_reducible rfl)
  try simp only [Act.put, List.setIfInBounds_toArray, List.set_cons_zero, List.set_cons_succ]
  refine wpAnyH_take (i := 21) (oi := ⟨some 33, _, _, _, _, _⟩) (v := ?vk7n22u1) rfl (by kernel_rfl) (by kernel_rfl) (by kernel_rfl) (fun _ _ _ h => h) (Or.inl ⟨by rfl, ?yk7n22u1⟩) (by assumption) ?rk7n22u1
  case yk7n22u1 => (intro w hSw; (try dsimp only at hSw); go_simp; try with_reducible rfl)
  try simp only [Act.put, List.setIfInBounds_toArray, List.set_cons_zero, List.set_cons_succ]
  refine wpAnyH_take (i := 22) (oi := ⟨some 34, _, _, _, _, _⟩) (v := ?vk7x23) rfl (by kernel_rfl) (by kernel_rfl) (by kernel_rfl) (fun _ _ _ h => h) (Or.inl ⟨by rfl, ?yk7x23⟩) (by assumption) ?rk7x23
  case yk7x23 => (intro w hSw; have aq4 := Hq4.out w hSw; have aq5 := Hq5.out w hSw; go_simp; try with_reducible rfl)
  try simp only [Act.put, List.setIfInBounds_toArray, List.set_cons_zero, List.set_cons_succ]
  refine wpAnyH_take (i := 23) (oi := ⟨some 35, _, _, _, _, _⟩) (v := ?vk7n24u1) rfl (by kernel_rfl) (by kernel_rfl) (by kernel_rfl) (fun _ _ _ h => h) (Or.inl ⟨by rfl, ?yk7n24u1⟩) (by assumption) ?rk7n24u1
  case yk7n24u1 => (intro w hSw; (try dsimp only at hSw); go_simp; try with_reducible rfl)
  try simp only [Act.put, List.setIfInBounds_toArray, List.set_cons_zero, List.set_cons_succ]
  refine wpAnyH_take (i := 24) (oi := ⟨some 36, _, _, _, _, _⟩) (v := ?vk7x25) rfl (by kernel_rfl) (by kernel_rfl) (by kernel_rfl) (fun _ _ _ h => h) (Or.inl ⟨by rfl, ?yk7x25⟩) (by assumption) ?rk7x25
  case yk7x25 => (intro w hSw; have ap3 := Hp3.out w hSw; go_simp; try with_reducible rfl)
  try simp only [Act.put, List.setIfInBounds_toArray, List.set_cons_zero, List.set_cons_succ]
  refine wpAnyH_ready (rs := [25]) (by kernel_rfl) (by simp) ?_
  refine AllReadyH.cons (o := ⟨some 37, _, _, _, _, _⟩) rfl (fun K hK => ?_) AllReadyH.nil
  go_simp
  skip
  refine hK.out _ _ ?kk7n26u1 (fun hHeld => ?_)
  case kk7n26u1 => exact (by first | exact Up.alloc (show Up Nul W2 _ from hHeld) _ | exact (Up.alloc (show Up Nul W2 _ from HR.out) _).drew)
  clear hK K
  try simp only [Act.put, List.setIfInBounds_toArray, List.set_cons_zero, List.set_cons_succ]
  refine wpAnyH_ready (rs := [26]) (by kernel_rfl) (by simp) ?_
  refine AllReadyH.cons (o := ⟨some 38, _, _, _, _, _⟩) rfl (fun K hK => ?_) AllReadyH.nil
  go_simp
  go_at_call 25; refine (HH.out.h4 _ (U3.out.trans (show Up Nul W2 _ from hHeld)) _ (by first | exact World.cell?_alloc_new _ _ _ 0 | (simp; done) | go_simp)).mono ?_; rintro e wb ⟨rfl, kb⟩
  refine hK.out _ _ ?kk7n27u1 (fun hHeld => ?_)
  case kk7n27u1 => exact (Up.trans (show Up Nul W2 _ from hHeld) kb)
  clear hK K
  try simp only [Act.put, List.setIfInBounds_toArray, List.set_cons_zero, List.set_cons_succ]
  refine wpAnyH_take (i := 27) (oi := ⟨some 39, _, _, _, _, _⟩) (v := ?vk7n28u1) rfl (by kernel_rfl) (by kernel_rfl) (by kernel_rfl) (fun _ _ _ h => h) (Or.inl ⟨by rfl, ?yk7n28u1⟩) (by assumption) ?rk7n28u1
  case yk7n28u1 => (intro w hSw; (try dsimp only at hSw); go_simp; try with_reducible rfl)
  try simp only [Act.put, List.setIfInBounds_toArray, List.set_cons_zero, List.set_cons_succ]
  refine wpAnyH_take (i := 28) (oi := ⟨some 40, _, _, _, _, _⟩) (v := ?vk7n29u1) rfl (by kernel_rfl) (by kernel_rfl) (by kernel_rfl) (fun _ _ _ h => h) (Or.inl ⟨by rfl, ?yk7n29u1⟩) (by assumption) ?rk7n29u1
  case yk7n29u1 => (intro w hSw; (try dsimp only at hSw); go_simp; try with_reducible rfl)
  try simp only [Act.put, List.setIfInBounds_toArray, List.set_cons_zero, List.set_cons_succ]
  refine wpAnyH_take (i := 29) (oi := ⟨some 41, _, _, _, _, _⟩) (v := ?vk7n30u1) rfl (by kernel_rfl) (by kernel_rfl) (by kernel_rfl) (fun _ _ _ h => h) (Or.inl ⟨by rfl, ?yk7n30u1⟩) (by assumption) ?rk7n30u1
  case yk7n30u1 => (intro w hSw; (try dsimp only at hSw); go_simp; try with_reducible rfl)
  try simp only [Act.put, List.setIfInBounds_toArray, List.set_cons_zero, List.set_cons_succ]
  refine wpAnyH_take (i := 30) (oi := ⟨some 42, _, _, _, _, _⟩) (v := ?vk7x31) rfl (by kernel_rfl) (by kernel_rfl) (by kernel_rfl) (fun _ _ _ h => h) (Or.inl ⟨by rfl, ?yk7x31⟩) (by assumption) ?rk7x31
  case yk7x31 => (intro w hSw; have aq6 := Hq6.out w hSw; have aq7 := Hq7.out w hSw; go_simp; try with_reducible rfl)
  try simp only [Act.put, List.setIfInBounds_toArray, List.set_cons_zero, List.set_cons_succ]
  refine wpAnyH_take (i := 31) (oi := ⟨some 43, _, _, _, _, _⟩) (v := ?vk7n32u1) rfl (by kernel_rfl) (by kernel_rfl) (by kernel_rfl) (fun _ _ _ h => h) (Or.inl ⟨by rfl, ?yk7n32u1⟩) (by assumption) ?rk7n32u1
  case yk7n32u1 => (intro w hSw; (try dsimp only at hSw); go_simp; try with_reducible rfl)
  try simp only [Act.put, List.setIfInBounds_toArray, List.set_cons_zero, List.set_cons_succ]
  refine wpAnyH_take (i := 32) (oi := ⟨some 44, _, _, _, _, _⟩) (v := ?vk7x33) rfl (by kernel_rfl) (by kernel_rfl) (by kernel_rfl) (fun _ _ _ h => h) (Or.inl ⟨by rfl, ?yk7x33⟩) (by assumption) ?rk7x33
  case yk7x33 => (intro w hSw; have ap5 := Hp5.out w hSw; go_simp; try with_reducible rfl)
  try simp only [Act.put, List.setIfInBounds_toArray, List.set_cons_zero, List.set_cons_succ]
  refine wpAnyH_ready (rs := [33]) (by kernel_rfl) (by simp) ?_
  refine AllReadyH.cons (o := ⟨some 45, _, _, _, _, _⟩) rfl (fun K hK => ?_) AllReadyH.nil
  go_simp
  skip
  refine hK.out _ _ ?kk7n34u1 (fun hHeld => ?_)
  case kk7n34u1 => exact (by first | exact Up.alloc (show Up Nul W2 _ from hHeld) _ | exact (Up.alloc (show Up Nul W2 _ from HR.out) _).drew)
  clear hK K
  try simp only [Act.put, List.setIfInBounds_toArray, List.set_cons_zero, List.set_cons_succ]
  refine wpAnyH_ready (rs := [34]) (by kernel_rfl) (by simp) ?_
  refine AllReadyH.cons (o := ⟨some 46, _, _, _, _, _⟩) rfl (fun K hK => ?_) AllReadyH.nil
  go_simp
  go_at_call 25; refine (HH.out.h5 _ (U3.out.trans (show Up Nul W2 _ from hHeld)) _ (by first | exact World.cell?_alloc_new _ _ _ 0 | (simp; done) | go_simp)).mono ?_; rintro e wb ⟨rfl, kb⟩
  refine hK.out _ _ ?kk7n35u1 (fun hHeld => ?_)
  case kk7n35u1 => exact (Up.trans (show Up Nul W2 _ from hHeld) kb)
  clear hK K
  try simp only [Act.put, List.setIfInBounds_toArray, List.set_cons_zero, List.set_cons_succ]
  refine wpAnyH_take (i := 35) (oi := ⟨some 47, _, _, _, _, _⟩) (v := ?vk7n36u1) rfl (by kernel_rfl) (by kernel_rfl) (by kernel_rfl) (fun _ _ _ h => h) (Or.inl ⟨by rfl, ?yk7n36u1⟩) (by assumption) ?rk7n36u1
  case yk7n36u1 => (intro w hSw; (try dsimp only at hSw); go_simp; try with_reducible rfl)
  try simp only [Act.put, List.setIfInBounds_toArray, List.set_cons_zero, List.set_cons_succ]
  refine wpAnyH_take (i := 36) (oi := ⟨some 48, _, _, _, _, _⟩) (v := ?vk7n37u1) rfl (by kernel_rfl) (by kernel_rfl) (by kernel_rfl) (fun _ _ _ h => h) (Or.inl ⟨by rfl, ?yk7n37u1⟩) (by assumption) ?rk7n37u1
  case yk7n37u1 => (intro w hSw; (try dsimp only at hSw); go_simp; try with_reducible rfl)
  try simp only [Act.put, List.setIfInBounds_toArray, List.set_cons_zero, List.set_cons_succ]
  refine wpAnyH_take (i := 37) (oi := ⟨some 49, _, _, _, _, _⟩) (v := ?vk7n38u1) rfl (by kernel_rfl) (by kernel_rfl) (by kernel_rfl) (fun _ _ _ h => h) (Or.inl ⟨by rfl, ?yk7n38u1⟩) (by assumption) ?rk7n38u1
  case yk7n38u1 => (intro w hSw; (try dsimp only at hSw); go_simp; try with_reducible rfl)
  try simp only [Act.put, List.setIfInBounds_toArray, List.set_cons_zero, List.set_cons_succ]
  refine wpAnyH_take (i := 38) (oi := ⟨some 50, _, _, _, _, _⟩) (v := ?vk7x39) rfl (by kernel_rfl) (by kernel_rfl) (by kernel_rfl) (fun _ _ _ h => h) (Or.inl ⟨by rfl, ?yk7x39⟩) (by assumption) ?rk7x39
  case yk7x39 => (intro w hSw; have ap4 := Hp4.out w hSw; go_simp; try with_reducible rfl)
  try simp only [Act.put, List.setIfInBounds_toArray, List.set_cons_zero, List.set_cons_succ]
  refine wpAnyH_take (i := 39) (oi := ⟨some 51, _, _, _, _, _⟩) (v := ?vk7n40u1) rfl (by kernel_rfl) (by kernel_rfl) (by kernel_rfl) (fun _ _ _ h => h) (Or.inl ⟨by rfl, ?yk7n40u1⟩) (by assumption) ?rk7n40u1
  case yk7n40u1 => (intro w hSw; (try dsimp only at hSw); go_simp; try with_reducible rfl)
  try simp only [Act.put, List.setIfInBounds_toArray, List.set_cons_zero, List.set_cons_succ]
  refine wpAnyH_take (i := 40) (oi := ⟨some 52, _, _, _, _, _⟩) (v := ?vk7n41u1) rfl (by kernel_rfl) (by kernel_rfl) (by kernel_rfl) (fun _ _ _ h => h) (Or.inl ⟨by rfl, ?yk7n41u1⟩) (by assumption) ?rk7n41u1
  case yk7n41u1 => (intro w hSw; (try dsimp only at hSw); go_simp; try with_reducible rfl)
  try simp only [Act.put, List.setIfInBounds_toArray, List.set_cons_zero, List.set_cons_succ]
  refine wpAnyH_take (i := 41) (oi := ⟨some 53, _, _, _, _, _⟩) (v := ?vk7x42) rfl (by kernel_rfl) (by kernel_rfl) (by kernel_rfl) (fun _ _ _ h => h) (Or.inl ⟨by rfl, ?yk7x42⟩) (by assumption) ?rk7x42
  case yk7x42 => (intro w hSw; have aq8 := Hq8.out w hSw; go_simp; try with_reducible rfl)
  try simp only [Act.put, List.setIfInBounds_toArray, List.set_cons_zero, List.set_cons_succ]
  refine wpAnyH_take (i := 42) (oi := ⟨some 54, _, _, _, _, _⟩) (v := ?vk7n43u1) rfl (by kernel_rfl) (by kernel_rfl) (by kernel_rfl) (fun _ _ _ h => h) (Or.inl ⟨by rfl, ?yk7n43u1⟩) (by assumption) ?rk7n43u1
  case yk7n43u1 => (intro w hSw; (try dsimp only at hSw); go_simp; try with_reducible rfl)
  try simp only [Act.put, List.setIfInBounds_toArray, List.set_cons_zero, List.set_cons_succ]
  refine wpAnyH_take (i := 43) (oi := ⟨some 55, _, _, _, _, _⟩) (v := ?vk7n44u1) rfl (by kernel_rfl) (by kernel_rfl) (by kernel_rfl) (fun _ _ _ h => h) (Or.inl ⟨by rfl, ?yk7n44u1⟩) (by assumption) ?rk7n44u1
  case yk7n44u1 => (intro w hSw; (try dsimp only at hSw); go_simp; try with_reducible rfl)
  try simp only [Act.put, List.setIfInBounds_toArray, List.set_cons_zero, List.set_cons_succ]
  refine wpAnyH_take (i := 44) (oi := ⟨some 56, _, _, _, _, _⟩) (v := ?vk7n45u1) rfl (by kernel_rfl) (by kernel_rfl) (by kernel_rfl) (fun _ _ _ h => h) (Or.inl ⟨by rfl, ?yk7n45u1⟩) (by assumption) ?rk7n45u1
  case yk7n45u1 => (intro w hSw; (try dsimp only at hSw); go_simp; try with_reducible rfl)
  try simp only [Act.put, List.setIfInBounds_toArray, List.set_cons_zero, List.set_cons_succ]
  refine wpAnyH_take (i := 45) (oi := ⟨some 57, _, _, _, _, _⟩) (v := ?vk7n46u1) rfl (by kernel_rfl) (by kernel_rfl) (by kernel_rfl) (fun _ _ _ h => h) (Or.inl ⟨by rfl, ?yk7n46u1⟩) (by assumption) ?rk7n46u1
  case yk7n46u1 => (intro w hSw; (try dsimp only at hSw); go_simp; try with_reducible rfl)
  try simp only [Act.put, List.setIfInBounds_toArray, List.set_cons_zero, List.set_cons_succ]
  refine wpAnyH_take (i := 46) (oi := ⟨some 58, _, _, _, _, _⟩) (v := ?vk7x47) rfl (by kernel_rfl) (by kernel_rfl) (by kernel_rfl) (fun _ _ _ h => h) (Or.inl ⟨by rfl, ?yk7x47⟩) (by assumption) ?rk7x47
  case yk7x47 => (intro w hSw; have aq9 := Hq9.out w hSw; have aq10 := Hq10.out w hSw; go_simp; try with_reducible rfl)
  try simp only [Act.put, List.setIfInBounds_toArray, List.set_cons_zero, List.set_cons_succ]
  refine wpAnyH_take (i := 47) (oi := ⟨some 59, _, _, _, _, _⟩) (v := ?vk7n48u1) rfl (by kernel_rfl) (by kernel_rfl) (by kernel_rfl) (fun _ _ _ h => h) (Or.inl ⟨by rfl, ?yk7n48u1⟩) (by assumption) ?rk7n48u1
  case yk7n48u1 => (intro w hSw; (try dsimp only at hSw); go_simp; try with_reducible rfl)
  try simp only [Act.put, List.setIfInBounds_toArray, List.set_cons_zero, List.set_cons_succ]
  refine wpAnyH_take (i := 48) (oi := ⟨some 60, _, _, _, _, _⟩) (v := ?vk7x49) rfl (by kernel_rfl) (by kernel_rfl) (by kernel_rfl) (fun _ _ _ h => h) (Or.inl ⟨by rfl, ?yk7x49⟩) (by assumption) ?rk7x49
  case yk7x49 => (intro w hSw; have ap4 := Hp4.out w hSw; go_simp; try with_reducible rfl)
  try simp only [Act.put, List.setIfInBounds_toArray, List.set_cons_zero, List.set_cons_succ]
  refine wpAnyH_ready (rs := [49]) (by kernel_rfl) (by simp) ?_
  refine AllReadyH.cons (o := ⟨some 61, _, _, _, _, _⟩) rfl (fun K hK => ?_) AllReadyH.nil
  go_simp
  go_at_call 25; refine (HH.out.h7 _ (U3.out.trans (show Up Nul W2 _ from hHeld))).mono ?_; rintro e wb ⟨rfl, kb⟩
  refine hK.out _ _ ?kk7n50u1 (fun hHeld => ?_)
  case kk7n50u1 => exact (Up.trans (show Up Nul W2 _ from hHeld) kb)
  clear hK K
  try simp only [Act.put, List.setIfInBounds_toArray, List.set_cons_zero, List.set_cons_succ]
  refine wpAnyH_take (i := 50) (oi := ⟨some 62, _, _, _, _, _⟩) (v := ?vk7n51u1) rfl (by kernel_rfl) (by kernel_rfl) (by kernel_rfl) (fun _ _ _ h => h) (Or.inl ⟨by rfl, ?yk7n51u1⟩) (by assumption) ?rk7n51u1
  case yk7n51u1 => (intro w hSw; (try dsimp only at hSw); go_simp; try with_reducible rfl)
  try simp only [Act.put, List.setIfInBounds_toArray, List.set_cons_zero, List.set_cons_succ]
  refine wpAnyH_take (i := 51) (oi := ⟨some 63, _, _, _, _, _⟩) (v := ?vk7n52u1) rfl (by kernel_rfl) (by kernel_rfl) (by kernel_rfl) (fun _ _ _ h => h) (Or.inl ⟨by rfl, ?yk7n52u1⟩) (by assumption) ?rk7n52u1
  case yk7n52u1 => (intro w hSw; (try dsimp only at hSw); go_simp; try with_reducible rfl)
  try simp only [Act.put, List.setIfInBounds_toArray, List.set_cons_zero, List.set_cons_succ]
  refine wpAnyH_take (i := 52) (oi := ⟨some 64, _, _, _, _, _⟩) (v := undef) rfl (by kernel_rfl) (by kernel_rfl) (by kernel_rfl) (fun _ _ _ h => h) (Or.inr ⟨by rfl, rfl⟩) (by assumption) ?rk7n53u1
  try simp only [Act.put, List.setIfInBounds_toArray, List.set_cons_zero, List.set_cons_succ]
  refine wpAnyH_take (i := 53) (oi := ⟨some 65, _, _, _, _, _⟩) (v := undef) rfl (by kernel_rfl) (by kernel_rfl) (by kernel_rfl) (fun _ _ _ h => h) (Or.inr ⟨by rfl, rfl⟩) (by assumption) ?rk7n54u1
  try simp only [Act.put, List.setIfInBounds_toArray, List.set_cons_zero, List.set_cons_succ]
  refine wpAnyH_take (i := 54) (oi := ⟨some 66, _, _, _, _, _⟩) (v := undef) rfl (by kernel_rfl) (by kernel_rfl) (by kernel_rfl) (fun _ _ _ h => h) (Or.inr ⟨by rfl, rfl⟩) (by assumption) ?rk7n55u1
  try simp only [Act.put, List.setIfInBounds_toArray, List.set_cons_zero, List.set_cons_succ]
  refine wpAnyH_take (i := 55) (oi := ⟨some 67, _, _, _, _, _⟩) (v := undef) rfl (by kernel_rfl) (by kernel_rfl) (by kernel_rfl) (fun _ _ _ h => h) (Or.inr ⟨by rfl, rfl⟩) (by assumption) ?rk7n56u1
  try simp only [Act.put, List.setIfInBounds_toArray, List.set_cons_zero, List.set_cons_succ]
  refine wpAnyH_take (i := 56) (oi := ⟨some 68, _, _, _, _, _⟩) (v := undef) rfl (by kernel_rfl) (by kernel_rfl) (by kernel_rfl) (fun _ _ _ h => h) (Or.inr ⟨by rfl, rfl⟩) (by assumption) ?rk7n57u1
  try simp only [Act.put, List.setIfInBounds_toArray, List.set_cons_zero, List.set_cons_succ]
  refine wpAnyH_take (i := 57) (oi := ⟨some 69, _, _, _, _, _⟩) (v := undef) rfl (by kernel_rfl) (by kernel_rfl) (by kernel_rfl) (fun _ _ _ h => h) (Or.inr ⟨by rfl, rfl⟩) (by assumption) ?rk7n58u1
  try simp only [Act.put, List.setIfInBounds_toArray, List.set_cons_zero, List.set_cons_succ]
  refine wpAnyH_take (i := 58) (oi := ⟨some 70, _, _, _, _, _⟩) (v := undef) rfl (by kernel_rfl) (by kernel_rfl) (by kernel_rfl) (fun _ _ _ h => h) (Or.inr ⟨by rfl, rfl⟩) (by assumption) ?rk7n59u1
  try simp only [Act.put, List.setIfInBounds_toArray, List.set_cons_zero, List.set_cons_succ]
  refine wpAnyH_take (i := 59) (oi := ⟨some 71, _, _, _, _, _⟩) (v := undef) rfl (by kernel_rfl) (by kernel_rfl) (by kernel_rfl) (fun _ _ _ h => h) (Or.inr ⟨by rfl, rfl⟩) (by assumption) ?rk7n60u1
  try simp only [Act.put, List.setIfInBounds_toArray, List.set_cons_zero, List.set_cons_succ]
  refine wpAnyH_take (i := 60) (oi := ⟨some 72, _, _, _, _, _⟩) (v := ?vk7n61u1) rfl (by kernel_rfl) (by kernel_rfl) (by kernel_rfl) (fun _ _ _ h => h) (Or.inl ⟨by rfl, ?yk7n61u1⟩) (by assumption) ?rk7n61u1
  case yk7n61u1 => (intro w hSw; (try dsimp only at hSw); go_simp; try with_reducible rfl)
  try simp only [Act.put, List.setIfInBounds_toArray, List.set_cons_zero, List.set_cons_succ]
  refine wpAnyH_take (i := 61) (oi := ⟨some 73, _, _, _, _, _⟩) (v := ?vk7n62u1) rfl (by kernel_rfl) (by kernel_rfl) (by kernel_rfl) (fun _ _ _ h => h) (Or.inl ⟨by rfl, ?yk7n62u1⟩) (by assumption) ?rk7n62u1
  case yk7n62u1 => (intro w hSw; (try dsimp only at hSw); go_simp; try with_reducible rfl)
  try simp only [Act.put, List.setIfInBounds_toArray, List.set_cons_zero, List.set_cons_succ]
  refine wpAnyH_take (i := 62) (oi := ⟨some 74, _, _, _, _, _⟩) (v := undef) rfl (by kernel_rfl) (by kernel_rfl) (by kernel_rfl) (fun _ _ _ h => h) (Or.inr ⟨by rfl, rfl⟩) (by assumption) ?rk7n63u1
  try simp only [Act.put, List.setIfInBounds_toArray, List.set_cons_zero, List.set_cons_succ]
  refine wpAnyH_take (i := 63) (oi := ⟨some 75, _, _, _, _, _⟩) (v := undef) rfl (by kernel_rfl) (by kernel_rfl) (by kernel_rfl) (fun _ _ _ h => h) (Or.inr ⟨by rfl, rfl⟩) (by assumption) ?rk7n64u1
  try simp only [Act.put, List.setIfInBounds_toArray, List.set_cons_zero, List.set_cons_succ]
  refine wpAnyH_take (i := 64) (oi := ⟨some 76, _, _, _, _, _⟩) (v := undef) rfl (by kernel_rfl) (by kernel_rfl) (by kernel_rfl) (fun _ _ _ h => h) (Or.inr ⟨by rfl, rfl⟩) (by assumption) ?rk7n65u1
  try simp only [Act.put, List.setIfInBounds_toArray, List.set_cons_zero, List.set_cons_succ]
  refine wpAnyH_take (i := 65) (oi := ⟨some 77, _, _, _, _, _⟩) (v := undef) rfl (by kernel_rfl) (by kernel_rfl) (by kernel_rfl) (fun _ _ _ h => h) (Or.inr ⟨by rfl, rfl⟩) (by assumption) ?rk7n66u1
  try simp only [Act.put, List.setIfInBounds_toArray, List.set_cons_zero, List.set_cons_succ]
  refine wpAnyH_take (i := 66) (oi := ⟨some 78, _, _, _, _, _⟩) (v := ?vk7n67u1) rfl (by kernel_rfl) (by kernel_rfl) (by kernel_rfl) (fun _ _ _ h => h) (Or.inl ⟨by rfl, ?yk7n67u1⟩) (by assumption) ?rk7n67u1
  case yk7n67u1 => (intro w hSw; (try dsimp only at hSw); go_simp; try with_reducible rfl)
  try simp only [Act.put, List.setIfInBounds_toArray, List.set_cons_zero, List.set_cons_succ]
  refine wpAnyH_take (i := 67) (oi := ⟨some 79, _, _, _, _, _⟩) (v := ?vk7n68u1) rfl (by kernel_rfl) (by kernel_rfl) (by kernel_rfl) (fun _ _ _ h => h) (Or.inl ⟨by rfl, ?yk7n68u1⟩) (by assumption) ?rk7n68u1
  case yk7n68u1 => (intro w hSw; (try dsimp only at hSw); go_simp; try with_reducible rfl)
  try simp only [Act.put, List.setIfInBounds_toArray, List.set_cons_zero, List.set_cons_succ]
  refine wpAnyH_take (i := 68) (oi := ⟨some 80, _, _, _, _, _⟩) (v := undef) rfl (by kernel_rfl) (by kernel_rfl) (by kernel_rfl) (fun _ _ _ h => h) (Or.inr ⟨by rfl, rfl⟩) (by assumption) ?rk7n69u1
  try simp only [Act.put, List.setIfInBounds_toArray, List.set_cons_zero, List.set_cons_succ]
  refine wpAnyH_take (i := 69) (oi := ⟨some 81, _, _, _, _, _⟩) (v := undef) rfl (by kernel_rfl) (by kernel_rfl) (by kernel_rfl) (fun _ _ _ h => h) (Or.inr ⟨by rfl, rfl⟩) (by assumption) ?rk7n70u1
  try simp only [Act.put, List.setIfInBounds_toArray, List.set_cons_zero, List.set_cons_succ]
  refine wpAnyH_take (i := 70) (oi := ⟨some 82, _, _, _, _, _⟩) (v := undef) rfl (by kernel_rfl) (by kernel_rfl) (by kernel_rfl) (fun _ _ _ h => h) (Or.inr ⟨by rfl, rfl⟩) (by assumption) ?rk7n71u1
  try simp only [Act.put, List.setIfInBounds_toArray, List.set_cons_zero, List.set_cons_succ]
  refine wpAnyH_take (i := 71) (oi := ⟨some 83, _, _, _, _, _⟩) (v := undef) rfl (by kernel_rfl) (by kernel_rfl) (by kernel_rfl) (fun _ _ _ h => h) (Or.inr ⟨by rfl, rfl⟩) (by assumption) ?rk7n72u1
  try simp only [Act.put, List.setIfInBounds_toArray, List.set_cons_zero, List.set_cons_succ]
  refine wpAnyH_take (i := 72) (oi := ⟨some 84, _, _, _, _, _⟩) (v := undef) rfl (by kernel_rfl) (by kernel_rfl) (by kernel_rfl) (fun _ _ _ h => h) (Or.inr ⟨by rfl, rfl⟩) (by assumption) ?rk7n73u1
  try simp only [Act.put, List.setIfInBounds_toArray, List.set_cons_zero, List.set_cons_succ]
  refine wpAnyH_take (i := 73) (oi := ⟨some 85, _, _, _, _, _⟩) (v := undef) rfl (by kernel_rfl) (by kernel_rfl) (by kernel_rfl) (fun _ _ _ h => h) (Or.inr ⟨by rfl, rfl⟩) (by assumption) ?rk7n74u1
  try simp only [Act.put, List.setIfInBounds_toArray, List.set_cons_zero, List.set_cons_succ]
  refine wpAnyH_take (i := 74) (oi := ⟨some 86, _, _, _, _, _⟩) (v := ?vk7n75u1) rfl (by kernel_rfl) (by kernel_rfl) (by kernel_rfl) (fun _ _ _ h => h) (Or.inl ⟨by rfl, ?yk7n75u1⟩) (by assumption) ?rk7n75u1
  case yk7n75u1 => (intro w hSw; (try dsimp only at hSw); go_simp; try with_reducible rfl)
  try simp only [Act.put, List.setIfInBounds_toArray, List.set_cons_zero, List.set_cons_succ]
  refine wpAnyH_take (i := 75) (oi := ⟨some 2, _, _, _, _, _⟩) (v := ?vk7n76u1) rfl (by kernel_rfl) (by kernel_rfl) (by kernel_rfl) (fun _ _ _ h => h) (Or.inl ⟨by rfl, ?yk7n76u1⟩) (by assumption) ?rk7n76u1
  case yk7n76u1 => (intro w hSw; (try dsimp only at hSw); go_simp; try with_reducible rfl)
  try simp only [Act.put, List.setIfInBounds_toArray, List.set_cons_zero, List.set_cons_succ]
  refine wpAnyH_done (by kernel_rfl) ?_ _
  have HE := hid (U3.out.trans (show Up Nul W2 _ from hHeld))
  clear hHeld
  go_wp2
  go_ret
  exact ⟨by first | rfl | simp, HE.out⟩
set_option maxRecDepth 100000 in
set_option maxHeartbeats 4000000 in
theorem ok_case8 (w : World) (s : ByteArray) (n sid co : Int) (sa : Option Addr) (ns cs : Nat) (la : Option Addr) (nl cl : Nat) (t : Tb) (k : Nat) (c1 c2 c3 c4 c5 c6 c7 c8 c9 c10 : Bool) (hk : spn 1 8 (k : Int) = true) (hS : Shp w) (hc1 : c1 = true) (hc2 : c2 = true) (hc3 : c3 = true) (hc4 : c4 = true) (hc5 : c5 = true) (hc6 : c6 = true) (hc7 : c7 = true) (hc8 : c8 = false)
    (H : OkC w s n sid co sa ns cs la nl cl t k c1 c2 c3 c4 c5 c6 c7 c8 c9 c10) :
    Calls Tryd.prog 16 #[.agg #[.int .i64 (k : Nat), .string s, .int .i64 n, .int .i64 sid, .slice sa ns cs, .int .i64 co, .slice la nl cl, .int .i64 t.hot, .int .i64 t.warm, .int .i64 t.gap, .int .i64 t.add, .int .i64 t.top, .int .i64 t.half]] w
      fun e w' => e = .returned (.bool (c1 && c2 && c3 && c4 && c5 && c6 && c7 && c8 && c9 && c10)) ∧ Up Nul w w' := by
  subst hc1 hc2 hc3 hc4 hc5 hc6 hc7 hc8
  obtain ⟨q8, h8e, h8c⟩ := H.h8 rfl
  have H8 := hid h8c
  clear h8c
  have h6e := H.h6
  have HK := hid (fun W => kind_any (k : Int) W)
  rw [hk] at HK
  have hk9 : k < 9 := by
    unfold spn at hk
    simp at hk
    omega
  have i0 : (0 : Int) ≤ (k : Int) := by omega
  have i1 : (k : Int) < 9 := by omega
  have HH := hid H
  clear H
  obtain ⟨C, hC⟩ : ∃ C : Array Value, C = #[.int .i64 (k : Nat), .string s, .int .i64 n, .int .i64 sid, .slice sa ns cs, .int .i64 co, .slice la nl cl, .int .i64 t.hot, .int .i64 t.warm, .int .i64 t.gap, .int .i64 t.add, .int .i64 t.top, .int .i64 t.half] := ⟨_, rfl⟩
  have HUA := hid ((Up.refl Nul w).alloc (.cells C 33))
  have HBA : Hid ((w.alloc (.cells C 33)).heap[w.heap.size]? = some (.cells C 33 (0, 0))) := heap_alloc_new _ _
  have HLT : Hid (w.heap.size < (w.alloc (.cells C 33)).heap.size) := by show _ < _; simp
  have HSH := hid hS
  go_enter Tryd.func16, Tryd.ntmps16
  go_wp2_with fail
  rw [← hC]
  refine (HK.out _).mono ?_
  rintro e w1 ⟨rfl, u1⟩
  have hb := (u1.block _ HLT.out id).trans HBA.out
  have HU1 := hid (HUA.out.trans u1)
  have hlt := Nat.lt_of_lt_of_le HLT.out u1.size
  clear u1 HBA HUA HLT
  have y0 := (HSH.out.nxt HU1.out).c k 0 hk9 (by omega)
  have y1 := (HSH.out.nxt HU1.out).c k 1 hk9 (by omega)
  have y2 := (HSH.out.nxt HU1.out).c k 2 hk9 (by omega)
  have y3 := (HSH.out.nxt HU1.out).c k 3 hk9 (by omega)
  have y4 := (HSH.out.nxt HU1.out).c k 4 hk9 (by omega)
  have y5 := (HSH.out.nxt HU1.out).c k 5 hk9 (by omega)
  have y6 := (HSH.out.nxt HU1.out).c k 6 hk9 (by omega)
  have y7 := (HSH.out.nxt HU1.out).c k 7 hk9 (by omega)
  have y8 := (HSH.out.nxt HU1.out).c k 8 hk9 (by omega)
  have y9 := (HSH.out.nxt HU1.out).c k 9 hk9 (by omega)
  have y10 := (HSH.out.nxt HU1.out).c k 10 hk9 (by omega)
  have y11 := (HSH.out.nxt HU1.out).c k 11 hk9 (by omega)
  have y12 := (HSH.out.nxt HU1.out).c k 12 hk9 (by omega)
  have y13 := (HSH.out.nxt HU1.out).c k 13 hk9 (by omega)
  have y14 := (HSH.out.nxt HU1.out).c k 14 hk9 (by omega)
  rw [Nat.add_zero] at y0
  generalize w.heap.size = p at hb hlt ⊢
  have x0 : w1.cell? ⟨p, 0, none⟩ = some (.int .i64 (k : Nat)) := by simp [World.cell?, hb, hC]
  clear hk9
  go_wp2_with fail
  obtain ⟨W2, hW2⟩ : ∃ W, W = w1.alloc (.cells #[.int .i64 (sh k 0), .int .i64 (sh k 1), .int .i64 (sh k 2), .int .i64 (sh k 3), .int .i64 (sh k 4), .int .i64 (sh k 5), .int .i64 (sh k 6), .int .i64 (sh k 7), .int .i64 (sh k 8), .int .i64 (sh k 9), .int .i64 (sh k 10), .int .i64 (sh k 11), .int .i64 (sh k 12), .int .i64 (sh k 13), .int .i64 (sh k 14)] 73) := ⟨_, rfl⟩
  have U2 : Hid (Up Nul w1 W2) := by show Up _ _ _; rw [hW2]; exact (Up.refl Nul w1).alloc _
  have hq : W2.heap[w1.heap.size]? = some (.cells #[.int .i64 (sh k 0), .int .i64 (sh k 1), .int .i64 (sh k 2), .int .i64 (sh k 3), .int .i64 (sh k 4), .int .i64 (sh k 5), .int .i64 (sh k 6), .int .i64 (sh k 7), .int .i64 (sh k 8), .int .i64 (sh k 9), .int .i64 (sh k 10), .int .i64 (sh k 11), .int .i64 (sh k 12), .int .i64 (sh k 13), .int .i64 (sh k 14)] 73 (0, 0)) := by rw [hW2]; exact heap_alloc_new _ _
  have hp := (U2.out.block p hlt id).trans hb
  rw [hC] at hp
  have hq2 : w1.heap.size < W2.heap.size := by rw [hW2]; simp
  have hp2 := Nat.lt_of_lt_of_le hlt U2.out.size
  have U3 := hid (HU1.out.trans U2.out)
  rw [← hW2]
  clear hW2 x0 y0 y1 y2 y3 y4 y5 y6 y7 y8 y9 y10 y11 y12 y13 y14 hb U2 HU1 hlt
  generalize w1.heap.size = q at hq hq2 ⊢
  have Hp1 : Hid (∀ W, Up Nul W2 W → W.cell? ⟨p, 1, none⟩ = some (.string s)) := fun W u => by have a := (u.block p hp2 id).trans hp; simp only [World.cell?, a]; rfl
  have Hp2 : Hid (∀ W, Up Nul W2 W → W.cell? ⟨p, 2, none⟩ = some (.int .i64 n)) := fun W u => by have a := (u.block p hp2 id).trans hp; simp only [World.cell?, a]; rfl
  have Hp3 : Hid (∀ W, Up Nul W2 W → W.cell? ⟨p, 3, none⟩ = some (.int .i64 sid)) := fun W u => by have a := (u.block p hp2 id).trans hp; simp only [World.cell?, a]; rfl
  have Hp4 : Hid (∀ W, Up Nul W2 W → W.cell? ⟨p, 4, none⟩ = some (.slice sa ns cs)) := fun W u => by have a := (u.block p hp2 id).trans hp; simp only [World.cell?, a]; rfl
  have Hp5 : Hid (∀ W, Up Nul W2 W → W.cell? ⟨p, 5, none⟩ = some (.int .i64 co)) := fun W u => by have a := (u.block p hp2 id).trans hp; simp only [World.cell?, a]; rfl
  have Hp6 : Hid (∀ W, Up Nul W2 W → W.cell? ⟨p, 6, none⟩ = some (.slice la nl cl)) := fun W u => by have a := (u.block p hp2 id).trans hp; simp only [World.cell?, a]; rfl
  have Hp7 : Hid (∀ W, Up Nul W2 W → W.cell? ⟨p, 7, none⟩ = some (.int .i64 t.hot)) := fun W u => by have a := (u.block p hp2 id).trans hp; simp only [World.cell?, a]; rfl
  have Hp8 : Hid (∀ W, Up Nul W2 W → W.cell? ⟨p, 8, none⟩ = some (.int .i64 t.warm)) := fun W u => by have a := (u.block p hp2 id).trans hp; simp only [World.cell?, a]; rfl
  have Hp9 : Hid (∀ W, Up Nul W2 W → W.cell? ⟨p, 9, none⟩ = some (.int .i64 t.gap)) := fun W u => by have a := (u.block p hp2 id).trans hp; simp only [World.cell?, a]; rfl
  have Hp10 : Hid (∀ W, Up Nul W2 W → W.cell? ⟨p, 10, none⟩ = some (.int .i64 t.add)) := fun W u => by have a := (u.block p hp2 id).trans hp; simp only [World.cell?, a]; rfl
  have Hp11 : Hid (∀ W, Up Nul W2 W → W.cell? ⟨p, 11, none⟩ = some (.int .i64 t.top)) := fun W u => by have a := (u.block p hp2 id).trans hp; simp only [World.cell?, a]; rfl
  have Hp12 : Hid (∀ W, Up Nul W2 W → W.cell? ⟨p, 12, none⟩ = some (.int .i64 t.half)) := fun W u => by have a := (u.block p hp2 id).trans hp; simp only [World.cell?, a]; rfl
  have Hq0 : Hid (∀ W, Up Nul W2 W → W.cell? ⟨q, 0, none⟩ = some (.int .i64 (sh k 0))) := fun W u => by have a := (u.block q hq2 id).trans hq; simp only [World.cell?, a]; rfl
  have Hq1 : Hid (∀ W, Up Nul W2 W → W.cell? ⟨q, 1, none⟩ = some (.int .i64 (sh k 1))) := fun W u => by have a := (u.block q hq2 id).trans hq; simp only [World.cell?, a]; rfl
  have Hq2 : Hid (∀ W, Up Nul W2 W → W.cell? ⟨q, 2, none⟩ = some (.int .i64 (sh k 2))) := fun W u => by have a := (u.block q hq2 id).trans hq; simp only [World.cell?, a]; rfl
  have Hq3 : Hid (∀ W, Up Nul W2 W → W.cell? ⟨q, 3, none⟩ = some (.int .i64 (sh k 3))) := fun W u => by have a := (u.block q hq2 id).trans hq; simp only [World.cell?, a]; rfl
  have Hq4 : Hid (∀ W, Up Nul W2 W → W.cell? ⟨q, 4, none⟩ = some (.int .i64 (sh k 4))) := fun W u => by have a := (u.block q hq2 id).trans hq; simp only [World.cell?, a]; rfl
  have Hq5 : Hid (∀ W, Up Nul W2 W → W.cell? ⟨q, 5, none⟩ = some (.int .i64 (sh k 5))) := fun W u => by have a := (u.block q hq2 id).trans hq; simp only [World.cell?, a]; rfl
  have Hq6 : Hid (∀ W, Up Nul W2 W → W.cell? ⟨q, 6, none⟩ = some (.int .i64 (sh k 6))) := fun W u => by have a := (u.block q hq2 id).trans hq; simp only [World.cell?, a]; rfl
  have Hq7 : Hid (∀ W, Up Nul W2 W → W.cell? ⟨q, 7, none⟩ = some (.int .i64 (sh k 7))) := fun W u => by have a := (u.block q hq2 id).trans hq; simp only [World.cell?, a]; rfl
  have Hq8 : Hid (∀ W, Up Nul W2 W → W.cell? ⟨q, 8, none⟩ = some (.int .i64 (sh k 8))) := fun W u => by have a := (u.block q hq2 id).trans hq; simp only [World.cell?, a]; rfl
  have Hq9 : Hid (∀ W, Up Nul W2 W → W.cell? ⟨q, 9, none⟩ = some (.int .i64 (sh k 9))) := fun W u => by have a := (u.block q hq2 id).trans hq; simp only [World.cell?, a]; rfl
  have Hq10 : Hid (∀ W, Up Nul W2 W → W.cell? ⟨q, 10, none⟩ = some (.int .i64 (sh k 10))) := fun W u => by have a := (u.block q hq2 id).trans hq; simp only [World.cell?, a]; rfl
  have Hq11 : Hid (∀ W, Up Nul W2 W → W.cell? ⟨q, 11, none⟩ = some (.int .i64 (sh k 11))) := fun W u => by have a := (u.block q hq2 id).trans hq; simp only [World.cell?, a]; rfl
  have Hq12 : Hid (∀ W, Up Nul W2 W → W.cell? ⟨q, 12, none⟩ = some (.int .i64 (sh k 12))) := fun W u => by have a := (u.block q hq2 id).trans hq; simp only [World.cell?, a]; rfl
  have Hq13 : Hid (∀ W, Up Nul W2 W → W.cell? ⟨q, 13, none⟩ = some (.int .i64 (sh k 13))) := fun W u => by have a := (u.block q hq2 id).trans hq; simp only [World.cell?, a]; rfl
  have Hq14 : Hid (∀ W, Up Nul W2 W → W.cell? ⟨q, 14, none⟩ = some (.int .i64 (sh k 14))) := fun W u => by have a := (u.block q hq2 id).trans hq; simp only [World.cell?, a]; rfl
  clear hp hq hp2 hq2
  have HR := hid (Up.refl Nul W2)
  simp only [List.append]
  refine wp_region_held_drew (S := (fun W => Up Nul W2 W)) (by kernel_rfl) (by exact HR.out.drew) (fun hHeld => ?_)
  refine wpAnyH_take (i := 0) (oi := ⟨some 12, _, _, _, _, _⟩) (v := ?vk8n1u1) rfl (by kernel_rfl) (by kernel_rfl) (by kernel_rfl) (fun _ _ _ h => h) (Or.inl ⟨by rfl, ?yk8n1u1⟩) (by assumption) ?rk8n1u1
  case yk8n1u1 => (intro w hSw; (try dsimp only at hSw); go_simp; try with_reducible rfl)
  try simp only [Act.put, List.setIfInBounds_toArray, List.set_cons_zero, List.set_cons_succ]
  refine wpAnyH_take (i := 1) (oi := ⟨some 13, _, _, _, _, _⟩) (v := ?vk8x2) rfl (by kernel_rfl) (by kernel_rfl) (by kernel_rfl) (fun _ _ _ h => h) (Or.inl ⟨by rfl, ?yk8x2⟩) (by assumption) ?rk8x2
  case yk8x2 => (intro w hSw; have aq0 := Hq0.out w hSw; have aq1 := Hq1.out w hSw; go_simp; try with_reducible rfl)
  try simp only [Act.put, List.setIfInBounds_toArray, List.set_cons_zero, List.set_cons_succ]
  refine wpAnyH_take (i := 2) (oi := ⟨some 14, _, _, _, _, _⟩) (v := ?vk8n3u1) rfl (by kernel_rfl) (by kernel_rfl) (by kernel_rfl) (fun _ _ _ h => h) (Or.inl ⟨by rfl, ?yk8n3u1⟩) (by assumption) ?rk8n3u1
  case yk8n3u1 => (intro w hSw; (try dsimp only at hSw); go_simp; try with_reducible rfl)
  try simp only [Act.put, List.setIfInBounds_toArray, List.set_cons_zero, List.set_cons_succ]
  refine wpAnyH_take (i := 3) (oi := ⟨some 15, _, _, _, _, _⟩) (v := ?vk8x4) rfl (by kernel_rfl) (by kernel_rfl) (by kernel_rfl) (fun _ _ _ h => h) (Or.inl ⟨by rfl, ?yk8x4⟩) (by assumption) ?rk8x4
  case yk8x4 => (intro w hSw; have ap1 := Hp1.out w hSw; go_simp; try with_reducible rfl)
  try simp only [Act.put, List.setIfInBounds_toArray, List.set_cons_zero, List.set_cons_succ]
  refine wpAnyH_take (i := 4) (oi := ⟨some 16, _, _, _, _, _⟩) (v := ?vk8n5u1) rfl (by kernel_rfl) (by kernel_rfl) (by kernel_rfl) (fun _ _ _ h => h) (Or.inl ⟨by rfl, ?yk8n5u1⟩) (by assumption) ?rk8n5u1
  case yk8n5u1 => (intro w hSw; (try dsimp only at hSw); go_simp; try with_reducible rfl)
  try simp only [Act.put, List.setIfInBounds_toArray, List.set_cons_zero, List.set_cons_succ]
  refine wpAnyH_ready (rs := [5]) (by kernel_rfl) (by simp) ?_
  refine AllReadyH.cons (o := ⟨some 17, _, _, _, _, _⟩) rfl (fun K hK => ?_) AllReadyH.nil
  go_simp
  skip
  refine hK.out _ _ ?kk8n6u1 (fun hHeld => ?_)
  case kk8n6u1 => exact (by first | exact Up.alloc (show Up Nul W2 _ from hHeld) _ | exact (Up.alloc (show Up Nul W2 _ from HR.out) _).drew)
  clear hK K
  try simp only [Act.put, List.setIfInBounds_toArray, List.set_cons_zero, List.set_cons_succ]
  refine wpAnyH_ready (rs := [6]) (by kernel_rfl) (by simp) ?_
  refine AllReadyH.cons (o := ⟨some 18, _, _, _, _, _⟩) rfl (fun K hK => ?_) AllReadyH.nil
  go_simp
  go_at_call 25; refine (HH.out.h1 _ (U3.out.trans (show Up Nul W2 _ from hHeld)) _ (by first | exact World.cell?_alloc_new _ _ _ 0 | (simp; done) | go_simp)).mono ?_; rintro e wb ⟨rfl, kb⟩
  refine hK.out _ _ ?kk8n7u1 (fun hHeld => ?_)
  case kk8n7u1 => exact (Up.trans (show Up Nul W2 _ from hHeld) kb)
  clear hK K
  try simp only [Act.put, List.setIfInBounds_toArray, List.set_cons_zero, List.set_cons_succ]
  refine wpAnyH_take (i := 7) (oi := ⟨some 19, _, _, _, _, _⟩) (v := ?vk8n8u1) rfl (by kernel_rfl) (by kernel_rfl) (by kernel_rfl) (fun _ _ _ h => h) (Or.inl ⟨by rfl, ?yk8n8u1⟩) (by assumption) ?rk8n8u1
  case yk8n8u1 => (intro w hSw; (try dsimp only at hSw); go_simp; try with_reducible rfl)
  try simp only [Act.put, List.setIfInBounds_toArray, List.set_cons_zero, List.set_cons_succ]
  refine wpAnyH_take (i := 8) (oi := ⟨some 20, _, _, _, _, _⟩) (v := ?vk8n9u1) rfl (by kernel_rfl) (by kernel_rfl) (by kernel_rfl) (fun _ _ _ h => h) (Or.inl ⟨by rfl, ?yk8n9u1⟩) (by assumption) ?rk8n9u1
  case yk8n9u1 => (intro w hSw; (try dsimp only at hSw); go_simp; try with_reducible rfl)
  try simp only [Act.put, List.setIfInBounds_toArray, List.set_cons_zero, List.set_cons_succ]
  refine wpAnyH_take (i := 9) (oi := ⟨some 21, _, _, _, _, _⟩) (v := ?vk8x10) rfl (by kernel_rfl) (by kernel_rfl) (by kernel_rfl) (fun _ _ _ h => h) (Or.inl ⟨by rfl, ?yk8x10⟩) (by assumption) ?rk8x10
  case yk8x10 => (intro w hSw; have ap1 := Hp1.out w hSw; go_simp; try with_reducible rfl)
  try simp only [Act.put, List.setIfInBounds_toArray, List.set_cons_zero, List.set_cons_succ]
  refine wpAnyH_ready (rs := [10]) (by kernel_rfl) (by simp) ?_
  refine AllReadyH.cons (o := ⟨some 22, _, _, _, _, _⟩) rfl (fun K hK => ?_) AllReadyH.nil
  go_simp
  go_at_call 26; refine (HH.out.h2 _).mono ?_; rintro e wb ⟨rfl, kb⟩
  refine hK.out _ _ ?kk8n11u1 (fun hHeld => ?_)
  case kk8n11u1 => exact (Up.trans (show Up Nul W2 _ from hHeld) kb)
  clear hK K
  try simp only [Act.put, List.setIfInBounds_toArray, List.set_cons_zero, List.set_cons_succ]
  refine wpAnyH_take (i := 11) (oi := ⟨some 23, _, _, _, _, _⟩) (v := ?vk8n12u1) rfl (by kernel_rfl) (by kernel_rfl) (by kernel_rfl) (fun _ _ _ h => h) (Or.inl ⟨by rfl, ?yk8n12u1⟩) (by assumption) ?rk8n12u1
  case yk8n12u1 => (intro w hSw; (try dsimp only at hSw); go_simp; try with_reducible rfl)
  try simp only [Act.put, List.setIfInBounds_toArray, List.set_cons_zero, List.set_cons_succ]
  refine wpAnyH_take (i := 12) (oi := ⟨some 24, _, _, _, _, _⟩) (v := ?vk8n13u1) rfl (by kernel_rfl) (by kernel_rfl) (by kernel_rfl) (fun _ _ _ h => h) (Or.inl ⟨by rfl, ?yk8n13u1⟩) (by assumption) ?rk8n13u1
  case yk8n13u1 => (intro w hSw; (try dsimp only at hSw); go_simp; try with_reducible rfl)
  try simp only [Act.put, List.setIfInBounds_toArray, List.set_cons_zero, List.set_cons_succ]
  refine wpAnyH_take (i := 13) (oi := ⟨some 25, _, _, _, _, _⟩) (v := ?vk8n14u1) rfl (by kernel_rfl) (by kernel_rfl) (by kernel_rfl) (fun _ _ _ h => h) (Or.inl ⟨by rfl, ?yk8n14u1⟩) (by assumption) ?rk8n14u1
  case yk8n14u1 => (intro w hSw; (try dsimp only at hSw); go_simp; try with_reducible rfl)
  try simp only [Act.put, List.setIfInBounds_toArray, List.set_cons_zero, List.set_cons_succ]
  refine wpAnyH_take (i := 14) (oi := ⟨some 26, _, _, _, _, _⟩) (v := ?vk8x15) rfl (by kernel_rfl) (by kernel_rfl) (by kernel_rfl) (fun _ _ _ h => h) (Or.inl ⟨by rfl, ?yk8x15⟩) (by assumption) ?rk8x15
  case yk8x15 => (intro w hSw; have aq2 := Hq2.out w hSw; have aq3 := Hq3.out w hSw; go_simp; try with_reducible rfl)
  try simp only [Act.put, List.setIfInBounds_toArray, List.set_cons_zero, List.set_cons_succ]
  refine wpAnyH_take (i := 15) (oi := ⟨some 27, _, _, _, _, _⟩) (v := ?vk8n16u1) rfl (by kernel_rfl) (by kernel_rfl) (by kernel_rfl) (fun _ _ _ h => h) (Or.inl ⟨by rfl, ?yk8n16u1⟩) (by assumption) ?rk8n16u1
  case yk8n16u1 => (intro w hSw; (try dsimp only at hSw); go_simp; try with_reducible rfl)
  try simp only [Act.put, List.setIfInBounds_toArray, List.set_cons_zero, List.set_cons_succ]
  refine wpAnyH_take (i := 16) (oi := ⟨some 28, _, _, _, _, _⟩) (v := ?vk8x17) rfl (by kernel_rfl) (by kernel_rfl) (by kernel_rfl) (fun _ _ _ h => h) (Or.inl ⟨by rfl, ?yk8x17⟩) (by assumption) ?rk8x17
  case yk8x17 => (intro w hSw; have ap2 := Hp2.out w hSw; go_simp; try with_reducible rfl)
  try simp only [Act.put, List.setIfInBounds_toArray, List.set_cons_zero, List.set_cons_succ]
  refine wpAnyH_ready (rs := [17]) (by kernel_rfl) (by simp) ?_
  refine AllReadyH.cons (o := ⟨some 29, _, _, _, _, _⟩) rfl (fun K hK => ?_) AllReadyH.nil
  go_simp
  skip
  refine hK.out _ _ ?kk8n18u1 (fun hHeld => ?_)
  case kk8n18u1 => exact (by first | exact Up.alloc (show Up Nul W2 _ from hHeld) _ | exact (Up.alloc (show Up Nul W2 _ from HR.out) _).drew)
  clear hK K
  try simp only [Act.put, List.setIfInBounds_toArray, List.set_cons_zero, List.set_cons_succ]
  refine wpAnyH_ready (rs := [18]) (by kernel_rfl) (by simp) ?_
  refine AllReadyH.cons (o := ⟨some 30, _, _, _, _, _⟩) rfl (fun K hK => ?_) AllReadyH.nil
  go_simp
  go_at_call 25; refine (HH.out.h3 _ (U3.out.trans (show Up Nul W2 _ from hHeld)) _ (by first | exact World.cell?_alloc_new _ _ _ 0 | (simp; done) | go_simp)).mono ?_; rintro e wb ⟨rfl, kb⟩
  refine hK.out _ _ ?kk8n19u1 (fun hHeld => ?_)
  case kk8n19u1 => exact (Up.trans (show Up Nul W2 _ from hHeld) kb)
  clear hK K
  try simp only [Act.put, List.setIfInBounds_toArray, List.set_cons_zero, List.set_cons_succ]
  refine wpAnyH_take (i := 19) (oi := ⟨some 31, _, _, _, _, _⟩) (v := ?vk8n20u1) rfl (by kernel_rfl) (by kernel_rfl) (by kernel_rfl) (fun _ _ _ h => h) (Or.inl ⟨by rfl, ?yk8n20u1⟩) (by assumption) ?rk8n20u1
  case yk8n20u1 => (intro w hSw; (try dsimp only at hSw); go_simp; try with_reducible rfl)
  try simp only [Act.put, List.setIfInBounds_toArray, List.set_cons_zero, List.set_cons_succ]
  refine wpAnyH_take (i := 20) (oi := ⟨some 32, _, _, _, _, _⟩) (v := ?vk8n21u1) rfl (by kernel_rfl) (by kernel_rfl) (by kernel_rfl) (fun _ _ _ h => h) (Or.inl ⟨by rfl, ?yk8n21u1⟩) (by assumption) ?rk8n21u1
  case yk8n21u1 => (intro w hSw; (try dsimp only at hSw); go_simp; try with_reducible rfl)
  try simp only [Act.put, List.setIfInBounds_toArray, List.set_cons_zero, List.set_cons_succ]
  refine wpAnyH_take (i := 21) (oi := ⟨some 33, _, _, _, _, _⟩) (v := ?vk8n22u1) rfl (by kernel_rfl) (by kernel_rfl) (by kernel_rfl) (fun _ _ _ h => h) (Or.inl ⟨by rfl, ?yk8n22u1⟩) (by assumption) ?rk8n22u1
  case yk8n22u1 => (intro w hSw; (try dsimp only at hSw); go_simp; try with_reducible rfl)
  try simp only [Act.put, List.setIfInBounds_toArray, List.set_cons_zero, List.set_cons_succ]
  refine wpAnyH_take (i := 22) (oi := ⟨some 34, _, _, _, _, _⟩) (v := ?vk8x23) rfl (by kernel_rfl) (by kernel_rfl) (by kernel_rfl) (fun _ _ _ h => h) (Or.inl ⟨by rfl, ?yk8x23⟩) (by assumption) ?rk8x23
  case yk8x23 => (intro w hSw; have aq4 := Hq4.out w hSw; have aq5 := Hq5.out w hSw; go_simp; try with_reducible rfl)
  try simp only [Act.put, List.setIfInBounds_toArray, List.set_cons_zero, List.set_cons_succ]
  refine wpAnyH_take (i := 23) (oi := ⟨some 35, _, _, _, _, _⟩) (v := ?vk8n24u1) rfl (by kernel_rfl) (by kernel_rfl) (by kernel_rfl) (fun _ _ _ h => h) (Or.inl ⟨by rfl, ?yk8n24u1⟩) (by assumption) ?rk8n24u1
  case yk8n24u1 => (intro w hSw; (try dsimp only at hSw); go_simp; try with_reducible rfl)
  try simp only [Act.put, List.setIfInBounds_toArray, List.set_cons_zero, List.set_cons_succ]
  refine wpAnyH_take (i := 24) (oi := ⟨some 36, _, _, _, _, _⟩) (v := ?vk8x25) rfl (by kernel_rfl) (by kernel_rfl) (by kernel_rfl) (fun _ _ _ h => h) (Or.inl ⟨by rfl, ?yk8x25⟩) (by assumption) ?rk8x25
  case yk8x25 => (intro w hSw; have ap3 := Hp3.out w hSw; go_simp; try with_reducible rfl)
  try simp only [Act.put, List.setIfInBounds_toArray, List.set_cons_zero, List.set_cons_succ]
  refine wpAnyH_ready (rs := [25]) (by kernel_rfl) (by simp) ?_
  refine AllReadyH.cons (o := ⟨some 37, _, _, _, _, _⟩) rfl (fun K hK => ?_) AllReadyH.nil
  go_simp
  skip
  refine hK.out _ _ ?kk8n26u1 (fun hHeld => ?_)
  case kk8n26u1 => exact (by first | exact Up.alloc (show Up Nul W2 _ from hHeld) _ | exact (Up.alloc (show Up Nul W2 _ from HR.out) _).drew)
  clear hK K
  try simp only [Act.put, List.setIfInBounds_toArray, List.set_cons_zero, List.set_cons_succ]
  refine wpAnyH_ready (rs := [26]) (by kernel_rfl) (by simp) ?_
  refine AllReadyH.cons (o := ⟨some 38, _, _, _, _, _⟩) rfl (fun K hK => ?_) AllReadyH.nil
  go_simp
  go_at_call 25; refine (HH.out.h4 _ (U3.out.trans (show Up Nul W2 _ from hHeld)) _ (by first | exact World.cell?_alloc_new _ _ _ 0 | (simp; done) | go_simp)).mono ?_; rintro e wb ⟨rfl, kb⟩
  refine hK.out _ _ ?kk8n27u1 (fun hHeld => ?_)
  case kk8n27u1 => exact (Up.trans (show Up Nul W2 _ from hHeld) kb)
  clear hK K
  try simp only [Act.put, List.setIfInBounds_toArray, List.set_cons_zero, List.set_cons_succ]
  refine wpAnyH_take (i := 27) (oi := ⟨some 39, _, _, _, _, _⟩) (v := ?vk8n28u1) rfl (by kernel_rfl) (by kernel_rfl) (by kernel_rfl) (fun _ _ _ h => h) (Or.inl ⟨by rfl, ?yk8n28u1⟩) (by assumption) ?rk8n28u1
  case yk8n28u1 => (intro w hSw; (try dsimp only at hSw); go_simp; try with_reducible rfl)
  try simp only [Act.put, List.setIfInBounds_toArray, List.set_cons_zero, List.set_cons_succ]
  refine wpAnyH_take (i := 28) (oi := ⟨some 40, _, _, _, _, _⟩) (v := ?vk8n29u1) rfl (by kernel_rfl) (by kernel_rfl) (by kernel_rfl) (fun _ _ _ h => h) (Or.inl ⟨by rfl, ?yk8n29u1⟩) (by assumption) ?rk8n29u1
  case yk8n29u1 => (intro w hSw; (try dsimp only at hSw); go_simp; try with_reducible rfl)
  try simp only [Act.put, List.setIfInBounds_toArray, List.set_cons_zero, List.set_cons_succ]
  refine wpAnyH_take (i := 29) (oi := ⟨some 41, _, _, _, _, _⟩) (v := ?vk8n30u1) rfl (by kernel_rfl) (by kernel_rfl) (by kernel_rfl) (fun _ _ _ h => h) (Or.inl ⟨by rfl, ?yk8n30u1⟩) (by assumption) ?rk8n30u1
  case yk8n30u1 => (intro w hSw; (try dsimp only at hSw); go_simp; try with_reducible rfl)
  try simp only [Act.put, List.setIfInBounds_toArray, List.set_cons_zero, List.set_cons_succ]
  refine wpAnyH_take (i := 30) (oi := ⟨some 42, _, _, _, _, _⟩) (v := ?vk8x31) rfl (by kernel_rfl) (by kernel_rfl) (by kernel_rfl) (fun _ _ _ h => h) (Or.inl ⟨by rfl, ?yk8x31⟩) (by assumption) ?rk8x31
  case yk8x31 => (intro w hSw; have aq6 := Hq6.out w hSw; have aq7 := Hq7.out w hSw; go_simp; try with_reducible rfl)
  try simp only [Act.put, List.setIfInBounds_toArray, List.set_cons_zero, List.set_cons_succ]
  refine wpAnyH_take (i := 31) (oi := ⟨some 43, _, _, _, _, _⟩) (v := ?vk8n32u1) rfl (by kernel_rfl) (by kernel_rfl) (by kernel_rfl) (fun _ _ _ h => h) (Or.inl ⟨by rfl, ?yk8n32u1⟩) (by assumption) ?rk8n32u1
  case yk8n32u1 => (intro w hSw; (try dsimp only at hSw); go_simp; try with_reducible rfl)
  try simp only [Act.put, List.setIfInBounds_toArray, List.set_cons_zero, List.set_cons_succ]
  refine wpAnyH_take (i := 32) (oi := ⟨some 44, _, _, _, _, _⟩) (v := ?vk8x33) rfl (by kernel_rfl) (by kernel_rfl) (by kernel_rfl) (fun _ _ _ h => h) (Or.inl ⟨by rfl, ?yk8x33⟩) (by assumption) ?rk8x33
  case yk8x33 => (intro w hSw; have ap5 := Hp5.out w hSw; go_simp; try with_reducible rfl)
  try simp only [Act.put, List.setIfInBounds_toArray, List.set_cons_zero, List.set_cons_succ]
  refine wpAnyH_ready (rs := [33]) (by kernel_rfl) (by simp) ?_
  refine AllReadyH.cons (o := ⟨some 45, _, _, _, _, _⟩) rfl (fun K hK => ?_) AllReadyH.nil
  go_simp
  skip
  refine hK.out _ _ ?kk8n34u1 (fun hHeld => ?_)
  case kk8n34u1 => exact (by first | exact Up.alloc (show Up Nul W2 _ from hHeld) _ | exact (Up.alloc (show Up Nul W2 _ from HR.out) _).drew)
  clear hK K
  try simp only [Act.put, List.setIfInBounds_toArray, List.set_cons_zero, List.set_cons_succ]
  refine wpAnyH_ready (rs := [34]) (by kernel_rfl) (by simp) ?_
  refine AllReadyH.cons (o := ⟨some 46, _, _, _, _, _⟩) rfl (fun K hK => ?_) AllReadyH.nil
  go_simp
  go_at_call 25; refine (HH.out.h5 _ (U3.out.trans (show Up Nul W2 _ from hHeld)) _ (by first | exact World.cell?_alloc_new _ _ _ 0 | (simp; done) | go_simp)).mono ?_; rintro e wb ⟨rfl, kb⟩
  refine hK.out _ _ ?kk8n35u1 (fun hHeld => ?_)
  case kk8n35u1 => exact (Up.trans (show Up Nul W2 _ from hHeld) kb)
  clear hK K
  try simp only [Act.put, List.setIfInBounds_toArray, List.set_cons_zero, List.set_cons_succ]
  refine wpAnyH_take (i := 35) (oi := ⟨some 47, _, _, _, _, _⟩) (v := ?vk8n36u1) rfl (by kernel_rfl) (by kernel_rfl) (by kernel_rfl) (fun _ _ _ h => h) (Or.inl ⟨by rfl, ?yk8n36u1⟩) (by assumption) ?rk8n36u1
  case yk8n36u1 => (intro w hSw; (try dsimp only at hSw); go_simp; try with_reducible rfl)
  try simp only [Act.put, List.setIfInBounds_toArray, List.set_cons_zero, List.set_cons_succ]
  refine wpAnyH_take (i := 36) (oi := ⟨some 48, _, _, _, _, _⟩) (v := ?vk8n37u1) rfl (by kernel_rfl) (by kernel_rfl) (by kernel_rfl) (fun _ _ _ h => h) (Or.inl ⟨by rfl, ?yk8n37u1⟩) (by assumption) ?rk8n37u1
  case yk8n37u1 => (intro w hSw; (try dsimp only at hSw); go_simp; try with_reducible rfl)
  try simp only [Act.put, List.setIfInBounds_toArray, List.set_cons_zero, List.set_cons_succ]
  refine wpAnyH_take (i := 37) (oi := ⟨some 49, _, _, _, _, _⟩) (v := ?vk8n38u1) rfl (by kernel_rfl) (by kernel_rfl) (by kernel_rfl) (fun _ _ _ h => h) (Or.inl ⟨by rfl, ?yk8n38u1⟩) (by assumption) ?rk8n38u1
  case yk8n38u1 => (intro w hSw; (try dsimp only at hSw); go_simp; try with_reducible rfl)
  try simp only [Act.put, List.setIfInBounds_toArray, List.set_cons_zero, List.set_cons_succ]
  refine wpAnyH_take (i := 38) (oi := ⟨some 50, _, _, _, _, _⟩) (v := ?vk8x39) rfl (by kernel_rfl) (by kernel_rfl) (by kernel_rfl) (fun _ _ _ h => h) (Or.inl ⟨by rfl, ?yk8x39⟩) (by assumption) ?rk8x39
  case yk8x39 => (intro w hSw; have ap4 := Hp4.out w hSw; go_simp; try with_reducible rfl)
  try simp only [Act.put, List.setIfInBounds_toArray, List.set_cons_zero, List.set_cons_succ]
  refine wpAnyH_take (i := 39) (oi := ⟨some 51, _, _, _, _, _⟩) (v := ?vk8n40u1) rfl (by kernel_rfl) (by kernel_rfl) (by kernel_rfl) (fun _ _ _ h => h) (Or.inl ⟨by rfl, ?yk8n40u1⟩) (by assumption) ?rk8n40u1
  case yk8n40u1 => (intro w hSw; (try dsimp only at hSw); go_simp; try with_reducible rfl)
  try simp only [Act.put, List.setIfInBounds_toArray, List.set_cons_zero, List.set_cons_succ]
  refine wpAnyH_take (i := 40) (oi := ⟨some 52, _, _, _, _, _⟩) (v := ?vk8n41u1) rfl (by kernel_rfl) (by kernel_rfl) (by kernel_rfl) (fun _ _ _ h => h) (Or.inl ⟨by rfl, ?yk8n41u1⟩) (by assumption) ?rk8n41u1
  case yk8n41u1 => (intro w hSw; (try dsimp only at hSw); go_simp; try with_reducible rfl)
  try simp only [Act.put, List.setIfInBounds_toArray, List.set_cons_zero, List.set_cons_succ]
  refine wpAnyH_take (i := 41) (oi := ⟨some 53, _, _, _, _, _⟩) (v := ?vk8x42) rfl (by kernel_rfl) (by kernel_rfl) (by kernel_rfl) (fun _ _ _ h => h) (Or.inl ⟨by rfl, ?yk8x42⟩) (by assumption) ?rk8x42
  case yk8x42 => (intro w hSw; have aq8 := Hq8.out w hSw; go_simp; try with_reducible rfl)
  try simp only [Act.put, List.setIfInBounds_toArray, List.set_cons_zero, List.set_cons_succ]
  refine wpAnyH_take (i := 42) (oi := ⟨some 54, _, _, _, _, _⟩) (v := ?vk8n43u1) rfl (by kernel_rfl) (by kernel_rfl) (by kernel_rfl) (fun _ _ _ h => h) (Or.inl ⟨by rfl, ?yk8n43u1⟩) (by assumption) ?rk8n43u1
  case yk8n43u1 => (intro w hSw; (try dsimp only at hSw); go_simp; try with_reducible rfl)
  try simp only [Act.put, List.setIfInBounds_toArray, List.set_cons_zero, List.set_cons_succ]
  refine wpAnyH_take (i := 43) (oi := ⟨some 55, _, _, _, _, _⟩) (v := ?vk8n44u1) rfl (by kernel_rfl) (by kernel_rfl) (by kernel_rfl) (fun _ _ _ h => h) (Or.inl ⟨by rfl, ?yk8n44u1⟩) (by assumption) ?rk8n44u1
  case yk8n44u1 => (intro w hSw; (try dsimp only at hSw); go_simp; try with_reducible rfl)
  try simp only [Act.put, List.setIfInBounds_toArray, List.set_cons_zero, List.set_cons_succ]
  refine wpAnyH_take (i := 44) (oi := ⟨some 56, _, _, _, _, _⟩) (v := ?vk8n45u1) rfl (by kernel_rfl) (by kernel_rfl) (by kernel_rfl) (fun _ _ _ h => h) (Or.inl ⟨by rfl, ?yk8n45u1⟩) (by assumption) ?rk8n45u1
  case yk8n45u1 => (intro w hSw; (try dsimp only at hSw); go_simp; try with_reducible rfl)
  try simp only [Act.put, List.setIfInBounds_toArray, List.set_cons_zero, List.set_cons_succ]
  refine wpAnyH_take (i := 45) (oi := ⟨some 57, _, _, _, _, _⟩) (v := ?vk8n46u1) rfl (by kernel_rfl) (by kernel_rfl) (by kernel_rfl) (fun _ _ _ h => h) (Or.inl ⟨by rfl, ?yk8n46u1⟩) (by assumption) ?rk8n46u1
  case yk8n46u1 => (intro w hSw; (try dsimp only at hSw); go_simp; try with_reducible rfl)
  try simp only [Act.put, List.setIfInBounds_toArray, List.set_cons_zero, List.set_cons_succ]
  refine wpAnyH_take (i := 46) (oi := ⟨some 58, _, _, _, _, _⟩) (v := ?vk8x47) rfl (by kernel_rfl) (by kernel_rfl) (by kernel_rfl) (fun _ _ _ h => h) (Or.inl ⟨by rfl, ?yk8x47⟩) (by assumption) ?rk8x47
  case yk8x47 => (intro w hSw; have aq9 := Hq9.out w hSw; have aq10 := Hq10.out w hSw; go_simp; try with_reducible rfl)
  try simp only [Act.put, List.setIfInBounds_toArray, List.set_cons_zero, List.set_cons_succ]
  refine wpAnyH_take (i := 47) (oi := ⟨some 59, _, _, _, _, _⟩) (v := ?vk8n48u1) rfl (by kernel_rfl) (by kernel_rfl) (by kernel_rfl) (fun _ _ _ h => h) (Or.inl ⟨by rfl, ?yk8n48u1⟩) (by assumption) ?rk8n48u1
  case yk8n48u1 => (intro w hSw; (try dsimp only at hSw); go_simp; try with_reducible rfl)
  try simp only [Act.put, List.setIfInBounds_toArray, List.set_cons_zero, List.set_cons_succ]
  refine wpAnyH_take (i := 48) (oi := ⟨some 60, _, _, _, _, _⟩) (v := ?vk8x49) rfl (by kernel_rfl) (by kernel_rfl) (by kernel_rfl) (fun _ _ _ h => h) (Or.inl ⟨by rfl, ?yk8x49⟩) (by assumption) ?rk8x49
  case yk8x49 => (intro w hSw; have ap4 := Hp4.out w hSw; go_simp; try with_reducible rfl)
  try simp only [Act.put, List.setIfInBounds_toArray, List.set_cons_zero, List.set_cons_succ]
  refine wpAnyH_ready (rs := [49]) (by kernel_rfl) (by simp) ?_
  refine AllReadyH.cons (o := ⟨some 61, _, _, _, _, _⟩) rfl (fun K hK => ?_) AllReadyH.nil
  go_simp
  go_at_call 25; refine (HH.out.h7 _ (U3.out.trans (show Up Nul W2 _ from hHeld))).mono ?_; rintro e wb ⟨rfl, kb⟩
  refine hK.out _ _ ?kk8n50u1 (fun hHeld => ?_)
  case kk8n50u1 => exact (Up.trans (show Up Nul W2 _ from hHeld) kb)
  clear hK K
  try simp only [Act.put, List.setIfInBounds_toArray, List.set_cons_zero, List.set_cons_succ]
  refine wpAnyH_take (i := 50) (oi := ⟨some 62, _, _, _, _, _⟩) (v := ?vk8n51u1) rfl (by kernel_rfl) (by kernel_rfl) (by kernel_rfl) (fun _ _ _ h => h) (Or.inl ⟨by rfl, ?yk8n51u1⟩) (by assumption) ?rk8n51u1
  case yk8n51u1 => (intro w hSw; (try dsimp only at hSw); go_simp; try with_reducible rfl)
  try simp only [Act.put, List.setIfInBounds_toArray, List.set_cons_zero, List.set_cons_succ]
  refine wpAnyH_take (i := 51) (oi := ⟨some 63, _, _, _, _, _⟩) (v := ?vk8n52u1) rfl (by kernel_rfl) (by kernel_rfl) (by kernel_rfl) (fun _ _ _ h => h) (Or.inl ⟨by rfl, ?yk8n52u1⟩) (by assumption) ?rk8n52u1
  case yk8n52u1 => (intro w hSw; (try dsimp only at hSw); go_simp; try with_reducible rfl)
  try simp only [Act.put, List.setIfInBounds_toArray, List.set_cons_zero, List.set_cons_succ]
  refine wpAnyH_take (i := 52) (oi := ⟨some 64, _, _, _, _, _⟩) (v := ?vk8n53u1) rfl (by kernel_rfl) (by kernel_rfl) (by kernel_rfl) (fun _ _ _ h => h) (Or.inl ⟨by rfl, ?yk8n53u1⟩) (by assumption) ?rk8n53u1
  case yk8n53u1 => (intro w hSw; (try dsimp only at hSw); go_simp; try with_reducible rfl)
  try simp only [Act.put, List.setIfInBounds_toArray, List.set_cons_zero, List.set_cons_succ]
  refine wpAnyH_take (i := 53) (oi := ⟨some 65, _, _, _, _, _⟩) (v := ?vk8x54) rfl (by kernel_rfl) (by kernel_rfl) (by kernel_rfl) (fun _ _ _ h => h) (Or.inl ⟨by rfl, ?yk8x54⟩) (by assumption) ?rk8x54
  case yk8x54 => (intro w hSw; have ap6 := Hp6.out w hSw; go_simp; try with_reducible rfl)
  try simp only [Act.put, List.setIfInBounds_toArray, List.set_cons_zero, List.set_cons_succ]
  refine wpAnyH_take (i := 54) (oi := ⟨some 66, _, _, _, _, _⟩) (v := ?vk8n55u1) rfl (by kernel_rfl) (by kernel_rfl) (by kernel_rfl) (fun _ _ _ h => h) (Or.inl ⟨by rfl, ?yk8n55u1⟩) (by assumption) ?rk8n55u1
  case yk8n55u1 => (intro w hSw; (try dsimp only at hSw); go_simp; try with_reducible rfl)
  try simp only [Act.put, List.setIfInBounds_toArray, List.set_cons_zero, List.set_cons_succ]
  refine wpAnyH_take (i := 55) (oi := ⟨some 67, _, _, _, _, _⟩) (v := ?vk8x56) rfl (by kernel_rfl) (by kernel_rfl) (by kernel_rfl) (fun _ _ _ h => h) (Or.inl ⟨by rfl, ?yk8x56⟩) (by assumption) ?rk8x56
  case yk8x56 => (intro w hSw; have aq0 := Hq0.out w hSw; have aq1 := Hq1.out w hSw; have aq2 := Hq2.out w hSw; have aq3 := Hq3.out w hSw; have aq4 := Hq4.out w hSw; have aq5 := Hq5.out w hSw; have aq6 := Hq6.out w hSw; have aq7 := Hq7.out w hSw; have aq8 := Hq8.out w hSw; have aq9 := Hq9.out w hSw; have aq10 := Hq10.out w hSw; have aq11 := Hq11.out w hSw; have aq12 := Hq12.out w hSw; have aq13 := Hq13.out w hSw; have aq14 := Hq14.out w hSw; go_simp; try with_reducible rfl)
  try simp only [Act.put, List.setIfInBounds_toArray, List.set_cons_zero, List.set_cons_succ]
  refine wpAnyH_take (i := 56) (oi := ⟨some 68, _, _, _, _, _⟩) (v := ?vk8n57u1) rfl (by kernel_rfl) (by kernel_rfl) (by kernel_rfl) (fun _ _ _ h => h) (Or.inl ⟨by rfl, ?yk8n57u1⟩) (by assumption) ?rk8n57u1
  case yk8n57u1 => (intro w hSw; (try dsimp only at hSw); go_simp; try with_reducible rfl)
  try simp only [Act.put, List.setIfInBounds_toArray, List.set_cons_zero, List.set_cons_succ]
  refine wpAnyH_take (i := 57) (oi := ⟨some 69, _, _, _, _, _⟩) (v := ?vk8x58) rfl (by kernel_rfl) (by kernel_rfl) (by kernel_rfl) (fun _ _ _ h => h) (Or.inl ⟨by rfl, ?yk8x58⟩) (by assumption) ?rk8x58
  case yk8x58 => (intro w hSw; have ap4 := Hp4.out w hSw; go_simp; try with_reducible rfl)
  try simp only [Act.put, List.setIfInBounds_toArray, List.set_cons_zero, List.set_cons_succ]
  refine wpAnyH_ready (rs := [58]) (by kernel_rfl) (by simp) ?_
  refine AllReadyH.cons (o := ⟨some 70, _, _, _, _, _⟩) rfl (fun K hK => ?_) AllReadyH.nil
  go_simp
  go_at_call 27; refine (H8.out _ (U3.out.trans (show Up Nul W2 _ from hHeld))).mono ?_; rintro e wb ⟨rfl, kb⟩
  refine hK.out _ _ ?kk8n59u1 (fun hHeld => ?_)
  case kk8n59u1 => exact (Up.trans (show Up Nul W2 _ from hHeld) kb)
  clear hK K
  try simp only [Act.put, List.setIfInBounds_toArray, List.set_cons_zero, List.set_cons_succ]
  refine wpAnyH_take (i := 59) (oi := ⟨some 71, _, _, _, _, _⟩) (v := ?vk8n60u1) rfl (by kernel_rfl) (by kernel_rfl) (by kernel_rfl) (fun _ _ _ h => h) (Or.inl ⟨by rfl, ?yk8n60u1⟩) (by assumption) ?rk8n60u1
  case yk8n60u1 => (intro w hSw; (try dsimp only at hSw); go_simp; try with_reducible rfl)
  try simp only [Act.put, List.setIfInBounds_toArray, List.set_cons_zero, List.set_cons_succ]
  refine wpAnyH_take (i := 60) (oi := ⟨some 72, _, _, _, _, _⟩) (v := ?vk8n61u1) rfl (by kernel_rfl) (by kernel_rfl) (by kernel_rfl) (fun _ _ _ h => h) (Or.inl ⟨by rfl, ?yk8n61u1⟩) (by assumption) ?rk8n61u1
  case yk8n61u1 => (intro w hSw; (try dsimp only at hSw); go_simp; try with_reducible rfl)
  try simp only [Act.put, List.setIfInBounds_toArray, List.set_cons_zero, List.set_cons_succ]
  refine wpAnyH_take (i := 61) (oi := ⟨some 73, _, _, _, _, _⟩) (v := ?vk8n62u1) rfl (by kernel_rfl) (by kernel_rfl) (by kernel_rfl) (fun _ _ _ h => h) (Or.inl ⟨by rfl, ?yk8n62u1⟩) (by assumption) ?rk8n62u1
  case yk8n62u1 => (intro w hSw; (try dsimp only at hSw); go_simp; try with_reducible rfl)
  try simp only [Act.put, List.setIfInBounds_toArray, List.set_cons_zero, List.set_cons_succ]
  refine wpAnyH_take (i := 62) (oi := ⟨some 74, _, _, _, _, _⟩) (v := undef) rfl (by kernel_rfl) (by kernel_rfl) (by kernel_rfl) (fun _ _ _ h => h) (Or.inr ⟨by rfl, rfl⟩) (by assumption) ?rk8n63u1
  try simp only [Act.put, List.setIfInBounds_toArray, List.set_cons_zero, List.set_cons_succ]
  refine wpAnyH_take (i := 63) (oi := ⟨some 75, _, _, _, _, _⟩) (v := undef) rfl (by kernel_rfl) (by kernel_rfl) (by kernel_rfl) (fun _ _ _ h => h) (Or.inr ⟨by rfl, rfl⟩) (by assumption) ?rk8n64u1
  try simp only [Act.put, List.setIfInBounds_toArray, List.set_cons_zero, List.set_cons_succ]
  refine wpAnyH_take (i := 64) (oi := ⟨some 76, _, _, _, _, _⟩) (v := undef) rfl (by kernel_rfl) (by kernel_rfl) (by kernel_rfl) (fun _ _ _ h => h) (Or.inr ⟨by rfl, rfl⟩) (by assumption) ?rk8n65u1
  try simp only [Act.put, List.setIfInBounds_toArray, List.set_cons_zero, List.set_cons_succ]
  refine wpAnyH_take (i := 65) (oi := ⟨some 77, _, _, _, _, _⟩) (v := undef) rfl (by kernel_rfl) (by kernel_rfl) (by kernel_rfl) (fun _ _ _ h => h) (Or.inr ⟨by rfl, rfl⟩) (by assumption) ?rk8n66u1
  try simp only [Act.put, List.setIfInBounds_toArray, List.set_cons_zero, List.set_cons_succ]
  refine wpAnyH_take (i := 66) (oi := ⟨some 78, _, _, _, _, _⟩) (v := ?vk8n67u1) rfl (by kernel_rfl) (by kernel_rfl) (by kernel_rfl) (fun _ _ _ h => h) (Or.inl ⟨by rfl, ?yk8n67u1⟩) (by assumption) ?rk8n67u1
  case yk8n67u1 => (intro w hSw; (try dsimp only at hSw); go_simp; try with_reducible rfl)
  try simp only [Act.put, List.setIfInBounds_toArray, List.set_cons_zero, List.set_cons_succ]
  refine wpAnyH_take (i := 67) (oi := ⟨some 79, _, _, _, _, _⟩) (v := ?vk8n68u1) rfl (by kernel_rfl) (by kernel_rfl) (by kernel_rfl) (fun _ _ _ h => h) (Or.inl ⟨by rfl, ?yk8n68u1⟩) (by assumption) ?rk8n68u1
  case yk8n68u1 => (intro w hSw; (try dsimp only at hSw); go_simp; try with_reducible rfl)
  try simp only [Act.put, List.setIfInBounds_toArray, List.set_cons_zero, List.set_cons_succ]
  refine wpAnyH_take (i := 68) (oi := ⟨some 80, _, _, _, _, _⟩) (v := undef) rfl (by kernel_rfl) (by kernel_rfl) (by kernel_rfl) (fun _ _ _ h => h) (Or.inr ⟨by rfl, rfl⟩) (by assumption) ?rk8n69u1
  try simp only [Act.put, List.setIfInBounds_toArray, List.set_cons_zero, List.set_cons_succ]
  refine wpAnyH_take (i := 69) (oi := ⟨some 81, _, _, _, _, _⟩) (v := undef) rfl (by kernel_rfl) (by kernel_rfl) (by kernel_rfl) (fun _ _ _ h => h) (Or.inr ⟨by rfl, rfl⟩) (by assumption) ?rk8n70u1
  try simp only [Act.put, List.setIfInBounds_toArray, List.set_cons_zero, List.set_cons_succ]
  refine wpAnyH_take (i := 70) (oi := ⟨some 82, _, _, _, _, _⟩) (v := undef) rfl (by kernel_rfl) (by kernel_rfl) (by kernel_rfl) (fun _ _ _ h => h) (Or.inr ⟨by rfl, rfl⟩) (by assumption) ?rk8n71u1
  try simp only [Act.put, List.setIfInBounds_toArray, List.set_cons_zero, List.set_cons_succ]
  refine wpAnyH_take (i := 71) (oi := ⟨some 83, _, _, _, _, _⟩) (v := undef) rfl (by kernel_rfl) (by kernel_rfl) (by kernel_rfl) (fun _ _ _ h => h) (Or.inr ⟨by rfl, rfl⟩) (by assumption) ?rk8n72u1
  try simp only [Act.put, List.setIfInBounds_toArray, List.set_cons_zero, List.set_cons_succ]
  refine wpAnyH_take (i := 72) (oi := ⟨some 84, _, _, _, _, _⟩) (v := undef) rfl (by kernel_rfl) (by kernel_rfl) (by kernel_rfl) (fun _ _ _ h => h) (Or.inr ⟨by rfl, rfl⟩) (by assumption) ?rk8n73u1
  try simp only [Act.put, List.setIfInBounds_toArray, List.set_cons_zero, List.set_cons_succ]
  refine wpAnyH_take (i := 73) (oi := ⟨some 85, _, _, _, _, _⟩) (v := undef) rfl (by kernel_rfl) (by kernel_rfl) (by kernel_rfl) (fun _ _ _ h => h) (Or.inr ⟨by rfl, rfl⟩) (by assumption) ?rk8n74u1
  try simp only [Act.put, List.setIfInBounds_toArray, List.set_cons_zero, List.set_cons_succ]
  refine wpAnyH_take (i := 74) (oi := ⟨some 86, _, _, _, _, _⟩) (v := ?vk8n75u1) rfl (by kernel_rfl) (by kernel_rfl) (by kernel_rfl) (fun _ _ _ h => h) (Or.inl ⟨by rfl, ?yk8n75u1⟩) (by assumption) ?rk8n75u1
  case yk8n75u1 => (intro w hSw; (try dsimp only at hSw); go_simp; try with_reducible rfl)
  try simp only [Act.put, List.setIfInBounds_toArray, List.set_cons_zero, List.set_cons_succ]
  refine wpAnyH_take (i := 75) (oi := ⟨some 2, _, _, _, _, _⟩) (v := ?vk8n76u1) rfl (by kernel_rfl) (by kernel_rfl) (by kernel_rfl) (fun _ _ _ h => h) (Or.inl ⟨by rfl, ?yk8n76u1⟩) (by assumption) ?rk8n76u1
  case yk8n76u1 => (intro w hSw; (try dsimp only at hSw); go_simp; try with_reducible rfl)
  try simp only [Act.put, List.setIfInBounds_toArray, List.set_cons_zero, List.set_cons_succ]
  refine wpAnyH_done (by kernel_rfl) ?_ _
  have HE := hid (U3.out.trans (show Up Nul W2 _ from hHeld))
  clear hHeld
  go_wp2
  go_ret
  exact ⟨by first | rfl | simp, HE.out⟩
end Go.Proofs.YtmhmlfgikmeejaaDoor
