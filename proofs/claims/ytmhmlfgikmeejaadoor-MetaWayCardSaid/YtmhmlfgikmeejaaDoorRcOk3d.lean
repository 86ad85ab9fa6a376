/- 'Ok', by the first of its parts that is false. -/
import Derived.Test.YtmhmlfgikmeejaaDoorRcOkC
import Derived.Test.YtmhmlfgikmeejaaDoorRC
namespace Go.Proofs.YtmhmlfgikmeejaaDoor
open Go.RowKit
set_option linter.unusedVariables false
set_option linter.unusedSimpArgs false
set_option maxRecDepth 100000 in
set_option maxHeartbeats 4000000 in
theorem ok_case9 (w : World) (s : ByteArray) (n sid co : Int) (sa : Option Addr) (ns cs : Nat) (la : Option Addr) (nl cl : Nat) (t : Tb) (k : Nat) (c1 c2 c3 c4 c5 c6 c7 c8 c9 c10 : Bool) (hk : spn 1 8 (k : Int) = true) (hS : Shp w) (hc1 : c1 = true) (hc2 : c2 = true) (hc3 : c3 = true) (hc4 : c4 = true) (hc5 : c5 = true) (hc6 : c6 = true) (hc7 : c7 = true) (hc8 : c8 = true) (hc9 : c9 = false)
    (H : OkC w s n sid co sa ns cs la nl cl t k c1 c2 c3 c4 c5 c6 c7 c8 c9 c10) :
    Calls Tryd.prog 16 #[.agg #[.int .i64 (k : Nat), .string s, .int .i64 n, .int .i64 sid, .slice sa ns cs, .int .i64 co, .slice la nl cl, .int .i64 t.hot, .int .i64 t.warm, .int .i64 t.gap, .int .i64 t.add, .int .i64 t.top, .int .i64 t.half]] w
      fun e w' => e = .returned (.bool (c1 && c2 && c3 && c4 && c5 && c6 && c7 && c8 && c9 && c10)) ∧ Up Nul w w' := by
  subst hc1 hc2 hc3 hc4 hc5 hc6 hc7 hc8 hc9
  obtain ⟨q8, h8e, h8c⟩ := H.h8 rfl
  have H8 := hid h8c
  clear h8c
  have h6e := H.h6
  have HK := hid (fun W => kind_any (k : Int) W)
  rw [hk] at HK
  have hk9 : k < 9 := by
    unfold spn at hk
    simp at hk
    omega
  have i0 : (0 : Int) ≤ (k : Int) := by omega
  have i1 : (k : Int) < 9 := by omega
  have HH := hid H
  clear H
  obtain ⟨C, hC⟩ : ∃ C : Array Value, C = #[.int .i64 (k : Nat), .string s, .int .i64 n, .int .i64 sid, .slice sa ns cs, .int .i64 co, .slice la nl cl, .int .i64 t.hot, .int .i64 t.warm, .int .i64 t.gap, .int .i64 t.add, .int .i64 t.top, .int .i64 t.half] := ⟨_, rfl⟩
  have HUA := hid ((Up.refl Nul w).alloc (.cells C 33))
  have HBA : Hid ((w.alloc (.cells C 33)).heap[w.heap.size]? = some (.cells C 33 (0, 0))) := heap_alloc_new _ _
  have HLT : Hid (w.heap.size < (w.alloc (.cells C 33)).heap.size) := by show _ < _; simp
  have HSH := hid hS
  go_enter Tryd.func16, Tryd.ntmps16
  go_wp2_with fail
  rw [← hC]
  refine (HK.out _).mono ?_
  rintro e w1 ⟨rfl, u1⟩
  have hb := (u1.block _ HLT.out id).trans HBA.out
  have HU1 := hid (HUA.out.trans u1)
  have hlt := Nat.lt_of_lt_of_le HLT.out u1.size
  clear u1 HBA HUA HLT
  have y0 := (HSH.out.nxt HU1.out).c k 0 hk9 (by omega)
  have y1 := (HSH.out.nxt HU1.out).c k 1 hk9 (by omega)
  have y2 := (HSH.out.nxt HU1.out).c k 2 hk9 (by omega)
  have y3 := (HSH.out.nxt HU1.out).c k 3 hk9 (by omega)
  have y4 := (HSH.out.nxt HU1.out).c k 4 hk9 (by omega)
  have y5 := (HSH.out.nxt HU1.out).c k 5 hk9 (by omega)
  have y6 := (HSH.out.nxt HU1.out).c k 6 hk9 (by omega)
  have y7 := (HSH.out.nxt HU1.out).c k 7 hk9 (by omega)
  have y8 := (HSH.out.nxt HU1.out).c k 8 hk9 (by omega)
  have y9 := (HSH.out.nxt HU1.out).c k 9 hk9 (by omega)
  have y10 := (HSH.out.nxt HU1.out).c k 10 hk9 (by omega)
  have y11 := (HSH.out.nxt HU1.out).c k 11 hk9 (by omega)
  have y12 := (HSH.out.nxt HU1.out).c k 12 hk9 (by omega)
  have y13 := (HSH.out.nxt HU1.out).c k 13 hk9 (by omega)
  have y14 := (HSH.out.nxt HU1.out).c k 14 hk9 (by omega)
  rw [Nat.add_zero] at y0
  generalize w.heap.size = p at hb hlt ⊢
  have x0 : w1.cell? ⟨p, 0, none⟩ = some (.int .i64 (k : Nat)) := by simp [World.cell?, hb, hC]
  clear hk9
  go_wp2_with fail
  obtain ⟨W2, hW2⟩ : ∃ W, W = w1.alloc (.cells #[.int .i64 (sh k 0), .int .i64 (sh k 1), .int .i64 (sh k 2), .int .i64 (sh k 3), .int .i64 (sh k 4), .int .i64 (sh k 5), .int .i64 (sh k 6), .int .i64 (sh k 7), .int .i64 (sh k 8), .int .i64 (sh k 9), .int .i64 (sh k 10), .int .i64 (sh k 11), .int .i64 (sh k 12), .int .i64 (sh k 13), .int .i64 (sh k 14)] 73) := ⟨_, rfl⟩
  have U2 : Hid (Up Nul w1 W2) := by show Up _ _ _; rw [hW2]; exact (Up.refl Nul w1).alloc _
  have hq : W2.heap[w1.heap.size]? = some (.cells #[.int .i64 (sh k 0), .int .i64 (sh k 1), .int .i64 (sh k 2), .int .i64 (sh k 3), .int .i64 (sh k 4), .int .i64 (sh k 5), .int .i64 (sh k 6), .int .i64 (sh k 7), .int .i64 (sh k 8), .int .i64 (sh k 9), .int .i64 (sh k 10), .int .i64 (sh k 11), .int .i64 (sh k 12), .int .i64 (sh k 13), .int .i64 (sh k 14)] 73 (0, 0)) := by rw [hW2]; exact heap_alloc_new _ _
  have hp := (U2.out.block p hlt id).trans hb
  rw [hC] at hp
  have hq2 : w1.heap.size < W2.heap.size := by rw [hW2]; simp
  have hp2 := Nat.lt_of_lt_of_le hlt U2.out.size
  have U3 := hid (HU1.out.trans U2.out)
  rw [← hW2]
  clear hW2 x0 y0 y1 y2 y3 y4 y5 y6 y7 y8 y9 y10 y11 y12 y13 y14 hb U2 HU1 hlt
  generalize w1.heap.size = q at hq hq2 ⊢
  have Hp1 : Hid (∀ W, Up Nul W2 W → W.cell? ⟨p, 1, none⟩ = some (.string s)) := fun W u => by have a := (u.block p hp2 id).trans hp; simp only [World.cell?, a]; rfl
  have Hp2 : Hid (∀ W, Up Nul W2 W → W.cell? ⟨p, 2, none⟩ = some (.int .i64 n)) := fun W u => by have a := (u.block p hp2 id).trans hp; simp only [World.cell?, a]; rfl
  have Hp3 : Hid (∀ W, Up Nul W2 W → W.cell? ⟨p, 3, none⟩ = some (.int .i64 sid)) := fun W u => by have a := (u.block p hp2 id).trans hp; simp only [World.cell?, a]; rfl
  have Hp4 : Hid (∀ W, Up Nul W2 W → W.cell? ⟨p, 4, none⟩ = some (.slice sa ns cs)) := fun W u => by have a := (u.block p hp2 id).trans hp; simp only [World.cell?, a]; rfl
  have Hp5 : Hid (∀ W, Up Nul W2 W → W.cell? ⟨p, 5, none⟩ = some (.int .i64 co)) := fun W u => by have a := (u.block p hp2 id).trans hp; simp only [World.cell?, a]; rfl
  have Hp6 : Hid (∀ W, Up Nul W2 W → W.cell? ⟨p, 6, none⟩ = some (.slice la nl cl)) := fun W u => by have a := (u.block p hp2 id).trans hp; simp only [World.cell?, a]; rfl
  have Hp7 : Hid (∀ W, Up Nul W2 W → W.cell? ⟨p, 7, none⟩ = some (.int .i64 t.hot)) := fun W u => by have a := (u.block p hp2 id).trans hp; simp only [World.cell?, a]; rfl
  have Hp8 : Hid (∀ W, Up Nul W2 W → W.cell? ⟨p, 8, none⟩ = some (.int .i64 t.warm)) := fun W u => by have a := (u.block p hp2 id).trans hp; simp only [World.cell?, a]; rfl
  have Hp9 : Hid (∀ W, Up Nul W2 W → W.cell? ⟨p, 9, none⟩ = some (.int .i64 t.gap)) := fun W u => by have a := (u.block p hp2 id).trans hp; simp only [World.cell?, a]; rfl
  have Hp10 : Hid (∀ W, Up Nul W2 W → W.cell? ⟨p, 10, none⟩ = some (.int .i64 t.add)) := fun W u => by have a := (u.block p hp2 id).trans hp; simp only [World.cell?, a]; rfl
  have Hp11 : Hid (∀ W, Up Nul W2 W → W.cell? ⟨p, 11, none⟩ = some (.int .i64 t.top)) := fun W u => by have a := (u.block p hp2 id).trans hp; simp only [World.cell?, a]; rfl
  have Hp12 : Hid (∀ W, Up Nul W2 W → W.cell? ⟨p, 12, none⟩ = some (.int .i64 t.half)) := fun W u => by have a := (u.block p hp2 id).trans hp; simp only [World.cell?, a]; rfl
  have Hq0 : Hid (∀ W, Up Nul W2 W → W.cell? ⟨q, 0, none⟩ = some (.int .i64 (sh k 0))) := fun W u => by have a := (u.block q hq2 id).trans hq; simp only [World.cell?, a]; rfl
  have Hq1 : Hid (∀ W, Up Nul W2 W → W.cell? ⟨q, 1, none⟩ = some (.int .i64 (sh k 1))) := fun W u => by have a := (u.block q hq2 id).trans hq; simp only [World.cell?, a]; rfl
  have Hq2 : Hid (∀ W, Up Nul W2 W → W.cell? ⟨q, 2, none⟩ = some (.int .i64 (sh k 2))) := fun W u => by have a := (u.block q hq2 id).trans hq; simp only [World.cell?, a]; rfl
  have Hq3 : Hid (∀ W, Up Nul W2 W → W.cell? ⟨q, 3, none⟩ = some (.int .i64 (sh k 3))) := fun W u => by have a := (u.block q hq2 id).trans hq; simp only [World.cell?, a]; rfl
  have Hq4 : Hid (∀ W, Up Nul W2 W → W.cell? ⟨q, 4, none⟩ = some (.int .i64 (sh k 4))) := fun W u => by have a := (u.block q hq2 id).trans hq; simp only [World.cell?, a]; rfl
  have Hq5 : Hid (∀ W, Up Nul W2 W → W.cell? ⟨q, 5, none⟩ = some (.int .i64 (sh k 5))) := fun W u => by have a := (u.block q hq2 id).trans hq; simp only [World.cell?, a]; rfl
  have Hq6 : Hid (∀ W, Up Nul W2 W → W.cell? ⟨q, 6, none⟩ = some (.int .i64 (sh k 6))) := fun W u => by have a := (u.block q hq2 id).trans hq; simp only [World.cell?, a]; rfl
  have Hq7 : Hid (∀ W, Up Nul W2 W → W.cell? ⟨q, 7, none⟩ = some (.int .i64 (sh k 7))) := fun W u => by have a := (u.block q hq2 id).trans hq; simp only [World.cell?, a]; rfl
  have Hq8 : Hid (∀ W, Up Nul W2 W → W.cell? ⟨q, 8, none⟩ = some (.int .i64 (sh k 8))) := fun W u => by have a := (u.block q hq2 id).trans hq; simp only [World.cell?, a]; rfl
  have Hq9 : Hid (∀ W, Up Nul W2 W → W.cell? ⟨q, 9, none⟩ = some (.int .i64 (sh k 9))) := fun W u => by have a := (u.block q hq2 id).trans hq; simp only [World.cell?, a]; rfl
  have Hq10 : Hid (∀ W, Up Nul W2 W → W.cell? ⟨q, 10, none⟩ = some (.int .i64 (sh k 10))) := fun W u => by have a := (u.block q hq2 id).trans hq; simp only [World.cell?, a]; rfl
  have Hq11 : Hid (∀ W, Up Nul W2 W → W.cell? ⟨q, 11, none⟩ = some (.int .i64 (sh k 11))) := fun W u => by have a := (u.block q hq2 id).trans hq; simp only [World.cell?, a]; rfl
  have Hq12 : Hid (∀ W, Up Nul W2 W → W.cell? ⟨q, 12, none⟩ = some (.int .i64 (sh k 12))) := fun W u => by have a := (u.block q hq2 id).trans hq; simp only [World.cell?, a]; rfl
  have Hq13 : Hid (∀ W, Up Nul W2 W → W.cell? ⟨q, 13, none⟩ = some (.int .i64 (sh k 13))) := fun W u => by have a := (u.block q hq2 id).trans hq; simp only [World.cell?, a]; rfl
  have Hq14 : Hid (∀ W, Up Nul W2 W → W.cell? ⟨q, 14, none⟩ = some (.int .i64 (sh k 14))) := fun W u => by have a := (u.block q hq2 id).trans hq; simp only [World.cell?, a]; rfl
  clear hp hq hp2 hq2
  have HR := hid (Up.refl Nul W2)
  simp only [List.append]
  refine wp_region_held_drew (S := (fun W => Up Nul W2 W)) (by kernel_rfl) (by exact HR.out.drew) (fun hHeld => ?_)
  refine wpAnyH_take (i := 0) (oi := ⟨some 12, _, _, _, _, _⟩) (v := ?vk9n1u1) rfl (by kernel_rfl) (by kernel_rfl) (by kernel_rfl) (fun _ _ _ h => h) (Or.inl ⟨by rfl, ?yk9n1u1⟩) (by assumption) ?rk9n1u1
  case yk9n1u1 => (intro w hSw; (try dsimp only at hSw); go_simp; try with_reducible rfl)
  try simp only [Act.put, List.setIfInBounds_toArray, List.set_cons_zero, List.set_cons_succ]
  refine wpAnyH_take (i := 1) (oi := ⟨some 13, _, _, _, _, _⟩) (v := ?vk9x2) rfl (by kernel_rfl) (by kernel_rfl) (by kernel_rfl) (fun _ _ _ h => h) (Or.inl ⟨by rfl, ?yk9x2⟩) (by assumption) ?rk9x2
  case yk9x2 => (intro w hSw; have aq0 := Hq0.out w hSw; have aq1 := Hq1.out w hSw; go_simp; try with_reducible rfl)
  try simp only [Act.put, List.setIfInBounds_toArray, List.set_cons_zero, List.set_cons_succ]
  refine wpAnyH_take (i := 2) (oi := ⟨some 14, _, _, _, _, _⟩) (v := ?vk9n3u1) rfl (by kernel_rfl) (by kernel_rfl) (by kernel_rfl) (fun _ _ _ h => h) (Or.inl ⟨by rfl, ?yk9n3u1⟩) (by assumption) ?rk9n3u1
  case yk9n3u1 => (intro w hSw; (try dsimp only at hSw); go_simp; try with_reducible rfl)
  try simp only [Act.put, List.setIfInBounds_toArray, List.set_cons_zero, List.set_cons_succ]
  refine wpAnyH_take (i := 3) (oi := ⟨some 15, _, _, _, _, _⟩) (v := ?vk9x4) rfl (by kernel_rfl) (by kernel_rfl) (by kernel_rfl) (fun _ _ _ h => h) (Or.inl ⟨by rfl, ?yk9x4⟩) (by assumption) ?rk9x4
  case yk9x4 => (intro w hSw; have ap1 := Hp1.out w hSw; go_simp; try with_reducible rfl)
  try simp only [Act.put, List.setIfInBounds_toArray, List.set_cons_zero, List.set_cons_succ]
  refine wpAnyH_take (i := 4) (oi := ⟨some 16, _, _, _, _, _⟩) (v := ?vk9n5u1) rfl (by kernel_rfl) (by kernel_rfl) (by kernel_rfl) (fun _ _ _ h => h) (Or.inl ⟨by rfl, ?yk9n5u1⟩) (by assumption) ?rk9n5u1
  case yk9n5u1 => (intro w hSw; (try dsimp only at hSw); go_simp; try with_reducible rfl)
  try simp only [Act.put, List.setIfInBounds_toArray, List.set_cons_zero, List.set_cons_succ]
  refine wpAnyH_ready (rs := [5]) (by kernel_rfl) (by simp) ?_
  refine AllReadyH.cons (o := ⟨some 17, _, _, _, _, _⟩) rfl (fun K hK => ?_) AllReadyH.nil
  go_simp
  skip
  refine hK.out _ _ ?kk9n6u1 (fun hHeld => ?_)
  case kk9n6u1 => exact (by first | exact Up.alloc (show Up Nul W2 _ from hHeld) _ | exact (Up.alloc (show Up Nul W2 _ from HR.out) _).drew)
  clear hK K
  try simp only [Act.put, List.setIfInBounds_toArray, List.set_cons_zero, List.set_cons_succ]
  refine wpAnyH_ready (rs := [6]) (by kernel_rfl) (by simp) ?_
  refine AllReadyH.cons (o := ⟨some 18, _, _, _, _, _⟩) rfl (fun K hK => ?_) AllReadyH.nil
  go_simp
  go_at_call 25; refine (HH.out.h1 _ (U3.out.trans (show Up Nul W2 _ from hHeld)) _ (by first | exact World.cell?_alloc_new _ _ _ 0 | (simp; done) | go_simp)).mono ?_; rintro e wb ⟨rfl, kb⟩
  refine hK.out _ _ ?kk9n7u1 (fun hHeld => ?_)
  case kk9n7u1 => exact (Up.trans (show Up Nul W2 _ from hHeld) kb)
  clear hK K
  try simp only [Act.put, List.setIfInBounds_toArray, List.set_cons_zero, List.set_cons_succ]
  refine wpAnyH_take (i := 7) (oi := ⟨some 19, _, _, _, _, _⟩) (v := ?vk9n8u1) rfl (by kernel_rfl) (by kernel_rfl) (by kernel_rfl) (fun _ _ _ h => h) (Or.inl ⟨by rfl, ?yk9n8u1⟩) (by assumption) ?rk9n8u1
  case yk9n8u1 => (intro w hSw; (try dsimp only at hSw); go_simp; try with_reducible rfl)
  try simp only [Act.put, List.setIfInBounds_toArray, List.set_cons_zero, List.set_cons_succ]
  refine wpAnyH_take (i := 8) (oi := ⟨some 20, _, _, _, _, _⟩) (v := ?vk9n9u1) rfl (by kernel_rfl) (by kernel_rfl) (by kernel_rfl) (fun _ _ _ h => h) (Or.inl ⟨by rfl, ?yk9n9u1⟩) (by assumption) ?rk9n9u1
  case yk9n9u1 => (intro w hSw; (try dsimp only at hSw); go_simp; try with_reducible rfl)
  try simp only [Act.put, List.setIfInBounds_toArray, List.set_cons_zero, List.set_cons_succ]
  refine wpAnyH_take (i := 9) (oi := ⟨some 21, _, _, _, _, _⟩) (v := ?vk9x10) rfl (by kernel_rfl) (by kernel_rfl) (by kernel_rfl) (fun _ _ _ h => h) (Or.inl ⟨by rfl, ?yk9x10⟩) (by assumption) ?rk9x10
  case yk9x10 => (intro w hSw; have ap1 := Hp1.out w hSw; go_simp; try with_reducible rfl)
  try simp only [Act.put, List.setIfInBounds_toArray, List.set_cons_zero, List.set_cons_succ]
  refine wpAnyH_ready (rs := [10]) (by kernel_rfl) (by simp) ?_
  refine AllReadyH.cons (o := ⟨some 22, _, _, _, _, _⟩) rfl (fun K hK => ?_) AllReadyH.nil
  go_simp
  go_at_call 26; refine (HH.out.h2 _).mono ?_; rintro e wb ⟨rfl, kb⟩
  refine hK.out _ _ ?kk9n11u1 (fun hHeld => ?_)
  case kk9n11u1 => exact (Up.trans (show Up Nul W2 _ from hHeld) kb)
  clear hK K
  try simp only [Act.put, List.setIfInBounds_toArray, List.set_cons_zero, List.set_cons_succ]
  refine wpAnyH_take (i := 11) (oi := ⟨some 23, _, _, _, _, _⟩) (v := ?vk9n12u1) rfl (by kernel_rfl) (by kernel_rfl) (by kernel_rfl) (fun _ _ _ h => h) (Or.inl ⟨by rfl, ?yk9n12u1⟩) (by assumption) ?rk9n12u1
  case yk9n12u1 => (intro w hSw; (try dsimp only at hSw); go_simp; try with_reducible rfl)
  try simp only [Act.put, List.setIfInBounds_toArray, List.set_cons_zero, List.set_cons_succ]
  refine wpAnyH_take (i := 12) (oi := ⟨some 24, _, _, _, _, _⟩) (v := ?vk9n13u1) rfl (by kernel_rfl) (by kernel_rfl) (by kernel_rfl) (fun _ _ _ h => h) (Or.inl ⟨by rfl, ?yk9n13u1⟩) (by assumption) ?rk9n13u1
  case yk9n13u1 => (intro w hSw; (try dsimp only at hSw); go_simp; try with_reducible rfl)
  try simp only [Act.put, List.setIfInBounds_toArray, List.set_cons_zero, List.set_cons_succ]
  refine wpAnyH_take (i := 13) (oi := ⟨some 25, _, _, _, _, _⟩) (v := ?vk9n14u1) rfl (by kernel_rfl) (by kernel_rfl) (by kernel_rfl) (fun _ _ _ h => h) (Or.inl ⟨by rfl, ?yk9n14u1⟩) (by assumption) ?rk9n14u1
  case yk9n14u1 => (intro w hSw; (try dsimp only at hSw); go_simp; try with_reducible rfl)
  try simp only [Act.put, List.setIfInBounds_toArray, List.set_cons_zero, List.set_cons_succ]
  refine wpAnyH_take (i := 14) (oi := ⟨some 26, _, _, _, _, _⟩) (v := ?vk9x15) rfl (by kernel_rfl) (by kernel_rfl) (by kernel_rfl) (fun _ _ _ h => h) (Or.inl ⟨by rfl, ?yk9x15⟩) (by assumption) ?rk9x15
  case yk9x15 => (intro w hSw; have aq2 := Hq2.out w hSw; have aq3 := Hq3.out w hSw; go_simp; try with_reducible rfl)
  try simp only [Act.put, List.setIfInBounds_toArray, List.set_cons_zero, List.set_cons_succ]
  refine wpAnyH_take (i := 15) (oi := ⟨some 27, _, _, _, _, _⟩) (v := ?vk9n16u1) rfl (by kernel_rfl) (by kernel_rfl) (by kernel_rfl) (fun _ _ _ h => h) (Or.inl ⟨by rfl, ?yk9n16u1⟩) (by assumption) ?rk9n16u1
  case yk9n16u1 => (intro w hSw; (try dsimp only at hSw); go_simp; try with_reducible rfl)
  try simp only [Act.put, List.setIfInBounds_toArray, List.set_cons_zero, List.set_cons_succ]
  refine wpAnyH_take (i := 16) (oi := ⟨some 28, _, _, _, _, _⟩) (v := ?vk9x17) rfl (by kernel_rfl) (by kernel_rfl) (by kernel_rfl) (fun _ _ _ h => h) (Or.inl ⟨by rfl, ?yk9x17⟩) (by assumption) ?rk9x17
  case yk9x17 => (intro w hSw; have ap2 := Hp2.out w hSw; go_simp; try with_reducible rfl)
  try simp only [Act.put, List.setIfInBounds_toArray, List.set_cons_zero, List.set_cons_succ]
  refine wpAnyH_ready (rs := [17]) (by kernel_rfl) (by simp) ?_
  refine AllReadyH.cons (o := ⟨some 29, _, _, _, _, _⟩) rfl (fun K hK => ?_) AllReadyH.nil
  go_simp
  skip
  refine hK.out _ _ ?kk9n18u1 (fun hHeld => ?_)
  case kk9n18u1 => exact (by first | exact Up.alloc (show Up Nul W2 _ from hHeld) _ | exact (Up.alloc (show Up Nul W2 _ from HR.out) _).drew)
  clear hK K
  try simp only [Act.put, List.setIfInBounds_toArray, List.set_cons_zero, List.set_cons_succ]
  refine wpAnyH_ready (rs := [18]) (by kernel_rfl) (by simp) ?_
  refine AllReadyH.cons (o := ⟨some 30, _, _, _, _, _⟩) rfl (fun K hK => ?_) AllReadyH.nil
  go_simp
  go_at_call 25; refine (HH.out.h3 _ (U3.out.trans (show Up Nul W2 _ from hHeld)) _ (by first | exact World.cell?_alloc_new _ _ _ 0 | (simp; done) | go_simp)).mono ?_; rintro e wb ⟨rfl, kb⟩
  refine hK.out _ _ ?kk9n19u1 (fun hHeld => ?_)
  case kk9n19u1 => exact (Up.trans (show Up Nul W2 _ from hHeld) kb)
  clear hK K
  try simp only [Act.put, List.setIfInBounds_toArray, List.set_cons_zero, List.set_cons_succ]
  refine wpAnyH_take (i := 19) (oi := ⟨some 31, _, _, _, _, _⟩) (v := ?vk9n20u1) rfl (by kernel_rfl) (by kernel_rfl) (by kernel_rfl) (fun _ _ _ h => h) (Or.inl ⟨by rfl, ?yk9n20u1⟩) (by assumption) ?rk9n20u1
  case yk9n20u1 => (intro w hSw; (try dsimp only at hSw); go_simp; try with_reducible rfl)
  try simp only [Act.put, List.setIfInBounds_toArray, List.set_cons_zero, List.set_cons_succ]
  refine wpAnyH_take (i := 20) (oi := ⟨some 32, _, _, _, _, _⟩) (v := ?vk9n21u1) rfl (by kernel_rfl) (by kernel_rfl) (by kernel_rfl) (fun _ _ _ h => h) (Or.inl ⟨by rfl, ?yk9n21u1⟩) (by assumption) ?rk9n21u1
  case yk9n21u1 => (intro w hSw; (try dsimp only at hSw); go_simp; try with_reducible rfl)
  try simp only [Act.put, List.setIfInBounds_toArray, List.set_cons_zero, List.set_cons_succ]
  refine wpAnyH_take (i := 21) (oi := ⟨some 33, _, _, _, _, _⟩) (v := ?vk9n22u1) rfl (by kernel_rfl) (by kernel_rfl) (by kernel_rfl) (fun _ _ _ h => h) (Or.inl ⟨by rfl, ?yk9n22u1⟩) (by assumption) ?rk9n22u1
  case yk9n22u1 => (intro w hSw; (try dsimp only at hSw); go_simp; try with_reducible rfl)
  try simp only [Act.put, List.setIfInBounds_toArray, List.set_cons_zero, List.set_cons_succ]
  refine wpAnyH_take (i := 22) (oi := ⟨some 34, _, _, _, _, _⟩) (v := ?vk9x23) rfl (by kernel_rfl) (by kernel_rfl) (by kernel_rfl) (fun _ _ _ h => h) (Or.inl ⟨by rfl, ?yk9x23⟩) (by assumption) ?rk9x23
  case yk9x23 => (intro w hSw; have aq4 := Hq4.out w hSw; have aq5 := Hq5.out w hSw; go_simp; try with_reducible rfl)
  try simp only [Act.put, List.setIfInBounds_toArray, List.set_cons_zero, List.set_cons_succ]
  refine wpAnyH_take (i := 23) (oi := ⟨some 35, _, _, _, _, _⟩) (v := ?vk9n24u1) rfl (by kernel_rfl) (by kernel_rfl) (by kernel_rfl) (fun _ _ _ h => h) (Or.inl ⟨by rfl, ?yk9n24u1⟩) (by assumption) ?rk9n24u1
  case yk9n24u1 => (intro w hSw; (try dsimp only at hSw); go_simp; try with_reducible rfl)
  try simp only [Act.put, List.setIfInBounds_toArray, List.set_cons_zero, List.set_cons_succ]
  refine wpAnyH_take (i := 24) (oi := ⟨some 36, _, _, _, _, _⟩) (v := ?vk9x25) rfl (by kernel_rfl) (by kernel_rfl) (by kernel_rfl) (fun _ _ _ h => h) (Or.inl ⟨by rfl, ?yk9x25⟩) (by assumption) ?rk9x25
  case yk9x25 => (intro w hSw; have ap3 := Hp3.out w hSw; go_simp; try with_reducible rfl)
  try simp only [Act.put, List.setIfInBounds_toArray, List.set_cons_zero, List.set_cons_succ]
  refine wpAnyH_ready (rs := [25]) (by kernel_rfl) (by simp) ?_
  refine AllReadyH.cons (o := ⟨some 37, _, _, _, _, _⟩) rfl (fun K hK => ?_) AllReadyH.nil
  go_simp
  skip
  refine hK.out _ _ ?kk9n26u1 (fun hHeld => ?_)
  case kk9n26u1 => exact (by first | exact Up.alloc (show Up Nul W2 _ from hHeld) _ | exact (Up.alloc (show Up Nul W2 _ from HR.out) _).drew)
  clear hK K
  try simp only [Act.put, List.setIfInBounds_toArray, List.set_cons_zero, List.set_cons_succ]
  refine wpAnyH_ready (rs := [26]) (by kernel_rfl) (by simp) ?_
  refine AllReadyH.cons (o := ⟨some 38, _, _, _, _, _⟩) rfl (fun K hK => ?_) AllReadyH.nil
  go_simp
  go_at_call 25; refine (HH.out.h4 _ (U3.out.trans (show Up Nul W2 _ from hHeld)) _ (by first | exact World.cell?_alloc_new _ _ _ 0 | (simp; done) | go_simp)).mono ?_; rintro e wb ⟨rfl, kb⟩
  refine hK.out _ _ ?kk9n27u1 (fun hHeld => ?_)
  case kk9n27u1 => exact (Up.trans (show Up Nul W2 _ from hHeld) kb)
  clear hK K
  try simp only [Act.put, List.setIfInBounds_toArray, List.set_cons_zero, List.set_cons_succ]
  refine wpAnyH_take (i := 27) (oi := ⟨some 39, _, _, _, _, _⟩) (v := ?vk9n28u1) rfl (by kernel_rfl) (by kernel_rfl) (by kernel_rfl) (fun _ _ _ h => h) (Or.inl ⟨by rfl, ?yk9n28u1⟩) (by assumption) ?rk9n28u1
  case yk9n28u1 => (intro w hSw; (try dsimp only at hSw); go_simp; try with_reducible rfl)
  try simp only [Act.put, List.setIfInBounds_toArray, List.set_cons_zero, List.set_cons_succ]
  refine wpAnyH_take (i := 28) (oi := ⟨some 40, _, _, _, _, _⟩) (v := ?vk9n29u1) rfl (by kernel_rfl) (by kernel_rfl) (by kernel_rfl) (fun _ _ _ h => h) (Or.inl ⟨by rfl, ?yk9n29u1⟩) (by assumption) ?rk9n29u1
  case yk9n29u1 => (intro w hSw; (try dsimp only at hSw); go_simp; try with_reducible rfl)
  try simp only [Act.put, List.setIfInBounds_toArray, List.set_cons_zero, List.set_cons_succ]
  refine wpAnyH_take (i := 29) (oi := ⟨some 41, _, _, _, _, _⟩) (v := ?vk9n30u1) rfl (by kernel_rfl) (by kernel_rfl) (by kernel_rfl) (fun _ _ _ h => h) (Or.inl ⟨by rfl, ?yk9n30u1⟩) (by assumption) ?rk9n30u1
  case yk9n30u1 => (intro w hSw; (try dsimp only at hSw); go_simp; try with_reducible rfl)
  try simp only [Act.put, List.setIfInBounds_toArray, List.set_cons_zero, List.set_cons_succ]
  refine wpAnyH_take (i := 30) (oi := ⟨some 42, _, _, _, _, _⟩) (v := ?vk9x31) rfl (by kernel_rfl) (by kernel_rfl) (by kernel_rfl) (fun _ _ _ h => h) (Or.inl ⟨by rfl, ?yk9x31⟩) (by assumption) ?rk9x31
  case yk9x31 => (intro w hSw; have aq6 := Hq6.out w hSw; have aq7 := Hq7.out w hSw; go_simp; try with_reducible rfl)
  try simp only [Act.put, List.setIfInBounds_toArray, List.set_cons_zero, List.set_cons_succ]
  refine wpAnyH_take (i := 31) (oi := ⟨some 43, _, _, _, _, _⟩) (v := ?vk9n32u1) rfl (by kernel_rfl) (by kernel_rfl) (by kernel_rfl) (fun _ _ _ h => h) (Or.inl ⟨by rfl, ?yk9n32u1⟩) (by assumption) ?rk9n32u1
  case yk9n32u1 => (intro w hSw; (try dsimp only at hSw); go_simp; try with_reducible rfl)
  try simp only [Act.put, List.setIfInBounds_toArray, List.set_cons_zero, List.set_cons_succ]
  refine wpAnyH_take (i := 32) (oi := ⟨some 44, _, _, _, _, _⟩) (v := ?vk9x33) rfl (by kernel_rfl) (by kernel_rfl) (by kernel_rfl) (fun _ _ _ h => h) (Or.inl ⟨by rfl, ?yk9x33⟩) (by assumption) ?rk9x33
  case yk9x33 => (intro w hSw; have ap5 := Hp5.out w hSw; go_simp; try with_reducible rfl)
  try simp only [Act.put, List.setIfInBounds_toArray, List.set_cons_zero, List.set_cons_succ]
  refine wpAnyH_ready (rs := [33]) (by kernel_rfl) (by simp) ?_
  refine AllReadyH.cons (o := ⟨some 45, _, _, _, _, _⟩) rfl (fun K hK => ?_) AllReadyH.nil
  go_simp
  skip
  refine hK.out _ _ ?kk9n34u1 (fun hHeld => ?_)
  case kk9n34u1 => exact (by first | exact Up.alloc (show Up Nul W2 _ from hHeld) _ | exact (Up.alloc (show Up Nul W2 _ from HR.out) _).drew)
  clear hK K
  try simp only [Act.put, List.setIfInBounds_toArray, List.set_cons_zero, List.set_cons_succ]
  refine wpAnyH_ready (rs := [34]) (by kernel_rfl) (by simp) ?_
  refine AllReadyH.cons (o := ⟨some 46, _, _, _, _, _⟩) rfl (fun K hK => ?_) AllReadyH.nil
  go_simp
  go_at_call 25; refine (HH.out.h5 _ (U3.out.trans (show Up Nul W2 _ from hHeld)) _ (by first | exact World.cell?_alloc_new _ _ _ 0 | (simp; done) | go_simp)).mono ?_; rintro e wb ⟨rfl, kb⟩
  refine hK.out _ _ ?kk9n35u1 (fun hHeld => ?_)
  case kk9n35u1 => exact (Up.trans (show Up Nul W2 _ from hHeld) kb)
  clear hK K
  try simp only [Act.put, List.setIfInBounds_toArray, List.set_cons_zero, List.set_cons_succ]
  refine wpAnyH_take (i := 35) (oi := ⟨some 47, _, _, _, _, _⟩) (v := ?vk9n36u1) rfl (by kernel_rfl) (by kernel_rfl) (by kernel_rfl) (fun _ _ _ h => h) (Or.inl ⟨by rfl, ?yk9n36u1⟩) (by assumption) ?rk9n36u1
  case yk9n36u1 => (intro w hSw; (try dsimp only at hSw); go_simp; try with_reducible rfl)
  try simp only [Act.put, List.setIfInBounds_toArray, List.set_cons_zero, List.set_cons_succ]
  refine wpAnyH_take (i := 36) (oi := ⟨some 48, _, _, _, _, _⟩) (v := ?vk9n37u1) rfl (by kernel_rfl) (by kernel_rfl) (by kernel_rfl) (fun _ _ _ h => h) (Or.inl ⟨by rfl, ?yk9n37u1⟩) (by assumption) ?rk9n37u1
  case yk9n37u1 => (intro w hSw; (try dsimp only at hSw); go_simp; try with_reducible rfl)
  try simp only [Act.put, List.setIfInBounds_toArray, List.set_cons_zero, List.set_cons_succ]
  refine wpAnyH_take (i := 37) (oi := ⟨some 49, _, _, _, _, _⟩) (v := ?vk9n38u1) rfl (by kernel_rfl) (by kernel_rfl) (by kernel_rfl) (fun _ _ _ h => h) (Or.inl ⟨by rfl, ?yk9n38u1⟩) (by assumption) ?rk9n38u1
  case yk9n38u1 => (intro w hSw; (try dsimp only at hSw); go_simp; try with_reducible rfl)
  try simp only [Act.put, List.setIfInBounds_toArray, List.set_cons_zero, List.set_cons_succ]
  refine wpAnyH_take (i := 38) (oi := ⟨some 50, _, _, _, _, _⟩) (v := ?vk9x39) rfl (by kernel_rfl) (by kernel_rfl) (by kernel_rfl) (fun _ _ _ h => h) (Or.inl ⟨by rfl, ?yk9x39⟩) (by assumption) ?rk9x39
  case yk9x39 => (intro w hSw; have ap4 := Hp4.out w hSw; go_simp; try with_reducible rfl)
  try simp only [Act.put, List.setIfInBounds_toArray, List.set_cons_zero, List.set_cons_succ]
  refine wpAnyH_take (i := 39) (oi := ⟨some 51, _, _, _, _, _⟩) (v := ?vk9n40u1) rfl (by kernel_rfl) (by kernel_rfl) (by kernel_rfl) (fun _ _ _ h => h) (Or.inl ⟨by rfl, ?yk9n40u1⟩) (by assumption) ?rk9n40u1
  case yk9n40u1 => (intro w hSw; (try dsimp only at hSw); go_simp; try with_reducible rfl)
  try simp only [Act.put, List.setIfInBounds_toArray, List.set_cons_zero, List.set_cons_succ]
  refine wpAnyH_take (i := 40) (oi := ⟨some 52, _, _, _, _, _⟩) (v := ?vk9n41u1) rfl (by kernel_rfl) (by kernel_rfl) (by kernel_rfl) (fun _ _ _ h => h) (Or.inl ⟨by rfl, ?yk9n41u1⟩) (by assumption) ?rk9n41u1
  case yk9n41u1 => (intro w hSw; (try dsimp only at hSw); go_simp; try with_reducible rfl)
  try simp only [Act.put, List.setIfInBounds_toArray, List.set_cons_zero, List.set_cons_succ]
  refine wpAnyH_take (i := 41) (oi := ⟨some 53, _, _, _, _, _⟩) (v := ?vk9x42) rfl (by kernel_rfl) (by kernel_rfl) (by kernel_rfl) (fun _ _ _ h => h) (Or.inl ⟨by rfl, ?yk9x42⟩) (by assumption) ?rk9x42
  case yk9x42 => (intro w hSw; have aq8 := Hq8.out w hSw; go_simp; try with_reducible rfl)
  try simp only [Act.put, List.setIfInBounds_toArray, List.set_cons_zero, List.set_cons_succ]
  refine wpAnyH_take (i := 42) (oi := ⟨some 54, _, _, _, _, _⟩) (v := ?vk9n43u1) rfl (by kernel_rfl) (by kernel_rfl) (by kernel_rfl) (fun _ _ _ h => h) (Or.inl ⟨by rfl, ?yk9n43u1⟩) (by assumption) ?rk9n43u1
  case yk9n43u1 => (intro w hSw; (try dsimp only at hSw); go_simp; try with_reducible rfl)
  try simp only [Act.put, List.setIfInBounds_toArray, List.set_cons_zero, List.set_cons_succ]
  refine wpAnyH_take (i := 43) (oi := ⟨some 55, _, _, _, _, _⟩) (v := ?vk9n44u1) rfl (by kernel_rfl) (by kernel_rfl) (by kernel_rfl) (fun _ _ _ h => h) (Or.inl ⟨by rfl, ?yk9n44u1⟩) (by assumption) ?rk9n44u1
  case yk9n44u1 => (intro w hSw; (try dsimp only at hSw); go_simp; try with_reducible rfl)
  try simp only [Act.put, List.setIfInBounds_toArray, List.set_cons_zero, List.set_cons_succ]
  refine wpAnyH_take (i := 44) (oi := ⟨some 56, _, _, _, _, _⟩) (v := ?vk9n45u1) rfl (by kernel_rfl) (by kernel_rfl) (by kernel_rfl) (fun _ _ _ h => h) (Or.inl ⟨by rfl, ?yk9n45u1⟩) (by assumption) ?rk9n45u1
  case yk9n45u1 => (intro w hSw; (try dsimp only at hSw); go_simp; try with_reducible rfl)
  try simp only [Act.put, List.setIfInBounds_toArray, List.set_cons_zero, List.set_cons_succ]
  refine wpAnyH_take (i := 45) (oi := ⟨some 57, _, _, _, _, _⟩) (v := ?vk9n46u1) rfl (by kernel_rfl) (by kernel_rfl) (by kernel_rfl) (fun _ _ _ h => h) (Or.inl ⟨by rfl, ?yk9n46u1⟩) (by assumption) ?rk9n46u1
  case yk9n46u1 => (intro w hSw; (try dsimp only at hSw); go_simp; try with_reducible rfl)
  try simp only [Act.put, List.setIfInBounds_toArray, List.set_cons_zero, List.set_cons_succ]
  refine wpAnyH_take (i := 46) (oi := ⟨some 58, _, _, _, _, _⟩) (v := ?vk9x47) rfl (by kernel_rfl) (by kernel_rfl) (by kernel_rfl) (fun _ _ _ h => h) (Or.inl ⟨by rfl, ?yk9x47⟩) (by assumption) ?rk9x47
  case yk9x47 => (intro w hSw; have aq9 := Hq9.out w hSw; have aq10 := Hq10.out w hSw; go_simp; try with_reducible rfl)
  try simp only [Act.put, List.setIfInBounds_toArray, List.set_cons_zero, List.set_cons_succ]
  refine wpAnyH_take (i := 47) (oi := ⟨some 59, _, _, _, _, _⟩) (v := ?vk9n48u1) rfl (by kernel_rfl) (by kernel_rfl) (by kernel_rfl) (fun _ _ _ h => h) (Or.inl ⟨by rfl, ?yk9n48u1⟩) (by assumption) ?rk9n48u1
  case yk9n48u1 => (intro w hSw; (try dsimp only at hSw); go_simp; try with_reducible rfl)
  try simp only [Act.put, List.setIfInBounds_toArray, List.set_cons_zero, List.set_cons_succ]
  refine wpAnyH_take (i := 48) (oi := ⟨some 60, _, _, _, _, _⟩) (v := ?vk9x49) rfl (by kernel_rfl) (by kernel_rfl) (by kernel_rfl) (fun _ _ _ h => h) (Or.inl ⟨by rfl, ?yk9x49⟩) (by assumption) ?rk9x49
  case yk9x49 => (intro w hSw; have ap4 := Hp4.out w hSw; go_simp; try with_reducible rfl)
  try simp only [Act.put, List.setIfInBounds_toArray, List.set_cons_zero, List.set_cons_succ]
  refine wpAnyH_ready (rs := [49]) (by kernel_rfl) (by simp) ?_
  refine AllReadyH.cons (o := ⟨some 61, _, _, _, _, _⟩) rfl (fun K hK => ?_) AllReadyH.nil
  go_simp
  go_at_call 25; refine (HH.out.h7 _ (U3.out.trans (show Up Nul W2 _ from hHeld))).mono ?_; rintro e wb ⟨rfl, kb⟩
  refine hK.out _ _ ?kk9n50u1 (fun hHeld => ?_)
  case kk9n50u1 => exact (Up.trans (show Up Nul W2 _ from hHeld) kb)
  clear hK K
  try simp only [Act.put, List.setIfInBounds_toArray, List.set_cons_zero, List.set_cons_succ]
  refine wpAnyH_take (i := 50) (oi := ⟨some 62, _, _, _, _, _⟩) (v := ?vk9n51u1) rfl (by kernel_rfl) (by kernel_rfl) (by kernel_rfl) (fun _ _ _ h => h) (Or.inl ⟨by rfl, ?yk9n51u1⟩) (by assumption) ?rk9n51u1
  case yk9n51u1 => (intro w hSw; (try dsimp only at hSw); go_simp; try with_reducible rfl)
  try simp only [Act.put, List.setIfInBounds_toArray, List.set_cons_zero, List.set_cons_succ]
  refine wpAnyH_take (i := 51) (oi := ⟨some 63, _, _, _, _, _⟩) (v := ?vk9n52u1) rfl (by kernel_rfl) (by kernel_rfl) (by kernel_rfl) (fun _ _ _ h => h) (Or.inl ⟨by rfl, ?yk9n52u1⟩) (by assumption) ?rk9n52u1
  case yk9n52u1 => (intro w hSw; (try dsimp only at hSw); go_simp; try with_reducible rfl)
  try simp only [Act.put, List.setIfInBounds_toArray, List.set_cons_zero, List.set_cons_succ]
  refine wpAnyH_take (i := 52) (oi := ⟨some 64, _, _, _, _, _⟩) (v := ?vk9n53u1) rfl (by kernel_rfl) (by kernel_rfl) (by kernel_rfl) (fun _ _ _ h => h) (Or.inl ⟨by rfl, ?yk9n53u1⟩) (by assumption) ?rk9n53u1
  case yk9n53u1 => (intro w hSw; (try dsimp only at hSw); go_simp; try with_reducible rfl)
  try simp only [Act.put, List.setIfInBounds_toArray, List.set_cons_zero, List.set_cons_succ]
  refine wpAnyH_take (i := 53) (oi := ⟨some 65, _, _, _, _, _⟩) (v := ?vk9x54) rfl (by kernel_rfl) (by kernel_rfl) (by kernel_rfl) (fun _ _ _ h => h) (Or.inl ⟨by rfl, ?yk9x54⟩) (by assumption) ?rk9x54
  case yk9x54 => (intro w hSw; have ap6 := Hp6.out w hSw; go_simp; try with_reducible rfl)
  try simp only [Act.put, List.setIfInBounds_toArray, List.set_cons_zero, List.set_cons_succ]
  refine wpAnyH_take (i := 54) (oi := ⟨some 66, _, _, _, _, _⟩) (v := ?vk9n55u1) rfl (by kernel_rfl) (by kernel_rfl) (by kernel_rfl) (fun _ _ _ h => h) (Or.inl ⟨by rfl, ?yk9n55u1⟩) (by assumption) ?rk9n55u1
  case yk9n55u1 => (intro w hSw; (try dsimp only at hSw); go_simp; try with_reducible rfl)
  try simp only [Act.put, List.setIfInBounds_toArray, List.set_cons_zero, List.set_cons_succ]
  refine wpAnyH_take (i := 55) (oi := ⟨some 67, _, _, _, _, _⟩) (v := ?vk9x56) rfl (by kernel_rfl) (by kernel_rfl) (by kernel_rfl) (fun _ _ _ h => h) (Or.inl ⟨by rfl, ?yk9x56⟩) (by assumption) ?rk9x56
  case yk9x56 => (intro w hSw; have aq0 := Hq0.out w hSw; have aq1 := Hq1.out w hSw; have aq2 := Hq2.out w hSw; have aq3 := Hq3.out w hSw; have aq4 := Hq4.out w hSw; have aq5 := Hq5.out w hSw; have aq6 := Hq6.out w hSw; have aq7 := Hq7.out w hSw; have aq8 := Hq8.out w hSw; have aq9 := Hq9.out w hSw; have aq10 := Hq10.out w hSw; have aq11 := Hq11.out w hSw; have aq12 := Hq12.out w hSw; have aq13 := Hq13.out w hSw; have aq14 := Hq14.out w hSw; go_simp; try with_reducible rfl)
  try simp only [Act.put, List.setIfInBounds_toArray, List.set_cons_zero, List.set_cons_succ]
  refine wpAnyH_take (i := 56) (oi := ⟨some 68, _, _, _, _, _⟩) (v := ?vk9n57u1) rfl (by kernel_rfl) (by kernel_rfl) (by kernel_rfl) (fun _ _ _ h => h) (Or.inl ⟨by rfl, ?yk9n57u1⟩) (by assumption) ?rk9n57u1
  case yk9n57u1 => (intro w hSw; (try dsimp only at hSw); go_simp; try with_reducible rfl)
  try simp only [Act.put, List.setIfInBounds_toArray, List.set_cons_zero, List.set_cons_succ]
  refine wpAnyH_take (i := 57) (oi := ⟨some 69, _, _, _, _, _⟩) (v := ?vk9x58) rfl (by kernel_rfl) (by kernel_rfl) (by kernel_rfl) (fun _ _ _ h => h) (Or.inl ⟨by rfl, ?yk9x58⟩) (by assumption) ?rk9x58
  case yk9x58 => (intro w hSw; have ap4 := Hp4.out w hSw; go_simp; try with_reducible rfl)
  try simp only [Act.put, List.setIfInBounds_toArray, List.set_cons_zero, List.set_cons_succ]
  refine wpAnyH_ready (rs := [58]) (by kernel_rfl) (by simp) ?_
  refine AllReadyH.cons (o := ⟨some 70, _, _, _, _, _⟩) rfl (fun K hK => ?_) AllReadyH.nil
  go_simp
  go_at_call 27; refine (H8.out _ (U3.out.trans (show Up Nul W2 _ from hHeld))).mono ?_; rintro e wb ⟨rfl, kb⟩
  refine hK.out _ _ ?kk9n59u1 (fun hHeld => ?_)
  case kk9n59u1 => exact (Up.trans (show Up Nul W2 _ from hHeld) kb)
  clear hK K
  try simp only [Act.put, List.setIfInBounds_toArray, List.set_cons_zero, List.set_cons_succ]
  refine wpAnyH_take (i := 59) (oi := ⟨some 71, _, _, _, _, _⟩) (v := ?vk9n60u1) rfl (by kernel_rfl) (by kernel_rfl) (by kernel_rfl) (fun _ _ _ h => h) (Or.inl ⟨by rfl, ?yk9n60u1⟩) (by assumption) ?rk9n60u1
  case yk9n60u1 => (intro w hSw; (try dsimp only at hSw); go_simp; try with_reducible rfl)
  try simp only [Act.put, List.setIfInBounds_toArray, List.set_cons_zero, List.set_cons_succ]
  refine wpAnyH_take (i := 60) (oi := ⟨some 72, _, _, _, _, _⟩) (v := ?vk9n61u1) rfl (by kernel_rfl) (by kernel_rfl) (by kernel_rfl) (fun _ _ _ h => h) (Or.inl ⟨by rfl, ?yk9n61u1⟩) (by assumption) ?rk9n61u1
  case yk9n61u1 => (intro w hSw; (try dsimp only at hSw); go_simp; try with_reducible rfl)
  try simp only [Act.put, List.setIfInBounds_toArray, List.set_cons_zero, List.set_cons_succ]
  refine wpAnyH_take (i := 61) (oi := ⟨some 73, _, _, _, _, _⟩) (v := ?vk9n62u1) rfl (by kernel_rfl) (by kernel_rfl) (by kernel_rfl) (fun _ _ _ h => h) (Or.inl ⟨by rfl, ?yk9n62u1⟩) (by assumption) ?rk9n62u1
  case yk9n62u1 => (intro w hSw; (try dsimp only at hSw); go_simp; try with_reducible rfl)
  try simp only [Act.put, List.setIfInBounds_toArray, List.set_cons_zero, List.set_cons_succ]
  refine wpAnyH_take (i := 62) (oi := ⟨some 74, _, _, _, _, _⟩) (v := ?vk9n63u1) rfl (by kernel_rfl) (by kernel_rfl) (by kernel_rfl) (fun _ _ _ h => h) (Or.inl ⟨by rfl, ?yk9n63u1⟩) (by assumption) ?rk9n63u1
  case yk9n63u1 => (intro w hSw; (try dsimp only at hSw); go_simp; try with_reducible rfl)
  try simp only [Act.put, List.setIfInBounds_toArray, List.set_cons_zero, List.set_cons_succ]
  refine wpAnyH_take (i := 63) (oi := ⟨some 75, _, _, _, _, _⟩) (v := ?vk9x64) rfl (by kernel_rfl) (by kernel_rfl) (by kernel_rfl) (fun _ _ _ h => h) (Or.inl ⟨by rfl, ?yk9x64⟩) (by assumption) ?rk9x64
  case yk9x64 => (intro w hSw; have ap6 := Hp6.out w hSw; go_simp; try with_reducible rfl)
  try simp only [Act.put, List.setIfInBounds_toArray, List.set_cons_zero, List.set_cons_succ]
  refine wpAnyH_ready (rs := [64]) (by kernel_rfl) (by simp) ?_
  refine AllReadyH.cons (o := ⟨some 76, _, _, _, _, _⟩) rfl (fun K hK => ?_) AllReadyH.nil
  go_simp
  go_at_call 28; refine (HH.out.h9 _ (U3.out.trans (show Up Nul W2 _ from hHeld))).mono ?_; rintro e wb ⟨rfl, kb⟩
  refine hK.out _ _ ?kk9n65u1 (fun hHeld => ?_)
  case kk9n65u1 => exact (Up.trans (show Up Nul W2 _ from hHeld) kb)
  clear hK K
  try simp only [Act.put, List.setIfInBounds_toArray, List.set_cons_zero, List.set_cons_succ]
  refine wpAnyH_take (i := 65) (oi := ⟨some 77, _, _, _, _, _⟩) (v := ?vk9n66u1) rfl (by kernel_rfl) (by kernel_rfl) (by kernel_rfl) (fun _ _ _ h => h) (Or.inl ⟨by rfl, ?yk9n66u1⟩) (by assumption) ?rk9n66u1
  case yk9n66u1 => (intro w hSw; (try dsimp only at hSw); go_simp; try with_reducible rfl)
  try simp only [Act.put, List.setIfInBounds_toArray, List.set_cons_zero, List.set_cons_succ]
  refine wpAnyH_take (i := 66) (oi := ⟨some 78, _, _, _, _, _⟩) (v := ?vk9n67u1) rfl (by kernel_rfl) (by kernel_rfl) (by kernel_rfl) (fun _ _ _ h => h) (Or.inl ⟨by rfl, ?yk9n67u1⟩) (by assumption) ?rk9n67u1
  case yk9n67u1 => (intro w hSw; (try dsimp only at hSw); go_simp; try with_reducible rfl)
  try simp only [Act.put, List.setIfInBounds_toArray, List.set_cons_zero, List.set_cons_succ]
  refine wpAnyH_take (i := 67) (oi := ⟨some 79, _, _, _, _, _⟩) (v := ?vk9n68u1) rfl (by kernel_rfl) (by kernel_rfl) (by kernel_rfl) (fun _ _ _ h => h) (Or.inl ⟨by rfl, ?yk9n68u1⟩) (by assumption) ?rk9n68u1
  case yk9n68u1 => (intro w hSw; (try dsimp only at hSw); go_simp; try with_reducible rfl)
  try simp only [Act.put, List.setIfInBounds_toArray, List.set_cons_zero, List.set_cons_succ]
  refine wpAnyH_take (i := 68) (oi := ⟨some 80, _, _, _, _, _⟩) (v := undef) rfl (by kernel_rfl) (by kernel_rfl) (by kernel_rfl) (fun _ _ _ h => h) (Or.inr ⟨by rfl, rfl⟩) (by assumption) ?rk9n69u1
  try simp only [Act.put, List.setIfInBounds_toArray, List.set_cons_zero, List.set_cons_succ]
  refine wpAnyH_take (i := 69) (oi := ⟨some 81, _, _, _, _, _⟩) (v := undef) rfl (by kernel_rfl) (by kernel_rfl) (by kernel_rfl) (fun _ _ _ h => h) (Or.inr ⟨by rfl, rfl⟩) (by assumption) ?rk9n70u1
  try simp only [Act.put, List.setIfInBounds_toArray, List.set_cons_zero, List.set_cons_succ]
  refine wpAnyH_take (i := 70) (oi := ⟨some 82, _, _, _, _, _⟩) (v := undef) rfl (by kernel_rfl) (by kernel_rfl) (by kernel_rfl) (fun _ _ _ h => h) (Or.inr ⟨by rfl, rfl⟩) (by assumption) ?rk9n71u1
  try simp only [Act.put, List.setIfInBounds_toArray, List.set_cons_zero, List.set_cons_succ]
  refine wpAnyH_take (i := 71) (oi := ⟨some 83, _, _, _, _, _⟩) (v := undef) rfl (by kernel_rfl) (by kernel_rfl) (by kernel_rfl) (fun _ _ _ h => h) (Or.inr ⟨by rfl, rfl⟩) (by assumption) ?rk9n72u1
  try simp only [Act.put, List.setIfInBounds_toArray, List.set_cons_zero, List.set_cons_succ]
  refine wpAnyH_take (i := 72) (oi := ⟨some 84, _, _, _, _, _⟩) (v := undef) rfl (by kernel_rfl) (by kernel_rfl) (by kernel_rfl) (fun _ _ _ h => h) (Or.inr ⟨by rfl, rfl⟩) (by assumption) ?rk9n73u1
  try simp only [Act.put, List.setIfInBounds_toArray, List.set_cons_zero, List.set_cons_succ]
  refine wpAnyH_take (i := 73) (oi := ⟨some 85, _, _, _, _, _⟩) (v := undef) rfl (by kernel_rfl) (by kernel_rfl) (by kernel_rfl) (fun _ _ _ h => h) (Or.inr ⟨by rfl, rfl⟩) (by assumption) ?rk9n74u1
  try simp only [Act.put, List.setIfInBounds_toArray, List.set_cons_zero, List.set_cons_succ]
  refine wpAnyH_take (i := 74) (oi := ⟨some 86, _, _, _, _, _⟩) (v := ?vk9n75u1) rfl (by kernel_rfl) (by kernel_rfl) (by kernel_rfl) (fun _ _ _ h => h) (Or.inl ⟨by rfl, ?yk9n75u1⟩) (by assumption) ?rk9n75u1
  case yk9n75u1 => (intro w hSw; (try dsimp only at hSw); go_simp; try with_reducible rfl)
  try simp only [Act.put, List.setIfInBounds_toArray, List.set_cons_zero, List.set_cons_succ]
  refine wpAnyH_take (i := 75) (oi := ⟨some 2, _, _, _, _, _⟩) (v := ?vk9n76u1) rfl (by kernel_rfl) (by kernel_rfl) (by kernel_rfl) (fun _ _ _ h => h) (Or.inl ⟨by rfl, ?yk9n76u1⟩) (by assumption) ?rk9n76u1
  case yk9n76u1 => (intro w hSw; (try dsimp only at hSw); go_simp; try with_reducible rfl)
  try simp only [Act.put, List.setIfInBounds_toArray, List.set_cons_zero, List.set_cons_succ]
  refine wpAnyH_done (by kernel_rfl) ?_ _
  have HE := hid (U3.out.trans (show Up Nul W2 _ from hHeld))
  clear hHeld
  go_wp2
  go_ret
  exact ⟨by first | rfl | simp, HE.out⟩
set_option maxRecDepth 100000 in
set_option maxHeartbeats 4000000 in
theorem ok_case10 (w : World) (s : ByteArray) (n sid co : Int) (sa : Option Addr) (ns cs : Nat) (la : Option Addr) (nl cl : Nat) (t : Tb) (k : Nat) (c1 c2 c3 c4 c5 c6 c7 c8 c9 c10 : Bool) (hk : spn 1 8 (k : Int) = true) (hS : Shp w) (hc1 : c1 = true) (hc2 : c2 = true) (hc3 : c3 = true) (hc4 : c4 = true) (hc5 : c5 = true) (hc6 : c6 = true) (hc7 : c7 = true) (hc8 : c8 = true) (hc9 : c9 = true)
    (H : OkC w s n sid co sa ns cs la nl cl t k c1 c2 c3 c4 c5 c6 c7 c8 c9 c10) :
    Calls Tryd.prog 16 #[.agg #[.int .i64 (k : Nat), .string s, .int .i64 n, .int .i64 sid, .slice sa ns cs, .int .i64 co, .slice la nl cl, .int .i64 t.hot, .int .i64 t.warm, .int .i64 t.gap, .int .i64 t.add, .int .i64 t.top, .int .i64 t.half]] w
      fun e w' => e = .returned (.bool (c1 && c2 && c3 && c4 && c5 && c6 && c7 && c8 && c9 && c10)) ∧ Up Nul w w' := by
  subst hc1 hc2 hc3 hc4 hc5 hc6 hc7 hc8 hc9
  obtain ⟨q8, h8e, h8c⟩ := H.h8 rfl
  have H8 := hid h8c
  clear h8c
  have h6e := H.h6
  have HK := hid (fun W => kind_any (k : Int) W)
  rw [hk] at HK
  have hk9 : k < 9 := by
    unfold spn at hk
    simp at hk
    omega
  have i0 : (0 : Int) ≤ (k : Int) := by omega
  have i1 : (k : Int) < 9 := by omega
  have HH := hid H
  clear H
  obtain ⟨C, hC⟩ : ∃ C : Array Value, C = #[.int .i64 (k : Nat), .string s, .int .i64 n, .int .i64 sid, .slice sa ns cs, .int .i64 co, .slice la nl cl, .int .i64 t.hot, .int .i64 t.warm, .int .i64 t.gap, .int .i64 t.add, .int .i64 t.top, .int .i64 t.half] := ⟨_, rfl⟩
  have HUA := hid ((Up.refl Nul w).alloc (.cells C 33))
  have HBA : Hid ((w.alloc (.cells C 33)).heap[w.heap.size]? = some (.cells C 33 (0, 0))) := heap_alloc_new _ _
  have HLT : Hid (w.heap.size < (w.alloc (.cells C 33)).heap.size) := by show _ < _; simp
  have HSH := hid hS
  go_enter Tryd.func16, Tryd.ntmps16
  go_wp2_with fail
  rw [← hC]
  refine (HK.out _).mono ?_
  rintro e w1 ⟨rfl, u1⟩
  have hb := (u1.block _ HLT.out id).trans HBA.out
  have HU1 := hid (HUA.out.trans u1)
  have hlt := Nat.lt_of_lt_of_le HLT.out u1.size
  clear u1 HBA HUA HLT
  have y0 := (HSH.out.nxt HU1.out).c k 0 hk9 (by omega)
  have y1 := (HSH.out.nxt HU1.out).c k 1 hk9 (by omega)
  have y2 := (HSH.out.nxt HU1.out).c k 2 hk9 (by omega)
  have y3 := (HSH.out.nxt HU1.out).c k 3 hk9 (by omega)
  have y4 := (HSH.out.nxt HU1.out).c k 4 hk9 (by omega)
  have y5 := (HSH.out.nxt HU1.out).c k 5 hk9 (by omega)
  have y6 := (HSH.out.nxt HU1.out).c k 6 hk9 (by omega)
  have y7 := (HSH.out.nxt HU1.out).c k 7 hk9 (by omega)
  have y8 := (HSH.out.nxt HU1.out).c k 8 hk9 (by omega)
  have y9 := (HSH.out.nxt HU1.out).c k 9 hk9 (by omega)
  have y10 := (HSH.out.nxt HU1.out).c k 10 hk9 (by omega)
  have y11 := (HSH.out.nxt HU1.out).c k 11 hk9 (by omega)
  have y12 := (HSH.out.nxt HU1.out).c k 12 hk9 (by omega)
  have y13 := (HSH.out.nxt HU1.out).c k 13 hk9 (by omega)
  have y14 := (HSH.out.nxt HU1.out).c k 14 hk9 (by omega)
  rw [Nat.add_zero] at y0
  generalize w.heap.size = p at hb hlt ⊢
  have x0 : w1.cell? ⟨p, 0, none⟩ = some (.int .i64 (k : Nat)) := by simp [World.cell?, hb, hC]
  clear hk9
  go_wp2_with fail
  obtain ⟨W2, hW2⟩ : ∃ W, W = w1.alloc (.cells #[.int .i64 (sh k 0), .int .i64 (sh k 1), .int .i64 (sh k 2), .int .i64 (sh k 3), .int .i64 (sh k 4), .int .i64 (sh k 5), .int .i64 (sh k 6), .int .i64 (sh k 7), .int .i64 (sh k 8), .int .i64 (sh k 9), .int .i64 (sh k 10), .int .i64 (sh k 11), .int .i64 (sh k 12), .int .i64 (sh k 13), .int .i64 (sh k 14)] 73) := ⟨_, rfl⟩
  have U2 : Hid (Up Nul w1 W2) := by show Up _ _ _; rw [hW2]; exact (Up.refl Nul w1).alloc _
  have hq : W2.heap[w1.heap.size]? = some (.cells #[.int .i64 (sh k 0), .int .i64 (sh k 1), .int .i64 (sh k 2), .int .i64 (sh k 3), .int .i64 (sh k 4), .int .i64 (sh k 5), .int .i64 (sh k 6), .int .i64 (sh k 7), .int .i64 (sh k 8), .int .i64 (sh k 9), .int .i64 (sh k 10), .int .i64 (sh k 11), .int .i64 (sh k 12), .int .i64 (sh k 13), .int .i64 (sh k 14)] 73 (0, 0)) := by rw [hW2]; exact heap_alloc_new _ _
  have hp := (U2.out.block p hlt id).trans hb
  rw [hC] at hp
  have hq2 : w1.heap.size < W2.heap.size := by rw [hW2]; simp
  have hp2 := Nat.lt_of_lt_of_le hlt U2.out.size
  have U3 := hid (HU1.out.trans U2.out)
  rw [← hW2]
  clear hW2 x0 y0 y1 y2 y3 y4 y5 y6 y7 y8 y9 y10 y11 y12 y13 y14 hb U2 HU1 hlt
  generalize w1.heap.size = q at hq hq2 ⊢
  have Hp1 : Hid (∀ W, Up Nul W2 W → W.cell? ⟨p, 1, none⟩ = some (.string s)) := fun W u => by have a := (u.block p hp2 id).trans hp; simp only [World.cell?, a]; rfl
  have Hp2 : Hid (∀ W, Up Nul W2 W → W.cell? ⟨p, 2, none⟩ = some (.int .i64 n)) := fun W u => by have a := (u.block p hp2 id).trans hp; simp only [World.cell?, a]; rfl
  have Hp3 : Hid (∀ W, Up Nul W2 W → W.cell? ⟨p, 3, none⟩ = some (.int .i64 sid)) := fun W u => by have a := (u.block p hp2 id).trans hp; simp only [World.cell?, a]; rfl
  have Hp4 : Hid (∀ W, Up Nul W2 W → W.cell? ⟨p, 4, none⟩ = some (.slice sa ns cs)) := fun W u => by have a := (u.block p hp2 id).trans hp; simp only [World.cell?, a]; rfl
  have Hp5 : Hid (∀ W, Up Nul W2 W → W.cell? ⟨p, 5, none⟩ = some (.int .i64 co)) := fun W u => by have a := (u.block p hp2 id).trans hp; simp only [World.cell?, a]; rfl
  have Hp6 : Hid (∀ W, Up Nul W2 W → W.cell? ⟨p, 6, none⟩ = some (.slice la nl cl)) := fun W u => by have a := (u.block p hp2 id).trans hp; simp only [World.cell?, a]; rfl
  have Hp7 : Hid (∀ W, Up Nul W2 W → W.cell? ⟨p, 7, none⟩ = some (.int .i64 t.hot)) := fun W u => by have a := (u.block p hp2 id).trans hp; simp only [World.cell?, a]; rfl
  have Hp8 : Hid (∀ W, Up Nul W2 W → W.cell? ⟨p, 8, none⟩ = some (.int .i64 t.warm)) := fun W u => by have a := (u.block p hp2 id).trans hp; simp only [World.cell?, a]; rfl
  have Hp9 : Hid (∀ W, Up Nul W2 W → W.cell? ⟨p, 9, none⟩ = some (.int .i64 t.gap)) := fun W u => by have a := (u.block p hp2 id).trans hp; simp only [World.cell?, a]; rfl
  have Hp10 : Hid (∀ W, Up Nul W2 W → W.cell? ⟨p, 10, none⟩ = some (.int .i64 t.add)) := fun W u => by have a := (u.block p hp2 id).trans hp; simp only [World.cell?, a]; rfl
  have Hp11 : Hid (∀ W, Up Nul W2 W → W.cell? ⟨p, 11, none⟩ = some (.int .i64 t.top)) := fun W u => by have a := (u.block p hp2 id).trans hp; simp only [World.cell?, a]; rfl
  have Hp12 : Hid (∀ W, Up Nul W2 W → W.cell? ⟨p, 12, none⟩ = some (.int .i64 t.half)) := fun W u => by have a := (u.block p hp2 id).trans hp; simp only [World.cell?, a]; rfl
  have Hq0 : Hid (∀ W, Up Nul W2 W → W.cell? ⟨q, 0, none⟩ = some (.int .i64 (sh k 0))) := fun W u => by have a := (u.block q hq2 id).trans hq; simp only [World.cell?, a]; rfl
  have Hq1 : Hid (∀ W, Up Nul W2 W → W.cell? ⟨q, 1, none⟩ = some (.int .i64 (sh k 1))) := fun W u => by have a := (u.block q hq2 id).trans hq; simp only [World.cell?, a]; rfl
  have Hq2 : Hid (∀ W, Up Nul W2 W → W.cell? ⟨q, 2, none⟩ = some (.int .i64 (sh k 2))) := fun W u => by have a := (u.block q hq2 id).trans hq; simp only [World.cell?, a]; rfl
  have Hq3 : Hid (∀ W, Up Nul W2 W → W.cell? ⟨q, 3, none⟩ = some (.int .i64 (sh k 3))) := fun W u => by have a := (u.block q hq2 id).trans hq; simp only [World.cell?, a]; rfl
  have Hq4 : Hid (∀ W, Up Nul W2 W → W.cell? ⟨q, 4, none⟩ = some (.int .i64 (sh k 4))) := fun W u => by have a := (u.block q hq2 id).trans hq; simp only [World.cell?, a]; rfl
  have Hq5 : Hid (∀ W, Up Nul W2 W → W.cell? ⟨q, 5, none⟩ = some (.int .i64 (sh k 5))) := fun W u => by have a := (u.block q hq2 id).trans hq; simp only [World.cell?, a]; rfl
  have Hq6 : Hid (∀ W, Up Nul W2 W → W.cell? ⟨q, 6, none⟩ = some (.int .i64 (sh k 6))) := fun W u => by have a := (u.block q hq2 id).trans hq; simp only [World.cell?, a]; rfl
  have Hq7 : Hid (∀ W, Up Nul W2 W → W.cell? ⟨q, 7, none⟩ = some (.int .i64 (sh k 7))) := fun W u => by have a := (u.block q hq2 id).trans hq; simp only [World.cell?, a]; rfl
  have Hq8 : Hid (∀ W, Up Nul W2 W → W.cell? ⟨q, 8, none⟩ = some (.int .i64 (sh k 8))) := fun W u => by have a := (u.block q hq2 id).trans hq; simp only [World.cell?, a]; rfl
  have Hq9 : Hid (∀ W, Up Nul W2 W → W.cell? ⟨q, 9, none⟩ = some (.int .i64 (sh k 9))) := fun W u => by have a := (u.block q hq2 id).trans hq; simp only [World.cell?, a]; rfl
  have Hq10 : Hid (∀ W, Up Nul W2 W → W.cell? ⟨q, 10, none⟩ = some (.int .i64 (sh k 10))) := fun W u => by have a := (u.block q hq2 id).trans hq; simp only [World.cell?, a]; rfl
  have Hq11 : Hid (∀ W, Up Nul W2 W → W.cell? ⟨q, 11, none⟩ = some (.int .i64 (sh k 11))) := fun W u => by have a := (u.block q hq2 id).trans hq; simp only [World.cell?, a]; rfl
  have Hq12 : Hid (∀ W, Up Nul W2 W → W.cell? ⟨q, 12, none⟩ = some (.int .i64 (sh k 12))) := fun W u => by have a := (u.block q hq2 id).trans hq; simp only [World.cell?, a]; rfl
  have Hq13 : Hid (∀ W, Up Nul W2 W → W.cell? ⟨q, 13, none⟩ = some (.int .i64 (sh k 13))) := fun W u => by have a := (u.block q hq2 id).trans hq; simp only [World.cell?, a]; rfl
  have Hq14 : Hid (∀ W, Up Nul W2 W → W.cell? ⟨q, 14, none⟩ = some (.int .i64 (sh k 14))) := fun W u => by have a := (u.block q hq2 id).trans hq; simp only [World.cell?, a]; rfl
  clear hp hq hp2 hq2
  have HR := hid (Up.refl Nul W2)
  simp only [List.append]
  refine wp_region_held_drew (S := (fun W => Up Nul W2 W)) (by kernel_rfl) (by exact HR.out.drew) (fun hHeld => ?_)
  refine wpAnyH_take (i := 0) (oi := ⟨some 12, _, _, _, _, _⟩) (v := ?vk10n1u1) rfl (by kernel_rfl) (by kernel_rfl) (by kernel_rfl) (fun _ _ _ h => h) (Or.inl ⟨by rfl, ?yk10n1u1⟩) (by assumption) ?rk10n1u1
  case yk10n1u1 => (intro w hSw; (try dsimp only at hSw); go_simp; try with_reducible rfl)
  try simp only [Act.put, List.setIfInBounds_toArray, List.set_cons_zero, List.set_cons_succ]
  refine wpAnyH_take (i := 1) (oi := ⟨some 13, _, _, _, _, _⟩) (v := ?vk10x2) rfl (by kernel_rfl) (by kernel_rfl) (by kernel_rfl) (fun _ _ _ h => h) (Or.inl ⟨by rfl, ?yk10x2⟩) (by assumption) ?rk10x2
  case yk10x2 => (intro w hSw; have aq0 := Hq0.out w hSw; have aq1 := Hq1.out w hSw; go_simp; try with_reducible rfl)
  try simp only [Act.put, List.setIfInBounds_toArray, List.set_cons_zero, List.set_cons_succ]
  refine wpAnyH_take (i := 2) (oi := ⟨some 14, _, _, _, _, _⟩) (v := ?vk10n3u1) rfl (by kernel_rfl) (by kernel_rfl) (by kernel_rfl) (fun _ _ _ h => h) (Or.inl ⟨by rfl, ?yk10n3u1⟩) (by assumption) ?rk10n3u1
  case yk10n3u1 => (intro w hSw; (try dsimp only at hSw); go_simp; try with_reducible rfl)
  try simp only [Act.put, List.setIfInBounds_toArray, List.set_cons_zero, List.set_cons_succ]
  refine wpAnyH_take (i := 3) (oi := ⟨some 15, _, _, _, _, _⟩) (v := ?vk10x4) rfl (by kernel_rfl) (by kernel_rfl) (by kernel_rfl) (fun _ _ _ h => h) (Or.inl ⟨by rfl, ?yk10x4⟩) (by assumption) ?rk10x4
  case yk10x4 => (intro w hSw; have ap1 := Hp1.out w hSw; go_simp; try with_reducible rfl)
  try simp only [Act.put, List.setIfInBounds_toArray, List.set_cons_zero, List.set_cons_succ]
  refine wpAnyH_take (i := 4) (oi := ⟨some 16, _, _, _, _, _⟩) (v := ?vk10n5u1) rfl (by kernel_rfl) (by kernel_rfl) (by kernel_rfl) (fun _ _ _ h => h) (Or.inl ⟨by rfl, ?yk10n5u1⟩) (by assumption) ?rk10n5u1
  case yk10n5u1 => (intro w hSw; (try dsimp only at hSw); go_simp; try with_reducible rfl)
  try simp only [Act.put, List.setIfInBounds_toArray, List.set_cons_zero, List.set_cons_succ]
  refine wpAnyH_ready (rs := [5]) (by kernel_rfl) (by simp) ?_
  refine AllReadyH.cons (o := ⟨some 17, _, _, _, _, _⟩) rfl (fun K hK => ?_) AllReadyH.nil
  go_simp
  skip
  refine hK.out _ _ ?kk10n6u1 (fun hHeld => ?_)
  case kk10n6u1 => exact (by first | exact Up.alloc (show Up Nul W2 _ from hHeld) _ | exact (Up.alloc (show Up Nul W2 _ from HR.out) _).drew)
  clear hK K
  try simp only [Act.put, List.setIfInBounds_toArray, List.set_cons_zero, List.set_cons_succ]
  refine wpAnyH_ready (rs := [6]) (by kernel_rfl) (by simp) ?_
  refine AllReadyH.cons (o := ⟨some 18, _, _, _, _, _⟩) rfl (fun K hK => ?_) AllReadyH.nil
  go_simp
  go_at_call 25; refine (HH.out.h1 _ (U3.out.trans (show Up Nul W2 _ from hHeld)) _ (by first | exact World.cell?_alloc_new _ _ _ 0 | (simp; done) | go_simp)).mono ?_; rintro e wb ⟨rfl, kb⟩
  refine hK.out _ _ ?kk10n7u1 (fun hHeld => ?_)
  case kk10n7u1 => exact (Up.trans (show Up Nul W2 _ from hHeld) kb)
  clear hK K
  try simp only [Act.put, List.setIfInBounds_toArray, List.set_cons_zero, List.set_cons_succ]
  refine wpAnyH_take (i := 7) (oi := ⟨some 19, _, _, _, _, _⟩) (v := ?vk10n8u1) rfl (by kernel_rfl) (by kernel_rfl) (by kernel_rfl) (fun _ _ _ h => h) (Or.inl ⟨by rfl, ?yk10n8u1⟩) (by assumption) ?rk10n8u1
  case yk10n8u1 => (intro w hSw; (try dsimp only at hSw); go_simp; try with_reducible rfl)
  try simp only [Act.put, List.setIfInBounds_toArray, List.set_cons_zero, List.set_cons_succ]
  refine wpAnyH_take (i := 8) (oi := ⟨some 20, _, _, _, _, _⟩) (v := ?vk10n9u1) rfl (by kernel_rfl) (by kernel_rfl) (by kernel_rfl) (fun _ _ _ h => h) (Or.inl ⟨by rfl, ?yk10n9u1⟩) (by assumption) ?rk10n9u1
  case yk10n9u1 => (intro w hSw; (try dsimp only at hSw); go_simp; try with_reducible rfl)
  try simp only [Act.put, List.setIfInBounds_toArray, List.set_cons_zero, List.set_cons_succ]
  refine wpAnyH_take (i := 9) (oi := ⟨some 21, _, _, _, _, _⟩) (v := ?vk10x10) rfl (by kernel_rfl) (by kernel_rfl) (by kernel_rfl) (fun _ _ _ h => h) (Or.inl ⟨by rfl, ?yk10x10⟩) (by assumption) ?rk10x10
  case yk10x10 => (intro w hSw; have ap1 := Hp1.out w hSw; go_simp; try with_reducible rfl)
  try simp only [Act.put, List.setIfInBounds_toArray, List.set_cons_zero, List.set_cons_succ]
  refine wpAnyH_ready (rs := [10]) (by kernel_rfl) (by simp) ?_
  refine AllReadyH.cons (o := ⟨some 22, _, _, _, _, _⟩) rfl (fun K hK => ?_) AllReadyH.nil
  go_simp
  go_at_call 26; refine (HH.out.h2 _).mono ?_; rintro e wb ⟨rfl, kb⟩
  refine hK.out _ _ ?kk10n11u1 (fun hHeld => ?_)
  case kk10n11u1 => exact (Up.trans (show Up Nul W2 _ from hHeld) kb)
  clear hK K
  try simp only [Act.put, List.setIfInBounds_toArray, List.set_cons_zero, List.set_cons_succ]
  refine wpAnyH_take (i := 11) (oi := ⟨some 23, _, _, _, _, _⟩) (v := ?vk10n12u1) rfl (by kernel_rfl) (by kernel_rfl) (by kernel_rfl) (fun _ _ _ h => h) (Or.inl ⟨by rfl, ?yk10n12u1⟩) (by assumption) ?rk10n12u1
  case yk10n12u1 => (intro w hSw; (try dsimp only at hSw); go_simp; try with_reducible rfl)
  try simp only [Act.put, List.setIfInBounds_toArray, List.set_cons_zero, List.set_cons_succ]
  refine wpAnyH_take (i := 12) (oi := ⟨some 24, _, _, _, _, _⟩) (v := ?vk10n13u1) rfl (by kernel_rfl) (by kernel_rfl) (by kernel_rfl) (fun _ _ _ h => h) (Or.inl ⟨by rfl, ?yk10n13u1⟩) (by assumption) ?rk10n13u1
  case yk10n13u1 => (intro w hSw; (try dsimp only at hSw); go_simp; try with_reducible rfl)
  try simp only [Act.put, List.setIfInBounds_toArray, List.set_cons_zero, List.set_cons_succ]
  refine wpAnyH_take (i := 13) (oi := ⟨some 25, _, _, _, _, _⟩) (v := ?vk10n14u1) rfl (by kernel_rfl) (by kernel_rfl) (by kernel_rfl) (fun _ _ _ h => h) (Or.inl ⟨by rfl, ?yk10n14u1⟩) (by assumption) ?rk10n14u1
  case yk10n14u1 => (intro w hSw; (try dsimp only at hSw); go_simp; try with_reducible rfl)
  try simp only [Act.put, List.setIfInBounds_toArray, List.set_cons_zero, List.set_cons_succ]
  refine wpAnyH_take (i := 14) (oi := ⟨some 26, _, _, _, _, _⟩) (v := ?vk10x15) rfl (by kernel_rfl) (by kernel_rfl) (by kernel_rfl) (fun _ _ _ h => h) (Or.inl ⟨by rfl, ?yk10x15⟩) (by assumption) ?rk10x15
  case yk10x15 => (intro w hSw; have aq2 := Hq2.out w hSw; have aq3 := Hq3.out w hSw; go_simp; try with_reducible rfl)
  try simp only [Act.put, List.setIfInBounds_toArray, List.set_cons_zero, List.set_cons_succ]
  refine wpAnyH_take (i := 15) (oi := ⟨some 27, _, _, _, _, _⟩) (v := ?vk10n16u1) rfl (by kernel_rfl) (by kernel_rfl) (by kernel_rfl) (fun _ _ _ h => h) (Or.inl ⟨by rfl, ?yk10n16u1⟩) (by assumption) ?rk10n16u1
  case yk10n16u1 => (intro w hSw; (try dsimp only at hSw); go_simp; try with_reducible rfl)
  try simp only [Act.put, List.setIfInBounds_toArray, List.set_cons_zero, List.set_cons_succ]
  refine wpAnyH_take (i := 16) (oi := ⟨some 28, _, _, _, _, _⟩) (v := ?vk10x17) rfl (by kernel_rfl) (by kernel_rfl) (by kernel_rfl) (fun _ _ _ h => h) (Or.inl ⟨by rfl, ?yk10x17⟩) (by assumption) ?rk10x17
  case yk10x17 => (intro w hSw; have ap2 := Hp2.out w hSw; go_simp; try with_reducible rfl)
  try simp only [Act.put, List.setIfInBounds_toArray, List.set_cons_zero, List.set_cons_succ]
  refine wpAnyH_ready (rs := [17]) (by kernel_rfl) (by simp) ?_
  refine AllReadyH.cons (o := ⟨some 29, _, _, _, _, _⟩) rfl (fun K hK => ?_) AllReadyH.nil
  go_simp
  skip
  refine hK.out _ _ ?kk10n18u1 (fun hHeld => ?_)
  case kk10n18u1 => exact (by first | exact Up.alloc (show Up Nul W2 _ from hHeld) _ | exact (Up.alloc (show Up Nul W2 _ from HR.out) _).drew)
  clear hK K
  try simp only [Act.put, List.setIfInBounds_toArray, List.set_cons_zero, List.set_cons_succ]
  refine wpAnyH_ready (rs := [18]) (by kernel_rfl) (by simp) ?_
  refine AllReadyH.cons (o := ⟨some 30, _, _, _, _, _⟩) rfl (fun K hK => ?_) AllReadyH.nil
  go_simp
  go_at_call 25; refine (HH.out.h3 _ (U3.out.trans (show Up Nul W2 _ from hHeld)) _ (by first | exact World.cell?_alloc_new _ _ _ 0 | (simp; done) | go_simp)).mono ?_; rintro e wb ⟨rfl, kb⟩
  refine hK.out _ _ ?kk10n19u1 (fun hHeld => ?_)
  case kk10n19u1 => exact (Up.trans (show Up Nul W2 _ from hHeld) kb)
  clear hK K
  try simp only [Act.put, List.setIfInBounds_toArray, List.set_cons_zero, List.set_cons_succ]
  refine wpAnyH_take (i := 19) (oi := ⟨some 31, _, _, _, _, _⟩) (v := ?vk10n20u1) rfl (by kernel_rfl) (by kernel_rfl) (by kernel_rfl) (fun _ _ _ h => h) (Or.inl ⟨by rfl, ?yk10n20u1⟩) (by assumption) ?rk10n20u1
  case yk10n20u1 => (intro w hSw; (try dsimp only at hSw); go_simp; try with_reducible rfl)
  try simp only [Act.put, List.setIfInBounds_toArray, List.set_cons_zero, List.set_cons_succ]
  refine wpAnyH_take (i := 20) (oi := ⟨some 32, _, _, _, _, _⟩) (v := ?vk10n21u1) rfl (by kernel_rfl) (by kernel_rfl) (by kernel_rfl) (fun _ _ _ h => h) (Or.inl ⟨by rfl, ?yk10n21u1⟩) (by assumption) ?rk10n21u1
  case yk10n21u1 => (intro w hSw; (try dsimp only at hSw); go_simp; try with_reducible rfl)
  try simp only [Act.put, List.setIfInBounds_toArray, List.set_cons_zero, List.set_cons_succ]
  refine wpAnyH_take (i := 21) (oi := ⟨some 33, _, _, _, _, _⟩) (v := ?vk10n22u1) rfl (by kernel_rfl) (by kernel_rfl) (by kernel_rfl) (fun _ _ _ h => h) (Or.inl ⟨by rfl, ?yk10n22u1⟩) (by assumption) ?rk10n22u1
  case yk10n22u1 => (intro w hSw; (try dsimp only at hSw); go_simp; try with_reducible rfl)
  try simp only [Act.put, List.setIfInBounds_toArray, List.set_cons_zero, List.set_cons_succ]
  refine wpAnyH_take (i := 22) (oi := ⟨some 34, _, _, _, _, _⟩) (v := ?vk10x23) rfl (by kernel_rfl) (by kernel_rfl) (by kernel_rfl) (fun _ _ _ h => h) (Or.inl ⟨by rfl, ?yk10x23⟩) (by assumption) ?rk10x23
  case yk10x23 => (intro w hSw; have aq4 := Hq4.out w hSw; have aq5 := Hq5.out w hSw; go_simp; try with_reducible rfl)
  try simp only [Act.put, List.setIfInBounds_toArray, List.set_cons_zero, List.set_cons_succ]
  refine wpAnyH_take (i := 23) (oi := ⟨some 35, _, _, _, _, _⟩) (v := ?vk10n24u1) rfl (by kernel_rfl) (by kernel_rfl) (by kernel_rfl) (fun _ _ _ h => h) (Or.inl ⟨by rfl, ?yk10n24u1⟩) (by assumption) ?rk10n24u1
  case yk10n24u1 => (intro w hSw; (try dsimp only at hSw); go_simp; try with_reducible rfl)
  try simp only [Act.put, List.setIfInBounds_toArray, List.set_cons_zero, List.set_cons_succ]
  refine wpAnyH_take (i := 24) (oi := ⟨some 36, _, _, _, _, _⟩) (v := ?vk10x25) rfl (by kernel_rfl) (by kernel_rfl) (by kernel_rfl) (fun _ _ _ h => h) (Or.inl ⟨by rfl, ?yk10x25⟩) (by assumption) ?rk10x25
  case yk10x25 => (intro w hSw; have ap3 := Hp3.out w hSw; go_simp; try with_reducible rfl)
  try simp only [Act.put, List.setIfInBounds_toArray, List.set_cons_zero, List.set_cons_succ]
  refine wpAnyH_ready (rs := [25]) (by kernel_rfl) (by simp) ?_
  refine AllReadyH.cons (o := ⟨some 37, _, _, _, _, _⟩) rfl (fun K hK => ?_) AllReadyH.nil
  go_simp
  skip
  refine hK.out _ _ ?kk10n26u1 (fun hHeld => ?_)
  case kk10n26u1 => exact (by first | exact Up.alloc (show Up Nul W2 _ from hHeld) _ | exact (Up.alloc (show Up Nul W2 _ from HR.out) _).drew)
  clear hK K
  try simp only [Act.put, List.setIfInBounds_toArray, List.set_cons_zero, List.set_cons_succ]
  refine wpAnyH_ready (rs := [26]) (by kernel_rfl) (by simp) ?_
  refine AllReadyH.cons (o := ⟨some 38, _, _, _, _, _⟩) rfl (fun K hK => ?_) AllReadyH.nil
  go_simp
  go_at_call 25; refine (HH.out.h4 _ (U3.out.trans (show Up Nul W2 _ from hHeld)) _ (by first | exact World.cell?_alloc_new _ _ _ 0 | (simp; done) | go_simp)).mono ?_; rintro e wb ⟨rfl, kb⟩
  refine hK.out _ _ ?kk10n27u1 (fun hHeld => ?_)
  case kk10n27u1 => exact (Up.trans (show Up Nul W2 _ from hHeld) kb)
  clear hK K
  try simp only [Act.put, List.setIfInBounds_toArray, List.set_cons_zero, List.set_cons_succ]
  refine wpAnyH_take (i := 27) (oi := ⟨some 39, _, _, _, _, _⟩) (v := ?vk10n28u1) rfl (by kernel_rfl) (by kernel_rfl) (by kernel_rfl) (fun _ _ _ h => h) (Or.inl ⟨by rfl, ?yk10n28u1⟩) (by assumption) ?rk10n28u1
  case yk10n28u1 => (intro w hSw; (try dsimp only at hSw); go_simp; try with_reducible rfl)
  try simp only [Act.put, List.setIfInBounds_toArray, List.set_cons_zero, List.set_cons_succ]
  refine wpAnyH_take (i := 28) (oi := ⟨some 40, _, _, _, _, _⟩) (v := ?vk10n29u1) rfl (by kernel_rfl) (by kernel_rfl) (by kernel_rfl) (fun _ _ _ h => h) (Or.inl ⟨by rfl, ?yk10n29u1⟩) (by assumption) ?rk10n29u1
  case yk10n29u1 => (intro w hSw; (try dsimp only at hSw); go_simp; try with_reducible rfl)
  try simp only [Act.put, List.setIfInBounds_toArray, List.set_cons_zero, List.set_cons_succ]
  refine wpAnyH_take (i := 29) (oi := ⟨some 41, _, _, _, _, _⟩) (v := ?vk10n30u1) rfl (by kernel_rfl) (by kernel_rfl) (by kernel_rfl) (fun _ _ _ h => h) (Or.inl ⟨by rfl, ?yk10n30u1⟩) (by assumption) ?rk10n30u1
  case yk10n30u1 => (intro w hSw; (try dsimp only at hSw); go_simp; try with_reducible rfl)
  try simp only [Act.put, List.setIfInBounds_toArray, List.set_cons_zero, List.set_cons_succ]
  refine wpAnyH_take (i := 30) (oi := ⟨some 42, _, _, _, _, _⟩) (v := ?vk10x31) rfl (by kernel_rfl) (by kernel_rfl) (by kernel_rfl) (fun _ _ _ h => h) (Or.inl ⟨by rfl, ?yk10x31⟩) (by assumption) ?rk10x31
  case yk10x31 => (intro w hSw; have aq6 := Hq6.out w hSw; have aq7 := Hq7.out w hSw; go_simp; try with_reducible rfl)
  try simp only [Act.put, List.setIfInBounds_toArray, List.set_cons_zero, List.set_cons_succ]
  refine wpAnyH_take (i := 31) (oi := ⟨some 43, _, _, _, _, _⟩) (v := ?vk10n32u1) rfl (by kernel_rfl) (by kernel_rfl) (by kernel_rfl) (fun _ _ _ h => h) (Or.inl ⟨by rfl, ?yk10n32u1⟩) (by assumption) ?rk10n32u1
  case yk10n32u1 => (intro w hSw; (try dsimp only at hSw); go_simp; try with_reducible rfl)
  try simp only [Act.put, List.setIfInBounds_toArray, List.set_cons_zero, List.set_cons_succ]
  refine wpAnyH_take (i := 32) (oi := ⟨some 44, _, _, _, _, _⟩) (v := ?vk10x33) rfl (by kernel_rfl) (by kernel_rfl) (by kernel_rfl) (fun _ _ _ h => h) (Or.inl ⟨by rfl, ?yk10x33⟩) (by assumption) ?rk10x33
  case yk10x33 => (intro w hSw; have ap5 := Hp5.out w hSw; go_simp; try with_reducible rfl)
  try simp only [Act.put, List.setIfInBounds_toArray, List.set_cons_zero, List.set_cons_succ]
  refine wpAnyH_ready (rs := [33]) (by kernel_rfl) (by simp) ?_
  refine AllReadyH.cons (o := ⟨some 45, _, _, _, _, _⟩) rfl (fun K hK => ?_) AllReadyH.nil
  go_simp
  skip
  refine hK.out _ _ ?kk10n34u1 (fun hHeld => ?_)
  case kk10n34u1 => exact (by first | exact Up.alloc (show Up Nul W2 _ from hHeld) _ | exact (Up.alloc (show Up Nul W2 _ from HR.out) _).drew)
  clear hK K
  try simp only [Act.put, List.setIfInBounds_toArray, List.set_cons_zero, List.set_cons_succ]
  refine wpAnyH_ready (rs := [34]) (by kernel_rfl) (by simp) ?_
  refine AllReadyH.cons (o := ⟨some 46, _, _, _, _, _⟩) rfl (fun K hK => ?_) AllReadyH.nil
  go_simp
  go_at_call 25; refine (HH.out.h5 _ (U3.out.trans (show Up Nul W2 _ from hHeld)) _ (by first | exact World.cell?_alloc_new _ _ _ 0 | (simp; done) | go_simp)).mono ?_; rintro e wb ⟨rfl, kb⟩
  refine hK.out _ _ ?kk10n35u1 (fun hHeld => ?_)
  case kk10n35u1 => exact (Up.trans (show Up Nul W2 _ from hHeld) kb)
  clear hK K
  try simp only [Act.put, List.setIfInBounds_toArray, List.set_cons_zero, List.set_cons_succ]
  refine wpAnyH_take (i := 35) (oi := ⟨some 47, _, _, _, _, _⟩) (v := ?vk10n36u1) rfl (by kernel_rfl) (by kernel_rfl) (by kernel_rfl) (fun _ _ _ h => h) (Or.inl ⟨by rfl, ?yk10n36u1⟩) (by assumption) ?rk10n36u1
  case yk10n36u1 => (intro w hSw; (try dsimp only at hSw); go_simp; try with_reducible rfl)
  try simp only [Act.put, List.setIfInBounds_toArray, List.set_cons_zero, List.set_cons_succ]
  refine wpAnyH_take (i := 36) (oi := ⟨some 48, _, _, _, _, _⟩) (v := ?vk10n37u1) rfl (by kernel_rfl) (by kernel_rfl) (by kernel_rfl) (fun _ _ _ h => h) (Or.inl ⟨by rfl, ?yk10n37u1⟩) (by assumption) ?rk10n37u1
  case yk10n37u1 => (intro w hSw; (try dsimp only at hSw); go_simp; try with_reducible rfl)
  try simp only [Act.put, List.setIfInBounds_toArray, List.set_cons_zero, List.set_cons_succ]
  refine wpAnyH_take (i := 37) (oi := ⟨some 49, _, _, _, _, _⟩) (v := ?vk10n38u1) rfl (by kernel_rfl) (by kernel_rfl) (by kernel_rfl) (fun _ _ _ h => h) (Or.inl ⟨by rfl, ?yk10n38u1⟩) (by assumption) ?rk10n38u1
  case yk10n38u1 => (intro w hSw; (try dsimp only at hSw); go_simp; try with_reducible rfl)
  try simp only [Act.put, List.setIfInBounds_toArray, List.set_cons_zero, List.set_cons_succ]
  refine wpAnyH_take (i := 38) (oi := ⟨some 50, _, _, _, _, _⟩) (v := ?vk10x39) rfl (by kernel_rfl) (by kernel_rfl) (by kernel_rfl) (fun _ _ _ h => h) (Or.inl ⟨by rfl, ?yk10x39⟩) (by assumption) ?rk10x39
  case yk10x39 => (intro w hSw; have ap4 := Hp4.out w hSw; go_simp; try with_reducible rfl)
  try simp only [Act.put, List.setIfInBounds_toArray, List.set_cons_zero, List.set_cons_succ]
  refine wpAnyH_take (i := 39) (oi := ⟨some 51, _, _, _, _, _⟩) (v := ?vk10n40u1) rfl (by kernel_rfl) (by kernel_rfl) (by kernel_rfl) (fun _ _ _ h => h) (Or.inl ⟨by rfl, ?yk10n40u1⟩) (by assumption) ?rk10n40u1
  case yk10n40u1 => (intro w hSw; (try dsimp only at hSw); go_simp; try with_reducible rfl)
  try simp only [Act.put, List.setIfInBounds_toArray, List.set_cons_zero, List.set_cons_succ]
  refine wpAnyH_take (i := 40) (oi := ⟨some 52, _, _, _, _, _⟩) (v := ?vk10n41u1) rfl (by kernel_rfl) (by kernel_rfl) (by kernel_rfl) (fun _ _ _ h => h) (Or.inl ⟨by rfl, ?yk10n41u1⟩) (by assumption) ?rk10n41u1
  case yk10n41u1 => (intro w hSw; (try dsimp only at hSw); go_simp; try with_reducible rfl)
  try simp only [Act.put, List.setIfInBounds_toArray, List.set_cons_zero, List.set_cons_succ]
  refine wpAnyH_take (i := 41) (oi := ⟨some 53, _, _, _, _, _⟩) (v := ?vk10x42) rfl (by kernel_rfl) (by kernel_rfl) (by kernel_rfl) (fun _ _ _ h => h) (Or.inl ⟨by rfl, ?yk10x42⟩) (by assumption) ?rk10x42
  case yk10x42 => (intro w hSw; have aq8 := Hq8.out w hSw; go_simp; try with_reducible rfl)
  try simp only [Act.put, List.setIfInBounds_toArray, List.set_cons_zero, List.set_cons_succ]
  refine wpAnyH_take (i := 42) (oi := ⟨some 54, _, _, _, _, _⟩) (v := ?vk10n43u1) rfl (by kernel_rfl) (by kernel_rfl) (by kernel_rfl) (fun _ _ _ h => h) (Or.inl ⟨by rfl, ?yk10n43u1⟩) (by assumption) ?rk10n43u1
  case yk10n43u1 => (intro w hSw; (try dsimp only at hSw); go_simp; try with_reducible rfl)
  try simp only [Act.put, List.setIfInBounds_toArray, List.set_cons_zero, List.set_cons_succ]
  refine wpAnyH_take (i := 43) (oi := ⟨some 55, _, _, _, _, _⟩) (v := ?vk10n44u1) rfl (by kernel_rfl) (by kernel_rfl) (by kernel_rfl) (fun _ _ _ h => h) (Or.inl ⟨by rfl, ?yk10n44u1⟩) (by assumption) ?rk10n44u1
  case yk10n44u1 => (intro w hSw; (try dsimp only at hSw); go_simp; try with_reducible rfl)
  try simp only [Act.put, List.setIfInBounds_toArray, List.set_cons_zero, List.set_cons_succ]
  refine wpAnyH_take (i := 44) (oi := ⟨some 56, _, _, _, _, _⟩) (v := ?vk10n45u1) rfl (by kernel_rfl) (by kernel_rfl) (by kernel_rfl) (fun _ _ _ h => h) (Or.inl ⟨by rfl, ?yk10n45u1⟩) (by assumption) ?rk10n45u1
  case yk10n45u1 => (intro w hSw; (try dsimp only at hSw); go_simp; try with_reducible rfl)
  try simp only [Act.put, List.setIfInBounds_toArray, List.set_cons_zero, List.set_cons_succ]
  refine wpAnyH_take (i := 45) (oi := ⟨some 57, _, _, _, _, _⟩) (v := ?vk10n46u1) rfl (by kernel_rfl) (by kernel_rfl) (by kernel_rfl) (fun _ _ _ h => h) (Or.inl ⟨by rfl, ?yk10n46u1⟩) (by assumption) ?rk10n46u1
  case yk10n46u1 => (intro w hSw; (try dsimp only at hSw); go_simp; try with_reducible rfl)
  try simp only [Act.put, List.setIfInBounds_toArray, List.set_cons_zero, List.set_cons_succ]
  refine wpAnyH_take (i := 46) (oi := ⟨some 58, _, _, _, _, _⟩) (v := ?vk10x47) rfl (by kernel_rfl) (by kernel_rfl) (by kernel_rfl) (fun _ _ _ h => h) (Or.inl ⟨by rfl, ?yk10x47⟩) (by assumption) ?rk10x47
  case yk10x47 => (intro w hSw; have aq9 := Hq9.out w hSw; have aq10 := Hq10.out w hSw; go_simp; try with_reducible rfl)
  try simp only [Act.put, List.setIfInBounds_toArray, List.set_cons_zero, List.set_cons_succ]
  refine wpAnyH_take (i := 47) (oi := ⟨some 59, _, _, _, _, _⟩) (v := ?vk10n48u1) rfl (by kernel_rfl) (by kernel_rfl) (by kernel_rfl) (fun _ _ _ h => h) (Or.inl ⟨by rfl, ?yk10n48u1⟩) (by assumption) ?rk10n48u1
  case yk10n48u1 => (intro w hSw; (try dsimp only at hSw); go_simp; try with_reducible rfl)
  try simp only [Act.put, List.setIfInBounds_toArray, List.set_cons_zero, List.set_cons_succ]
  refine wpAnyH_take (i := 48) (oi := ⟨some 60, _, _, _, _, _⟩) (v := ?vk10x49) rfl (by kernel_rfl) (by kernel_rfl) (by kernel_rfl) (fun _ _ _ h => h) (Or.inl ⟨by rfl, ?yk10x49⟩) (by assumption) ?rk10x49
  case yk10x49 => (intro w hSw; have ap4 := Hp4.out w hSw; go_simp; try with_reducible rfl)
  try simp only [Act.put, List.setIfInBounds_toArray, List.set_cons_zero, List.set_cons_succ]
  refine wpAnyH_ready (rs := [49]) (by kernel_rfl) (by simp) ?_
  refine AllReadyH.cons (o := ⟨some 61, _, _, _, _, _⟩) rfl (fun K hK => ?_) AllReadyH.nil
  go_simp
  go_at_call 25; refine (HH.out.h7 _ (U3.out.trans (show Up Nul W2 _ from hHeld))).mono ?_; rintro e wb ⟨rfl, kb⟩
  refine hK.out _ _ ?kk10n50u1 (fun hHeld => ?_)
  case kk10n50u1 => exact (Up.trans (show Up Nul W2 _ from hHeld) kb)
  clear hK K
  try simp only [Act.put, List.setIfInBounds_toArray, List.set_cons_zero, List.set_cons_succ]
  refine wpAnyH_take (i := 50) (oi := ⟨some 62, _, _, _, _, _⟩) (v := ?vk10n51u1) rfl (by kernel_rfl) (by kernel_rfl) (by kernel_rfl) (fun _ _ _ h => h) (Or.inl ⟨by rfl, ?yk10n51u1⟩) (by assumption) ?rk10n51u1
  case yk10n51u1 => (intro w hSw; (try dsimp only at hSw); go_simp; try with_reducible rfl)
  try simp only [Act.put, List.setIfInBounds_toArray, List.set_cons_zero, List.set_cons_succ]
  refine wpAnyH_take (i := 51) (oi := ⟨some 63, _, _, _, _, _⟩) (v := ?vk10n52u1) rfl (by kernel_rfl) (by kernel_rfl) (by kernel_rfl) (fun _ _ _ h => h) (Or.inl ⟨by rfl, ?yk10n52u1⟩) (by assumption) ?rk10n52u1
  case yk10n52u1 => (intro w hSw; (try dsimp only at hSw); go_simp; try with_reducible rfl)
  try simp only [Act.put, List.setIfInBounds_toArray, List.set_cons_zero, List.set_cons_succ]
  refine wpAnyH_take (i := 52) (oi := ⟨some 64, _, _, _, _, _⟩) (v := ?vk10n53u1) rfl (by kernel_rfl) (by kernel_rfl) (by kernel_rfl) (fun _ _ _ h => h) (Or.inl ⟨by rfl, ?yk10n53u1⟩) (by assumption) ?rk10n53u1
  case yk10n53u1 => (intro w hSw; (try dsimp only at hSw); go_simp; try with_reducible rfl)
  try simp only [Act.put, List.setIfInBounds_toArray, List.set_cons_zero, List.set_cons_succ]
  refine wpAnyH_take (i := 53) (oi := ⟨some 65, _, _, _, _, _⟩) (v := ?vk10x54) rfl (by kernel_rfl) (by kernel_rfl) (by kernel_rfl) (fun _ _ _ h => h) (Or.inl ⟨by rfl, ?yk10x54⟩) (by assumption) ?rk10x54
  case yk10x54 => (intro w hSw; have ap6 := Hp6.out w hSw; go_simp; try with_reducible rfl)
  try simp only [Act.put, List.setIfInBounds_toArray, List.set_cons_zero, List.set_cons_succ]
  refine wpAnyH_take (i := 54) (oi := ⟨some 66, _, _, _, _, _⟩) (v := ?vk10n55u1) rfl (by kernel_rfl) (by kernel_rfl) (by kernel_rfl) (fun _ _ _ h => h) (Or.inl ⟨by rfl, ?yk10n55u1⟩) (by assumption) ?rk10n55u1
  case yk10n55u1 => (intro w hSw; (try dsimp only at hSw); go_simp; try with_reducible rfl)
  try simp only [Act.put, List.setIfInBounds_toArray, List.set_cons_zero, List.set_cons_succ]
  refine wpAnyH_take (i := 55) (oi := ⟨some 67, _, _, _, _, _⟩) (v := ?vk10x56) rfl (by kernel_rfl) (by kernel_rfl) (by kernel_rfl) (fun _ _ _ h => h) (Or.inl ⟨by rfl, ?yk10x56⟩) (by assumption) ?rk10x56
  case yk10x56 => (intro w hSw; have aq0 := Hq0.out w hSw; have aq1 := Hq1.out w hSw; have aq2 := Hq2.out w hSw; have aq3 := Hq3.out w hSw; have aq4 := Hq4.out w hSw; have aq5 := Hq5.out w hSw; have aq6 := Hq6.out w hSw; have aq7 := Hq7.out w hSw; have aq8 := Hq8.out w hSw; have aq9 := Hq9.out w hSw; have aq10 := Hq10.out w hSw; have aq11 := Hq11.out w hSw; have aq12 := Hq12.out w hSw; have aq13 := Hq13.out w hSw; have aq14 := Hq14.out w hSw; go_simp; try with_reducible rfl)
  try simp only [Act.put, List.setIfInBounds_toArray, List.set_cons_zero, List.set_cons_succ]
  refine wpAnyH_take (i := 56) (oi := ⟨some 68, _, _, _, _, _⟩) (v := ?vk10n57u1) rfl (by kernel_rfl) (by kernel_rfl) (by kernel_rfl) (fun _ _ _ h => h) (Or.inl ⟨by rfl, ?yk10n57u1⟩) (by assumption) ?rk10n57u1
  case yk10n57u1 => (intro w hSw; (try dsimp only at hSw); go_simp; try with_reducible rfl)
  try simp only [Act.put, List.setIfInBounds_toArray, List.set_cons_zero, List.set_cons_succ]
  refine wpAnyH_take (i := 57) (oi := ⟨some 69, _, _, _, _, _⟩) (v := ?vk10x58) rfl (by kernel_rfl) (by kernel_rfl) (by kernel_rfl) (fun _ _ _ h => h) (Or.inl ⟨by rfl, ?yk10x58⟩) (by assumption) ?rk10x58
  case yk10x58 => (intro w hSw; have ap4 := Hp4.out w hSw; go_simp; try with_reducible rfl)
  try simp only [Act.put, List.setIfInBounds_toArray, List.set_cons_zero, List.set_cons_succ]
  refine wpAnyH_ready (rs := [58]) (by kernel_rfl) (by simp) ?_
  refine AllReadyH.cons (o := ⟨some 70, _, _, _, _, _⟩) rfl (fun K hK => ?_) AllReadyH.nil
  go_simp
  go_at_call 27; refine (H8.out _ (U3.out.trans (show Up Nul W2 _ from hHeld))).mono ?_; rintro e wb ⟨rfl, kb⟩
  refine hK.out _ _ ?kk10n59u1 (fun hHeld => ?_)
  case kk10n59u1 => exact (Up.trans (show Up Nul W2 _ from hHeld) kb)
  clear hK K
  try simp only [Act.put, List.setIfInBounds_toArray, List.set_cons_zero, List.set_cons_succ]
  refine wpAnyH_take (i := 59) (oi := ⟨some 71, _, _, _, _, _⟩) (v := ?vk10n60u1) rfl (by kernel_rfl) (by kernel_rfl) (by kernel_rfl) (fun _ _ _ h => h) (Or.inl ⟨by rfl, ?yk10n60u1⟩) (by assumption) ?rk10n60u1
  case yk10n60u1 => (intro w hSw; (try dsimp only at hSw); go_simp; try with_reducible rfl)
  try simp only [Act.put, List.setIfInBounds_toArray, List.set_cons_zero, List.set_cons_succ]
  refine wpAnyH_take (i := 60) (oi := ⟨some 72, _, _, _, _, _⟩) (v := ?vk10n61u1) rfl (by kernel_rfl) (by kernel_rfl) (by kernel_rfl) (fun _ _ _ h => h) (Or.inl ⟨by rfl, ?yk10n61u1⟩) (by assumption) ?rk10n61u1
  case yk10n61u1 => (intro w hSw; (try dsimp only at hSw); go_simp; try with_reducible rfl)
  try simp only [Act.put, List.setIfInBounds_toArray, List.set_cons_zero, List.set_cons_succ]
  refine wpAnyH_take (i := 61) (oi := ⟨some 73, _, _, _, _, _⟩) (v := ?vk10n62u1) rfl (by kernel_rfl) (by kernel_rfl) (by kernel_rfl) (fun _ _ _ h => h) (Or.inl ⟨by rfl, ?yk10n62u1⟩) (by assumption) ?rk10n62u1
  case yk10n62u1 => (intro w hSw; (try dsimp only at hSw); go_simp; try with_reducible rfl)
  try simp only [Act.put, List.setIfInBounds_toArray, List.set_cons_zero, List.set_cons_succ]
  refine wpAnyH_take (i := 62) (oi := ⟨some 74, _, _, _, _, _⟩) (v := ?vk10n63u1) rfl (by kernel_rfl) (by kernel_rfl) (by kernel_rfl) (fun _ _ _ h => h) (Or.inl ⟨by rfl, ?yk10n63u1⟩) (by assumption) ?rk10n63u1
  case yk10n63u1 => (intro w hSw; (try dsimp only at hSw); go_simp; try with_reducible rfl)
  try simp only [Act.put, List.setIfInBounds_toArray, List.set_cons_zero, List.set_cons_succ]
  refine wpAnyH_take (i := 63) (oi := ⟨some 75, _, _, _, _, _⟩) (v := ?vk10x64) rfl (by kernel_rfl) (by kernel_rfl) (by kernel_rfl) (fun _ _ _ h => h) (Or.inl ⟨by rfl, ?yk10x64⟩) (by assumption) ?rk10x64
  case yk10x64 => (intro w hSw; have ap6 := Hp6.out w hSw; go_simp; try with_reducible rfl)
  try simp only [Act.put, List.setIfInBounds_toArray, List.set_cons_zero, List.set_cons_succ]
  refine wpAnyH_ready (rs := [64]) (by kernel_rfl) (by simp) ?_
  refine AllReadyH.cons (o := ⟨some 76, _, _, _, _, _⟩) rfl (fun K hK => ?_) AllReadyH.nil
  go_simp
  go_at_call 28; refine (HH.out.h9 _ (U3.out.trans (show Up Nul W2 _ from hHeld))).mono ?_; rintro e wb ⟨rfl, kb⟩
  refine hK.out _ _ ?kk10n65u1 (fun hHeld => ?_)
  case kk10n65u1 => exact (Up.trans (show Up Nul W2 _ from hHeld) kb)
  clear hK K
  try simp only [Act.put, List.setIfInBounds_toArray, List.set_cons_zero, List.set_cons_succ]
  refine wpAnyH_take (i := 65) (oi := ⟨some 77, _, _, _, _, _⟩) (v := ?vk10n66u1) rfl (by kernel_rfl) (by kernel_rfl) (by kernel_rfl) (fun _ _ _ h => h) (Or.inl ⟨by rfl, ?yk10n66u1⟩) (by assumption) ?rk10n66u1
  case yk10n66u1 => (intro w hSw; (try dsimp only at hSw); go_simp; try with_reducible rfl)
  try simp only [Act.put, List.setIfInBounds_toArray, List.set_cons_zero, List.set_cons_succ]
  refine wpAnyH_take (i := 66) (oi := ⟨some 78, _, _, _, _, _⟩) (v := ?vk10n67u1) rfl (by kernel_rfl) (by kernel_rfl) (by kernel_rfl) (fun _ _ _ h => h) (Or.inl ⟨by rfl, ?yk10n67u1⟩) (by assumption) ?rk10n67u1
  case yk10n67u1 => (intro w hSw; (try dsimp only at hSw); go_simp; try with_reducible rfl)
  try simp only [Act.put, List.setIfInBounds_toArray, List.set_cons_zero, List.set_cons_succ]
  refine wpAnyH_take (i := 67) (oi := ⟨some 79, _, _, _, _, _⟩) (v := ?vk10n68u1) rfl (by kernel_rfl) (by kernel_rfl) (by kernel_rfl) (fun _ _ _ h => h) (Or.inl ⟨by rfl, ?yk10n68u1⟩) (by assumption) ?rk10n68u1
  case yk10n68u1 => (intro w hSw; (try dsimp only at hSw); go_simp; try with_reducible rfl)
  try simp only [Act.put, List.setIfInBounds_toArray, List.set_cons_zero, List.set_cons_succ]
  refine wpAnyH_take (i := 68) (oi := ⟨some 80, _, _, _, _, _⟩) (v := ?vk10n69u1) rfl (by kernel_rfl) (by kernel_rfl) (by kernel_rfl) (fun _ _ _ h => h) (Or.inl ⟨by rfl, ?yk10n69u1⟩) (by assumption) ?rk10n69u1
  case yk10n69u1 => (intro w hSw; (try dsimp only at hSw); go_simp; try with_reducible rfl)
  try simp only [Act.put, List.setIfInBounds_toArray, List.set_cons_zero, List.set_cons_succ]
  refine wpAnyH_take (i := 69) (oi := ⟨some 81, _, _, _, _, _⟩) (v := ?vk10x70) rfl (by kernel_rfl) (by kernel_rfl) (by kernel_rfl) (fun _ _ _ h => h) (Or.inl ⟨by rfl, ?yk10x70⟩) (by assumption) ?rk10x70
  case yk10x70 => (intro w hSw; have aq13 := Hq13.out w hSw; have aq14 := Hq14.out w hSw; go_simp; try with_reducible rfl)
  try simp only [Act.put, List.setIfInBounds_toArray, List.set_cons_zero, List.set_cons_succ]
  refine wpAnyH_take (i := 70) (oi := ⟨some 82, _, _, _, _, _⟩) (v := ?vk10n71u1) rfl (by kernel_rfl) (by kernel_rfl) (by kernel_rfl) (fun _ _ _ h => h) (Or.inl ⟨by rfl, ?yk10n71u1⟩) (by assumption) ?rk10n71u1
  case yk10n71u1 => (intro w hSw; (try dsimp only at hSw); go_simp; try with_reducible rfl)
  try simp only [Act.put, List.setIfInBounds_toArray, List.set_cons_zero, List.set_cons_succ]
  refine wpAnyH_take (i := 71) (oi := ⟨some 83, _, _, _, _, _⟩) (v := ?vk10x72) rfl (by kernel_rfl) (by kernel_rfl) (by kernel_rfl) (fun _ _ _ h => h) (Or.inl ⟨by rfl, ?yk10x72⟩) (by assumption) ?rk10x72
  case yk10x72 => (intro w hSw; have ap7 := Hp7.out w hSw; have ap8 := Hp8.out w hSw; have ap9 := Hp9.out w hSw; have ap10 := Hp10.out w hSw; have ap11 := Hp11.out w hSw; have ap12 := Hp12.out w hSw; go_simp; try with_reducible rfl)
  try simp only [Act.put, List.setIfInBounds_toArray, List.set_cons_zero, List.set_cons_succ]
  refine wpAnyH_ready (rs := [72]) (by kernel_rfl) (by simp) ?_
  refine AllReadyH.cons (o := ⟨some 84, _, _, _, _, _⟩) rfl (fun K hK => ?_) AllReadyH.nil
  go_simp
  go_at_call 30; refine (table_any t _).mono ?_; rintro e wb ⟨gt, rfl, HT, kb⟩
  refine hK.out _ _ ?kk10n73u1 (fun hHeld => ?_)
  case kk10n73u1 => exact (Up.trans (show Up Nul W2 _ from hHeld) kb)
  clear hK K
  try simp only [Act.put, List.setIfInBounds_toArray, List.set_cons_zero, List.set_cons_succ]
  refine wpAnyH_ready (rs := [73]) (by kernel_rfl) (by simp) ?_
  refine AllReadyH.cons (o := ⟨some 85, _, _, _, _, _⟩) rfl (fun K hK => ?_) AllReadyH.nil
  go_simp
  go_at_call 25; refine (HH.out.h10 _ _ HT).mono ?_; rintro e wb ⟨rfl, kb⟩
  refine hK.out _ _ ?kk10n74u1 (fun hHeld => ?_)
  case kk10n74u1 => exact (Up.trans (show Up Nul W2 _ from hHeld) kb)
  clear hK K
  try simp only [Act.put, List.setIfInBounds_toArray, List.set_cons_zero, List.set_cons_succ]
  refine wpAnyH_take (i := 74) (oi := ⟨some 86, _, _, _, _, _⟩) (v := ?vk10n75u1) rfl (by kernel_rfl) (by kernel_rfl) (by kernel_rfl) (fun _ _ _ h => h) (Or.inl ⟨by rfl, ?yk10n75u1⟩) (by assumption) ?rk10n75u1
  case yk10n75u1 => (intro w hSw; (try dsimp only at hSw); go_simp; try with_reducible rfl)
  try simp only [Act.put, List.setIfInBounds_toArray, List.set_cons_zero, List.set_cons_succ]
  refine wpAnyH_take (i := 75) (oi := ⟨some 2, _, _, _, _, _⟩) (v := ?vk10n76u1) rfl (by kernel_rfl) (by kernel_rfl) (by kernel_rfl) (fun _ _ _ h => h) (Or.inl ⟨by rfl, ?yk10n76u1⟩) (by assumption) ?rk10n76u1
  case yk10n76u1 => (intro w hSw; (try dsimp only at hSw); go_simp; try with_reducible rfl)
  try simp only [Act.put, List.setIfInBounds_toArray, List.set_cons_zero, List.set_cons_succ]
  refine wpAnyH_done (by kernel_rfl) ?_ _
  have HE := hid (U3.out.trans (show Up Nul W2 _ from hHeld))
  clear hHeld
  go_wp2
  go_ret
  exact ⟨by first | rfl | simp, HE.out⟩
end Go.Proofs.YtmhmlfgikmeejaaDoor
