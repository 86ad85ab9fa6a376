/- Part 2 of what the walks rest on: RcRec. -/
import Derived.Test.YtepggchnhgpcnaaGreatDoorPkTidy
import Derived.Test.YtepggchnhgpcnaaGreatDoorPz23
namespace Go.Proofs.YtepggchnhgpcnaaGreatDoor
open Go.RowKit
set_option linter.unusedVariables false
set_option maxRecDepth 100000

set_option maxRecDepth 100000 in
set_option maxHeartbeats 8000000 in
theorem rec_ownc (w : World) (a : Option Addr) (len cap : Nat) (z0 : List Int) (h : CameI w a len cap z0) :
  Calls Tryz.prog 19 #[.slice a len cap] w fun e w' => ∃ (r : Rc) (sa : Option Addr) (sc : Nat) (la : Option Addr) (lc : Nat), e = .returned (rv r (.slice sa r.sids.length sc) (.slice la r.locs.length lc)) ∧ OkF r ∧ RH w' r sa la ∧ RO w.heap.size w' r sa la lc ∧ Up Nul w w' ∧ sc = r.sids.length := by
 obtain ⟨W1, hW1⟩ : ∃ W, W = (((w.alloc (.cells #[.slice a len cap] 23)).alloc (.cells #[.int .i64 0, .string ⟨#[]⟩, .int .i64 0, .int .i64 0, .slice none 0 0, .int .i64 0, .slice none 0 0, .int .i64 0, .int .i64 0, .int .i64 0, .int .i64 0, .int .i64 0, .int .i64 0] 28)).alloc (.cells #[.int .i64 0] 3)).alloc (.cells #[nextV (w.heap.size + 2) w.heap.size] 96) := ⟨_, rfl⟩
 have U1 : Up Nul w W1 := by rw [hW1]; exact ((((Up.refl Nul w).alloc _).alloc _).alloc _).alloc _
 obtain ⟨zs, hzl, hrow, hle⟩ := came_o h (w.heap.size + 2) (by omega)
 have q0 : W1.heap[w.heap.size]? = some (.cells #[.slice a len cap] 23 (0, 0)) := by
  rw [hW1]
  exact (Below.heap_alloc _ _ _ (by first | (simp; done) | (simp; omega))).trans ((Below.heap_alloc _ _ _ (by first | (simp; done) | (simp; omega))).trans ((Below.heap_alloc _ _ _ (by simp)).trans (heap_alloc_new _ _)))
 have q1 : W1.heap[w.heap.size + 1]? = some (.cells #[.int .i64 0, .string ⟨#[]⟩, .int .i64 0, .int .i64 0, .slice none 0 0, .int .i64 0, .slice none 0 0, .int .i64 0, .int .i64 0, .int .i64 0, .int .i64 0, .int .i64 0, .int .i64 0] 28 (0, 0)) := by
  rw [hW1]
  have := heap_alloc_new (w.alloc (.cells #[.slice a len cap] 23)) (.cells #[.int .i64 0, .string ⟨#[]⟩, .int .i64 0, .int .i64 0, .slice none 0 0, .int .i64 0, .slice none 0 0, .int .i64 0, .int .i64 0, .int .i64 0, .int .i64 0, .int .i64 0, .int .i64 0] 28)
  refine (Below.heap_alloc _ _ _ (by first | (simp; done) | (simp; omega))).trans ((Below.heap_alloc _ _ _ (by simp)).trans ?_)
  simpa using this
 have q2 : W1.heap[w.heap.size + 2]? = some (.cells #[.int .i64 0] 3 (0, 0)) := by
  rw [hW1]
  have := heap_alloc_new ((w.alloc (.cells #[.slice a len cap] 23)).alloc (.cells #[.int .i64 0, .string ⟨#[]⟩, .int .i64 0, .int .i64 0, .slice none 0 0, .int .i64 0, .slice none 0 0, .int .i64 0, .int .i64 0, .int .i64 0, .int .i64 0, .int .i64 0, .int .i64 0] 28)) (.cells #[.int .i64 0] 3)
  refine (Below.heap_alloc _ _ _ (by simp)).trans ?_
  simpa using this
 have q3 : W1.heap[w.heap.size + 3]? = some (.cells #[nextV (w.heap.size + 2) w.heap.size] 96 (0, 0)) := by
  rw [hW1]
  have := heap_alloc_new (((w.alloc (.cells #[.slice a len cap] 23)).alloc (.cells #[.int .i64 0, .string ⟨#[]⟩, .int .i64 0, .int .i64 0, .slice none 0 0, .int .i64 0, .slice none 0 0, .int .i64 0, .int .i64 0, .int .i64 0, .int .i64 0, .int .i64 0, .int .i64 0] 28)).alloc (.cells #[.int .i64 0] 3)) (.cells #[nextV (w.heap.size + 2) w.heap.size] 96)
  simpa using this
 have hsz : W1.heap.size = w.heap.size + 4 := by rw [hW1]; simp
 obtain ⟨Lb, LB⟩ : ∃ x, Hid (w.heap.size = x) := ⟨_, rfl⟩
 obtain ⟨r0, R0⟩ : ∃ x, Hid (w.heap.size + 1 = x) := ⟨_, rfl⟩
 obtain ⟨A, AA⟩ : ∃ x, Hid (w.heap.size + 2 = x) := ⟨_, rfl⟩
 obtain ⟨F, FF⟩ : ∃ x, Hid (w.heap.size + 3 = x) := ⟨_, rfl⟩
 have HLA : Hid (Lb + 1 = r0 ∧ Lb + 2 = A ∧ Lb + 3 = F ∧ w.heap.size ≤ Lb) := by
  show Lb + 1 = r0 ∧ Lb + 2 = A ∧ Lb + 3 = F ∧ w.heap.size ≤ Lb
  rw [← LB.out, ← R0.out, ← AA.out, ← FF.out]
  exact ⟨rfl, rfl, rfl, Nat.le_refl _⟩
 rw [FF.out] at q3
 rw [AA.out] at q2 q3 hrow
 rw [R0.out] at q1
 rw [LB.out] at q0 q3
 have HNX : Hid (Nx W1 A Lb 0 zs) := ⟨q2, ⟨a, cap, by rw [hzl]; exact q0, by
  rcases hrow with e | ⟨g, o, e, hg, hA, hc⟩
  ·exact .inl e
  ·exact .inr ⟨g, o, e, Nat.lt_of_lt_of_le hg U1.size, hA, fun i x hi => (U1.cell (p := ⟨g, o + i, none⟩) hg id).trans (hc i x hi)⟩⟩, by omega, by omega, by have := HLA.out; omega⟩
 have HW1 := hid (And.intro U1 (And.intro q1 (And.intro q3 hsz)))
 clear h U1 hzl hrow hle q0 q1 q2 q3 hsz
 go_enter Tryz.func19, Tryz.ntmps19
 go_wp2_with fail
 rw [← hW1]
 clear hW1
 rw [FF.out, AA.out, R0.out, LB.out]
 refine (nxt_int W1 A Lb 0 8 zs HNX.out (by omega) (by omega) (by omega)).mono ?_
 rintro e w2 ⟨x13, rfl, h13, hn2, u2⟩
 obtain ⟨W3, hW3⟩ : ∃ W, W = w2.alloc (.cells #[.int .i64 ((x13 : Int) + 1), .string ⟨#[]⟩, .int .i64 0, .int .i64 0, .slice none 0 0, .int .i64 0, .slice none 0 0, .int .i64 0, .int .i64 0, .int .i64 0, .int .i64 0, .int .i64 0, .int .i64 0] 28) := ⟨_, rfl⟩
 have U3 : Up Nul w2 W3 := by rw [hW3]; exact (Up.refl Nul w2).alloc _
 have hp : W3.heap[w2.heap.size]? = some (.cells #[.int .i64 ((x13 : Int) + 1), .string ⟨#[]⟩, .int .i64 0, .int .i64 0, .slice none 0 0, .int .i64 0, .slice none 0 0, .int .i64 0, .int .i64 0, .int .i64 0, .int .i64 0, .int .i64 0, .int .i64 0] 28 (0, 0)) := by rw [hW3]; exact heap_alloc_new _ _
 obtain ⟨p, P⟩ : ∃ x, Hid (w2.heap.size = x) := ⟨_, rfl⟩
 rw [P.out] at hp
 have hw2 := u2.size
 have HRS : Hid (Rs w W3 A Lb F p 1 zs #[.int .i64 ((x13 : Int) + 1), .string ⟨#[]⟩, .int .i64 0, .int .i64 0, .slice none 0 0, .int .i64 0, .slice none 0 0, .int .i64 0, .int .i64 0, .int .i64 0, .int .i64 0, .int .i64 0, .int .i64 0] none) := by
  obtain ⟨g1, g2, g3, g4⟩ := HW1.out
  have hl := HLA.out
  have hlb := LB.out
  have hpp := P.out
  refine ⟨hn2.nxt U3, (U3.block F (by omega) id).trans ((u2.block F (by omega) (fun e => by have e : F = A := e; omega)).trans g3), hp, (fun _ _ e => by cases e), ?_, by omega, by omega⟩
  have : Up Nul w w2 := ⟨u2.os.trans g1.os, u2.tape.trans g1.tape, u2.output.trans g1.output, Nat.le_trans g1.size u2.size, fun j hj _ => (u2.block j (by omega) (fun e => by have e : j = A := e; omega)).trans (g1.block j hj id)⟩
  exact this.trans U3
 have HR0 : Hid (W3.heap[r0]? = some (.cells #[.int .i64 0, .string ⟨#[]⟩, .int .i64 0, .int .i64 0, .slice none 0 0, .int .i64 0, .slice none 0 0, .int .i64 0, .int .i64 0, .int .i64 0, .int .i64 0, .int .i64 0, .int .i64 0] 28 (0, 0)) ∧ r0 ≠ p ∧ r0 ≠ A ∧ r0 < W3.heap.size) := by
  obtain ⟨g1, g2, g3, g4⟩ := HW1.out
  have hl := HLA.out
  have hlb := LB.out
  have hpp := P.out
  have hs3 := U3.size
  exact ⟨(U3.block r0 (by omega) id).trans ((u2.block r0 (by omega) (fun e => by have e : r0 = A := e; omega)).trans g2), by omega, by omega, by omega⟩
 have hb := HRS.out.cell (i := 0) rfl
 have wk : IntKind.i64.wrap ((x13 : Int) + 1) = (x13 : Int) + 1 := IntWalk.i64_in _ (by omega)
 have wk2 : wrap64 ((x13 : Int) + 1) = (x13 : Int) + 1 := by rw [← IntWalk.i64_left]; exact wk
 clear u2 U3 hp hn2 HNX HW1 hw2
 go_upto_block 0 with fail
 rw [← hW3, P.out]
 clear hW3 hb wk wk2
 have HRT : Hid (Rt w W3 A Lb F p 1 zs #[.int .i64 ((x13 : Int) + 1), .string ⟨#[]⟩, .int .i64 0, .int .i64 0, .slice none 0 0, .int .i64 0, .slice none 0 0, .int .i64 0, .int .i64 0, .int .i64 0, .int .i64 0, .int .i64 0, .int .i64 0] none r0) := ⟨HRS.out, HR0.out.1, by have := HLA.out; have := HR0.out.2; omega⟩
 clear HRS HR0
 go_cut [7] (fun s7 wx => Ry w A Lb F p r0 zs s7 wx)
 case first =>
  as_aux_lemma =>
  have hx8 : x13 < 8 := by omega
  clear h13
  rcases (by omega : x13 = 0 ∨ x13 = 1 ∨ x13 = 2 ∨ x13 = 3 ∨ x13 = 4 ∨ x13 = 5 ∨ x13 = 6 ∨ x13 = 7) with rfl | rfl | rfl | rfl | rfl | rfl | rfl | rfl
  ·as_aux_lemma =>
   have HR : Hid (Rt w W3 A Lb F p 1 zs #[.int .i64 1, .string ⟨#[]⟩, .int .i64 0, .int .i64 0, .slice none 0 0, .int .i64 0, .slice none 0 0, .int .i64 0, .int .i64 0, .int .i64 0, .int .i64 0, .int .i64 0, .int .i64 0] none r0) := HRT.out
   clear HRT hx8
   have c0 := HR.out.rs.clc
   go_wp2_with fail
   clear c0
   have HR := hid (HR.out.nxt (Up.refl Nul W3).drew)
   refine wp_region_held_drew (S := (fun W => W.cell? ⟨F, 0, none⟩ = some (nextV A Lb))) (by kernel_rfl) (by exact HR.out.rs.clc) (fun hHeld => ?_)
   refine tkv 0 (some 34) rfl ?_
   refine tkv 3 (some 37) rfl ?_
   refine tkv 5 (some 39) rfl ?_
   refine one 1 (some 35) rfl (fun K hK => ?_)
   go_simp
   go_at_call 51
   refine (nxt_int _ A Lb _ _ zs HR.out.rs.nx (by omega) (by omega) (by omega)).mono ?_
   rintro e wc ⟨x35, rfl, h35, hn, hu⟩
   have HR := hid (HR.out.call hn hu)
   clear hn hu
   refine hK.out _ _ (HR.out.rs.clc) (fun hHeld => ?_)
   clear hK K
   try simp only [tdy]
   refine one 2 (some 36) rfl (fun K hK => ?_)
   go_simp
   go_at_call 53
   refine (key_any x35 (by omega) _).mono ?_
   rintro e wc ⟨s36, rfl, hs36, hu⟩
   have HR := hid (HR.out.nxt hu)
   clear hu
   refine hK.out _ _ (HR.out.rs.clc) (fun hHeld => ?_)
   clear hK K
   try simp only [tdy]
   refine tkv 8 (some 42) rfl ?_
   refine one 4 (some 38) rfl (fun K hK => ?_)
   go_simp
   go_at_call 51
   refine (nxt_int _ A Lb _ _ zs HR.out.rs.nx (by omega) (by omega) (by omega)).mono ?_
   rintro e wc ⟨x38, rfl, h38, hn, hu⟩
   have HR := hid (HR.out.call hn hu)
   clear hn hu
   refine hK.out _ _ (HR.out.rs.clc) (fun hHeld => ?_)
   clear hK K
   try simp only [tdy]
   refine one 6 (some 40) rfl (fun K hK => ?_)
   go_simp
   go_at_call 51
   refine (nxt_int _ A Lb _ _ zs HR.out.rs.nx (by omega) (by omega) (by omega)).mono ?_
   rintro e wc ⟨x40, rfl, h40, hn, hu⟩
   have HR := hid (HR.out.call hn hu)
   clear hn hu
   have v40 : IntKind.i64.wrap ((x40 : Int) + 1) = (x40 : Int) + 1 := IntWalk.i64_in _ (by omega)
   refine hK.out _ _ (HR.out.rs.clc) (fun hHeld => ?_)
   clear hK K
   try simp only [tdy]
   refine tkv 7 (some 41) rfl ?_
   obtain ⟨cc, ff⟩ := HR.out.cell (i := 1) rfl
   refine one 9 none rfl (fun K hK => ?_)
   go_simp
   have HR := hid (HR.out.set 1 (.string s36))
   clear cc ff
   refine hK.out _ _ (HR.out.rs.clc) (fun hHeld => ?_)
   clear hK K
   try simp only [tdy]
   refine tkv 10 (some 43) rfl ?_
   obtain ⟨cc, ff⟩ := HR.out.cell (i := 2) rfl
   refine one 11 none rfl (fun K hK => ?_)
   go_simp
   have HR := hid (HR.out.set 2 (.int .i64 (x38 : Nat)))
   clear cc ff
   refine hK.out _ _ (HR.out.rs.clc) (fun hHeld => ?_)
   clear hK K
   try simp only [tdy]
   refine tkv 12 (some 44) rfl ?_
   obtain ⟨cc, ff⟩ := HR.out.cell (i := 3) rfl
   refine one 13 none rfl (fun K hK => ?_)
   go_simp
   have HR := hid (HR.out.set 3 (.int .i64 ((x40 : Int) + 1)))
   clear cc ff
   refine hK.out _ _ (HR.out.rs.clc) (fun hHeld => ?_)
   clear hK K
   try simp only [tdy]
   refine tkv 14 (some 7) rfl ?_
   refine wpAnyH_done (by kernel_rfl) ?_ _
   have HOK : Hid (OkP ⟨((1 : Nat) : Int), s36, (x38 : Nat), (x40 : Int) + 1, [], 0, [], tb0⟩ 3) := okP_of 1 s36 ((x38 : Nat) : Int) ((x40 : Int) + 1 : Int) [] 0 tb0 3 (by decide) (by decide) (by have := hs36.1; show (1 : Int) ≤ ((s36.size : Nat) : Int) ∧ ((s36.size : Nat) : Int) ≤ (16 : Int); omega) hs36.2 (by show (0 : Int) ≤ ((x38 : Nat) : Int) ∧ ((x38 : Nat) : Int) ≤ (64 : Int); omega) (by show (1 : Int) ≤ ((x40 : Int) + 1 : Int) ∧ ((x40 : Int) + 1 : Int) ≤ (2147483647 : Int); omega) (by show (0 : Int) ≤ (0 : Int) ∧ (0 : Int) ≤ (0 : Int); omega) (by rfl) (fun x hx => by cases hx) (by decide) (tb0_ok _ _ ⟨by decide, by decide⟩) (by omega)
   go_wp2_with fail
   go_meet
   case rel => exact ⟨⟨((1 : Nat) : Int), s36, (x38 : Nat), (x40 : Int) + 1, [], 0, [], tb0⟩, .slice none 0 0, 3, _, _, rfl, HR.out, .inl ⟨rfl, rfl⟩, HOK.out, by omega⟩
  ·as_aux_lemma =>
   have HR : Hid (Rt w W3 A Lb F p 1 zs #[.int .i64 2, .string ⟨#[]⟩, .int .i64 0, .int .i64 0, .slice none 0 0, .int .i64 0, .slice none 0 0, .int .i64 0, .int .i64 0, .int .i64 0, .int .i64 0, .int .i64 0, .int .i64 0] none r0) := HRT.out
   clear HRT hx8
   have c0 := HR.out.rs.clc
   go_wp2_with fail
   refine (nxt_int _ A Lb _ _ zs HR.out.rs.nx (by omega) (by omega) (by omega)).mono ?_
   rintro e wc ⟨x48, rfl, h48, hn, hu⟩
   have HR := hid (HR.out.call hn hu)
   clear hn hu c0
   go_wp2_with fail
   refine (key_any x48 (by omega) _).mono ?_
   rintro e wd ⟨s49, rfl, hs49, hu⟩
   have HR := hid (HR.out.nxt hu)
   clear hu
   obtain ⟨cc, ff⟩ := HR.out.cell (i := 1) rfl
   go_wp2_with fail
   have HR := hid (HR.out.set 1 (.string s49))
   have HOK : Hid (OkP ⟨((2 : Nat) : Int), s49, 0, 0, [], 0, [], tb0⟩ 0) := okP_of 2 s49 (0 : Int) (0 : Int) [] 0 tb0 0 (by decide) (by decide) (by have := hs49.1; show (1 : Int) ≤ ((s49.size : Nat) : Int) ∧ ((s49.size : Nat) : Int) ≤ (16 : Int); omega) hs49.2 (by show (0 : Int) ≤ (0 : Int) ∧ (0 : Int) ≤ (0 : Int); omega) (by show (0 : Int) ≤ (0 : Int) ∧ (0 : Int) ≤ (0 : Int); omega) (by show (0 : Int) ≤ (0 : Int) ∧ (0 : Int) ≤ (0 : Int); omega) (by rfl) (fun x hx => by cases hx) (by decide) (tb0_ok _ _ ⟨by decide, by decide⟩) (by omega)
   go_wp2_with fail
   go_meet
   case rel => exact ⟨⟨((2 : Nat) : Int), s49, 0, 0, [], 0, [], tb0⟩, .slice none 0 0, 0, _, _, rfl, HR.out, .inl ⟨rfl, rfl⟩, HOK.out, by omega⟩
  ·as_aux_lemma =>
   have HR : Hid (Rt w W3 A Lb F p 1 zs #[.int .i64 3, .string ⟨#[]⟩, .int .i64 0, .int .i64 0, .slice none 0 0, .int .i64 0, .slice none 0 0, .int .i64 0, .int .i64 0, .int .i64 0, .int .i64 0, .int .i64 0, .int .i64 0] none r0) := HRT.out
   clear HRT hx8
   have c0 := HR.out.rs.clc
   go_wp2_with fail
   clear c0
   have HR := hid (HR.out.nxt (Up.refl Nul W3).drew)
   refine wp_region_held_drew (S := (fun W => W.cell? ⟨F, 0, none⟩ = some (nextV A Lb))) (by kernel_rfl) (by exact HR.out.rs.clc) (fun hHeld => ?_)
   refine tkv 0 (some 53) rfl ?_
   refine tkv 3 (some 56) rfl ?_
   refine tkv 6 (some 59) rfl ?_
   refine one 1 (some 54) rfl (fun K hK => ?_)
   go_simp
   go_at_call 51
   refine (nxt_int _ A Lb _ _ zs HR.out.rs.nx (by omega) (by omega) (by omega)).mono ?_
   rintro e wc ⟨x54, rfl, h54, hn, hu⟩
   have HR := hid (HR.out.call hn hu)
   clear hn hu
   refine hK.out _ _ (HR.out.rs.clc) (fun hHeld => ?_)
   clear hK K
   try simp only [tdy]
   refine one 2 (some 55) rfl (fun K hK => ?_)
   go_simp
   go_at_call 53
   refine (key_any x54 (by omega) _).mono ?_
   rintro e wc ⟨s55, rfl, hs55, hu⟩
   have HR := hid (HR.out.nxt hu)
   clear hu
   refine hK.out _ _ (HR.out.rs.clc) (fun hHeld => ?_)
   clear hK K
   try simp only [tdy]
   refine tkv 8 (some 61) rfl ?_
   refine one 4 (some 57) rfl (fun K hK => ?_)
   go_simp
   go_at_call 51
   refine (nxt_int _ A Lb _ _ zs HR.out.rs.nx (by omega) (by omega) (by omega)).mono ?_
   rintro e wc ⟨x57, rfl, h57, hn, hu⟩
   have HR := hid (HR.out.call hn hu)
   clear hn hu
   have v57 : IntKind.i64.wrap ((x57 : Int) + 1) = (x57 : Int) + 1 := IntWalk.i64_in _ (by omega)
   refine hK.out _ _ (HR.out.rs.clc) (fun hHeld => ?_)
   clear hK K
   try simp only [tdy]
   refine tkv 5 (some 58) rfl ?_
   refine one 7 (some 60) rfl (fun K hK => ?_)
   go_simp
   go_at_call 51
   refine (nxt_int _ A Lb _ _ zs HR.out.rs.nx (by omega) (by omega) (by omega)).mono ?_
   rintro e wc ⟨x60, rfl, h60, hn, hu⟩
   have HR := hid (HR.out.call hn hu)
   clear hn hu
   refine hK.out _ _ (HR.out.rs.clc) (fun hHeld => ?_)
   clear hK K
   try simp only [tdy]
   obtain ⟨cc, ff⟩ := HR.out.cell (i := 1) rfl
   refine one 9 none rfl (fun K hK => ?_)
   go_simp
   have HR := hid (HR.out.set 1 (.string s55))
   clear cc ff
   refine hK.out _ _ (HR.out.rs.clc) (fun hHeld => ?_)
   clear hK K
   try simp only [tdy]
   refine tkv 10 (some 62) rfl ?_
   obtain ⟨cc, ff⟩ := HR.out.cell (i := 3) rfl
   refine one 11 none rfl (fun K hK => ?_)
   go_simp
   have HR := hid (HR.out.set 3 (.int .i64 ((x57 : Int) + 1)))
   clear cc ff
   refine hK.out _ _ (HR.out.rs.clc) (fun hHeld => ?_)
   clear hK K
   try simp only [tdy]
   refine tkv 12 (some 63) rfl ?_
   obtain ⟨cc, ff⟩ := HR.out.cell (i := 5) rfl
   refine one 13 none rfl (fun K hK => ?_)
   go_simp
   have HR := hid (HR.out.set 5 (.int .i64 (x60 : Nat)))
   clear cc ff
   refine hK.out _ _ (HR.out.rs.clc) (fun hHeld => ?_)
   clear hK K
   try simp only [tdy]
   refine tkv 14 (some 7) rfl ?_
   refine wpAnyH_done (by kernel_rfl) ?_ _
   have HOK : Hid (OkP ⟨((3 : Nat) : Int), s55, 0, (x57 : Int) + 1, [], (x60 : Nat), [], tb0⟩ 6) := okP_of 3 s55 (0 : Int) ((x57 : Int) + 1 : Int) [] (x60 : Nat) tb0 6 (by decide) (by decide) (by have := hs55.1; show (1 : Int) ≤ ((s55.size : Nat) : Int) ∧ ((s55.size : Nat) : Int) ≤ (16 : Int); omega) hs55.2 (by show (0 : Int) ≤ (0 : Int) ∧ (0 : Int) ≤ (0 : Int); omega) (by show (1 : Int) ≤ ((x57 : Int) + 1 : Int) ∧ ((x57 : Int) + 1 : Int) ≤ (2147483647 : Int); omega) (by show (0 : Int) ≤ ((x60 : Nat) : Int) ∧ ((x60 : Nat) : Int) ≤ (2 : Int); omega) (by rfl) (fun x hx => by cases hx) (by decide) (tb0_ok _ _ ⟨by decide, by decide⟩) (by omega)
   go_wp2_with fail
   go_meet
   case rel => exact ⟨⟨((3 : Nat) : Int), s55, 0, (x57 : Int) + 1, [], (x60 : Nat), [], tb0⟩, .slice none 0 0, 6, _, _, rfl, HR.out, .inl ⟨rfl, rfl⟩, HOK.out, by omega⟩
  ·as_aux_lemma =>
   have HR : Hid (Rt w W3 A Lb F p 1 zs #[.int .i64 4, .string ⟨#[]⟩, .int .i64 0, .int .i64 0, .slice none 0 0, .int .i64 0, .slice none 0 0, .int .i64 0, .int .i64 0, .int .i64 0, .int .i64 0, .int .i64 0, .int .i64 0] none r0) := HRT.out
   clear HRT hx8
   have c0 := HR.out.rs.clc
   go_wp2_with fail
   clear c0
   have HR := hid (HR.out.nxt (Up.refl Nul W3).drew)
   refine wp_region_held_drew (S := (fun W => W.cell? ⟨F, 0, none⟩ = some (nextV A Lb))) (by kernel_rfl) (by exact HR.out.rs.clc) (fun hHeld => ?_)
   refine tkv 0 (some 66) rfl ?_
   refine tkv 3 (some 69) rfl ?_
   refine one 1 (some 67) rfl (fun K hK => ?_)
   go_simp
   go_at_call 51
   refine (nxt_int _ A Lb _ _ zs HR.out.rs.nx (by omega) (by omega) (by omega)).mono ?_
   rintro e wc ⟨x67, rfl, h67, hn, hu⟩
   have HR := hid (HR.out.call hn hu)
   clear hn hu
   refine hK.out _ _ (HR.out.rs.clc) (fun hHeld => ?_)
   clear hK K
   try simp only [tdy]
   refine one 2 (some 68) rfl (fun K hK => ?_)
   go_simp
   go_at_call 53
   refine (key_any x67 (by omega) _).mono ?_
   rintro e wc ⟨s68, rfl, hs68, hu⟩
   have HR := hid (HR.out.nxt hu)
   clear hu
   refine hK.out _ _ (HR.out.rs.clc) (fun hHeld => ?_)
   clear hK K
   try simp only [tdy]
   refine tkv 6 (some 72) rfl ?_
   refine one 4 (some 70) rfl (fun K hK => ?_)
   go_simp
   go_at_call 51
   refine (nxt_int _ A Lb _ _ zs HR.out.rs.nx (by omega) (by omega) (by omega)).mono ?_
   rintro e wc ⟨x70, rfl, h70, hn, hu⟩
   have HR := hid (HR.out.call hn hu)
   clear hn hu
   have v70 : IntKind.i64.wrap ((x70 : Int) + 1) = (x70 : Int) + 1 := IntWalk.i64_in _ (by omega)
   refine hK.out _ _ (HR.out.rs.clc) (fun hHeld => ?_)
   clear hK K
   try simp only [tdy]
   refine tkv 5 (some 71) rfl ?_
   obtain ⟨cc, ff⟩ := HR.out.cell (i := 1) rfl
   refine one 7 none rfl (fun K hK => ?_)
   go_simp
   have HR := hid (HR.out.set 1 (.string s68))
   clear cc ff
   refine hK.out _ _ (HR.out.rs.clc) (fun hHeld => ?_)
   clear hK K
   try simp only [tdy]
   refine tkv 8 (some 73) rfl ?_
   obtain ⟨cc, ff⟩ := HR.out.cell (i := 3) rfl
   refine one 9 none rfl (fun K hK => ?_)
   go_simp
   have HR := hid (HR.out.set 3 (.int .i64 ((x70 : Int) + 1)))
   clear cc ff
   refine hK.out _ _ (HR.out.rs.clc) (fun hHeld => ?_)
   clear hK K
   try simp only [tdy]
   refine tkv 10 (some 7) rfl ?_
   refine wpAnyH_done (by kernel_rfl) ?_ _
   have HOK : Hid (OkP ⟨((4 : Nat) : Int), s68, 0, (x70 : Int) + 1, [], 0, [], tb0⟩ 3) := okP_of 4 s68 (0 : Int) ((x70 : Int) + 1 : Int) [] 0 tb0 3 (by decide) (by decide) (by have := hs68.1; show (1 : Int) ≤ ((s68.size : Nat) : Int) ∧ ((s68.size : Nat) : Int) ≤ (16 : Int); omega) hs68.2 (by show (0 : Int) ≤ (0 : Int) ∧ (0 : Int) ≤ (0 : Int); omega) (by show (1 : Int) ≤ ((x70 : Int) + 1 : Int) ∧ ((x70 : Int) + 1 : Int) ≤ (2147483647 : Int); omega) (by show (0 : Int) ≤ (0 : Int) ∧ (0 : Int) ≤ (0 : Int); omega) (by rfl) (fun x hx => by cases hx) (by decide) (tb0_ok _ _ ⟨by decide, by decide⟩) (by omega)
   go_wp2_with fail
   go_meet
   case rel => exact ⟨⟨((4 : Nat) : Int), s68, 0, (x70 : Int) + 1, [], 0, [], tb0⟩, .slice none 0 0, 3, _, _, rfl, HR.out, .inl ⟨rfl, rfl⟩, HOK.out, by omega⟩
  ·as_aux_lemma =>
   have HR : Hid (Rt w W3 A Lb F p 1 zs #[.int .i64 5, .string ⟨#[]⟩, .int .i64 0, .int .i64 0, .slice none 0 0, .int .i64 0, .slice none 0 0, .int .i64 0, .int .i64 0, .int .i64 0, .int .i64 0, .int .i64 0, .int .i64 0] none r0) := HRT.out
   clear HRT hx8
   have c0 := HR.out.rs.clc
   go_wp2_with fail
   clear c0
   have HR := hid (HR.out.nxt (Up.refl Nul W3).drew)
   refine wp_region_held_drew (S := (fun W => W.cell? ⟨F, 0, none⟩ = some (nextV A Lb))) (by kernel_rfl) (by exact HR.out.rs.clc) (fun hHeld => ?_)
   refine tkv 0 (some 76) rfl ?_
   refine tkv 3 (some 79) rfl ?_
   refine tkv 6 (some 82) rfl ?_
   refine tkv 9 (some 85) rfl ?_
   refine one 1 (some 77) rfl (fun K hK => ?_)
   go_simp
   go_at_call 51
   refine (nxt_int _ A Lb _ _ zs HR.out.rs.nx (by omega) (by omega) (by omega)).mono ?_
   rintro e wc ⟨x77, rfl, h77, hn, hu⟩
   have HR := hid (HR.out.call hn hu)
   clear hn hu
   have v77 : IntKind.i64.wrap ((x77 : Int) + 1) = (x77 : Int) + 1 := IntWalk.i64_in _ (by omega)
   refine hK.out _ _ (HR.out.rs.clc) (fun hHeld => ?_)
   clear hK K
   try simp only [tdy]
   refine tkv 2 (some 78) rfl ?_
   refine tkv 13 (some 89) rfl ?_
   refine one 4 (some 80) rfl (fun K hK => ?_)
   go_simp
   go_at_call 51
   refine (nxt_int _ A Lb _ _ zs HR.out.rs.nx (by omega) (by omega) (by omega)).mono ?_
   rintro e wc ⟨x80, rfl, h80, hn, hu⟩
   have HR := hid (HR.out.call hn hu)
   clear hn hu
   have v80 : IntKind.i64.wrap ((x80 : Int) + 1) = (x80 : Int) + 1 := IntWalk.i64_in _ (by omega)
   refine hK.out _ _ (HR.out.rs.clc) (fun hHeld => ?_)
   clear hK K
   try simp only [tdy]
   refine tkv 5 (some 81) rfl ?_
   refine one 7 (some 83) rfl (fun K hK => ?_)
   go_simp
   go_at_call 51
   refine (nxt_int _ A Lb _ _ zs HR.out.rs.nx (by omega) (by omega) (by omega)).mono ?_
   rintro e wc ⟨x83, rfl, h83, hn, hu⟩
   have HR := hid (HR.out.call hn hu)
   clear hn hu
   have v83 : IntKind.i64.wrap ((x83 : Int) + 1) = (x83 : Int) + 1 := IntWalk.i64_in _ (by omega)
   refine hK.out _ _ (HR.out.rs.clc) (fun hHeld => ?_)
   clear hK K
   try simp only [tdy]
   refine tkv 8 (some 84) rfl ?_
   refine one 10 (some 86) rfl (fun K hK => ?_)
   go_simp
   go_at_call 51
   refine (nxt_int _ A Lb _ _ zs HR.out.rs.nx (by omega) (by omega) (by omega)).mono ?_
   rintro e wc ⟨x86, rfl, h86, hn, hu⟩
   have HR := hid (HR.out.call hn hu)
   clear hn hu
   have v86 : IntKind.i64.wrap ((x86 : Int) + 1) = (x86 : Int) + 1 := IntWalk.i64_in _ (by omega)
   refine hK.out _ _ (HR.out.rs.clc) (fun hHeld => ?_)
   clear hK K
   try simp only [tdy]
   refine tkv 11 (some 87) rfl ?_
   refine wpAnyH_ready (rs := [12, 14]) (by kernel_rfl) (by simp) ?_
   refine (AllReadyH.cons (o := ⟨some 88, _, _, _, _, _⟩) rfl (fun K hK => ?_) (AllReadyH.cons (o := ⟨none, _, _, _, _, _⟩) rfl (fun K hK => ?_) AllReadyH.nil))
   ·skip
    go_simp
    have HR := hid (HR.out.row3 wc.heap.size (by simp) #[.int .i64 ((x80 : Int) + 1), .int .i64 ((x83 : Int) + 1), .int .i64 ((x86 : Int) + 1)])
    refine hK.out _ _ (HR.out.rs.clc) (fun hHeld => ?_)
    clear hK K
    try simp only [tdy]
    obtain ⟨cc, ff⟩ := HR.out.cell (i := 3) rfl
    refine one 14 none rfl (fun K hK => ?_)
    go_simp
    have HR := hid (HR.out.set 3 (.int .i64 ((x77 : Int) + 1)))
    clear cc ff
    refine hK.out _ _ (HR.out.rs.clc) (fun hHeld => ?_)
    clear hK K
    try simp only [tdy]
    refine tkv 15 (some 90) rfl ?_
    obtain ⟨cc, ff⟩ := HR.out.cell (i := 4) rfl
    refine one 16 none rfl (fun K hK => ?_)
    go_simp
    have HR := hid (HR.out.set 4 (.slice (some ⟨wc.heap.size, 0, none⟩) 3 3))
    clear cc ff
    refine hK.out _ _ (HR.out.rs.clc) (fun hHeld => ?_)
    clear hK K
    try simp only [tdy]
    refine tkv 17 (some 7) rfl ?_
    refine wpAnyH_done (by kernel_rfl) ?_ _
    have HOK : Hid (OkP ⟨((5 : Nat) : Int), ⟨#[]⟩, 0, (x77 : Int) + 1, [(x80 : Int) + 1, (x83 : Int) + 1, (x86 : Int) + 1], 0, [], tb0⟩ 4) := okP_of 5 ⟨#[]⟩ (0 : Int) ((x77 : Int) + 1 : Int) [(x80 : Int) + 1, (x83 : Int) + 1, (x86 : Int) + 1] 0 tb0 4 (by decide) (by decide) (by decide) (fun c hc => by cases hc) (by show (0 : Int) ≤ (0 : Int) ∧ (0 : Int) ≤ (0 : Int); omega) (by show (1 : Int) ≤ ((x77 : Int) + 1 : Int) ∧ ((x77 : Int) + 1 : Int) ≤ (2147483647 : Int); omega) (by show (0 : Int) ≤ (0 : Int) ∧ (0 : Int) ≤ (0 : Int); omega) (by rfl) (by intro x hx; simp at hx; show (1 : Int) ≤ x ∧ x ≤ (2147483647 : Int); omega) (by show (4 : Int) = 4 + 0 * _; omega) (tb0_ok _ _ ⟨by decide, by decide⟩) (by omega)
    go_wp2_with fail
    go_meet
    case rel => exact ⟨⟨((5 : Nat) : Int), ⟨#[]⟩, 0, (x77 : Int) + 1, [(x80 : Int) + 1, (x83 : Int) + 1, (x86 : Int) + 1], 0, [], tb0⟩, .slice (some ⟨wc.heap.size, 0, none⟩) 3 3, 4, _, _, rfl, HR.out, .inr ⟨_, _, _, _, rfl, rfl, rfl⟩, HOK.out, by omega⟩
   ·skip
    obtain ⟨cc, ff⟩ := HR.out.cell (i := 3) rfl
    go_simp
    have HR := hid (HR.out.set 3 (.int .i64 ((x77 : Int) + 1)))
    clear cc ff
    refine hK.out _ _ (HR.out.rs.clc) (fun hHeld => ?_)
    clear hK K
    try simp only [tdy]
    refine one 12 (some 88) rfl (fun K hK => ?_)
    go_simp
    have HR := hid (HR.out.row3 wc.heap.size (by simp) #[.int .i64 ((x80 : Int) + 1), .int .i64 ((x83 : Int) + 1), .int .i64 ((x86 : Int) + 1)])
    refine hK.out _ _ (HR.out.rs.clc) (fun hHeld => ?_)
    clear hK K
    try simp only [tdy]
    refine tkv 15 (some 90) rfl ?_
    obtain ⟨cc, ff⟩ := HR.out.cell (i := 4) rfl
    refine one 16 none rfl (fun K hK => ?_)
    go_simp
    have HR := hid (HR.out.set 4 (.slice (some ⟨wc.heap.size, 0, none⟩) 3 3))
    clear cc ff
    refine hK.out _ _ (HR.out.rs.clc) (fun hHeld => ?_)
    clear hK K
    try simp only [tdy]
    refine tkv 17 (some 7) rfl ?_
    refine wpAnyH_done (by kernel_rfl) ?_ _
    have HOK : Hid (OkP ⟨((5 : Nat) : Int), ⟨#[]⟩, 0, (x77 : Int) + 1, [(x80 : Int) + 1, (x83 : Int) + 1, (x86 : Int) + 1], 0, [], tb0⟩ 4) := okP_of 5 ⟨#[]⟩ (0 : Int) ((x77 : Int) + 1 : Int) [(x80 : Int) + 1, (x83 : Int) + 1, (x86 : Int) + 1] 0 tb0 4 (by decide) (by decide) (by decide) (fun c hc => by cases hc) (by show (0 : Int) ≤ (0 : Int) ∧ (0 : Int) ≤ (0 : Int); omega) (by show (1 : Int) ≤ ((x77 : Int) + 1 : Int) ∧ ((x77 : Int) + 1 : Int) ≤ (2147483647 : Int); omega) (by show (0 : Int) ≤ (0 : Int) ∧ (0 : Int) ≤ (0 : Int); omega) (by rfl) (by intro x hx; simp at hx; show (1 : Int) ≤ x ∧ x ≤ (2147483647 : Int); omega) (by show (4 : Int) = 4 + 0 * _; omega) (tb0_ok _ _ ⟨by decide, by decide⟩) (by omega)
    go_wp2_with fail
    go_meet
    case rel => exact ⟨⟨((5 : Nat) : Int), ⟨#[]⟩, 0, (x77 : Int) + 1, [(x80 : Int) + 1, (x83 : Int) + 1, (x86 : Int) + 1], 0, [], tb0⟩, .slice (some ⟨wc.heap.size, 0, none⟩) 3 3, 4, _, _, rfl, HR.out, .inr ⟨_, _, _, _, rfl, rfl, rfl⟩, HOK.out, by omega⟩
  ·as_aux_lemma =>
   have HR : Hid (Rt w W3 A Lb F p 1 zs #[.int .i64 6, .string ⟨#[]⟩, .int .i64 0, .int .i64 0, .slice none 0 0, .int .i64 0, .slice none 0 0, .int .i64 0, .int .i64 0, .int .i64 0, .int .i64 0, .int .i64 0, .int .i64 0] none r0) := HRT.out
   clear HRT hx8
   have c0 := HR.out.rs.clc
   go_wp2_with fail
   clear c0
   have HR := hid (HR.out.nxt (Up.refl Nul W3).drew)
   refine wp_region_held_drew (S := (fun W => W.cell? ⟨F, 0, none⟩ = some (nextV A Lb))) (by kernel_rfl) (by exact HR.out.rs.clc) (fun hHeld => ?_)
   refine tkv 0 (some 93) rfl ?_
   refine tkv 3 (some 96) rfl ?_
   refine tkv 5 (some 98) rfl ?_
   refine tkv 7 (some 100) rfl ?_
   refine one 1 (some 94) rfl (fun K hK => ?_)
   go_simp
   go_at_call 51
   refine (nxt_int _ A Lb _ _ zs HR.out.rs.nx (by omega) (by omega) (by omega)).mono ?_
   rintro e wc ⟨x94, rfl, h94, hn, hu⟩
   have HR := hid (HR.out.call hn hu)
   clear hn hu
   have v94 : IntKind.i64.wrap ((x94 : Int) + 1) = (x94 : Int) + 1 := IntWalk.i64_in _ (by omega)
   refine hK.out _ _ (HR.out.rs.clc) (fun hHeld => ?_)
   clear hK K
   try simp only [tdy]
   refine tkv 2 (some 95) rfl ?_
   refine tkv 10 (some 103) rfl ?_
   refine one 4 (some 97) rfl (fun K hK => ?_)
   go_simp
   go_at_call 51
   refine (nxt_int _ A Lb _ _ zs HR.out.rs.nx (by omega) (by omega) (by omega)).mono ?_
   rintro e wc ⟨x97, rfl, h97, hn, hu⟩
   have HR := hid (HR.out.call hn hu)
   clear hn hu
   refine hK.out _ _ (HR.out.rs.clc) (fun hHeld => ?_)
   clear hK K
   try simp only [tdy]
   refine one 6 (some 99) rfl (fun K hK => ?_)
   go_simp
   go_at_call 51
   refine (nxt_int _ A Lb _ _ zs HR.out.rs.nx (by omega) (by omega) (by omega)).mono ?_
   rintro e wc ⟨x99, rfl, h99, hn, hu⟩
   have HR := hid (HR.out.call hn hu)
   clear hn hu
   refine hK.out _ _ (HR.out.rs.clc) (fun hHeld => ?_)
   clear hK K
   try simp only [tdy]
   refine one 8 (some 101) rfl (fun K hK => ?_)
   go_simp
   go_at_call 51
   refine (nxt_int _ A Lb _ _ zs HR.out.rs.nx (by omega) (by omega) (by omega)).mono ?_
   rintro e wc ⟨x101, rfl, h101, hn, hu⟩
   have HR := hid (HR.out.call hn hu)
   clear hn hu
   refine hK.out _ _ (HR.out.rs.clc) (fun hHeld => ?_)
   clear hK K
   try simp only [tdy]
   refine wpAnyH_ready (rs := [9, 11]) (by kernel_rfl) (by simp) ?_
   refine (AllReadyH.cons (o := ⟨some 102, _, _, _, _, _⟩) rfl (fun K hK => ?_) (AllReadyH.cons (o := ⟨none, _, _, _, _, _⟩) rfl (fun K hK => ?_) AllReadyH.nil))
   ·skip
    go_simp
    have HR := hid (HR.out.row3 wc.heap.size (by simp) #[.int .i64 (x97 : Nat), .int .i64 (x99 : Nat), .int .i64 (x101 : Nat)])
    refine hK.out _ _ (HR.out.rs.clc) (fun hHeld => ?_)
    clear hK K
    try simp only [tdy]
    obtain ⟨cc, ff⟩ := HR.out.cell (i := 3) rfl
    refine one 11 none rfl (fun K hK => ?_)
    go_simp
    have HR := hid (HR.out.set 3 (.int .i64 ((x94 : Int) + 1)))
    clear cc ff
    refine hK.out _ _ (HR.out.rs.clc) (fun hHeld => ?_)
    clear hK K
    try simp only [tdy]
    refine tkv 12 (some 104) rfl ?_
    obtain ⟨cc, ff⟩ := HR.out.cell (i := 4) rfl
    refine one 13 none rfl (fun K hK => ?_)
    go_simp
    have HR := hid (HR.out.set 4 (.slice (some ⟨wc.heap.size, 0, none⟩) 3 3))
    clear cc ff
    refine hK.out _ _ (HR.out.rs.clc) (fun hHeld => ?_)
    clear hK K
    try simp only [tdy]
    refine wpAnyH_done (by kernel_rfl) ?_ _
    obtain ⟨S3, HS3⟩ : ∃ S : List Int, Hid (S = [((x97 : Nat) : Int), ((x99 : Nat) : Int), ((x101 : Nat) : Int)]) := ⟨_, rfl⟩
    have HL3 : Hid (S3.length = 3) := by show _ = _; rw [HS3.out]; rfl
    have HGC := hid (fun t ht => HR.out.gcell (t := t) ht)
    have c4 := (HR.out.cell (i := 4) rfl).1
    rw [← HS3.out] at HGC
    go_wp2_with fail
    go_loop [7, 8] (fun s7 i => ∃ t : Nat, t ≤ 3 ∧ i = .int .i64 ((t : Nat) : Int) ∧ s7 = .int .i64 ((2 * nz (S3.take t) : Nat) : Int)) (fun _ i => 3 - (intOf i).toNat)
    case atStart => exact ⟨0, Nat.zero_le _, rfl, rfl⟩
    case round =>
     obtain ⟨t, ht, rfl, rfl⟩ := hrel
     have i0 : (0 : Int) ≤ (t : Int) := by omega
     by_cases hlt : t < 3
     ·have i2 : (t : Int) < 3 := by omega
      have xg := HGC.out t hlt
      have HT := hid hlt
      have htl : t < S3.length := by rw [HL3.out]; exact hlt
      have HN := hid (nz_next htl)
      rw [List.getD_eq_getElem?_getD, List.getElem?_eq_getElem htl, Option.getD_some] at xg
      have hz : nz (S3.take t) ≤ 3 := Nat.le_trans (nz_le _) (by rw [List.length_take]; omega)
      generalize S3[t] = y at xg HN
      generalize nz (S3.take t) = m at HN hz ⊢
      have HM := hid hz
      have m1 : IntKind.i64.wrap (2 * (m : Int) + 2) = 2 * (m : Int) + 2 := IntWalk.i64_in _ (by omega)
      have m2 : wrap64 (2 * (m : Int) + 2) = 2 * (m : Int) + 2 := by rw [← IntWalk.i64_left]; exact m1
      clear hlt ht htl hz
      by_cases hy : y = 0
      ·subst hy
       have HN2 : Hid (nz (S3.take (t + 1)) = m) := by show _ = _; rw [HN.out]; simp
       clear HN
       go_wp2_with fail
       go_round
       case rel => exact ⟨t + 1, HT.out, by go_num, by rw [HN2.out]⟩
       case measure => have := HT.out; simp [intOf]; omega
      ·have HN2 : Hid (nz (S3.take (t + 1)) = m + 1) := by show _ = _; rw [HN.out, if_pos hy]
       have hne : (y == 0) = false := by simpa using hy
       clear HN
       go_wp2_with fail
       go_round
       case rel => exact ⟨t + 1, HT.out, by go_num, by rw [HN2.out]; first | (simp; done) | (simp; omega) | (congr 1; omega)⟩
       case measure => have := HT.out; simp [intOf]; omega
     ·obtain rfl : t = 3 := by omega
      have HE : Hid (nz (S3.take 3) = nz S3) := by show _ = _; rw [List.take_of_length_le (by rw [HL3.out]; exact Nat.le_refl _)]
      have hz : nz S3 ≤ 3 := Nat.le_trans (nz_le _) (by rw [HL3.out]; exact Nat.le_refl _)
      have HOK : Hid (OkP ⟨((6 : Nat) : Int), ⟨#[]⟩, 0, (x94 : Int) + 1, S3, 0, [], tb0⟩ (2 * nz S3)) := okP_of 6 ⟨#[]⟩ 0 ((x94 : Int) + 1) S3 0 tb0 (2 * nz S3) (by decide) (by decide) (by decide) (fun c hc => by cases hc) (by decide) (by show (1 : Int) ≤ (x94 : Int) + 1 ∧ (x94 : Int) + 1 ≤ 2147483647; omega) (by decide) (by rw [HL3.out]; rfl) (by rw [HS3.out]; intro x hx; simp at hx; show (0 : Int) ≤ x ∧ x ≤ 2147483647; omega) (by show ((2 * nz S3 : Nat) : Int) = 0 + 2 * ((nz S3 : Nat) : Int); omega) (tb0_ok _ _ ⟨by decide, by decide⟩) (by omega)
      clear ht hlt hz
      go_wp2_with fail
      go_meet
      case rel => exact ⟨⟨((6 : Nat) : Int), ⟨#[]⟩, 0, (x94 : Int) + 1, S3, 0, [], tb0⟩, .slice (some ⟨wc.heap.size, 0, none⟩) 3 3, 2 * nz S3, _, _, by rw [HE.out]; simp, HR.out, .inr ⟨_, _, _, _, rfl, HS3.out, rfl⟩, HOK.out, by omega⟩
   ·skip
    obtain ⟨cc, ff⟩ := HR.out.cell (i := 3) rfl
    go_simp
    have HR := hid (HR.out.set 3 (.int .i64 ((x94 : Int) + 1)))
    clear cc ff
    refine hK.out _ _ (HR.out.rs.clc) (fun hHeld => ?_)
    clear hK K
    try simp only [tdy]
    refine one 9 (some 102) rfl (fun K hK => ?_)
    go_simp
    have HR := hid (HR.out.row3 wc.heap.size (by simp) #[.int .i64 (x97 : Nat), .int .i64 (x99 : Nat), .int .i64 (x101 : Nat)])
    refine hK.out _ _ (HR.out.rs.clc) (fun hHeld => ?_)
    clear hK K
    try simp only [tdy]
    refine tkv 12 (some 104) rfl ?_
    obtain ⟨cc, ff⟩ := HR.out.cell (i := 4) rfl
    refine one 13 none rfl (fun K hK => ?_)
    go_simp
    have HR := hid (HR.out.set 4 (.slice (some ⟨wc.heap.size, 0, none⟩) 3 3))
    clear cc ff
    refine hK.out _ _ (HR.out.rs.clc) (fun hHeld => ?_)
    clear hK K
    try simp only [tdy]
    refine wpAnyH_done (by kernel_rfl) ?_ _
    obtain ⟨S3, HS3⟩ : ∃ S : List Int, Hid (S = [((x97 : Nat) : Int), ((x99 : Nat) : Int), ((x101 : Nat) : Int)]) := ⟨_, rfl⟩
    have HL3 : Hid (S3.length = 3) := by show _ = _; rw [HS3.out]; rfl
    have HGC := hid (fun t ht => HR.out.gcell (t := t) ht)
    have c4 := (HR.out.cell (i := 4) rfl).1
    rw [← HS3.out] at HGC
    go_wp2_with fail
    go_loop [7, 8] (fun s7 i => ∃ t : Nat, t ≤ 3 ∧ i = .int .i64 ((t : Nat) : Int) ∧ s7 = .int .i64 ((2 * nz (S3.take t) : Nat) : Int)) (fun _ i => 3 - (intOf i).toNat)
    case atStart => exact ⟨0, Nat.zero_le _, rfl, rfl⟩
    case round =>
     obtain ⟨t, ht, rfl, rfl⟩ := hrel
     have i0 : (0 : Int) ≤ (t : Int) := by omega
     by_cases hlt : t < 3
     ·have i2 : (t : Int) < 3 := by omega
      have xg := HGC.out t hlt
      have HT := hid hlt
      have htl : t < S3.length := by rw [HL3.out]; exact hlt
      have HN := hid (nz_next htl)
      rw [List.getD_eq_getElem?_getD, List.getElem?_eq_getElem htl, Option.getD_some] at xg
      have hz : nz (S3.take t) ≤ 3 := Nat.le_trans (nz_le _) (by rw [List.length_take]; omega)
      generalize S3[t] = y at xg HN
      generalize nz (S3.take t) = m at HN hz ⊢
      have HM := hid hz
      have m1 : IntKind.i64.wrap (2 * (m : Int) + 2) = 2 * (m : Int) + 2 := IntWalk.i64_in _ (by omega)
      have m2 : wrap64 (2 * (m : Int) + 2) = 2 * (m : Int) + 2 := by rw [← IntWalk.i64_left]; exact m1
      clear hlt ht htl hz
      by_cases hy : y = 0
      ·subst hy
       have HN2 : Hid (nz (S3.take (t + 1)) = m) := by show _ = _; rw [HN.out]; simp
       clear HN
       go_wp2_with fail
       go_round
       case rel => exact ⟨t + 1, HT.out, by go_num, by rw [HN2.out]⟩
       case measure => have := HT.out; simp [intOf]; omega
      ·have HN2 : Hid (nz (S3.take (t + 1)) = m + 1) := by show _ = _; rw [HN.out, if_pos hy]
       have hne : (y == 0) = false := by simpa using hy
       clear HN
       go_wp2_with fail
       go_round
       case rel => exact ⟨t + 1, HT.out, by go_num, by rw [HN2.out]; first | (simp; done) | (simp; omega) | (congr 1; omega)⟩
       case measure => have := HT.out; simp [intOf]; omega
     ·obtain rfl : t = 3 := by omega
      have HE : Hid (nz (S3.take 3) = nz S3) := by show _ = _; rw [List.take_of_length_le (by rw [HL3.out]; exact Nat.le_refl _)]
      have hz : nz S3 ≤ 3 := Nat.le_trans (nz_le _) (by rw [HL3.out]; exact Nat.le_refl _)
      have HOK : Hid (OkP ⟨((6 : Nat) : Int), ⟨#[]⟩, 0, (x94 : Int) + 1, S3, 0, [], tb0⟩ (2 * nz S3)) := okP_of 6 ⟨#[]⟩ 0 ((x94 : Int) + 1) S3 0 tb0 (2 * nz S3) (by decide) (by decide) (by decide) (fun c hc => by cases hc) (by decide) (by show (1 : Int) ≤ (x94 : Int) + 1 ∧ (x94 : Int) + 1 ≤ 2147483647; omega) (by decide) (by rw [HL3.out]; rfl) (by rw [HS3.out]; intro x hx; simp at hx; show (0 : Int) ≤ x ∧ x ≤ 2147483647; omega) (by show ((2 * nz S3 : Nat) : Int) = 0 + 2 * ((nz S3 : Nat) : Int); omega) (tb0_ok _ _ ⟨by decide, by decide⟩) (by omega)
      clear ht hlt hz
      go_wp2_with fail
      go_meet
      case rel => exact ⟨⟨((6 : Nat) : Int), ⟨#[]⟩, 0, (x94 : Int) + 1, S3, 0, [], tb0⟩, .slice (some ⟨wc.heap.size, 0, none⟩) 3 3, 2 * nz S3, _, _, by rw [HE.out]; simp, HR.out, .inr ⟨_, _, _, _, rfl, HS3.out, rfl⟩, HOK.out, by omega⟩
  ·as_aux_lemma =>
   have HR : Hid (Rt w W3 A Lb F p 1 zs #[.int .i64 7, .string ⟨#[]⟩, .int .i64 0, .int .i64 0, .slice none 0 0, .int .i64 0, .slice none 0 0, .int .i64 0, .int .i64 0, .int .i64 0, .int .i64 0, .int .i64 0, .int .i64 0] none r0) := HRT.out
   clear HRT hx8
   have c0 := HR.out.rs.clc
   go_wp2_with fail
   clear c0
   have HR := hid (HR.out.nxt (Up.refl Nul W3).drew)
   refine wp_region_held_drew (S := (fun W => W.cell? ⟨F, 0, none⟩ = some (nextV A Lb))) (by kernel_rfl) (by exact HR.out.rs.clc) (fun hHeld => ?_)
   refine tkv 0 (some 119) rfl ?_
   refine tkv 3 (some 122) rfl ?_
   refine one 1 (some 120) rfl (fun K hK => ?_)
   go_simp
   go_at_call 51
   refine (nxt_int _ A Lb _ _ zs HR.out.rs.nx (by omega) (by omega) (by omega)).mono ?_
   rintro e wc ⟨x120, rfl, h120, hn, hu⟩
   have HR := hid (HR.out.call hn hu)
   clear hn hu
   have v120 : IntKind.i64.wrap ((x120 : Int) + 1) = (x120 : Int) + 1 := IntWalk.i64_in _ (by omega)
   refine hK.out _ _ (HR.out.rs.clc) (fun hHeld => ?_)
   clear hK K
   try simp only [tdy]
   refine tkv 2 (some 121) rfl ?_
   refine tkv 5 (some 124) rfl ?_
   refine one 4 (some 123) rfl (fun K hK => ?_)
   go_simp
   go_at_call 51
   refine (nxt_int _ A Lb _ _ zs HR.out.rs.nx (by omega) (by omega) (by omega)).mono ?_
   rintro e wc ⟨x123, rfl, h123, hn, hu⟩
   have HR := hid (HR.out.call hn hu)
   clear hn hu
   refine hK.out _ _ (HR.out.rs.clc) (fun hHeld => ?_)
   clear hK K
   try simp only [tdy]
   obtain ⟨cc, ff⟩ := HR.out.cell (i := 3) rfl
   refine one 6 none rfl (fun K hK => ?_)
   go_simp
   have HR := hid (HR.out.set 3 (.int .i64 ((x120 : Int) + 1)))
   clear cc ff
   refine hK.out _ _ (HR.out.rs.clc) (fun hHeld => ?_)
   clear hK K
   try simp only [tdy]
   refine tkv 7 (some 125) rfl ?_
   obtain ⟨cc, ff⟩ := HR.out.cell (i := 2) rfl
   refine one 8 none rfl (fun K hK => ?_)
   go_simp
   have HR := hid (HR.out.set 2 (.int .i64 (x123 : Nat)))
   clear cc ff
   refine hK.out _ _ (HR.out.rs.clc) (fun hHeld => ?_)
   clear hK K
   try simp only [tdy]
   refine tkv 9 (some 7) rfl ?_
   refine wpAnyH_done (by kernel_rfl) ?_ _
   have HOK : Hid (OkP ⟨((7 : Nat) : Int), ⟨#[]⟩, (x123 : Nat), (x120 : Int) + 1, [], 0, [], tb0⟩ 1) := okP_of 7 ⟨#[]⟩ ((x123 : Nat) : Int) ((x120 : Int) + 1 : Int) [] 0 tb0 1 (by decide) (by decide) (by decide) (fun c hc => by cases hc) (by show (0 : Int) ≤ ((x123 : Nat) : Int) ∧ ((x123 : Nat) : Int) ≤ (15 : Int); omega) (by show (1 : Int) ≤ ((x120 : Int) + 1 : Int) ∧ ((x120 : Int) + 1 : Int) ≤ (2147483647 : Int); omega) (by show (0 : Int) ≤ (0 : Int) ∧ (0 : Int) ≤ (0 : Int); omega) (by rfl) (fun x hx => by cases hx) (by decide) (tb0_ok _ _ ⟨by decide, by decide⟩) (by omega)
   go_wp2_with fail
   go_meet
   case rel => exact ⟨⟨((7 : Nat) : Int), ⟨#[]⟩, (x123 : Nat), (x120 : Int) + 1, [], 0, [], tb0⟩, .slice none 0 0, 1, _, _, rfl, HR.out, .inl ⟨rfl, rfl⟩, HOK.out, by omega⟩
  ·as_aux_lemma =>
   have HR : Hid (Rt w W3 A Lb F p 1 zs #[.int .i64 8, .string ⟨#[]⟩, .int .i64 0, .int .i64 0, .slice none 0 0, .int .i64 0, .slice none 0 0, .int .i64 0, .int .i64 0, .int .i64 0, .int .i64 0, .int .i64 0, .int .i64 0] none r0) := HRT.out
   clear HRT hx8
   have c0 := HR.out.rs.clc
   go_wp2_with fail
   clear c0
   have HR := hid (HR.out.nxt (Up.refl Nul W3).drew)
   refine wp_region_held_drew (S := (fun W => W.cell? ⟨F, 0, none⟩ = some (nextV A Lb))) (by kernel_rfl) (by exact HR.out.rs.clc) (fun hHeld => ?_)
   refine tkv 0 (some 18) rfl ?_
   refine tkv 2 (some 20) rfl ?_
   refine tkv 4 (some 22) rfl ?_
   refine tkv 6 (some 24) rfl ?_
   refine tkv 8 (some 26) rfl ?_
   refine tkv 10 (some 28) rfl ?_
   refine one 1 (some 19) rfl (fun K hK => ?_)
   go_simp
   go_at_call 51
   refine (nxt_int _ A Lb _ _ zs HR.out.rs.nx (by omega) (by omega) (by omega)).mono ?_
   rintro e wc ⟨x19, rfl, h19, hn, hu⟩
   have HR := hid (HR.out.call hn hu)
   clear hn hu
   refine hK.out _ _ (HR.out.rs.clc) (fun hHeld => ?_)
   clear hK K
   try simp only [tdy]
   refine one 3 (some 21) rfl (fun K hK => ?_)
   go_simp
   go_at_call 51
   refine (nxt_int _ A Lb _ _ zs HR.out.rs.nx (by omega) (by omega) (by omega)).mono ?_
   rintro e wc ⟨x21, rfl, h21, hn, hu⟩
   have HR := hid (HR.out.call hn hu)
   clear hn hu
   refine hK.out _ _ (HR.out.rs.clc) (fun hHeld => ?_)
   clear hK K
   try simp only [tdy]
   refine one 5 (some 23) rfl (fun K hK => ?_)
   go_simp
   go_at_call 51
   refine (nxt_int _ A Lb _ _ zs HR.out.rs.nx (by omega) (by omega) (by omega)).mono ?_
   rintro e wc ⟨x23, rfl, h23, hn, hu⟩
   have HR := hid (HR.out.call hn hu)
   clear hn hu
   refine hK.out _ _ (HR.out.rs.clc) (fun hHeld => ?_)
   clear hK K
   try simp only [tdy]
   refine one 7 (some 25) rfl (fun K hK => ?_)
   go_simp
   go_at_call 51
   refine (nxt_int _ A Lb _ _ zs HR.out.rs.nx (by omega) (by omega) (by omega)).mono ?_
   rintro e wc ⟨x25, rfl, h25, hn, hu⟩
   have HR := hid (HR.out.call hn hu)
   clear hn hu
   refine hK.out _ _ (HR.out.rs.clc) (fun hHeld => ?_)
   clear hK K
   try simp only [tdy]
   refine one 9 (some 27) rfl (fun K hK => ?_)
   go_simp
   go_at_call 51
   refine (nxt_int _ A Lb _ _ zs HR.out.rs.nx (by omega) (by omega) (by omega)).mono ?_
   rintro e wc ⟨x27, rfl, h27, hn, hu⟩
   have HR := hid (HR.out.call hn hu)
   clear hn hu
   refine hK.out _ _ (HR.out.rs.clc) (fun hHeld => ?_)
   clear hK K
   try simp only [tdy]
   refine one 11 (some 29) rfl (fun K hK => ?_)
   go_simp
   go_at_call 51
   refine (nxt_int _ A Lb _ _ zs HR.out.rs.nx (by omega) (by omega) (by omega)).mono ?_
   rintro e wc ⟨x29, rfl, h29, hn, hu⟩
   have HR := hid (HR.out.call hn hu)
   clear hn hu
   refine hK.out _ _ (HR.out.rs.clc) (fun hHeld => ?_)
   clear hK K
   try simp only [tdy]
   refine one 12 (some 30) rfl (fun K hK => ?_)
   refine Eq.mpr (if_pos (by rfl)) ?_
   refine wp_exec (exec_tab _ _ _ _ _ _ _ _ rfl (x19 : Nat) (x21 : Nat) (x23 : Nat) (x25 : Nat) (x27 : Nat) (x29 : Nat) rfl rfl rfl rfl rfl rfl _) ?_
   refine hK.out _ _ (HR.out.rs.clc) (fun hHeld => ?_)
   clear hK K
   try simp only [tdy]
   refine tkv 13 (some 31) rfl ?_
   obtain ⟨c7, f7⟩ := HR.out.cell (i := 7) rfl
   obtain ⟨c8, f8⟩ := HR.out.cell (i := 8) rfl
   obtain ⟨c9, f9⟩ := HR.out.cell (i := 9) rfl
   obtain ⟨c10, f10⟩ := HR.out.cell (i := 10) rfl
   obtain ⟨c11, f11⟩ := HR.out.cell (i := 11) rfl
   obtain ⟨c12, f12⟩ := HR.out.cell (i := 12) rfl
   refine one 14 none rfl (fun K hK => ?_)
   go_simp
   have HR := hid (HR.out.set 7 (.int .i64 (x19 : Nat)))
   have HR := hid (HR.out.set 8 (.int .i64 (x21 : Nat)))
   have HR := hid (HR.out.set 9 (.int .i64 (x23 : Nat)))
   have HR := hid (HR.out.set 10 (.int .i64 (x25 : Nat)))
   have HR := hid (HR.out.set 11 (.int .i64 (x27 : Nat)))
   have HR := hid (HR.out.set 12 (.int .i64 (x29 : Nat)))
   clear c7 f7 c8 f8 c9 f9 c10 f10 c11 f11 c12 f12
   refine hK.out _ _ (HR.out.rs.clc) (fun hHeld => ?_)
   clear hK K
   try simp only [tdy]
   refine wpAnyH_done (by kernel_rfl) ?_ _
   have HOK : Hid (OkP ⟨((8 : Nat) : Int), ⟨#[]⟩, 0, 0, [], 0, [], ⟨(x19 : Nat), (x21 : Nat), (x23 : Nat), (x25 : Nat), (x27 : Nat), (x29 : Nat)⟩⟩ 0) := okP_of 8 ⟨#[]⟩ (0 : Int) (0 : Int) [] 0 ⟨(x19 : Nat), (x21 : Nat), (x23 : Nat), (x25 : Nat), (x27 : Nat), (x29 : Nat)⟩ 0 (by decide) (by decide) (by decide) (fun c hc => by cases hc) (by show (0 : Int) ≤ (0 : Int) ∧ (0 : Int) ≤ (0 : Int); omega) (by show (0 : Int) ≤ (0 : Int) ∧ (0 : Int) ≤ (0 : Int); omega) (by show (0 : Int) ≤ (0 : Int) ∧ (0 : Int) ≤ (0 : Int); omega) (by rfl) (fun x hx => by cases hx) (by decide) (by intro x hx; simp [Tb.l] at hx; show (0 : Int) ≤ x ∧ x ≤ (1000000 : Int); omega) (by omega)
   go_wp2_with fail
   go_meet
   case rel => exact ⟨⟨((8 : Nat) : Int), ⟨#[]⟩, 0, 0, [], 0, [], ⟨(x19 : Nat), (x21 : Nat), (x23 : Nat), (x25 : Nat), (x27 : Nat), (x29 : Nat)⟩⟩, .slice none 0 0, 0, _, _, rfl, HR.out, .inl ⟨rfl, rfl⟩, HOK.out, by omega⟩
 case rest =>
 obtain ⟨r, sv, L, k, G, rfl, hrt, hsv, hok, hk⟩ := hcut
 have HOK := hid hok
 have HSV := hid hsv
 have hL6 := hok.l6
 obtain ⟨base, BS⟩ : ∃ b, Hid (wc.heap.size = b) := ⟨_, rfl⟩
 have hbs := hrt.lts
 rw [BS.out] at hbs
 have HBL := hid hbs
 have HBC : Hid (base ≤ wc.heap.size) := by show _ ≤ _; rw [BS.out]; exact Nat.le_refl _
 have HRX := hid hrt
 clear hok hsv hbs hrt HRT
 go_wp2_with fail
 go_loopw [9] (fun i wr => ∃ (t : Nat) (lv : Value) (k' : Nat) (ls : List Lo), t ≤ L ∧ i = .int .i64 ((t : Nat) : Int) ∧ Rt w wr A Lb F p k' zs (rcellsL r sv lv) G r0 ∧ k' ≤ 20 + 3 * t ∧ base ≤ wr.heap.size ∧ OwnLo base wr lv ls ∧ ls.length = t ∧ ∀ l ∈ ls, (0 ≤ l.d ∧ l.d ≤ 23) ∧ (0 ≤ l.s ∧ l.s ≤ 63) ∧ 1 ≤ l.i ∧ l.i ≤ 2147483647) (fun i _ => L - (intOf i).toNat)
 case atStart => exact ⟨0, _, _, [], Nat.zero_le _, rfl, HRX.out, by omega, HBC.out, OwnLo.nil _ _, rfl, fun l hl => by cases hl⟩
 case round =>
  clear HRX hk k
  obtain ⟨t, lv, k, ls, ht, rfl, hrt, hk, hbw, hown, hls, hlk⟩ := hrel
  have i0 : (0 : Int) ≤ (t : Int) := by omega
  have i9 : (t : Int) ≤ 6 := by omega
  by_cases hlt : t < L
  ·have i2 : (t : Int) < (L : Int) := by omega
   have HT := hid hlt
   have HLS := hid (And.intro hls hlk)
   have HR := hid (hrt.nxt (Up.refl Nul wr).drew)
   have HO := hid (hown.up (Up.refl Nul wr).drew fun _ _ _ h => h)
   have HBB : Hid (base ≤ wr.drew.heap.size) := hbw
   obtain ⟨la, lc, rfl⟩ := hown.shape
   rw [hls] at hrt HR hown HO
   have HBS : Hid (base ≤ base ∧ (A < base ∧ Lb < base ∧ F < base ∧ p < base ∧ r0 < base ∧ w.heap.size ≤ base ∧ ∀ g cs, G = some (g, cs) → g < base)) := ⟨Nat.le_refl _, HBL.out⟩
   clear ht hlt hls hlk hrt hown hbw
   go_wp2_with fail
   refine wp_region_held_drew (S := (fun _ => True)) (by kernel_rfl) (by exact trivial) (fun hHeld => ?_)
   refine tkv 0 (some 131) rfl ?_
   refine tkv 2 (some 133) rfl ?_
   refine wpAnyH_ready (rs := [1, 3]) (by kernel_rfl) (by simp) ?_
   refine (AllReadyH.cons (o := ⟨some 132, _, _, _, _, _⟩) rfl (fun K hK => ?_) (AllReadyH.cons (o := ⟨some 134, _, _, _, _, _⟩) rfl (fun K hK => ?_) AllReadyH.nil))
   ·skip
    have xl := (HR.out.cell (i := 6) rfl).1
    go_simp
    refine hK.out _ _ (trivial) (fun hHeld => ?_)
    clear hK K
    try simp only [tdy]
    refine one 3 (some 134) rfl (fun K hK => ?_)
    go_simp
    go_at_call 52
    refine (locL_any _ A Lb F _ zs HR.out.rs.nx HR.out.rs.cl HR.out.rs.ne.1 (by omega) HR.out.lts.2.1).mono ?_
    rintro e wb ⟨d, s, i, rfl, hlo, hn, hu⟩
    have HR := hid (HR.out.call hn hu)
    have HO := hid (HO.out.up hu fun g hg _ e => by have e : g = A := e; have := HBS.out.2.1; omega)
    have HLO := hid hlo
    have HSW : Hid (base ≤ wb.heap.size) := Nat.le_trans HBB.out hu.size
    clear hn hu hlo
    refine hK.out _ _ (trivial) (fun hHeld => ?_)
    clear hK K
    try simp only [tdy]
    refine one 4 (some 135) rfl (fun K hK => ?_)
    go_simp
    have HR := hid (HR.out.nxt ((Up.refl Nul wb).alloc (.cells #[.int .i64 (d : Nat), .int .i64 (s : Nat), .int .i64 (i : Nat)] 64)))
    have HO := hid (HO.out.up ((Up.refl Nul wb).alloc (.cells #[.int .i64 (d : Nat), .int .i64 (s : Nat), .int .i64 (i : Nat)] 64)) fun _ _ _ h => h)
    have HBA : Hid (wb.heap.size ≤ (wb.alloc (.cells #[.int .i64 (d : Nat), .int .i64 (s : Nat), .int .i64 (i : Nat)] 64)).heap.size) := by show _ ≤ _; simp
    refine hK.out _ _ (trivial) (fun hHeld => ?_)
    clear hK K
    try simp only [tdy]
    obtain ⟨v', w', hrun, ho', hg'⟩ := HO.out.app ⟨(d : Nat), (s : Nat), (i : Nat)⟩ wb.heap.size (fun j u hj => by
     match j, hj with
     | 0, hj => cases hj; exact World.cell?_alloc_new _ _ _ 0
     | 1, hj => cases hj; exact World.cell?_alloc_new _ _ _ 1
     | 2, hj => cases hj; exact World.cell?_alloc_new _ _ _ 2) 1 (by rw [HLS.out.1]; omega) (Nat.le_trans HSW.out HBA.out)
    obtain ⟨av, nv, cv, rfl⟩ : ∃ a l c, v' = .slice a l c := by obtain ⟨a, c, e⟩ := ho'.shape; exact ⟨a, _, c, e⟩
    have HR := hid (HR.out.grow HBS.out.2 hg' HO.out.bs)
    have HO := hid ho'
    clear ho' hg'
    refine one 5 (some 136) rfl (fun K hK => ?_)
    refine wp_append_eqv (.tmp 132) (.tmp 135) 24 rfl (.slice la t lc) (.slice (some ⟨wb.heap.size, 0, none⟩) 1 1) (.slice av nv cv) rfl rfl hrun ?_
    clear hrun
    refine hK.out _ _ (trivial) (fun hHeld => ?_)
    clear hK K
    try simp only [tdy]
    refine tkv 6 (some 137) rfl ?_
    obtain ⟨cc, ff⟩ := HR.out.cell (i := 6) rfl
    refine one 7 none rfl (fun K hK => ?_)
    go_simp
    have HR := hid (HR.out.set 6 (.slice av nv cv))
    have HO := hid (HO.out.up ((Up.refl (One p) w').put rfl 6 (.slice av nv cv)) fun g hg _ e => by have e : g = p := e; have := HBS.out.2.2.2.2.1; omega)
    clear cc ff
    refine hK.out _ _ (trivial) (fun hHeld => ?_)
    clear hK K
    try simp only [tdy]
    refine wpAnyH_done (by kernel_rfl) ?_ _
    have HNL : Hid ((ls ++ [(⟨(d : Nat), (s : Nat), (i : Nat)⟩ : Lo)]).length = t + 1 ∧ ∀ l ∈ ls ++ [(⟨(d : Nat), (s : Nat), (i : Nat)⟩ : Lo)], (0 ≤ l.d ∧ l.d ≤ 23) ∧ (0 ≤ l.s ∧ l.s ≤ 63) ∧ 1 ≤ l.i ∧ l.i ≤ 2147483647) := by
     refine ⟨by rw [List.length_append, HLS.out.1]; rfl, fun l hl => ?_⟩
     rcases List.mem_append.1 hl with hl | hl
     ·exact HLS.out.2 l hl
     ·obtain rfl : l = _ := by simpa using hl
      have := HLO.out
      show (0 ≤ ((d : Nat) : Int) ∧ ((d : Nat) : Int) ≤ 23) ∧ (0 ≤ ((s : Nat) : Int) ∧ ((s : Nat) : Int) ≤ 63) ∧ 1 ≤ ((i : Nat) : Int) ∧ ((i : Nat) : Int) ≤ 2147483647
      omega
    go_wp2_with fail
    go_roundw
    case rel => exact ⟨t + 1, _, _, _, HT.out, by go_num, HR.out, by omega, HO.out.base_le, HO.out, HNL.out⟩
    case measure => have := HT.out; simp [intOf]; omega
   ·skip
    go_simp
    go_at_call 52
    refine (locL_any _ A Lb F _ zs HR.out.rs.nx HR.out.rs.cl HR.out.rs.ne.1 (by omega) HR.out.lts.2.1).mono ?_
    rintro e wb ⟨d, s, i, rfl, hlo, hn, hu⟩
    have HR := hid (HR.out.call hn hu)
    have HO := hid (HO.out.up hu fun g hg _ e => by have e : g = A := e; have := HBS.out.2.1; omega)
    have HLO := hid hlo
    have HSW : Hid (base ≤ wb.heap.size) := Nat.le_trans HBB.out hu.size
    clear hn hu hlo
    refine hK.out _ _ (trivial) (fun hHeld => ?_)
    clear hK K
    try simp only [tdy]
    refine wpAnyH_ready (rs := [1, 4]) (by kernel_rfl) (by simp) ?_
    refine (AllReadyH.cons (o := ⟨some 132, _, _, _, _, _⟩) rfl (fun K hK => ?_) (AllReadyH.cons (o := ⟨some 135, _, _, _, _, _⟩) rfl (fun K hK => ?_) AllReadyH.nil))
    ·skip
     have xl := (HR.out.cell (i := 6) rfl).1
     go_simp
     refine hK.out _ _ (trivial) (fun hHeld => ?_)
     clear hK K
     try simp only [tdy]
     refine one 4 (some 135) rfl (fun K hK => ?_)
     go_simp
     have HR := hid (HR.out.nxt ((Up.refl Nul wb).alloc (.cells #[.int .i64 (d : Nat), .int .i64 (s : Nat), .int .i64 (i : Nat)] 64)))
     have HO := hid (HO.out.up ((Up.refl Nul wb).alloc (.cells #[.int .i64 (d : Nat), .int .i64 (s : Nat), .int .i64 (i : Nat)] 64)) fun _ _ _ h => h)
     have HBA : Hid (wb.heap.size ≤ (wb.alloc (.cells #[.int .i64 (d : Nat), .int .i64 (s : Nat), .int .i64 (i : Nat)] 64)).heap.size) := by show _ ≤ _; simp
     refine hK.out _ _ (trivial) (fun hHeld => ?_)
     clear hK K
     try simp only [tdy]
     obtain ⟨v', w', hrun, ho', hg'⟩ := HO.out.app ⟨(d : Nat), (s : Nat), (i : Nat)⟩ wb.heap.size (fun j u hj => by
      match j, hj with
      | 0, hj => cases hj; exact World.cell?_alloc_new _ _ _ 0
      | 1, hj => cases hj; exact World.cell?_alloc_new _ _ _ 1
      | 2, hj => cases hj; exact World.cell?_alloc_new _ _ _ 2) 1 (by rw [HLS.out.1]; omega) (Nat.le_trans HSW.out HBA.out)
     obtain ⟨av, nv, cv, rfl⟩ : ∃ a l c, v' = .slice a l c := by obtain ⟨a, c, e⟩ := ho'.shape; exact ⟨a, _, c, e⟩
     have HR := hid (HR.out.grow HBS.out.2 hg' HO.out.bs)
     have HO := hid ho'
     clear ho' hg'
     refine one 5 (some 136) rfl (fun K hK => ?_)
     refine wp_append_eqv (.tmp 132) (.tmp 135) 24 rfl (.slice la t lc) (.slice (some ⟨wb.heap.size, 0, none⟩) 1 1) (.slice av nv cv) rfl rfl hrun ?_
     clear hrun
     refine hK.out _ _ (trivial) (fun hHeld => ?_)
     clear hK K
     try simp only [tdy]
     refine tkv 6 (some 137) rfl ?_
     obtain ⟨cc, ff⟩ := HR.out.cell (i := 6) rfl
     refine one 7 none rfl (fun K hK => ?_)
     go_simp
     have HR := hid (HR.out.set 6 (.slice av nv cv))
     have HO := hid (HO.out.up ((Up.refl (One p) w').put rfl 6 (.slice av nv cv)) fun g hg _ e => by have e : g = p := e; have := HBS.out.2.2.2.2.1; omega)
     clear cc ff
     refine hK.out _ _ (trivial) (fun hHeld => ?_)
     clear hK K
     try simp only [tdy]
     refine wpAnyH_done (by kernel_rfl) ?_ _
     have HNL : Hid ((ls ++ [(⟨(d : Nat), (s : Nat), (i : Nat)⟩ : Lo)]).length = t + 1 ∧ ∀ l ∈ ls ++ [(⟨(d : Nat), (s : Nat), (i : Nat)⟩ : Lo)], (0 ≤ l.d ∧ l.d ≤ 23) ∧ (0 ≤ l.s ∧ l.s ≤ 63) ∧ 1 ≤ l.i ∧ l.i ≤ 2147483647) := by
      refine ⟨by rw [List.length_append, HLS.out.1]; rfl, fun l hl => ?_⟩
      rcases List.mem_append.1 hl with hl | hl
      ·exact HLS.out.2 l hl
      ·obtain rfl : l = _ := by simpa using hl
       have := HLO.out
       show (0 ≤ ((d : Nat) : Int) ∧ ((d : Nat) : Int) ≤ 23) ∧ (0 ≤ ((s : Nat) : Int) ∧ ((s : Nat) : Int) ≤ 63) ∧ 1 ≤ ((i : Nat) : Int) ∧ ((i : Nat) : Int) ≤ 2147483647
       omega
     go_wp2_with fail
     go_roundw
     case rel => exact ⟨t + 1, _, _, _, HT.out, by go_num, HR.out, by omega, HO.out.base_le, HO.out, HNL.out⟩
     case measure => have := HT.out; simp [intOf]; omega
    ·skip
     go_simp
     have HR := hid (HR.out.nxt ((Up.refl Nul wb).alloc (.cells #[.int .i64 (d : Nat), .int .i64 (s : Nat), .int .i64 (i : Nat)] 64)))
     have HO := hid (HO.out.up ((Up.refl Nul wb).alloc (.cells #[.int .i64 (d : Nat), .int .i64 (s : Nat), .int .i64 (i : Nat)] 64)) fun _ _ _ h => h)
     have HBA : Hid (wb.heap.size ≤ (wb.alloc (.cells #[.int .i64 (d : Nat), .int .i64 (s : Nat), .int .i64 (i : Nat)] 64)).heap.size) := by show _ ≤ _; simp
     refine hK.out _ _ (trivial) (fun hHeld => ?_)
     clear hK K
     try simp only [tdy]
     have xl := (HR.out.cell (i := 6) rfl).1
     refine one 1 (some 132) rfl (fun K hK => ?_)
     go_simp
     refine hK.out _ _ (trivial) (fun hHeld => ?_)
     clear hK K
     try simp only [tdy]
     obtain ⟨v', w', hrun, ho', hg'⟩ := HO.out.app ⟨(d : Nat), (s : Nat), (i : Nat)⟩ wb.heap.size (fun j u hj => by
      match j, hj with
      | 0, hj => cases hj; exact World.cell?_alloc_new _ _ _ 0
      | 1, hj => cases hj; exact World.cell?_alloc_new _ _ _ 1
      | 2, hj => cases hj; exact World.cell?_alloc_new _ _ _ 2) 1 (by rw [HLS.out.1]; omega) (Nat.le_trans HSW.out HBA.out)
     obtain ⟨av, nv, cv, rfl⟩ : ∃ a l c, v' = .slice a l c := by obtain ⟨a, c, e⟩ := ho'.shape; exact ⟨a, _, c, e⟩
     have HR := hid (HR.out.grow HBS.out.2 hg' HO.out.bs)
     have HO := hid ho'
     clear ho' hg'
     refine one 5 (some 136) rfl (fun K hK => ?_)
     refine wp_append_eqv (.tmp 132) (.tmp 135) 24 rfl (.slice la t lc) (.slice (some ⟨wb.heap.size, 0, none⟩) 1 1) (.slice av nv cv) rfl rfl hrun ?_
     clear hrun
     refine hK.out _ _ (trivial) (fun hHeld => ?_)
     clear hK K
     try simp only [tdy]
     refine tkv 6 (some 137) rfl ?_
     obtain ⟨cc, ff⟩ := HR.out.cell (i := 6) rfl
     refine one 7 none rfl (fun K hK => ?_)
     go_simp
     have HR := hid (HR.out.set 6 (.slice av nv cv))
     have HO := hid (HO.out.up ((Up.refl (One p) w').put rfl 6 (.slice av nv cv)) fun g hg _ e => by have e : g = p := e; have := HBS.out.2.2.2.2.1; omega)
     clear cc ff
     refine hK.out _ _ (trivial) (fun hHeld => ?_)
     clear hK K
     try simp only [tdy]
     refine wpAnyH_done (by kernel_rfl) ?_ _
     have HNL : Hid ((ls ++ [(⟨(d : Nat), (s : Nat), (i : Nat)⟩ : Lo)]).length = t + 1 ∧ ∀ l ∈ ls ++ [(⟨(d : Nat), (s : Nat), (i : Nat)⟩ : Lo)], (0 ≤ l.d ∧ l.d ≤ 23) ∧ (0 ≤ l.s ∧ l.s ≤ 63) ∧ 1 ≤ l.i ∧ l.i ≤ 2147483647) := by
      refine ⟨by rw [List.length_append, HLS.out.1]; rfl, fun l hl => ?_⟩
      rcases List.mem_append.1 hl with hl | hl
      ·exact HLS.out.2 l hl
      ·obtain rfl : l = _ := by simpa using hl
       have := HLO.out
       show (0 ≤ ((d : Nat) : Int) ∧ ((d : Nat) : Int) ≤ 23) ∧ (0 ≤ ((s : Nat) : Int) ∧ ((s : Nat) : Int) ≤ 63) ∧ 1 ≤ ((i : Nat) : Int) ∧ ((i : Nat) : Int) ≤ 2147483647
       omega
     go_wp2_with fail
     go_roundw
     case rel => exact ⟨t + 1, _, _, _, HT.out, by go_num, HR.out, by omega, HO.out.base_le, HO.out, HNL.out⟩
     case measure => have := HT.out; simp [intOf]; omega
  ·obtain rfl : t = L := by omega
   obtain ⟨sa, sl, sc, hsa⟩ : ∃ a l c, sv = .slice a l c := by
    rcases HSV.out with ⟨_, e⟩ | ⟨g, a, b, c, _, _, e⟩
    ·exact ⟨_, _, _, e⟩
    ·exact ⟨_, _, _, e⟩
   obtain ⟨la, lc, hla⟩ := hown.shape
   have hpc := hrt.rs.pc
   have hrc := hrt.rc
   have x0 : wr.cell? ⟨p, 0, none⟩ = some (.int .i64 r.kind) := by simp [World.cell?, hpc]
   have x1 : wr.cell? ⟨p, 1, none⟩ = some (.string r.key) := by simp [World.cell?, hpc]
   have x2 : wr.cell? ⟨p, 2, none⟩ = some (.int .i64 r.n) := by simp [World.cell?, hpc]
   have x3 : wr.cell? ⟨p, 3, none⟩ = some (.int .i64 r.sid) := by simp [World.cell?, hpc]
   have x4 : wr.cell? ⟨p, 4, none⟩ = some (sv) := by simp [World.cell?, hpc]
   have x5 : wr.cell? ⟨p, 5, none⟩ = some (.int .i64 r.colour) := by simp [World.cell?, hpc]
   have x6 : wr.cell? ⟨p, 6, none⟩ = some (lv) := by simp [World.cell?, hpc]
   have x7 : wr.cell? ⟨p, 7, none⟩ = some (.int .i64 r.t.hot) := by simp [World.cell?, hpc]
   have x8 : wr.cell? ⟨p, 8, none⟩ = some (.int .i64 r.t.warm) := by simp [World.cell?, hpc]
   have x9 : wr.cell? ⟨p, 9, none⟩ = some (.int .i64 r.t.gap) := by simp [World.cell?, hpc]
   have x10 : wr.cell? ⟨p, 10, none⟩ = some (.int .i64 r.t.add) := by simp [World.cell?, hpc]
   have x11 : wr.cell? ⟨p, 11, none⟩ = some (.int .i64 r.t.top) := by simp [World.cell?, hpc]
   have x12 : wr.cell? ⟨p, 12, none⟩ = some (.int .i64 r.t.half) := by simp [World.cell?, hpc]
   have u0 : wr.cell? ⟨r0, 0, none⟩ = some (.int .i64 0) := by simp [World.cell?, hrc]
   have f0 : wr.frozen? ⟨r0, 0, none⟩ = false := by simp [World.frozen?, hrc]
   have u1 : wr.cell? ⟨r0, 1, none⟩ = some (.string ⟨#[]⟩) := by simp [World.cell?, hrc]
   have f1 : wr.frozen? ⟨r0, 1, none⟩ = false := by simp [World.frozen?, hrc]
   have u2 : wr.cell? ⟨r0, 2, none⟩ = some (.int .i64 0) := by simp [World.cell?, hrc]
   have f2 : wr.frozen? ⟨r0, 2, none⟩ = false := by simp [World.frozen?, hrc]
   have u3 : wr.cell? ⟨r0, 3, none⟩ = some (.int .i64 0) := by simp [World.cell?, hrc]
   have f3 : wr.frozen? ⟨r0, 3, none⟩ = false := by simp [World.frozen?, hrc]
   have u4 : wr.cell? ⟨r0, 4, none⟩ = some (.slice none 0 0) := by simp [World.cell?, hrc]
   have f4 : wr.frozen? ⟨r0, 4, none⟩ = false := by simp [World.frozen?, hrc]
   have u5 : wr.cell? ⟨r0, 5, none⟩ = some (.int .i64 0) := by simp [World.cell?, hrc]
   have f5 : wr.frozen? ⟨r0, 5, none⟩ = false := by simp [World.frozen?, hrc]
   have u6 : wr.cell? ⟨r0, 6, none⟩ = some (.slice none 0 0) := by simp [World.cell?, hrc]
   have f6 : wr.frozen? ⟨r0, 6, none⟩ = false := by simp [World.frozen?, hrc]
   have u7 : wr.cell? ⟨r0, 7, none⟩ = some (.int .i64 0) := by simp [World.cell?, hrc]
   have f7 : wr.frozen? ⟨r0, 7, none⟩ = false := by simp [World.frozen?, hrc]
   have u8 : wr.cell? ⟨r0, 8, none⟩ = some (.int .i64 0) := by simp [World.cell?, hrc]
   have f8 : wr.frozen? ⟨r0, 8, none⟩ = false := by simp [World.frozen?, hrc]
   have u9 : wr.cell? ⟨r0, 9, none⟩ = some (.int .i64 0) := by simp [World.cell?, hrc]
   have f9 : wr.frozen? ⟨r0, 9, none⟩ = false := by simp [World.frozen?, hrc]
   have u10 : wr.cell? ⟨r0, 10, none⟩ = some (.int .i64 0) := by simp [World.cell?, hrc]
   have f10 : wr.frozen? ⟨r0, 10, none⟩ = false := by simp [World.frozen?, hrc]
   have u11 : wr.cell? ⟨r0, 11, none⟩ = some (.int .i64 0) := by simp [World.cell?, hrc]
   have f11 : wr.frozen? ⟨r0, 11, none⟩ = false := by simp [World.frozen?, hrc]
   have u12 : wr.cell? ⟨r0, 12, none⟩ = some (.int .i64 0) := by simp [World.cell?, hrc]
   have f12 : wr.frozen? ⟨r0, 12, none⟩ = false := by simp [World.frozen?, hrc]
   have HRC := hid hrc
   have HUF := hid (up13 wr r0 (.int .i64 r.kind) (.string r.key) (.int .i64 r.n) (.int .i64 r.sid) (sv) (.int .i64 r.colour) (lv) (.int .i64 r.t.hot) (.int .i64 r.t.warm) (.int .i64 r.t.gap) (.int .i64 r.t.add) (.int .i64 r.t.top) (.int .i64 r.t.half))
   have HRT := hid hrt
   have HO := hid hown
   have HLS := hid (And.intro hls hlk)
   rw [hsa] at x4 HUF HSV
   rw [hla] at x6 HUF HO
   clear hpc hrc hrt hown hls hlk ht hlt hk hbw hsa hla
   obtain ⟨kind, key, n, sid, sids, colour, locs, ⟨t0, t1, t2, t3, t4, t5⟩⟩ := r
   go_wp2_with fail
   refine bodyPost_ret (results_cell_row (P := Tryz.prog) (ty := 28) rfl _ _ r0 _ _ _ _ rfl (heap13s HRC.out _ _ _ _ _ _ _ _ _ _ _ _ _) Tryz.underlying28 rfl info_rec13) rfl ?_
   have hfix := HUF.out
   have hO2 := HO.out.up hfix fun g hg _ e => by have e : g = r0 := e; have := HBL.out.2.2.2.2.1; omega
   obtain ⟨la2, lc2, e2, r2, r2b⟩ := hO2.rowb
   have hO3 := hO2.weak (B' := w.heap.size) (by have := HLA.out; have := HBL.out; first | omega | exact HRT.out.rs.up.size)
   have hF := HOK.out.done ls HLS.out.1 HLS.out.2
   have hlen : ls.length = t := HLS.out.1
   have hlb := HLA.out
   have hUW : Up Nul w wr := HRT.out.rs.up
   have hr0 : w.heap.size ≤ r0 := HRT.out.ne.2.2
   have hUF : Up Nul w _ := ⟨hfix.os.trans hUW.os, hfix.tape.trans hUW.tape, hfix.output.trans hUW.output, Nat.le_trans hUW.size hfix.size, fun g hg _ => (hfix.block g (Nat.lt_of_lt_of_le hg hUW.size) (fun e => by have e : g = r0 := e; omega)).trans (hUW.block g hg id)⟩
   have hll : ls.length ≤ 100000 := by rw [hlen]; omega
   rcases HSV.out with ⟨e0, e1⟩ | ⟨g, a1, a2, a3, hG, e0, e1⟩
   ·cases e1
    have e0 : sids = [] := e0
    subst e0
    refine ⟨{ kind := kind, key := key, n := n, sid := sid, sids := [], colour := colour, locs := ls, t := ⟨t0, t1, t2, t3, t4, t5⟩ }, none, 0, la2, lc2, ?_, hF, ⟨RowI.nil _ _, r2, by show 0 ≤ 100000; omega, hll⟩, ⟨.inl rfl, by show OwnLo w.heap.size _ (.slice la2 ls.length lc2) ls; rw [← e2]; exact hO3⟩, hUF, rfl⟩
    rw [e2]
    rfl
   ·cases e1
    have e0 : sids = [a1, a2, a3] := e0
    subst e0
    have hgc := (HRT.out.rs.gc g _ hG).1
    have hgr : g ≠ r0 := fun e => by
     subst e
     have := HRC.out.symm.trans hgc
     simp at this
    have hgb := (hfix.block g (Array.getElem?_eq_some_iff.1 hgc).1 hgr).trans hgc
    refine ⟨{ kind := kind, key := key, n := n, sid := sid, sids := [a1, a2, a3], colour := colour, locs := ls, t := ⟨t0, t1, t2, t3, t4, t5⟩ }, some ⟨g, 0, none⟩, 3, la2, lc2, ?_, hF, ⟨.inr ⟨g, 0, rfl, (Array.getElem?_eq_some_iff.1 hgb).1, fun i x hi => ?_⟩, r2, by show 3 ≤ 100000; omega, hll⟩, ⟨.inr ⟨g, rfl, (HRT.out.rs.gc g _ hG).2.2.2, hgb⟩, by show OwnLo w.heap.size _ (.slice la2 ls.length lc2) ls; rw [← e2]; exact hO3⟩, hUF, rfl⟩
    ·rw [e2]
     rfl
    ·match i, hi with
     | 0, hi => cases hi; simp [World.cell?, hgb]
     | 1, hi => cases hi; simp [World.cell?, hgb]
     | 2, hi => cases hi; simp [World.cell?, hgb]
end Go.Proofs.YtepggchnhgpcnaaGreatDoor
