/- The document's 'lay'. -/
import Derived.Test.YtepggchnhgpcnaaGreatDoorPkTidy
import Derived.Test.YtepggchnhgpcnaaGreatDoorPz19
namespace Go.Proofs.YtepggchnhgpcnaaGreatDoor
open Go.RowKit Go.Maps Go.Sort
set_option linter.unusedVariables false

section
variable {F S : Nat → Prop} {w w' : World} {q n : Nat} {Q : Int → Value} {M : MM} {ks : List ByteArray} {is : List Int} {kv bv iv sv : Value}
theorem lay_fin {w1 wc W : World} {s : Int} {x : St} {v : Value} {N c : Nat} {a : Option Addr} {iv' : Value} (H1 : RM F w1 q n Q M ks is kv bv iv sv) (hF : ∀ k, F k → k < w.heap.size) (hu : Up Nul w w1) (hs : ∀ i ∈ is, i < s)
  (hv : OwnLo 0 w v x.locs) (hvF : ∀ g, v.ownBlock = some g → F g)
  (h2 : wc.ownsRow w1.heap.size 3 1 iv' (N + 1) (intV is ++ [.int .i64 s]) ∧ wc.heap[q]? = some (.cells (rhead kv bv iv' sv (M.last + 1) M.t) 62 (0, 0)) ∧ Up (fun k => k = q) w1 wc)
  (hl : ApS 46 6 wc W a (N + 1) c ([] ++ scells M Q is ++ scl x v)) (hN : is.length = N) :
  (∃ is' iv' sv', RM (Gr F w ((W.setCell ⟨q, 3, none⟩ (.slice a (N + 1) c)).setCell ⟨q, 4, none⟩ (.int .i64 (s + 1)))) ((W.setCell ⟨q, 3, none⟩ (.slice a (N + 1) c)).setCell ⟨q, 4, none⟩ (.int .i64 (s + 1))) q (n + 1) (upd Q s v) { M with s := upd M.s s (some x), last := s } ks is' kv bv iv' sv') ∧ Up (fun k => k = q) w ((W.setCell ⟨q, 3, none⟩ (.slice a (N + 1) c)).setCell ⟨q, 4, none⟩ (.int .i64 (s + 1))) := by
 obtain ⟨y1, y2, y3⟩ := head_set h2.2.1 hl 3
 generalize W.setCell ⟨q, 3, none⟩ (.slice a (N + 1) c) = w3 at y1 y2 y3 ⊢
 have u4 : Up (fun k => k = q) w3 (w3.setCell ⟨q, 4, none⟩ (.int .i64 (s + 1))) := (Up.refl (fun k => k = q) w3).put rfl 4 _
 have x2 := heap_set_same y2 4 (.int .i64 (s + 1))
 have hqlt := H1.lt
 have hsw : w1.heap.size ≤ wc.heap.size := h2.2.2.size
 have x1 := ownsRow.up y1 u4 fun g e e' => by have := (ownsRow.lt y1 g e).1; omega
 have x3 := y3.trans u4
 generalize w3.setCell ⟨q, 4, none⟩ (.int .i64 (s + 1)) = w' at x1 x2 x3 ⊢
 have u : Up (fun k => k = q) w1 w' := h2.2.2.trans x3
 have rr1 := H1.rr.head H1.hp u
 have hi' := ownsRow.up h2.1 x3 fun g e e' => by have := (ownsRow.lt h2.1 g e).1; omega
 have hns : s ∉ is := fun e => by have := hs s e; omega
 have hvw : OwnLo 0 w' v x.locs := lo_up (lo_up hv hu fun _ _ => id) u fun g e e' => row_ne (lo_up hv hu fun _ _ => id) H1.hp (by decide) (by rw [← e']; exact e)
 refine ⟨⟨is ++ [s], iv', .slice a (N + 1) c, ⟨x2, ⟨rr1.ko, rr1.bo, ?_, ?_, fun j y e => ?_, fun g e => .inl (rr1.fk g e), fun g e => .inl (rr1.fb g e), fun g e => ?_, fun g e => ?_, ⟨H1.rr.rk.up, H1.rr.rk.mem⟩, ⟨(H1.rr.ri.app hs x).up, (H1.rr.ri.app hs x).mem⟩⟩, .inl H1.fq, Nat.le_succ_of_le H1.nk, ?_⟩⟩, hu.nul.trans u⟩
 ·rw [List.length_append, hN, show intV (is ++ [s]) = intV is ++ [.int .i64 s] from by simp [intV]]; exact ownsRow.lower hi' (Nat.zero_le _)
 ·rw [List.length_append, hN]
  have e1 : scells { M with s := upd M.s s (some x), last := s } (upd Q s v) (is ++ [s]) = [] ++ scells M Q is ++ scl x v := by
   rw [List.nil_append, scells_app, scells_congr (M := M) (Q := Q) (is := is)]
   ·congr 1
    unfold scells MM.sof
    simp [upd_same]
   ·intro y hy
    have hne : y ≠ s := fun e => hns (by rw [← e]; exact hy)
    exact ⟨upd_ne _ _ hne, upd_ne _ _ hne⟩
  rw [e1]
  exact ownsRow.lower x1 (Nat.zero_le _)
 ·have e : upd M.s s (some x) j = some y := e
  by_cases hj : j = s
  ·subst hj
   rw [upd_same] at e ⊢
   cases e
   exact ⟨hvw, fun g e' => .inl (hvF g e')⟩
  ·rw [upd_ne _ _ hj] at e ⊢
   exact ⟨(rr1.lo j y e).1, fun g e' => .inl ((rr1.lo j y e).2 g e')⟩
 ·exact Gr.new hu.size (ownsRow.lt hi' g e).1 (ownsRow.lt hi' g e).2
 ·exact Gr.new (Nat.le_trans hu.size hsw) (ownsRow.lt x1 g e).1 (ownsRow.lt x1 g e).2
 ·rw [List.length_append]; have := H1.ni; simp only [List.length_cons, List.length_nil]; omega
set_option maxRecDepth 10000 in
theorem rlay_any (h : RM F w q n Q M ks is kv bv iv sv) (hF : ∀ k, F k → k < w.heap.size) (hn : n ≤ 90000) (s : Int) (x : St) (v : Value) (hs : ∀ i ∈ is, i < s) (hs0 : 0 ≤ s ∧ s ≤ 2147483647) (hv : OwnLo 0 w v x.locs) (hvF : ∀ g, v.ownBlock = some g → F g) :
  Calls Tryz.prog 27 #[.pointer (some ⟨q, 0, none⟩), .int .i64 s, stv x v] w fun e w' => e = .returned (.tuple #[]) ∧ (∃ is' iv' sv', RM (Gr F w w') w' q (n + 1) (upd Q s v) { M with s := upd M.s s (some x), last := s } ks is' kv bv iv' sv') ∧ Up (fun k => k = q) w w' := by
 have HVF := hid hvF
 have HVL := hid hv
 obtain ⟨va, vc, hve⟩ := hv.shape
 obtain ⟨xk, xc, k0, k1, k2, xl⟩ := x
 dsimp only at hve
 obtain ⟨L, LL⟩ : ∃ L, Hid (xl.length = L) := ⟨_, rfl⟩
 rw [LL.out] at hve
 subst hve
 obtain ⟨w1, hw1⟩ : ∃ W, W = w.alloc (.cells #[.int .i64 xk, .int .i64 xc, .string k0, .string k1, .string k2, .slice va L vc] 46) := ⟨_, rfl⟩
 have u0 : Up Nul w w1 := by rw [hw1]; exact (Up.refl Nul w).alloc _
 have hb : w1.heap[w.heap.size]? = some (.cells #[.int .i64 xk, .int .i64 xc, .string k0, .string k1, .string k2, .slice va L vc] 46 (0, 0)) := by rw [hw1]; exact heap_alloc_new _ _
 have H1 := hid (h.nxt u0)
 have HU1 := hid u0
 have HB1 := hid hb
 have HF := hid hF
 have HS := hid hs
 clear u0 h hF hs hb hv hvF
 have hnk := H1.out.ni
 obtain ⟨ra, rc, hiv, hnc, hr, hnone, _⟩ := ownsRow.rd H1.out.rr.io (intV_one is)
 obtain ⟨N, NN⟩ : ∃ N, Hid (is.length = N) := ⟨_, rfl⟩
 have c1 := H1.out.cells.2.2.1
 have f1 := H1.out.froz 2
 rw [hiv] at c1
 rw [NN.out] at c1 hr hnone hnk
 have HA0 := ApS.start (T := 3) (s := 1) (Up.refl Nul w1)
 obtain ⟨a1, cc1, W1, hr1, HA1⟩ := HA0.app Tryz.underlying23 inf_int (by omega) (by omega) hr (c2 := rc) hnone (by omega) 23
 rw [Nat.zero_add] at hr1 HA1
 have HA2 := HA1.one [.int .i64 s] rfl (by intro u hu; simp at hu; subst hu; rfl)
 obtain ⟨a3, cc3, W3, hr3, HA3⟩ := HA2.app1 Tryz.underlying23 inf_int (by omega) (by omega) (by omega) 1 23
 have HX := hid (head_set H1.out.hp HA3 2)
 have c3 := (HA3.up.cell (p := ⟨q, 2, none⟩) H1.out.lt id).trans c1
 have f3 := (HA3.up.froz (p := ⟨q, 2, none⟩) H1.out.lt id).trans f1
 have c1a := (HA0.up.cell (p := ⟨q, 2, none⟩) H1.out.lt id).trans c1
 clear HA0 HA1 HA2 HA3 hr hnone hiv hnc c1
 go_enter Tryz.func27, Tryz.ntmps27
 go_upto_region 1 with fail
 rw [← hw1]
 clear hw1
 go_wp2_with (first
  | (at_builtin; refine wpList_append_eqv rfl (.tmp 7) (.tmp 11) 23 rfl _ _ _ rfl rfl hr1 ?_)
  | (at_builtin; refine wpList_append_eqv rfl (.tmp 12) (.tmp 14) 23 rfl _ _ _ rfl rfl hr3 ?_)
  | go_in)
 obtain ⟨wc, hwc⟩ : ∃ W, W = W3.setCell ⟨q, 2, none⟩ (.slice a3 (N + 1) cc3) := ⟨_, rfl⟩
 rw [← hwc] at HX ⊢
 clear hwc hr1 hr3 c1a c3 f3 f1
 have hh := HX.out.2.1
 have hrr := H1.out.rr.head H1.out.hp HX.out.2.2
 obtain ⟨ra, rc, hsv, hnc, hr, hnone, _⟩ := ownsRow.rd hrr.so (scells_one M Q is hrr.qone)
 have R1 : Hid (RdR 6 wc ra is.length (scells M Q is)) := hr
 have NR1 := hid hnone
 rw [NN.out] at R1 NR1 hsv
 have c1 : wc.cell? ⟨q, 3, none⟩ = some sv := by simp [World.cell?, hh]
 have f1 : wc.frozen? ⟨q, 3, none⟩ = false := by simp [World.frozen?, hh]
 have c4 : wc.cell? ⟨q, 4, none⟩ = some (.int .i64 (M.last + 1)) := by simp [World.cell?, hh]
 have f4 : wc.frozen? ⟨q, 4, none⟩ = false := by simp [World.frozen?, hh]
 rw [hsv] at c1
 have hq := (Array.getElem?_eq_some_iff.1 hh).1
 have hlb := (Array.getElem?_eq_some_iff.1 HB1.out).1
 have hne : w.heap.size ≠ q := fun e => by have := HF.out q H1.out.fq; omega
 have hb2 := (HX.out.2.2.block w.heap.size hlb hne).trans HB1.out
 have hlc := (Array.getElem?_eq_some_iff.1 hb2).1
 have e1 : IntKind.i64.wrap (s + 1) = s + 1 := IntWalk.i64_in _ (by omega)
 have HV : Hid (Up Nul wc wc.drew) := (Up.refl Nul wc).drew
 have HQ : Hid (∀ V, Up Nul wc V → V.cell? ⟨q, 3, none⟩ = some (.slice ra N rc) ∧ V.cell? ⟨w.heap.size, 0, none⟩ = some (.int .i64 xk) ∧ V.cell? ⟨w.heap.size, 1, none⟩ = some (.int .i64 xc) ∧ V.cell? ⟨w.heap.size, 2, none⟩ = some (.string k0) ∧ V.cell? ⟨w.heap.size, 3, none⟩ = some (.string k1) ∧ V.cell? ⟨w.heap.size, 4, none⟩ = some (.string k2) ∧ V.cell? ⟨w.heap.size, 5, none⟩ = some (.slice va L vc)) := fun V u => by
  have hb3 := (u.block w.heap.size hlc id).trans hb2
  exact ⟨(u.cell (p := ⟨q, 3, none⟩) hq id).trans c1, by simp [World.cell?, hb3], by simp [World.cell?, hb3], by simp [World.cell?, hb3], by simp [World.cell?, hb3], by simp [World.cell?, hb3], by simp [World.cell?, hb3]⟩
 have HQF : Hid (∀ V, Up Nul wc V → V.frozen? ⟨q, 3, none⟩ = false) := fun V u => (u.froz (p := ⟨q, 3, none⟩) hq id).trans f1
 have HQ4 : Hid (∀ V, Up Nul wc V → V.cell? ⟨q, 4, none⟩ = some (.int .i64 (M.last + 1)) ∧ V.frozen? ⟨q, 4, none⟩ = false) := fun V u => ⟨(u.cell (p := ⟨q, 4, none⟩) hq id).trans c4, (u.froz (p := ⟨q, 4, none⟩) hq id).trans f4⟩
 clear hr hnone c1 f1 c4 f4 hb2 hh hrr hnc hlc hlb hsv
 refine wp_region_F (S := (fun V => V.cell? ⟨q, 3, none⟩ = some (.slice ra N rc) ∧ V.cell? ⟨w.heap.size, 0, none⟩ = some (.int .i64 xk) ∧ V.cell? ⟨w.heap.size, 1, none⟩ = some (.int .i64 xc) ∧ V.cell? ⟨w.heap.size, 2, none⟩ = some (.string k0) ∧ V.cell? ⟨w.heap.size, 3, none⟩ = some (.string k1) ∧ V.cell? ⟨w.heap.size, 4, none⟩ = some (.string k2) ∧ V.cell? ⟨w.heap.size, 5, none⟩ = some (.slice va L vc))) 12 (by kernel_rfl) (by exact HQ.out _ HV.out) (fun hHeld => ?_)
 refine tkf 0 (some 18) rfl ?_
 refine tkf 2 (some 20) rfl ?_
 refine tkf 3 (some 21) rfl ?_
 refine tkf 4 (some 22) rfl ?_
 refine tkf 5 (some 23) rfl ?_
 refine tkf 7 (some 25) rfl ?_
 refine wpAnyF_ready (rs := [1, 8]) (by kernel_rfl) (by simp) ?_
 refine (AllReadyF.cons (o := ⟨some 19, _, _, _, _, _⟩) rfl (fun K hK => ?_) (AllReadyF.cons (o := ⟨some 26, _, _, _, _, _⟩) rfl (fun K hK => ?_) AllReadyF.nil))
 ·go_simp
  have HA0 := ApS.start (T := 46) (s := 6) HV.out; (try simp only [World.size_alloc] at HA0); have HA0 := hid HA0
  refine hK.out _ _ (HQ.out _ HA0.out.up) (fun hHeld => ?_)
  clear hK K
  try simp only [tdy]
  refine wpAnyF_ready (rs := [6, 8]) (by kernel_rfl) (by simp) ?_
  refine (AllReadyF.cons (o := ⟨some 24, _, _, _, _, _⟩) rfl (fun K hK => ?_) (AllReadyF.cons (o := ⟨some 26, _, _, _, _, _⟩) rfl (fun K hK => ?_) AllReadyF.nil))
  ·skip
   obtain ⟨aa1, cc1, ww1, hr1, HA1⟩ := HA0.out.app Tryz.underlying60 inf_stripe (by omega) (by omega) R1.out NR1.out (by omega) 60; (try rw [Nat.zero_add] at hr1 HA1); refine wp_append_eqv (.tmp 19) (.tmp 23) 60 (by rfl) _ _ _ (by rfl) (by rfl) hr1 ?_; have HA1 := hid HA1; clear hr1
   refine hK.out _ _ (HQ.out _ HA1.out.up) (fun hHeld => ?_)
   clear hK K
   try simp only [tdy]
   refine onf 8 (some 26) rfl (fun K hK => ?_)
   go_simp
   have HA2 := HA1.out.one [.int .i64 xk, .int .i64 xc, .string k0, .string k1, .string k2, .slice va L vc] rfl (by intro u hu; simp at hu; rcases hu with rfl | rfl | rfl | rfl | rfl | rfl <;> rfl); (try simp only [World.size_alloc] at HA2); have HA2 := hid HA2
   refine hK.out _ _ (HQ.out _ HA2.out.ap.up) (fun hHeld => ?_)
   clear hK K
   try simp only [tdy]
   refine onf 9 (some 27) rfl (fun K hK => ?_)
   obtain ⟨aa3, cc3, ww3, hr3, HA3⟩ := HA2.out.app1 Tryz.underlying60 inf_stripe (by omega) (by omega) (by omega) 1 60; (try rw [Nat.zero_add] at hr3 HA3); refine wp_append_eqv (.tmp 24) (.tmp 26) 60 (by rfl) _ _ _ (by rfl) (by rfl) hr3 ?_; have HA3 := hid HA3; clear hr3
   refine hK.out _ _ (HQ.out _ HA3.out.up) (fun hHeld => ?_)
   clear hK K
   try simp only [tdy]
   refine onf 10 (some 28) rfl (fun K hK => ?_)
   go_simp
   skip
   refine hK.out _ _ (HQ.out _ HA3.out.up) (fun hHeld => ?_)
   clear hK K
   try simp only [tdy]
   refine tkf 11 (some 29) rfl ?_
   have HL := HA3
   have c0 := (HQ.out _ HL.out.up).1
   have f0 := HQF.out _ HL.out.up
   refine wpAnyF_ready (rs := [12]) (by kernel_rfl) (by simp) ?_
   refine AllReadyF.last (o := ⟨none, _, _, _, _, _⟩) rfl (fun K hK => ?_)
   go_simp
   skip
   refine hK.out _ _ (trivial) (fun hHeld => ?_)
   clear hK K
   try simp only [tdy]
   refine wpAnyF_done (by kernel_rfl) ?_ _
   obtain ⟨c4, f4⟩ := HQ4.out _ HL.out.up
   go_wp2_with fail
   go_end0
   exact ⟨rfl, lay_fin (x := ⟨xk, xc, k0, k1, k2, xl⟩) H1.out HF.out HU1.out HS.out (by rw [← LL.out] at *; exact HVL.out) HVF.out HX.out HL.out NN.out⟩
  ·go_simp
   have HA1 := HA0.out.one [.int .i64 xk, .int .i64 xc, .string k0, .string k1, .string k2, .slice va L vc] rfl (by intro u hu; simp at hu; rcases hu with rfl | rfl | rfl | rfl | rfl | rfl <;> rfl); (try simp only [World.size_alloc] at HA1); have HA1 := hid HA1
   refine hK.out _ _ (HQ.out _ HA1.out.ap.up) (fun hHeld => ?_)
   clear hK K
   try simp only [tdy]
   refine onf 6 (some 24) rfl (fun K hK => ?_)
   obtain ⟨aa2, cc2, ww2, hr2, HA2⟩ := HA1.out.app Tryz.underlying60 inf_stripe (by omega) (by omega) R1.out NR1.out (by omega) 60; (try rw [Nat.zero_add] at hr2 HA2); refine wp_append_eqv (.tmp 19) (.tmp 23) 60 (by rfl) _ _ _ (by rfl) (by rfl) hr2 ?_; have HA2 := hid HA2; clear hr2
   refine hK.out _ _ (HQ.out _ HA2.out.ap.up) (fun hHeld => ?_)
   clear hK K
   try simp only [tdy]
   refine onf 9 (some 27) rfl (fun K hK => ?_)
   obtain ⟨aa3, cc3, ww3, hr3, HA3⟩ := HA2.out.app1 Tryz.underlying60 inf_stripe (by omega) (by omega) (by omega) 1 60; (try rw [Nat.zero_add] at hr3 HA3); refine wp_append_eqv (.tmp 24) (.tmp 26) 60 (by rfl) _ _ _ (by rfl) (by rfl) hr3 ?_; have HA3 := hid HA3; clear hr3
   refine hK.out _ _ (HQ.out _ HA3.out.up) (fun hHeld => ?_)
   clear hK K
   try simp only [tdy]
   refine onf 10 (some 28) rfl (fun K hK => ?_)
   go_simp
   skip
   refine hK.out _ _ (HQ.out _ HA3.out.up) (fun hHeld => ?_)
   clear hK K
   try simp only [tdy]
   refine tkf 11 (some 29) rfl ?_
   have HL := HA3
   have c0 := (HQ.out _ HL.out.up).1
   have f0 := HQF.out _ HL.out.up
   refine wpAnyF_ready (rs := [12]) (by kernel_rfl) (by simp) ?_
   refine AllReadyF.last (o := ⟨none, _, _, _, _, _⟩) rfl (fun K hK => ?_)
   go_simp
   skip
   refine hK.out _ _ (trivial) (fun hHeld => ?_)
   clear hK K
   try simp only [tdy]
   refine wpAnyF_done (by kernel_rfl) ?_ _
   obtain ⟨c4, f4⟩ := HQ4.out _ HL.out.up
   go_wp2_with fail
   go_end0
   exact ⟨rfl, lay_fin (x := ⟨xk, xc, k0, k1, k2, xl⟩) H1.out HF.out HU1.out HS.out (by rw [← LL.out] at *; exact HVL.out) HVF.out HX.out HL.out NN.out⟩
 ·go_simp
  have HI := hid (ApI.new (s := 6) HV.out 46 [.int .i64 xk, .int .i64 xc, .string k0, .string k1, .string k2, .slice va L vc] rfl (by intro u hu; simp at hu; rcases hu with rfl | rfl | rfl | rfl | rfl | rfl <;> rfl))
  refine hK.out _ _ (HQ.out _ HI.out.up) (fun hHeld => ?_)
  clear hK K
  try simp only [tdy]
  refine onf 1 (some 19) rfl (fun K hK => ?_)
  go_simp
  have HA1 := ApI.start (T := 46) HI.out; (try simp only [World.size_alloc] at HA1); have HA1 := hid HA1
  refine hK.out _ _ (HQ.out _ HA1.out.ap.up) (fun hHeld => ?_)
  clear hK K
  try simp only [tdy]
  refine onf 6 (some 24) rfl (fun K hK => ?_)
  obtain ⟨aa2, cc2, ww2, hr2, HA2⟩ := HA1.out.app Tryz.underlying60 inf_stripe (by omega) (by omega) R1.out NR1.out (by omega) 60; (try rw [Nat.zero_add] at hr2 HA2); refine wp_append_eqv (.tmp 19) (.tmp 23) 60 (by rfl) _ _ _ (by rfl) (by rfl) hr2 ?_; have HA2 := hid HA2; clear hr2
  refine hK.out _ _ (HQ.out _ HA2.out.ap.up) (fun hHeld => ?_)
  clear hK K
  try simp only [tdy]
  refine onf 9 (some 27) rfl (fun K hK => ?_)
  obtain ⟨aa3, cc3, ww3, hr3, HA3⟩ := HA2.out.app1 Tryz.underlying60 inf_stripe (by omega) (by omega) (by omega) 1 60; (try rw [Nat.zero_add] at hr3 HA3); refine wp_append_eqv (.tmp 24) (.tmp 26) 60 (by rfl) _ _ _ (by rfl) (by rfl) hr3 ?_; have HA3 := hid HA3; clear hr3
  refine hK.out _ _ (HQ.out _ HA3.out.up) (fun hHeld => ?_)
  clear hK K
  try simp only [tdy]
  refine onf 10 (some 28) rfl (fun K hK => ?_)
  go_simp
  skip
  refine hK.out _ _ (HQ.out _ HA3.out.up) (fun hHeld => ?_)
  clear hK K
  try simp only [tdy]
  refine tkf 11 (some 29) rfl ?_
  have HL := HA3
  have c0 := (HQ.out _ HL.out.up).1
  have f0 := HQF.out _ HL.out.up
  refine wpAnyF_ready (rs := [12]) (by kernel_rfl) (by simp) ?_
  refine AllReadyF.last (o := ⟨none, _, _, _, _, _⟩) rfl (fun K hK => ?_)
  go_simp
  skip
  refine hK.out _ _ (trivial) (fun hHeld => ?_)
  clear hK K
  try simp only [tdy]
  refine wpAnyF_done (by kernel_rfl) ?_ _
  obtain ⟨c4, f4⟩ := HQ4.out _ HL.out.up
  go_wp2_with fail
  go_end0
  exact ⟨rfl, lay_fin (x := ⟨xk, xc, k0, k1, k2, xl⟩) H1.out HF.out HU1.out HS.out (by rw [← LL.out] at *; exact HVL.out) HVF.out HX.out HL.out NN.out⟩
end
end Go.Proofs.YtepggchnhgpcnaaGreatDoor
