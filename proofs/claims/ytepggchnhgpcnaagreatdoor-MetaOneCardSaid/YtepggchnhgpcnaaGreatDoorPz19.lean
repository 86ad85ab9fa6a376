/- The document's 'lift'. -/
import Derived.Test.YtepggchnhgpcnaaGreatDoorPkTidy
import Derived.Test.YtepggchnhgpcnaaGreatDoorPz18
namespace Go.Proofs.YtepggchnhgpcnaaGreatDoor
open Go.RowKit Go.Maps Go.Sort
set_option linter.unusedVariables false

section
variable {F S : Nat → Prop} {w w' : World} {q n : Nat} {Q : Int → Value} {M : MM} {ks : List ByteArray} {is : List Int} {kv bv iv sv : Value}
theorem lift_fin {w1 wc W : World} {s : Int} {i N2 c : Nat} {a : Option Addr} {iv' : Value} (H1 : RM F w1 q n Q M ks is kv bv iv sv) (hF : ∀ k, F k → k < w.heap.size) (hu : Up Nul w w1) (hi : is[i]? = some s)
  (h2 : wc.ownsRow w1.heap.size 3 1 iv' (i + N2) (intV (is.take i) ++ intV (is.drop (i + 1))) ∧ wc.heap[q]? = some (.cells (rhead kv bv iv' sv (M.last + 1) M.t) 62 (0, 0)) ∧ Up (fun k => k = q) w1 wc)
  (hl : ApS 46 6 wc W a (i + N2) c ([] ++ scells M Q (is.take i) ++ scells M Q (is.drop (i + 1)))) (hN : i + 1 + N2 = is.length) :
  (∃ is' iv' sv', RM (Gr F w (W.setCell ⟨q, 3, none⟩ (.slice a (i + N2) c))) (W.setCell ⟨q, 3, none⟩ (.slice a (i + N2) c)) q n Q { M with s := upd M.s s none } ks is' kv bv iv' sv') ∧ Up (fun k => k = q) w (W.setCell ⟨q, 3, none⟩ (.slice a (i + N2) c)) := by
 obtain ⟨x1, x2, x3⟩ := head_set h2.2.1 hl 3
 generalize W.setCell ⟨q, 3, none⟩ (.slice a (i + N2) c) = w' at x1 x2 x3 ⊢
 have u : Up (fun k => k = q) w1 w' := h2.2.2.trans x3
 have rr1 := H1.rr.head H1.hp u
 have hlen : (is.take i ++ is.drop (i + 1)).length = i + N2 := by
  simp only [List.length_append, List.length_take, List.length_drop]
  omega
 have hi' := ownsRow.up h2.1 x3 fun g e e' => by have := (ownsRow.lt h2.1 g e).1; have := H1.lt; omega
 have hsw : w1.heap.size ≤ wc.heap.size := h2.2.2.size
 have hmem := fun x => mem_del (R := fun a b : Int => a < b) (l := is) (i := i) (k := s) H1.rr.ri.up (fun x => Int.lt_irrefl x) hi x
 refine ⟨⟨is.take i ++ is.drop (i + 1), iv', .slice a (i + N2) c, ⟨x2, ⟨rr1.ko, rr1.bo, ?_, ?_, fun j x e => ?_, fun g e => .inl (rr1.fk g e), fun g e => .inl (rr1.fb g e), fun g e => ?_, fun g e => ?_, ⟨H1.rr.rk.up, H1.rr.rk.mem⟩, H1.rr.ri.del hi⟩, .inl H1.fq, H1.nk, ?_⟩⟩, hu.nul.trans u⟩
 ·rw [hlen, show intV (is.take i ++ is.drop (i + 1)) = intV (is.take i) ++ intV (is.drop (i + 1)) from by simp [intV]]; exact ownsRow.lower hi' (Nat.zero_le _)
 ·rw [hlen]
  have e1 : scells { M with s := upd M.s s none } Q (is.take i ++ is.drop (i + 1)) = [] ++ scells M Q (is.take i) ++ scells M Q (is.drop (i + 1)) := by
   rw [List.nil_append, ← scells_app]
   exact scells_congr fun x hx => ⟨upd_ne _ _ ((hmem x).1 hx).2, rfl⟩
  rw [e1]
  exact ownsRow.lower x1 (Nat.zero_le _)
 ·have hj : j ≠ s := fun e' => by
   have e : upd M.s s none j = some x := e
   rw [e', upd_same] at e; cases e
  have e : upd M.s s none j = some x := e
  rw [upd_ne _ _ hj] at e
  exact ⟨(rr1.lo j x e).1, fun g e' => .inl ((rr1.lo j x e).2 g e')⟩
 ·exact Gr.new hu.size (ownsRow.lt hi' g e).1 (ownsRow.lt hi' g e).2
 ·exact Gr.new (Nat.le_trans hu.size hsw) (ownsRow.lt x1 g e).1 (ownsRow.lt x1 g e).2
 ·rw [hlen]; have := H1.ni; omega
set_option maxRecDepth 10000 in
theorem rlift_any (h : RM F w q n Q M ks is kv bv iv sv) (hF : ∀ k, F k → k < w.heap.size) (hn : n ≤ 90000) (s : Int) (hs : (M.s s).isSome = true) :
  Calls Tryz.prog 72 #[.pointer (some ⟨q, 0, none⟩), .int .i64 s] w fun e w' => e = .returned (.tuple #[]) ∧ (∃ is' iv' sv', RM (Gr F w w') w' q n Q { M with s := upd M.s s none } ks is' kv bv iv' sv') ∧ Up (fun k => k = q) w w' := by
 have H := hid h
 have HK := hid (sid_yes h (by omega) s hs)
 have HF := hid hF
 clear h hF hs
 go_enter Tryz.func72, Tryz.ntmps72
 go_wp2_with fail
 ·refine HK.out.mono ?_
  rintro e w1 ⟨i, rfl, hi, hp, u1⟩
  have HI := hid hi
  have HU1 := hid u1
  have H1 := hid (H.out.nxt u1)
  have hil : i < is.length := (List.getElem?_eq_some_iff.1 hi).1
  clear hi hp u1 HK H
  go_upto_region 1 with fail
  have hnk := H1.out.ni
  obtain ⟨i1, I1⟩ : ∃ i1, Hid (i + 1 = i1) := ⟨_, rfl⟩
  have hil1 : i1 ≤ is.length := by have := I1.out; omega
  obtain ⟨ra, rc, rb, N2, C2, hiv, hnc, hs1, hs2, r1, r2, n1, n2, hN2⟩ := cut_row (t := 23) H1.out.rr.io (intV_one is) (by kernel_rfl) (fun W => by kernel_rfl) i i1 (by omega) hil1
  rw [intV_take] at r1
  rw [intV_drop] at r2
  have R1 : Hid (RdR 1 w1 ra i (intV (is.take i))) := r1
  have R2 : Hid (RdR 1 w1 rb N2 (intV (is.drop i1))) := r2
  have NR1 := hid n1
  have NR2 := hid n2
  have c1 := H1.out.cells.2.2.1
  rw [hiv] at c1
  obtain ⟨N, NN⟩ : ∃ N, Hid (is.length = N) := ⟨_, rfl⟩
  have HNN : Hid (i1 + N2 = is.length) := hN2
  rw [NN.out] at hs1 hs2 c1 hil hil1 hnk hnc hN2
  have e1 : IntKind.i64.wrap ((i : Int) + 1) = (i1 : Int) := by rw [← I1.out]; exact IntWalk.i64_in _ (by omega)
  have hiN : i + N2 ≤ 90000 := by have := I1.out; omega
  have HV : Hid (Up Nul w1 w1.drew) := (Up.refl Nul w1).drew
  have HQ : Hid (∀ V, Up Nul w1 V → V.cell? ⟨q, 2, none⟩ = some (.slice ra N rc)) := fun V u => (u.cell (p := ⟨q, 2, none⟩) H1.out.lt id).trans c1
  have HQF : Hid (∀ V, Up Nul w1 V → V.frozen? ⟨q, 2, none⟩ = false) := fun V u => (u.froz (p := ⟨q, 2, none⟩) H1.out.lt id).trans (H1.out.froz 2)
  clear r1 r2 n1 n2 c1
  go_cut [] from 12 to 30 (fun wx => ∃ iv', Hid (wx.ownsRow w1.heap.size 3 1 iv' (i + N2) (intV (is.take i) ++ intV (is.drop i1)) ∧ wx.heap[q]? = some (.cells (rhead kv bv iv' sv (M.last + 1) M.t) 62 (0, 0)) ∧ Up (fun k => k = q) w1 wx))
  case first =>
   refine wp_region_F (S := (fun V => V.cell? ⟨q, 2, none⟩ = some (.slice ra N rc))) 19 (by kernel_rfl) (by exact HQ.out _ HV.out) (fun hHeld => ?_)
   refine tkf 0 (some 12) rfl ?_
   refine tkf 2 (some 14) rfl ?_
   refine tkf 3 (some 15) rfl ?_
   refine tkf 4 (some 16) rfl ?_
   refine tkf 5 (some 17) rfl ?_
   refine tkf 6 (some 18) rfl ?_
   refine tkf 7 (some 19) rfl ?_
   refine tkf 9 (some 21) rfl ?_
   refine tkf 10 (some 22) rfl ?_
   refine tkf 11 (some 23) rfl ?_
   refine tkf 12 (some 24) rfl ?_
   refine tkf 13 (some 25) rfl ?_
   refine tkf 14 (some 26) rfl ?_
   refine tkf 15 (some 27) rfl ?_
   refine onf 1 (some 13) rfl (fun K hK => ?_)
   go_simp
   have HA0 := ApS.start (T := 3) (s := 1) HV.out; (try simp only [World.size_alloc] at HA0); have HA0 := hid HA0
   refine hK.out _ _ (HQ.out _ HA0.out.up) (fun hHeld => ?_)
   clear hK K
   try simp only [tdy]
   refine onf 8 (some 20) rfl (fun K hK => ?_)
   obtain ⟨aa1, cc1, ww1, hr1, HA1⟩ := HA0.out.app Tryz.underlying23 inf_int (by omega) (by omega) R1.out NR1.out (by omega) 23; (try rw [Nat.zero_add] at hr1 HA1); refine wp_append_eqv (.tmp 13) (.tmp 19) 23 (by rfl) _ _ _ (by rfl) (by rfl) hr1 ?_; have HA1 := hid HA1; clear hr1
   refine hK.out _ _ (HQ.out _ HA1.out.up) (fun hHeld => ?_)
   clear hK K
   try simp only [tdy]
   refine onf 16 (some 28) rfl (fun K hK => ?_)
   obtain ⟨aa2, cc2, ww2, hr2, HA2⟩ := HA1.out.app Tryz.underlying23 inf_int (by omega) (by omega) R2.out NR2.out (by omega) 23; (try rw [Nat.zero_add] at hr2 HA2); refine wp_append_eqv (.tmp 20) (.tmp 27) 23 (by rfl) _ _ _ (by rfl) (by rfl) hr2 ?_; have HA2 := hid HA2; clear hr2
   refine hK.out _ _ (HQ.out _ HA2.out.up) (fun hHeld => ?_)
   clear hK K
   try simp only [tdy]
   refine onf 17 (some 29) rfl (fun K hK => ?_)
   go_simp
   skip
   refine hK.out _ _ (HQ.out _ HA2.out.up) (fun hHeld => ?_)
   clear hK K
   try simp only [tdy]
   refine tkf 18 (some 30) rfl ?_
   have HL := HA2
   have c0 := (HQ.out _ HL.out.up)
   have f0 := HQF.out _ HL.out.up
   refine wpAnyF_ready (rs := [19]) (by kernel_rfl) (by simp) ?_
   refine AllReadyF.last (o := ⟨none, _, _, _, _, _⟩) rfl (fun K hK => ?_)
   go_simp
   skip
   refine hK.out _ _ (trivial) (fun hHeld => ?_)
   clear hK K
   try simp only [tdy]
   refine wpAnyF_done (by kernel_rfl) ?_ _
   go_wp2_with fail
   go_meet
   have HX := head_set H1.out.hp HL.out 2
   simp only [List.nil_append] at HX
   exact ⟨_, hid ⟨HX.1, HX.2.1, HX.2.2⟩⟩
  obtain ⟨iv', hx⟩ := hcut
  go_upto_region 2 with fail
  have HK2 := hid hx.out
  clear hs1 hs2 R1 R2 NR1 NR2 HQ HQF HV hx hiv hnc
  have hh := HK2.out.2.1
  have hrr := H1.out.rr.head H1.out.hp HK2.out.2.2
  obtain ⟨ra, rc, rb, N3, C2, hsv, hnc, hs1, hs2, r1, r2, n1, n2, hN3⟩ := cut_row (t := 60) hrr.so (scells_one M Q is hrr.qone) (by kernel_rfl) (fun W => by kernel_rfl) i i1 (by rw [NN.out]; omega) (by rw [NN.out]; exact hil1)
  obtain rfl : N3 = N2 := by have := HNN.out; omega
  rw [scells_take] at r1
  rw [scells_drop] at r2
  have R1 : Hid (RdR 6 wc ra i (scells M Q (is.take i))) := r1
  have R2 : Hid (RdR 6 wc rb N3 (scells M Q (is.drop i1))) := r2
  have NR1 := hid n1
  have NR2 := hid n2
  have c1 : wc.cell? ⟨q, 3, none⟩ = some sv := by simp [World.cell?, hh]
  have f1 : wc.frozen? ⟨q, 3, none⟩ = false := by simp [World.frozen?, hh]
  rw [hsv] at c1
  have hq := (Array.getElem?_eq_some_iff.1 hh).1
  rw [NN.out] at hs1 hs2 c1 hnc
  have HV : Hid (Up Nul wc wc.drew) := (Up.refl Nul wc).drew
  have HQ : Hid (∀ V, Up Nul wc V → V.cell? ⟨q, 3, none⟩ = some (.slice ra N rc)) := fun V u => (u.cell (p := ⟨q, 3, none⟩) hq id).trans c1
  have HQF : Hid (∀ V, Up Nul wc V → V.frozen? ⟨q, 3, none⟩ = false) := fun V u => (u.froz (p := ⟨q, 3, none⟩) hq id).trans f1
  have HC2 := hid hh
  clear r1 r2 n1 n2 c1 f1 hh hrr
  refine wp_region_F (S := (fun V => V.cell? ⟨q, 3, none⟩ = some (.slice ra N rc))) 19 (by kernel_rfl) (by exact HQ.out _ HV.out) (fun hHeld => ?_)
  refine tkf 0 (some 31) rfl ?_
  refine tkf 2 (some 33) rfl ?_
  refine tkf 3 (some 34) rfl ?_
  refine tkf 4 (some 35) rfl ?_
  refine tkf 5 (some 36) rfl ?_
  refine tkf 6 (some 37) rfl ?_
  refine tkf 7 (some 38) rfl ?_
  refine tkf 9 (some 40) rfl ?_
  refine tkf 10 (some 41) rfl ?_
  refine tkf 11 (some 42) rfl ?_
  refine tkf 12 (some 43) rfl ?_
  refine tkf 13 (some 44) rfl ?_
  refine tkf 14 (some 45) rfl ?_
  refine tkf 15 (some 46) rfl ?_
  refine onf 1 (some 32) rfl (fun K hK => ?_)
  go_simp
  have HA0 := ApS.start (T := 46) (s := 6) HV.out; (try simp only [World.size_alloc] at HA0); have HA0 := hid HA0
  refine hK.out _ _ (HQ.out _ HA0.out.up) (fun hHeld => ?_)
  clear hK K
  try simp only [tdy]
  refine onf 8 (some 39) rfl (fun K hK => ?_)
  obtain ⟨aa1, cc1, ww1, hr1, HA1⟩ := HA0.out.app Tryz.underlying60 inf_stripe (by omega) (by omega) R1.out NR1.out (by omega) 60; (try rw [Nat.zero_add] at hr1 HA1); refine wp_append_eqv (.tmp 32) (.tmp 38) 60 (by rfl) _ _ _ (by rfl) (by rfl) hr1 ?_; have HA1 := hid HA1; clear hr1
  refine hK.out _ _ (HQ.out _ HA1.out.up) (fun hHeld => ?_)
  clear hK K
  try simp only [tdy]
  refine onf 16 (some 47) rfl (fun K hK => ?_)
  obtain ⟨aa2, cc2, ww2, hr2, HA2⟩ := HA1.out.app Tryz.underlying60 inf_stripe (by omega) (by omega) R2.out NR2.out (by omega) 60; (try rw [Nat.zero_add] at hr2 HA2); refine wp_append_eqv (.tmp 39) (.tmp 46) 60 (by rfl) _ _ _ (by rfl) (by rfl) hr2 ?_; have HA2 := hid HA2; clear hr2
  refine hK.out _ _ (HQ.out _ HA2.out.up) (fun hHeld => ?_)
  clear hK K
  try simp only [tdy]
  refine onf 17 (some 48) rfl (fun K hK => ?_)
  go_simp
  skip
  refine hK.out _ _ (HQ.out _ HA2.out.up) (fun hHeld => ?_)
  clear hK K
  try simp only [tdy]
  refine tkf 18 (some 49) rfl ?_
  have HL := HA2
  have c0 := (HQ.out _ HL.out.up)
  have f0 := HQF.out _ HL.out.up
  refine wpAnyF_ready (rs := [19]) (by kernel_rfl) (by simp) ?_
  refine AllReadyF.last (o := ⟨none, _, _, _, _, _⟩) rfl (fun K hK => ?_)
  go_simp
  skip
  refine hK.out _ _ (trivial) (fun hHeld => ?_)
  clear hK K
  try simp only [tdy]
  refine wpAnyF_done (by kernel_rfl) ?_ _
  go_wp2_with fail
  go_end0
  have e9 := I1.out
  subst e9
  exact ⟨rfl, lift_fin H1.out HF.out HU1.out HI.out HK2.out HL.out HNN.out⟩
end
end Go.Proofs.YtepggchnhgpcnaaGreatDoor
