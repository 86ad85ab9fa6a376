/- The document's 'drop'. -/
import Derived.Test.YtepggchnhgpcnaaGreatDoorPkTidy
import Derived.Test.YtepggchnhgpcnaaGreatDoorPz21
namespace Go.Proofs.YtepggchnhgpcnaaGreatDoor
open Go.RowKit Go.Maps Go.Sort
set_option linter.unusedVariables false

theorem gr_lt {F : Nat → Prop} {w w' : World} (hF : ∀ k, F k → k < w.heap.size) (hs : w.heap.size ≤ w'.heap.size) : ∀ k, Gr F w w' k → k < w'.heap.size := fun k h => by
 rcases h with h | h
 ·exact Nat.lt_of_lt_of_le (hF k h) hs
 ·exact h.2
theorem gr_tr {F : Nat → Prop} {w v v' w' : World} (h1 : w.heap.size ≤ v'.heap.size) (h2 : v.heap.size ≤ w'.heap.size) : ∀ k, Gr (Gr F w v) v' w' k → Gr F w w' k := fun k h => by
 rcases h with (h | h) | h
 ·exact .inl h
 ·exact .inr ⟨h.1, Nat.lt_of_lt_of_le h.2 h2⟩
 ·exact .inr ⟨Nat.le_trans h1 h.1, h.2⟩
theorem gr_up {F : Nat → Prop} {w v v' w' : World} (h1 : Up F w v) (h2 : Up Nul v v') (h3 : Up (Gr F w v) v' w') : Up F w w' :=
 (h1.trans h2.nul).thn h3 fun j h => by
  rcases h with h | h
  ·exact .inl h
  ·exact .inr h.1
section
variable {F S : Nat → Prop} {w w' : World} {q n : Nat} {Q : Int → Value} {M : MM} {ks : List ByteArray} {is : List Int} {kv bv iv sv : Value}
theorem drop_fin {w1 wc W : World} {k : ByteArray} {i N2 c : Nat} {a : Option Addr} {kv' : Value} (H1 : RM F w1 q n Q M ks is kv bv iv sv) (hF : ∀ k, F k → k < w.heap.size) (hu : Up Nul w w1) (hi : ks[i]? = some k)
  (h2 : wc.ownsRow w1.heap.size 9 1 kv' (i + N2) (kcells (ks.take i) ++ kcells (ks.drop (i + 1))) ∧ wc.heap[q]? = some (.cells (rhead kv' bv iv sv (M.last + 1) M.t) 62 (0, 0)) ∧ Up (fun k => k = q) w1 wc)
  (hl : ApS 51 3 wc W a (i + N2) c ([] ++ bcells M (ks.take i) ++ bcells M (ks.drop (i + 1)))) (hN : i + 1 + N2 = ks.length) :
  (∃ ks' kv' bv', RM (Gr F w (W.setCell ⟨q, 1, none⟩ (.slice a (i + N2) c))) (W.setCell ⟨q, 1, none⟩ (.slice a (i + N2) c)) q n Q { M with b := upd M.b k none } ks' is kv' bv' iv sv) ∧ Up (fun k => k = q) w1 (W.setCell ⟨q, 1, none⟩ (.slice a (i + N2) c)) := by
 obtain ⟨x1, x2, x3⟩ := head_set h2.2.1 hl 1
 generalize W.setCell ⟨q, 1, none⟩ (.slice a (i + N2) c) = w' at x1 x2 x3 ⊢
 have u : Up (fun k => k = q) w1 w' := h2.2.2.trans x3
 have rr1 := H1.rr.head H1.hp u
 have hlen : (ks.take i ++ ks.drop (i + 1)).length = i + N2 := by
  simp only [List.length_append, List.length_take, List.length_drop]
  omega
 have hi' := ownsRow.up h2.1 x3 fun g e e' => by have := (ownsRow.lt h2.1 g e).1; have := H1.lt; omega
 have hsw : w1.heap.size ≤ wc.heap.size := h2.2.2.size
 have hmem := fun x => mem_del (R := kl) (l := ks) (i := i) (k := k) H1.rr.rk.up kl_irr hi x
 refine ⟨⟨ks.take i ++ ks.drop (i + 1), kv', .slice a (i + N2) c, ⟨x2, ⟨?_, ?_, rr1.io, rr1.so, fun j x e => ⟨(rr1.lo j x e).1, fun g e' => .inl ((rr1.lo j x e).2 g e')⟩, fun g e => ?_, fun g e => ?_, fun g e => .inl (rr1.fi g e), fun g e => .inl (rr1.fs g e), H1.rr.rk.del hi, ⟨H1.rr.ri.up, H1.rr.ri.mem⟩⟩, .inl H1.fq, ?_, H1.ni⟩⟩, u⟩
 ·rw [hlen, show kcells (ks.take i ++ ks.drop (i + 1)) = kcells (ks.take i) ++ kcells (ks.drop (i + 1)) from by simp [kcells]]; exact ownsRow.lower hi' (Nat.zero_le _)
 ·rw [hlen]
  have e1 : bcells { M with b := upd M.b k none } (ks.take i ++ ks.drop (i + 1)) = [] ++ bcells M (ks.take i) ++ bcells M (ks.drop (i + 1)) := by
   rw [List.nil_append, ← bcells_app]
   exact bcells_congr fun x hx => upd_ne _ _ ((hmem x).1 hx).2
  rw [e1]
  exact ownsRow.lower x1 (Nat.zero_le _)
 ·exact Gr.new hu.size (ownsRow.lt hi' g e).1 (ownsRow.lt hi' g e).2
 ·exact Gr.new (Nat.le_trans hu.size hsw) (ownsRow.lt x1 g e).1 (ownsRow.lt x1 g e).2
 ·rw [hlen]; have := H1.nk; omega
set_option maxRecDepth 10000 in
set_option maxHeartbeats 4000000 in
theorem rdrop_any (h : RM F w q n Q M ks is kv bv iv sv) (hF : ∀ k, F k → k < w.heap.size) (hn : n ≤ 90000) (k : ByteArray) (xn xi xp : Int) (hk : M.b k = some ⟨xn, xi, xp⟩) (hp : xp = 0 ∨ xp = 1 ∨ xp = 2) (s : St) (hs : M.s xi = some s) :
  Calls Tryz.prog 26 #[.pointer (some ⟨q, 0, none⟩), .string k] w fun e w' => e = .returned (.tuple #[]) ∧ (∃ Q' ks' is' kv' bv' iv' sv', RM (Gr F w w') w' q n Q' (M.drop k).2 ks' is' kv' bv' iv' sv') ∧ Up (fun k => k = q) w w' := by
 have hD : (M.drop k).2 = { M with b := upd M.b k none, s := upd M.s xi (if (s.off xp).dead then none else some (s.off xp)) } := by unfold MM.drop; rw [hk]; dsimp only; rw [hs]
 generalize (M.drop k).2 = R at hD ⊢
 have HR := hid hD
 clear hD
 have H := hid h
 have HK := hid (key_yes h (by omega) k (by rw [hk]; rfl))
 have HF := hid hF
 have HX := hid hk
 have HS := hid hs
 have HP := hid hp
 clear h hF hs hk hp
 go_enter Tryz.func26, Tryz.ntmps26
 go_wp2_with fail
 ·refine HK.out.mono ?_
  rintro e w1 ⟨i, rfl, hi, hp, u1⟩
  have HI := hid hi
  have HU1 := hid u1
  have H1 := hid (H.out.nxt u1)
  have hil : i < ks.length := (List.getElem?_eq_some_iff.1 hi).1
  obtain ⟨ba, bc, hbv0, hbr⟩ := H1.out.brow
  obtain ⟨bg, bo, rfl, hbg, y0, y1, y2⟩ := hbr i k hi
  rw [bof_some HX.out] at y0 y1 y2
  dsimp only at y0 y1 y2
  have c1 := H1.out.cells.2.1
  rw [hbv0] at c1
  obtain ⟨N, NN⟩ : ∃ N, Hid (ks.length = N) := ⟨_, rfl⟩
  rw [NN.out] at c1 hil
  clear hi hp u1 HK H hbr hbg hbv0
  go_upto_region 2 with fail
  obtain ⟨w2, hw2⟩ : ∃ W, W = w1.alloc (.cells #[.int .i64 xn, .int .i64 xi, .int .i64 xp] 51) := ⟨_, rfl⟩
  have u2 : Up Nul w1 w2 := by rw [hw2]; exact (Up.refl Nul w1).alloc _
  have hb2 : w2.heap[w1.heap.size]? = some (.cells #[.int .i64 xn, .int .i64 xi, .int .i64 xp] 51 (0, 0)) := by rw [hw2]; exact heap_alloc_new _ _
  rw [← hw2]
  have H2 := hid (H1.out.nxt u2)
  have HU2 := hid (HU1.out.trans u2)
  have HPB : Hid (w1.heap.size ≠ q) := fun e => by have := HF.out q H1.out.fq; have := HU1.out.size; omega
  have HB2 := hid hb2
  have HW1 : Hid (w.heap.size ≤ w1.heap.size) := HU1.out.size
  generalize w1.heap.size = pb at *
  clear hw2 u2 hb2 H1 HU1 y0 y1 y2 c1
  have hnk := H2.out.nk
  obtain ⟨i1, I1⟩ : ∃ i1, Hid (i + 1 = i1) := ⟨_, rfl⟩
  have hil1 : i1 ≤ N := by have := I1.out; omega
  obtain ⟨ra, rc, rb, N2, C2, hkv, hnc, hs1, hs2, r1, r2, n1, n2, hN2⟩ := cut_row (t := 41) H2.out.rr.ko (kcells_one ks) (by kernel_rfl) (fun W => by kernel_rfl) i i1 (by rw [NN.out]; omega) (by rw [NN.out]; exact hil1)
  rw [kcells_take] at r1
  rw [kcells_drop] at r2
  have R1 : Hid (RdR 1 w2 ra i (kcells (ks.take i))) := r1
  have R2 : Hid (RdR 1 w2 rb N2 (kcells (ks.drop i1))) := r2
  have NR1 := hid n1
  have NR2 := hid n2
  have c1 := H2.out.cells.1
  rw [hkv] at c1
  have HNN : Hid (i1 + N2 = ks.length) := hN2
  rw [NN.out] at hs1 hs2 c1 hnk hnc hN2
  have e1 : IntKind.i64.wrap ((i : Int) + 1) = (i1 : Int) := by rw [← I1.out]; exact IntWalk.i64_in _ (by omega)
  have hiN : i + N2 ≤ 90000 := by have := I1.out; omega
  have HV : Hid (Up Nul w2 w2.drew) := (Up.refl Nul w2).drew
  have HQ : Hid (∀ V, Up Nul w2 V → V.cell? ⟨q, 0, none⟩ = some (.slice ra N rc)) := fun V u => (u.cell (p := ⟨q, 0, none⟩) H2.out.lt id).trans c1
  have HQF : Hid (∀ V, Up Nul w2 V → V.frozen? ⟨q, 0, none⟩ = false) := fun V u => (u.froz (p := ⟨q, 0, none⟩) H2.out.lt id).trans (H2.out.froz 0)
  clear r1 r2 n1 n2 c1
  go_cut [] from 22 to 40 (fun wx => ∃ kv', Hid (wx.ownsRow w2.heap.size 9 1 kv' (i + N2) (kcells (ks.take i) ++ kcells (ks.drop i1)) ∧ wx.heap[q]? = some (.cells (rhead kv' bv iv sv (M.last + 1) M.t) 62 (0, 0)) ∧ Up (fun k => k = q) w2 wx))
  case first =>
   refine wp_region_F (S := (fun V => V.cell? ⟨q, 0, none⟩ = some (.slice ra N rc))) 19 (by kernel_rfl) (by exact HQ.out _ HV.out) (fun hHeld => ?_)
   refine tkf 0 (some 22) rfl ?_
   refine tkf 2 (some 24) rfl ?_
   refine tkf 3 (some 25) rfl ?_
   refine tkf 4 (some 26) rfl ?_
   refine tkf 5 (some 27) rfl ?_
   refine tkf 6 (some 28) rfl ?_
   refine tkf 7 (some 29) rfl ?_
   refine tkf 9 (some 31) rfl ?_
   refine tkf 10 (some 32) rfl ?_
   refine tkf 11 (some 33) rfl ?_
   refine tkf 12 (some 34) rfl ?_
   refine tkf 13 (some 35) rfl ?_
   refine tkf 14 (some 36) rfl ?_
   refine tkf 15 (some 37) rfl ?_
   refine onf 1 (some 23) rfl (fun K hK => ?_)
   go_simp
   have HA0 := ApS.start (T := 9) (s := 1) HV.out; (try simp only [World.size_alloc] at HA0); have HA0 := hid HA0
   refine hK.out _ _ (HQ.out _ HA0.out.up) (fun hHeld => ?_)
   clear hK K
   try simp only [tdy]
   refine onf 8 (some 30) rfl (fun K hK => ?_)
   obtain ⟨aa1, cc1, ww1, hr1, HA1⟩ := HA0.out.app Tryz.underlying41 inf_str (by omega) (by omega) R1.out NR1.out (by omega) 41; (try rw [Nat.zero_add] at hr1 HA1); refine wp_append_eqv (.tmp 23) (.tmp 29) 41 (by rfl) _ _ _ (by rfl) (by rfl) hr1 ?_; have HA1 := hid HA1; clear hr1
   refine hK.out _ _ (HQ.out _ HA1.out.up) (fun hHeld => ?_)
   clear hK K
   try simp only [tdy]
   refine onf 16 (some 38) rfl (fun K hK => ?_)
   obtain ⟨aa2, cc2, ww2, hr2, HA2⟩ := HA1.out.app Tryz.underlying41 inf_str (by omega) (by omega) R2.out NR2.out (by omega) 41; (try rw [Nat.zero_add] at hr2 HA2); refine wp_append_eqv (.tmp 30) (.tmp 37) 41 (by rfl) _ _ _ (by rfl) (by rfl) hr2 ?_; have HA2 := hid HA2; clear hr2
   refine hK.out _ _ (HQ.out _ HA2.out.up) (fun hHeld => ?_)
   clear hK K
   try simp only [tdy]
   refine onf 17 (some 39) rfl (fun K hK => ?_)
   go_simp
   skip
   refine hK.out _ _ (HQ.out _ HA2.out.up) (fun hHeld => ?_)
   clear hK K
   try simp only [tdy]
   refine tkf 18 (some 40) rfl ?_
   have HL := HA2
   have c0 := (HQ.out _ HL.out.up)
   have f0 := HQF.out _ HL.out.up
   refine wpAnyF_ready (rs := [19]) (by kernel_rfl) (by simp) ?_
   refine AllReadyF.last (o := ⟨none, _, _, _, _, _⟩) rfl (fun K hK => ?_)
   go_simp
   skip
   refine hK.out _ _ (trivial) (fun hHeld => ?_)
   clear hK K
   try simp only [tdy]
   refine wpAnyF_done (by kernel_rfl) ?_ _
   go_wp2_with fail
   go_meet
   have HX := head_set H2.out.hp HL.out 0
   simp only [List.nil_append] at HX
   exact ⟨_, hid ⟨HX.1, HX.2.1, HX.2.2⟩⟩
  obtain ⟨kv', hx⟩ := hcut
  go_upto_region 3 with fail
  have HK2 := hid hx.out
  clear hs1 hs2 R1 R2 NR1 NR2 HQ HQF HV hx hkv hnc
  have hh := HK2.out.2.1
  have hrr := H2.out.rr.head H2.out.hp HK2.out.2.2
  obtain ⟨ra, rc, rb, N3, C2, hbv, hnc, hs1, hs2, r1, r2, n1, n2, hN3⟩ := cut_row (t := 59) hrr.bo (bcells_one M ks) (by kernel_rfl) (fun W => by kernel_rfl) i i1 (by rw [NN.out]; omega) (by rw [NN.out]; exact hil1)
  obtain rfl : N3 = N2 := by have := HNN.out; omega
  rw [bcells_take] at r1
  rw [bcells_drop] at r2
  have R1 : Hid (RdR 3 wc ra i (bcells M (ks.take i))) := r1
  have R2 : Hid (RdR 3 wc rb N3 (bcells M (ks.drop i1))) := r2
  have NR1 := hid n1
  have NR2 := hid n2
  have c1 : wc.cell? ⟨q, 1, none⟩ = some bv := by simp [World.cell?, hh]
  have f1 : wc.frozen? ⟨q, 1, none⟩ = false := by simp [World.frozen?, hh]
  rw [hbv] at c1
  have hq := (Array.getElem?_eq_some_iff.1 hh).1
  rw [NN.out] at hs1 hs2 c1 hnc
  have HV : Hid (Up Nul wc wc.drew) := (Up.refl Nul wc).drew
  have HQ : Hid (∀ V, Up Nul wc V → V.cell? ⟨q, 1, none⟩ = some (.slice ra N rc)) := fun V u => (u.cell (p := ⟨q, 1, none⟩) hq id).trans c1
  have HQF : Hid (∀ V, Up Nul wc V → V.frozen? ⟨q, 1, none⟩ = false) := fun V u => (u.froz (p := ⟨q, 1, none⟩) hq id).trans f1
  have HC2 := hid hh
  clear r1 r2 n1 n2 c1 f1 hh hrr
  go_cut [] from 41 to 59 (fun wx => ∃ ks' kv' bv', Hid (RM (Gr F w wx) wx q n Q { M with b := upd M.b k none } ks' is kv' bv' iv sv ∧ Up (fun k => k = q) w2 wx))
  case first =>
   refine wp_region_F (S := (fun V => V.cell? ⟨q, 1, none⟩ = some (.slice ra N rc))) 19 (by kernel_rfl) (by exact HQ.out _ HV.out) (fun hHeld => ?_)
   refine tkf 0 (some 41) rfl ?_
   refine tkf 2 (some 43) rfl ?_
   refine tkf 3 (some 44) rfl ?_
   refine tkf 4 (some 45) rfl ?_
   refine tkf 5 (some 46) rfl ?_
   refine tkf 6 (some 47) rfl ?_
   refine tkf 7 (some 48) rfl ?_
   refine tkf 9 (some 50) rfl ?_
   refine tkf 10 (some 51) rfl ?_
   refine tkf 11 (some 52) rfl ?_
   refine tkf 12 (some 53) rfl ?_
   refine tkf 13 (some 54) rfl ?_
   refine tkf 14 (some 55) rfl ?_
   refine tkf 15 (some 56) rfl ?_
   refine onf 1 (some 42) rfl (fun K hK => ?_)
   go_simp
   have HA0 := ApS.start (T := 51) (s := 3) HV.out; (try simp only [World.size_alloc] at HA0); have HA0 := hid HA0
   refine hK.out _ _ (HQ.out _ HA0.out.up) (fun hHeld => ?_)
   clear hK K
   try simp only [tdy]
   refine onf 8 (some 49) rfl (fun K hK => ?_)
   obtain ⟨aa1, cc1, ww1, hr1, HA1⟩ := HA0.out.app Tryz.underlying59 inf_blob (by omega) (by omega) R1.out NR1.out (by omega) 59; (try rw [Nat.zero_add] at hr1 HA1); refine wp_append_eqv (.tmp 42) (.tmp 48) 59 (by rfl) _ _ _ (by rfl) (by rfl) hr1 ?_; have HA1 := hid HA1; clear hr1
   refine hK.out _ _ (HQ.out _ HA1.out.up) (fun hHeld => ?_)
   clear hK K
   try simp only [tdy]
   refine onf 16 (some 57) rfl (fun K hK => ?_)
   obtain ⟨aa2, cc2, ww2, hr2, HA2⟩ := HA1.out.app Tryz.underlying59 inf_blob (by omega) (by omega) R2.out NR2.out (by omega) 59; (try rw [Nat.zero_add] at hr2 HA2); refine wp_append_eqv (.tmp 49) (.tmp 56) 59 (by rfl) _ _ _ (by rfl) (by rfl) hr2 ?_; have HA2 := hid HA2; clear hr2
   refine hK.out _ _ (HQ.out _ HA2.out.up) (fun hHeld => ?_)
   clear hK K
   try simp only [tdy]
   refine onf 17 (some 58) rfl (fun K hK => ?_)
   go_simp
   skip
   refine hK.out _ _ (HQ.out _ HA2.out.up) (fun hHeld => ?_)
   clear hK K
   try simp only [tdy]
   refine tkf 18 (some 59) rfl ?_
   have HL := HA2
   have c0 := (HQ.out _ HL.out.up)
   have f0 := HQF.out _ HL.out.up
   refine wpAnyF_ready (rs := [19]) (by kernel_rfl) (by simp) ?_
   refine AllReadyF.last (o := ⟨none, _, _, _, _, _⟩) rfl (fun K hK => ?_)
   go_simp
   skip
   refine hK.out _ _ (trivial) (fun hHeld => ?_)
   clear hK K
   try simp only [tdy]
   refine wpAnyF_done (by kernel_rfl) ?_ _
   go_wp2_with fail
   go_meet
   have e9 := I1.out
   subst e9
   obtain ⟨⟨x1, x2, x3, x4⟩, x5⟩ := drop_fin H2.out HF.out HU2.out HI.out HK2.out HL.out HNN.out
   exact ⟨x1, x2, x3, hid ⟨x4, x5⟩⟩
  obtain ⟨ks', kv2, bv2, hx⟩ := hcut
  have H3 := hid hx.out.1
  have hu3 := hx.out.2
  have hlb := (Array.getElem?_eq_some_iff.1 HB2.out).1
  have hb3 := (hu3.block pb hlb HPB.out).trans HB2.out
  have HU3 : Hid (Up (fun k => k = q) w wc) := HU2.out.nul.trans hu3
  have HB3 := hid hb3
  clear hb3 hu3 hlb hx R1 R2 NR1 NR2 HQ HQF HV hs1 hs2 hbv hnc hq HK2 HC2 H2 HU2 HB2 HPB
  obtain ⟨qa, qc, hqv⟩ := (H3.out.rr.lo xi s HS.out).1.shape
  have HQV := hid hqv
  have hst := rstripe_yes H3.out (by omega) xi s HS.out
  rw [hqv] at hst
  have hls : (s.off xp).locs = s.locs := by unfold St.off; split; rfl; split <;> rfl
  obtain ⟨L, LL⟩ : ∃ L, Hid (s.locs.length = L) := ⟨_, rfl⟩
  rw [LL.out] at hst HQV
  have HST := hid hst
  clear hst hqv
  have z1 : wc.cell? ⟨pb, 1, none⟩ = some (.int .i64 xi) := by simp [World.cell?, HB3.out]
  go_wp2_with fail
  refine HST.out.mono ?_
  rintro e we ⟨rfl, ue⟩
  have H4 := hid (H3.out.nxt ue)
  have hlb3 := (Array.getElem?_eq_some_iff.1 HB3.out).1
  have hb4 := (ue.block pb hlb3 id).trans HB3.out
  have HUE := hid ue
  clear ue HST z1
  go_upto_region 5 with fail
  obtain ⟨w4, hw4⟩ : ∃ W, W = we.alloc (.cells #[.int .i64 s.kind, .int .i64 s.colour, .string s.k0, .string s.k1, .string s.k2, .slice qa L qc] 46) := ⟨_, rfl⟩
  have u4 : Up Nul we w4 := by rw [hw4]; exact (Up.refl Nul we).alloc _
  have b4 : w4.heap[we.heap.size]? = some (.cells #[.int .i64 s.kind, .int .i64 s.colour, .string s.k0, .string s.k1, .string s.k2, .slice qa L qc] 46 (0, 0)) := by rw [hw4]; exact heap_alloc_new _ _
  rw [← hw4]
  have hlb4 := (Array.getElem?_eq_some_iff.1 hb4).1
  have hb5 := (u4.block pb hlb4 id).trans hb4
  have H5 := hid (H4.out.nxt u4)
  have HUE4 : Hid (Up Nul wc w4) := HUE.out.trans u4
  have hpx : wc.heap.size ≤ we.heap.size := HUE.out.size
  have hpn : pb ≠ we.heap.size := by omega
  have hpn2 : we.heap.size ≠ pb := by omega
  generalize we.heap.size = px at *
  clear hw4 u4 HUE H4 hb4 hlb4
  have x1 : w4.cell? ⟨pb, 1, none⟩ = some (.int .i64 xi) := by simp [World.cell?, hb5]
  have x2 : w4.cell? ⟨pb, 2, none⟩ = some (.int .i64 xp) := by simp [World.cell?, hb5]
  have hpq : ∀ j, Gr F w wc j → j ≠ px := fun j hj e => by have := gr_lt HF.out HU3.out.size j hj; omega
  have HPQ := hid hpq
  have HPX : Hid (w.heap.size ≤ px) := Nat.le_trans HU3.out.size hpx
  have HWC : Hid (wc.heap.size ≤ w4.heap.size) := HUE4.out.size
  clear hpq
  have g0 : w4.cell? ⟨px, 0, none⟩ = some (.int .i64 s.kind) := by simp [World.cell?, b4]
  have g1 : w4.cell? ⟨px, 1, none⟩ = some (.int .i64 s.colour) := by simp [World.cell?, b4]
  have g2 : w4.cell? ⟨px, 2, none⟩ = some (.string s.k0) := by simp [World.cell?, b4]
  have g3 : w4.cell? ⟨px, 3, none⟩ = some (.string s.k1) := by simp [World.cell?, b4]
  have g4 : w4.cell? ⟨px, 4, none⟩ = some (.string s.k2) := by simp [World.cell?, b4]
  have g5 : w4.cell? ⟨px, 5, none⟩ = some (.slice qa L qc) := by simp [World.cell?, b4]
  have q2 : w4.frozen? ⟨px, 2, none⟩ = false := by simp [World.frozen?, b4]
  have q3 : w4.frozen? ⟨px, 3, none⟩ = false := by simp [World.frozen?, b4]
  have q4 : w4.frozen? ⟨px, 4, none⟩ = false := by simp [World.frozen?, b4]
  have HB4 := hid b4
  have HHLS := hid hls
  clear b4 hls hb5
  rcases HP.out with e | e | e
  ·subst e
   go_upto_region 6 with fail
   obtain ⟨w5, hw5⟩ : ∃ W, W = w4.setCell ⟨px, 2, none⟩ (.string ⟨#[]⟩) := ⟨_, rfl⟩
   have u5 : Up (One px) w4 w5 := by rw [hw5]; exact (Up.refl (One px) w4).put rfl _ _
   have b5 : w5.heap[px]? = some (.cells #[.int .i64 (s.off 0).kind, .int .i64 (s.off 0).colour, .string (s.off 0).k0, .string (s.off 0).k1, .string (s.off 0).k2, .slice qa L qc] 46 (0, 0)) := by rw [hw5]; exact heap_set_same HB4.out 2 (.string ⟨#[]⟩)
   rw [← hw5]
   clear hw5 g0 g1 g2 g3 g4 g5 q2 q3 q4
   generalize hsq : s.off _ = sq at *
   have HSQ := hid hsq
   have v1 := (u5.cell (p := ⟨pb, 1, none⟩) (by have := lt_of_cell x1; exact this) hpn).trans x1
   have H6 : Hid (RM (Gr F w wc) w5 q n Q { M with b := upd M.b k none } ks' is kv2 bv2 iv sv) := H5.out.up u5 fun j hj e => HPQ.out j hj e
   have HUF : Hid (∀ w', Up (fun k => k = q) w5 w' → Up (fun k => k = q) w w') := fun w' u => ((HU3.out.trans HUE4.out.nul).thn u5 (fun j e => .inr (by have e : j = px := e; rw [e]; exact HPX.out))).trans u
   have HF5 : Hid (∀ j, Gr F w wc j → j < w5.heap.size) := fun j hj => Nat.lt_of_lt_of_le (gr_lt HF.out HU3.out.size j hj) (Nat.le_trans HWC.out u5.size)
   have HGT : Hid (∀ w' : World, w5.heap.size ≤ w'.heap.size → ∀ j, Gr (Gr F w wc) w5 w' j → Gr F w w' j) := fun w' hw => gr_tr (Nat.le_trans HU3.out.size (Nat.le_trans HWC.out u5.size)) (Nat.le_trans (Nat.le_trans HWC.out u5.size) hw)
   have g0 : w5.cell? ⟨px, 0, none⟩ = some (.int .i64 sq.kind) := by simp [World.cell?, b5]
   have g1 : w5.cell? ⟨px, 1, none⟩ = some (.int .i64 sq.colour) := by simp [World.cell?, b5]
   have g2 : w5.cell? ⟨px, 2, none⟩ = some (.string sq.k0) := by simp [World.cell?, b5]
   have g3 : w5.cell? ⟨px, 3, none⟩ = some (.string sq.k1) := by simp [World.cell?, b5]
   have g4 : w5.cell? ⟨px, 4, none⟩ = some (.string sq.k2) := by simp [World.cell?, b5]
   have g5 : w5.cell? ⟨px, 5, none⟩ = some (.slice qa L qc) := by simp [World.cell?, b5]
   have heq : ∀ W : World, (binOp .eql 44 (.agg #[.string sq.k0, .string sq.k1, .string sq.k2]) (.agg #[.string ⟨#[]⟩, .string ⟨#[]⟩, .string ⟨#[]⟩])).run Tryz.prog W = .ok (.bool sq.dead) W := fun W => eq3 _ _ _ W
   have HLQ : Hid (sq.locs = s.locs) := HHLS
   have hlo := H6.out.rr.lo xi s HS.out
   rw [HQV.out] at hlo
   have HLO := hid hlo
   clear hlo u5 b5 x1 x2 hsq
   by_cases hd : sq.dead = true
   ·rw [hd] at heq
    have HCL := hid (rlift_any H6.out HF5.out hn xi (by show (M.s xi).isSome = true; rw [HS.out]; rfl))
    have HD := hid hd
    clear hd
    go_wp2_with fail
    refine HCL.out.mono ?_
    rintro e w6 ⟨rfl, ⟨is', iv', sv', h6⟩, u6⟩
    have H7 := hid (h6.wide (HGT.out w6 u6.size))
    have HU7 := hid (HUF.out w6 u6)
    clear h6 u6
    go_wp2_with fail
    refine bodyPost_ret (results_none rfl _ _ _) rfl ?_
    exact ⟨rfl, ⟨Q, ks', is', kv2, bv2, iv', sv', by rw [HR.out, if_pos HD.out]; exact H7.out⟩, HU7.out⟩
   ·have hd' : sq.dead = false := by simpa using hd
    rw [hd'] at heq
    have HCL := hid (rturn_any H6.out HF5.out hn xi sq (.slice qa L qc) (by show (M.s xi).isSome = true; rw [HS.out]; rfl) (by rw [HLQ.out]; exact HLO.out.1) HLO.out.2)
    have HD := hid hd
    clear hd hd'
    go_wp2_with fail
    refine HCL.out.mono ?_
    rintro e w6 ⟨rfl, ⟨sv', h6⟩, u6⟩
    have H7 := hid (h6.wide (HGT.out w6 u6.size))
    have HU7 := hid (HUF.out w6 u6)
    clear h6 u6
    go_wp2_with fail
    go_end0
    exact ⟨rfl, ⟨_, ks', is, kv2, bv2, iv, sv', by rw [HR.out, if_neg HD.out]; exact H7.out⟩, HU7.out⟩
  ·subst e
   go_upto_region 6 with fail
   obtain ⟨w5, hw5⟩ : ∃ W, W = w4.setCell ⟨px, 3, none⟩ (.string ⟨#[]⟩) := ⟨_, rfl⟩
   have u5 : Up (One px) w4 w5 := by rw [hw5]; exact (Up.refl (One px) w4).put rfl _ _
   have b5 : w5.heap[px]? = some (.cells #[.int .i64 (s.off 1).kind, .int .i64 (s.off 1).colour, .string (s.off 1).k0, .string (s.off 1).k1, .string (s.off 1).k2, .slice qa L qc] 46 (0, 0)) := by rw [hw5]; exact heap_set_same HB4.out 3 (.string ⟨#[]⟩)
   rw [← hw5]
   clear hw5 g0 g1 g2 g3 g4 g5 q2 q3 q4
   generalize hsq : s.off _ = sq at *
   have HSQ := hid hsq
   have v1 := (u5.cell (p := ⟨pb, 1, none⟩) (by have := lt_of_cell x1; exact this) hpn).trans x1
   have H6 : Hid (RM (Gr F w wc) w5 q n Q { M with b := upd M.b k none } ks' is kv2 bv2 iv sv) := H5.out.up u5 fun j hj e => HPQ.out j hj e
   have HUF : Hid (∀ w', Up (fun k => k = q) w5 w' → Up (fun k => k = q) w w') := fun w' u => ((HU3.out.trans HUE4.out.nul).thn u5 (fun j e => .inr (by have e : j = px := e; rw [e]; exact HPX.out))).trans u
   have HF5 : Hid (∀ j, Gr F w wc j → j < w5.heap.size) := fun j hj => Nat.lt_of_lt_of_le (gr_lt HF.out HU3.out.size j hj) (Nat.le_trans HWC.out u5.size)
   have HGT : Hid (∀ w' : World, w5.heap.size ≤ w'.heap.size → ∀ j, Gr (Gr F w wc) w5 w' j → Gr F w w' j) := fun w' hw => gr_tr (Nat.le_trans HU3.out.size (Nat.le_trans HWC.out u5.size)) (Nat.le_trans (Nat.le_trans HWC.out u5.size) hw)
   have g0 : w5.cell? ⟨px, 0, none⟩ = some (.int .i64 sq.kind) := by simp [World.cell?, b5]
   have g1 : w5.cell? ⟨px, 1, none⟩ = some (.int .i64 sq.colour) := by simp [World.cell?, b5]
   have g2 : w5.cell? ⟨px, 2, none⟩ = some (.string sq.k0) := by simp [World.cell?, b5]
   have g3 : w5.cell? ⟨px, 3, none⟩ = some (.string sq.k1) := by simp [World.cell?, b5]
   have g4 : w5.cell? ⟨px, 4, none⟩ = some (.string sq.k2) := by simp [World.cell?, b5]
   have g5 : w5.cell? ⟨px, 5, none⟩ = some (.slice qa L qc) := by simp [World.cell?, b5]
   have heq : ∀ W : World, (binOp .eql 44 (.agg #[.string sq.k0, .string sq.k1, .string sq.k2]) (.agg #[.string ⟨#[]⟩, .string ⟨#[]⟩, .string ⟨#[]⟩])).run Tryz.prog W = .ok (.bool sq.dead) W := fun W => eq3 _ _ _ W
   have HLQ : Hid (sq.locs = s.locs) := HHLS
   have hlo := H6.out.rr.lo xi s HS.out
   rw [HQV.out] at hlo
   have HLO := hid hlo
   clear hlo u5 b5 x1 x2 hsq
   by_cases hd : sq.dead = true
   ·rw [hd] at heq
    have HCL := hid (rlift_any H6.out HF5.out hn xi (by show (M.s xi).isSome = true; rw [HS.out]; rfl))
    have HD := hid hd
    clear hd
    go_wp2_with fail
    refine HCL.out.mono ?_
    rintro e w6 ⟨rfl, ⟨is', iv', sv', h6⟩, u6⟩
    have H7 := hid (h6.wide (HGT.out w6 u6.size))
    have HU7 := hid (HUF.out w6 u6)
    clear h6 u6
    go_wp2_with fail
    refine bodyPost_ret (results_none rfl _ _ _) rfl ?_
    exact ⟨rfl, ⟨Q, ks', is', kv2, bv2, iv', sv', by rw [HR.out, if_pos HD.out]; exact H7.out⟩, HU7.out⟩
   ·have hd' : sq.dead = false := by simpa using hd
    rw [hd'] at heq
    have HCL := hid (rturn_any H6.out HF5.out hn xi sq (.slice qa L qc) (by show (M.s xi).isSome = true; rw [HS.out]; rfl) (by rw [HLQ.out]; exact HLO.out.1) HLO.out.2)
    have HD := hid hd
    clear hd hd'
    go_wp2_with fail
    refine HCL.out.mono ?_
    rintro e w6 ⟨rfl, ⟨sv', h6⟩, u6⟩
    have H7 := hid (h6.wide (HGT.out w6 u6.size))
    have HU7 := hid (HUF.out w6 u6)
    clear h6 u6
    go_wp2_with fail
    go_end0
    exact ⟨rfl, ⟨_, ks', is, kv2, bv2, iv, sv', by rw [HR.out, if_neg HD.out]; exact H7.out⟩, HU7.out⟩
  ·subst e
   go_upto_region 6 with fail
   obtain ⟨w5, hw5⟩ : ∃ W, W = w4.setCell ⟨px, 4, none⟩ (.string ⟨#[]⟩) := ⟨_, rfl⟩
   have u5 : Up (One px) w4 w5 := by rw [hw5]; exact (Up.refl (One px) w4).put rfl _ _
   have b5 : w5.heap[px]? = some (.cells #[.int .i64 (s.off 2).kind, .int .i64 (s.off 2).colour, .string (s.off 2).k0, .string (s.off 2).k1, .string (s.off 2).k2, .slice qa L qc] 46 (0, 0)) := by rw [hw5]; exact heap_set_same HB4.out 4 (.string ⟨#[]⟩)
   rw [← hw5]
   clear hw5 g0 g1 g2 g3 g4 g5 q2 q3 q4
   generalize hsq : s.off _ = sq at *
   have HSQ := hid hsq
   have v1 := (u5.cell (p := ⟨pb, 1, none⟩) (by have := lt_of_cell x1; exact this) hpn).trans x1
   have H6 : Hid (RM (Gr F w wc) w5 q n Q { M with b := upd M.b k none } ks' is kv2 bv2 iv sv) := H5.out.up u5 fun j hj e => HPQ.out j hj e
   have HUF : Hid (∀ w', Up (fun k => k = q) w5 w' → Up (fun k => k = q) w w') := fun w' u => ((HU3.out.trans HUE4.out.nul).thn u5 (fun j e => .inr (by have e : j = px := e; rw [e]; exact HPX.out))).trans u
   have HF5 : Hid (∀ j, Gr F w wc j → j < w5.heap.size) := fun j hj => Nat.lt_of_lt_of_le (gr_lt HF.out HU3.out.size j hj) (Nat.le_trans HWC.out u5.size)
   have HGT : Hid (∀ w' : World, w5.heap.size ≤ w'.heap.size → ∀ j, Gr (Gr F w wc) w5 w' j → Gr F w w' j) := fun w' hw => gr_tr (Nat.le_trans HU3.out.size (Nat.le_trans HWC.out u5.size)) (Nat.le_trans (Nat.le_trans HWC.out u5.size) hw)
   have g0 : w5.cell? ⟨px, 0, none⟩ = some (.int .i64 sq.kind) := by simp [World.cell?, b5]
   have g1 : w5.cell? ⟨px, 1, none⟩ = some (.int .i64 sq.colour) := by simp [World.cell?, b5]
   have g2 : w5.cell? ⟨px, 2, none⟩ = some (.string sq.k0) := by simp [World.cell?, b5]
   have g3 : w5.cell? ⟨px, 3, none⟩ = some (.string sq.k1) := by simp [World.cell?, b5]
   have g4 : w5.cell? ⟨px, 4, none⟩ = some (.string sq.k2) := by simp [World.cell?, b5]
   have g5 : w5.cell? ⟨px, 5, none⟩ = some (.slice qa L qc) := by simp [World.cell?, b5]
   have heq : ∀ W : World, (binOp .eql 44 (.agg #[.string sq.k0, .string sq.k1, .string sq.k2]) (.agg #[.string ⟨#[]⟩, .string ⟨#[]⟩, .string ⟨#[]⟩])).run Tryz.prog W = .ok (.bool sq.dead) W := fun W => eq3 _ _ _ W
   have HLQ : Hid (sq.locs = s.locs) := HHLS
   have hlo := H6.out.rr.lo xi s HS.out
   rw [HQV.out] at hlo
   have HLO := hid hlo
   clear hlo u5 b5 x1 x2 hsq
   by_cases hd : sq.dead = true
   ·rw [hd] at heq
    have HCL := hid (rlift_any H6.out HF5.out hn xi (by show (M.s xi).isSome = true; rw [HS.out]; rfl))
    have HD := hid hd
    clear hd
    go_wp2_with fail
    refine HCL.out.mono ?_
    rintro e w6 ⟨rfl, ⟨is', iv', sv', h6⟩, u6⟩
    have H7 := hid (h6.wide (HGT.out w6 u6.size))
    have HU7 := hid (HUF.out w6 u6)
    clear h6 u6
    go_wp2_with fail
    refine bodyPost_ret (results_none rfl _ _ _) rfl ?_
    exact ⟨rfl, ⟨Q, ks', is', kv2, bv2, iv', sv', by rw [HR.out, if_pos HD.out]; exact H7.out⟩, HU7.out⟩
   ·have hd' : sq.dead = false := by simpa using hd
    rw [hd'] at heq
    have HCL := hid (rturn_any H6.out HF5.out hn xi sq (.slice qa L qc) (by show (M.s xi).isSome = true; rw [HS.out]; rfl) (by rw [HLQ.out]; exact HLO.out.1) HLO.out.2)
    have HD := hid hd
    clear hd hd'
    go_wp2_with fail
    refine HCL.out.mono ?_
    rintro e w6 ⟨rfl, ⟨sv', h6⟩, u6⟩
    have H7 := hid (h6.wide (HGT.out w6 u6.size))
    have HU7 := hid (HUF.out w6 u6)
    clear h6 u6
    go_wp2_with fail
    go_end0
    exact ⟨rfl, ⟨_, ks', is, kv2, bv2, iv, sv', by rw [HR.out, if_neg HD.out]; exact H7.out⟩, HU7.out⟩
end
end Go.Proofs.YtepggchnhgpcnaaGreatDoor
