/- The document's 'set'. -/
import Derived.Test.YtepggchnhgpcnaaGreatDoorPkTidy
import Derived.Test.YtepggchnhgpcnaaGreatDoorPz16
namespace Go.Proofs.YtepggchnhgpcnaaGreatDoor
open Go.RowKit Go.Maps Go.Sort
set_option linter.unusedVariables false

section
variable {F S : Nat → Prop} {w w' : World} {q n : Nat} {Q : Int → Value} {M : MM} {ks : List ByteArray} {is : List Int} {kv bv iv sv : Value}
theorem Gr.new {w0 w1 w' : World} {g : Nat} (h0 : w0.heap.size ≤ w1.heap.size) (h1 : w1.heap.size ≤ g) (h2 : g < w'.heap.size) : Gr F w0 w' g := .inr ⟨Nat.le_trans h0 h1, h2⟩
theorem set_fin {w1 wc W : World} {k : ByteArray} {b : Bl} {i N2 c : Nat} {a : Option Addr} {kv' : Value} (H1 : RM F w1 q n Q M ks is kv bv iv sv) (hF : ∀ k, F k → k < w.heap.size) (hu : Up Nul w w1) (hp : PosK ks k i) (hk : M.b k = none)
  (h2 : wc.ownsRow w1.heap.size 9 1 kv' (i + 1 + N2) (kcells (ks.take i ++ [k] ++ ks.drop i)) ∧ wc.heap[q]? = some (.cells (rhead kv' bv iv sv (M.last + 1) M.t) 62 (0, 0)) ∧ Up (fun k => k = q) w1 wc)
  (hl : ApS 51 3 wc W a (i + 1 + N2) c ([] ++ bcells M (ks.take i) ++ bcl b ++ bcells M (ks.drop i))) (hN : i + N2 = ks.length) :
  (∃ ks' kv' bv', RM (Gr F w (W.setCell ⟨q, 1, none⟩ (.slice a (i + 1 + N2) c))) (W.setCell ⟨q, 1, none⟩ (.slice a (i + 1 + N2) c)) q (n + 1) Q { M with b := upd M.b k (some b) } ks' is kv' bv' iv sv) ∧ Up (fun k => k = q ∨ bv.ownBlock = some k) w (W.setCell ⟨q, 1, none⟩ (.slice a (i + 1 + N2) c)) := by
 obtain ⟨x1, x2, x3⟩ := head_set h2.2.1 hl 1
 generalize W.setCell ⟨q, 1, none⟩ (.slice a (i + 1 + N2) c) = w' at x1 x2 x3 ⊢
 have u : Up (fun k => k = q) w1 w' := h2.2.2.trans x3
 have rr1 := H1.rr.head H1.hp u
 have hlen : (ks.take i ++ [k] ++ ks.drop i).length = i + 1 + N2 := by
  have := hp.le
  simp only [List.length_append, List.length_take, List.length_drop, List.length_cons, List.length_nil]
  omega
 have hqlt := H1.lt
 have hk' := ownsRow.up h2.1 x3 fun g e e' => by have := (ownsRow.lt h2.1 g e).1; omega
 have hnk : k ∉ ks := fun e => by rw [H1.rr.rk.mem, hk] at e; cases e
 have hsw : w1.heap.size ≤ wc.heap.size := h2.2.2.size
 refine ⟨⟨ks.take i ++ [k] ++ ks.drop i, kv', .slice a (i + 1 + N2) c, ⟨x2, ⟨?_, ?_, rr1.io, rr1.so, fun j s e => ⟨(rr1.lo j s e).1, fun g e' => .inl ((rr1.lo j s e).2 g e')⟩, fun g e => ?_, fun g e => ?_, fun g e => .inl (rr1.fi g e), fun g e => .inl (rr1.fs g e), H1.rr.rk.ins hp hk b, ⟨H1.rr.ri.up, H1.rr.ri.mem⟩⟩, .inl H1.fq, ?_, Nat.le_succ_of_le H1.ni⟩⟩, hu.nul.trans (u.mono fun j _ e => .inl e)⟩
 ·rw [hlen]; exact ownsRow.lower hk' (Nat.zero_le _)
 ·rw [hlen]
  have e1 : bcells { M with b := upd M.b k (some b) } (ks.take i ++ [k] ++ ks.drop i) = [] ++ bcells M (ks.take i) ++ bcl b ++ bcells M (ks.drop i) := by
   rw [bcells_app, bcells_app, List.nil_append, bcells_congr (M := M) (ks := ks.take i), bcells_congr (M := M) (ks := ks.drop i)]
   ·congr 2
    unfold bcells MM.bof
    simp [upd_same]
   ·intro x hx
    exact upd_ne _ _ fun e => hnk (by rw [← e]; exact List.mem_of_mem_drop hx)
   ·intro x hx
    exact upd_ne _ _ fun e => hnk (by rw [← e]; exact List.mem_of_mem_take hx)
  rw [e1]
  exact ownsRow.lower x1 (Nat.zero_le _)
 ·exact Gr.new hu.size (ownsRow.lt hk' g e).1 (ownsRow.lt hk' g e).2
 ·exact Gr.new (Nat.le_trans hu.size hsw) (ownsRow.lt x1 g e).1 (ownsRow.lt x1 g e).2
 ·rw [hlen]; have := H1.nk; omega
set_option maxRecDepth 10000 in
theorem rset_no (h : RM F w q n Q M ks is kv bv iv sv) (hF : ∀ k, F k → k < w.heap.size) (hn : n ≤ 90000) (k : ByteArray) (b : Bl) (hk : M.b k = none) :
  Calls Tryz.prog 28 #[.pointer (some ⟨q, 0, none⟩), .string k, blv b] w fun e w' => e = .returned (.tuple #[]) ∧ (∃ ks' kv' bv', RM (Gr F w w') w' q (n + 1) Q { M with b := upd M.b k (some b) } ks' is kv' bv' iv sv) ∧ Up (fun k => k = q ∨ bv.ownBlock = some k) w w' := by
 obtain ⟨bn, bs_, bp⟩ := b
 have u0 : Up Nul w (w.alloc (.cells #[.int .i64 bn, .int .i64 bs_, .int .i64 bp] 51)) := (Up.refl Nul w).alloc _
 have HB : Hid ((w.alloc (.cells #[.int .i64 bn, .int .i64 bs_, .int .i64 bp] 51)).heap[w.heap.size]? = some (.cells #[.int .i64 bn, .int .i64 bs_, .int .i64 bp] 51 (0, 0))) := heap_alloc_new _ _
 have HLT : Hid (w.heap.size < (w.alloc (.cells #[.int .i64 bn, .int .i64 bs_, .int .i64 bp] 51)).heap.size) := by show _ < _; rw [World.size_alloc]; omega
 have H := hid (h.nxt u0)
 have HU := hid u0
 have HK := hid (key_no H.out (by omega) k hk)
 have HKN := hid hk
 have HF := hid hF
 clear u0 h hF hk
 go_enter Tryz.func28, Tryz.ntmps28
 go_wp2_with fail
 ·refine HK.out.mono ?_
  rintro e w1 ⟨i, rfl, hp, u1⟩
  have HP := hid hp
  have HU1 := hid (HU.out.trans u1)
  have HB1 := hid ((u1.block w.heap.size HLT.out id).trans HB.out)
  have H1 := hid (H.out.nxt u1)
  clear hp u1 HK H HB
  go_upto_region 4 with fail
  have hil : i ≤ ks.length := HP.out.le
  have hnk := H1.out.nk
  obtain ⟨ra, rc, rb, N2, C2, hkv, hnc, hs1, hs2, r1, r2, n1, n2, hN2⟩ := cut_row (t := 41) H1.out.rr.ko (kcells_one ks) (by kernel_rfl) (fun W => by kernel_rfl) i i hil hil
  rw [kcells_take] at r1
  rw [kcells_drop] at r2
  have R1 : Hid (RdR 1 w1 ra i (kcells (ks.take i))) := r1
  have R2 : Hid (RdR 1 w1 rb N2 (kcells (ks.drop i))) := r2
  have NR1 := hid n1
  have NR2 := hid n2
  have c1 := H1.out.cells.1
  rw [hkv] at c1
  obtain ⟨N, NN⟩ : ∃ N, Hid (ks.length = N) := ⟨_, rfl⟩
  have HNN : Hid (i + N2 = ks.length) := hN2
  rw [NN.out] at hs1 hs2 c1 hil hnk hnc hN2
  have HV : Hid (Up Nul w1 w1.drew) := (Up.refl Nul w1).drew
  have HQ : Hid (∀ V, Up Nul w1 V → V.cell? ⟨q, 0, none⟩ = some (.slice ra N rc)) := fun V u => (u.cell (p := ⟨q, 0, none⟩) H1.out.lt id).trans c1
  have HQF : Hid (∀ V, Up Nul w1 V → V.frozen? ⟨q, 0, none⟩ = false) := fun V u => (u.froz (p := ⟨q, 0, none⟩) H1.out.lt id).trans (H1.out.froz 0)
  clear r1 r2 n1 n2 c1
  go_cut [] from 22 to 42 (fun wx => ∃ kv', Hid (wx.ownsRow w1.heap.size 9 1 kv' (i + 1 + N2) (kcells (ks.take i ++ [k] ++ ks.drop i)) ∧ wx.heap[q]? = some (.cells (rhead kv' bv iv sv (M.last + 1) M.t) 62 (0, 0)) ∧ Up (fun k => k = q) w1 wx))
  case first =>
   refine wp_region_F (S := (fun V => V.cell? ⟨q, 0, none⟩ = some (.slice ra N rc))) 21 (by kernel_rfl) (by exact HQ.out _ HV.out) (fun hHeld => ?_)
   refine tkf 0 (some 22) rfl ?_
   refine tkf 2 (some 24) rfl ?_
   refine tkf 3 (some 25) rfl ?_
   refine tkf 4 (some 26) rfl ?_
   refine tkf 5 (some 27) rfl ?_
   refine tkf 6 (some 28) rfl ?_
   refine tkf 7 (some 29) rfl ?_
   refine tkf 9 (some 31) rfl ?_
   refine tkf 12 (some 34) rfl ?_
   refine tkf 13 (some 35) rfl ?_
   refine tkf 14 (some 36) rfl ?_
   refine tkf 15 (some 37) rfl ?_
   refine tkf 16 (some 38) rfl ?_
   refine tkf 17 (some 39) rfl ?_
   refine wpAnyF_ready (rs := [1, 10]) (by kernel_rfl) (by simp) ?_
   refine (AllReadyF.cons (o := ⟨some 23, _, _, _, _, _⟩) rfl (fun K hK => ?_) (AllReadyF.cons (o := ⟨some 32, _, _, _, _, _⟩) rfl (fun K hK => ?_) AllReadyF.nil))
   ·go_simp
    have HA0 := ApS.start (T := 9) (s := 1) HV.out; (try simp only [World.size_alloc] at HA0); have HA0 := hid HA0
    refine hK.out _ _ (HQ.out _ HA0.out.up) (fun hHeld => ?_)
    clear hK K
    try simp only [tdy]
    refine wpAnyF_ready (rs := [8, 10]) (by kernel_rfl) (by simp) ?_
    refine (AllReadyF.cons (o := ⟨some 30, _, _, _, _, _⟩) rfl (fun K hK => ?_) (AllReadyF.cons (o := ⟨some 32, _, _, _, _, _⟩) rfl (fun K hK => ?_) AllReadyF.nil))
    ·skip
     obtain ⟨aa1, cc1, ww1, hr1, HA1⟩ := HA0.out.app Tryz.underlying41 inf_str (by omega) (by omega) R1.out NR1.out (by omega) 41; (try rw [Nat.zero_add] at hr1 HA1); refine wp_append_eqv (.tmp 23) (.tmp 29) 41 (by rfl) _ _ _ (by rfl) (by rfl) hr1 ?_; have HA1 := hid HA1; clear hr1
     refine hK.out _ _ (HQ.out _ HA1.out.up) (fun hHeld => ?_)
     clear hK K
     try simp only [tdy]
     refine onf 10 (some 32) rfl (fun K hK => ?_)
     go_simp
     have HA2 := HA1.out.one [.string k] rfl (by intro u hu; simp at hu; subst hu; rfl); (try simp only [World.size_alloc] at HA2); have HA2 := hid HA2
     refine hK.out _ _ (HQ.out _ HA2.out.ap.up) (fun hHeld => ?_)
     clear hK K
     try simp only [tdy]
     refine onf 11 (some 33) rfl (fun K hK => ?_)
     obtain ⟨aa3, cc3, ww3, hr3, HA3⟩ := HA2.out.app1 Tryz.underlying41 inf_str (by omega) (by omega) (by omega) 1 41; (try rw [Nat.zero_add] at hr3 HA3); refine wp_append_eqv (.tmp 30) (.tmp 32) 41 (by rfl) _ _ _ (by rfl) (by rfl) hr3 ?_; have HA3 := hid HA3; clear hr3
     refine hK.out _ _ (HQ.out _ HA3.out.up) (fun hHeld => ?_)
     clear hK K
     try simp only [tdy]
     refine onf 18 (some 40) rfl (fun K hK => ?_)
     obtain ⟨aa4, cc4, ww4, hr4, HA4⟩ := HA3.out.app Tryz.underlying41 inf_str (by omega) (by omega) R2.out NR2.out (by omega) 41; (try rw [Nat.zero_add] at hr4 HA4); refine wp_append_eqv (.tmp 33) (.tmp 39) 41 (by rfl) _ _ _ (by rfl) (by rfl) hr4 ?_; have HA4 := hid HA4; clear hr4
     refine hK.out _ _ (HQ.out _ HA4.out.up) (fun hHeld => ?_)
     clear hK K
     try simp only [tdy]
     refine onf 19 (some 41) rfl (fun K hK => ?_)
     go_simp
     skip
     refine hK.out _ _ (HQ.out _ HA4.out.up) (fun hHeld => ?_)
     clear hK K
     try simp only [tdy]
     refine tkf 20 (some 42) rfl ?_
     have HL := HA4
     have c0 := (HQ.out _ HL.out.up)
     have f0 := HQF.out _ HL.out.up
     refine wpAnyF_ready (rs := [21]) (by kernel_rfl) (by simp) ?_
     refine AllReadyF.last (o := ⟨none, _, _, _, _, _⟩) rfl (fun K hK => ?_)
     go_simp
     skip
     refine hK.out _ _ (trivial) (fun hHeld => ?_)
     clear hK K
     try simp only [tdy]
     refine wpAnyF_done (by kernel_rfl) ?_ _
     go_wp2_with fail
     go_meet
     have HX := head_set H1.out.hp HL.out 0
     simp only [List.nil_append] at HX
     rw [← kcells_ins] at HX
     exact ⟨_, hid ⟨HX.1, HX.2.1, HX.2.2⟩⟩
    ·go_simp
     have HA1 := HA0.out.one [.string k] rfl (by intro u hu; simp at hu; subst hu; rfl); (try simp only [World.size_alloc] at HA1); have HA1 := hid HA1
     refine hK.out _ _ (HQ.out _ HA1.out.ap.up) (fun hHeld => ?_)
     clear hK K
     try simp only [tdy]
     refine onf 8 (some 30) rfl (fun K hK => ?_)
     obtain ⟨aa2, cc2, ww2, hr2, HA2⟩ := HA1.out.app Tryz.underlying41 inf_str (by omega) (by omega) R1.out NR1.out (by omega) 41; (try rw [Nat.zero_add] at hr2 HA2); refine wp_append_eqv (.tmp 23) (.tmp 29) 41 (by rfl) _ _ _ (by rfl) (by rfl) hr2 ?_; have HA2 := hid HA2; clear hr2
     refine hK.out _ _ (HQ.out _ HA2.out.ap.up) (fun hHeld => ?_)
     clear hK K
     try simp only [tdy]
     refine onf 11 (some 33) rfl (fun K hK => ?_)
     obtain ⟨aa3, cc3, ww3, hr3, HA3⟩ := HA2.out.app1 Tryz.underlying41 inf_str (by omega) (by omega) (by omega) 1 41; (try rw [Nat.zero_add] at hr3 HA3); refine wp_append_eqv (.tmp 30) (.tmp 32) 41 (by rfl) _ _ _ (by rfl) (by rfl) hr3 ?_; have HA3 := hid HA3; clear hr3
     refine hK.out _ _ (HQ.out _ HA3.out.up) (fun hHeld => ?_)
     clear hK K
     try simp only [tdy]
     refine onf 18 (some 40) rfl (fun K hK => ?_)
     obtain ⟨aa4, cc4, ww4, hr4, HA4⟩ := HA3.out.app Tryz.underlying41 inf_str (by omega) (by omega) R2.out NR2.out (by omega) 41; (try rw [Nat.zero_add] at hr4 HA4); refine wp_append_eqv (.tmp 33) (.tmp 39) 41 (by rfl) _ _ _ (by rfl) (by rfl) hr4 ?_; have HA4 := hid HA4; clear hr4
     refine hK.out _ _ (HQ.out _ HA4.out.up) (fun hHeld => ?_)
     clear hK K
     try simp only [tdy]
     refine onf 19 (some 41) rfl (fun K hK => ?_)
     go_simp
     skip
     refine hK.out _ _ (HQ.out _ HA4.out.up) (fun hHeld => ?_)
     clear hK K
     try simp only [tdy]
     refine tkf 20 (some 42) rfl ?_
     have HL := HA4
     have c0 := (HQ.out _ HL.out.up)
     have f0 := HQF.out _ HL.out.up
     refine wpAnyF_ready (rs := [21]) (by kernel_rfl) (by simp) ?_
     refine AllReadyF.last (o := ⟨none, _, _, _, _, _⟩) rfl (fun K hK => ?_)
     go_simp
     skip
     refine hK.out _ _ (trivial) (fun hHeld => ?_)
     clear hK K
     try simp only [tdy]
     refine wpAnyF_done (by kernel_rfl) ?_ _
     go_wp2_with fail
     go_meet
     have HX := head_set H1.out.hp HL.out 0
     simp only [List.nil_append] at HX
     rw [← kcells_ins] at HX
     exact ⟨_, hid ⟨HX.1, HX.2.1, HX.2.2⟩⟩
   ·go_simp
    have HI := hid (ApI.new (s := 1) HV.out 9 [.string k] rfl (by intro u hu; simp at hu; subst hu; rfl))
    refine hK.out _ _ (HQ.out _ HI.out.up) (fun hHeld => ?_)
    clear hK K
    try simp only [tdy]
    refine onf 1 (some 23) rfl (fun K hK => ?_)
    go_simp
    have HA1 := ApI.start (T := 9) HI.out; (try simp only [World.size_alloc] at HA1); have HA1 := hid HA1
    refine hK.out _ _ (HQ.out _ HA1.out.ap.up) (fun hHeld => ?_)
    clear hK K
    try simp only [tdy]
    refine onf 8 (some 30) rfl (fun K hK => ?_)
    obtain ⟨aa2, cc2, ww2, hr2, HA2⟩ := HA1.out.app Tryz.underlying41 inf_str (by omega) (by omega) R1.out NR1.out (by omega) 41; (try rw [Nat.zero_add] at hr2 HA2); refine wp_append_eqv (.tmp 23) (.tmp 29) 41 (by rfl) _ _ _ (by rfl) (by rfl) hr2 ?_; have HA2 := hid HA2; clear hr2
    refine hK.out _ _ (HQ.out _ HA2.out.ap.up) (fun hHeld => ?_)
    clear hK K
    try simp only [tdy]
    refine onf 11 (some 33) rfl (fun K hK => ?_)
    obtain ⟨aa3, cc3, ww3, hr3, HA3⟩ := HA2.out.app1 Tryz.underlying41 inf_str (by omega) (by omega) (by omega) 1 41; (try rw [Nat.zero_add] at hr3 HA3); refine wp_append_eqv (.tmp 30) (.tmp 32) 41 (by rfl) _ _ _ (by rfl) (by rfl) hr3 ?_; have HA3 := hid HA3; clear hr3
    refine hK.out _ _ (HQ.out _ HA3.out.up) (fun hHeld => ?_)
    clear hK K
    try simp only [tdy]
    refine onf 18 (some 40) rfl (fun K hK => ?_)
    obtain ⟨aa4, cc4, ww4, hr4, HA4⟩ := HA3.out.app Tryz.underlying41 inf_str (by omega) (by omega) R2.out NR2.out (by omega) 41; (try rw [Nat.zero_add] at hr4 HA4); refine wp_append_eqv (.tmp 33) (.tmp 39) 41 (by rfl) _ _ _ (by rfl) (by rfl) hr4 ?_; have HA4 := hid HA4; clear hr4
    refine hK.out _ _ (HQ.out _ HA4.out.up) (fun hHeld => ?_)
    clear hK K
    try simp only [tdy]
    refine onf 19 (some 41) rfl (fun K hK => ?_)
    go_simp
    skip
    refine hK.out _ _ (HQ.out _ HA4.out.up) (fun hHeld => ?_)
    clear hK K
    try simp only [tdy]
    refine tkf 20 (some 42) rfl ?_
    have HL := HA4
    have c0 := (HQ.out _ HL.out.up)
    have f0 := HQF.out _ HL.out.up
    refine wpAnyF_ready (rs := [21]) (by kernel_rfl) (by simp) ?_
    refine AllReadyF.last (o := ⟨none, _, _, _, _, _⟩) rfl (fun K hK => ?_)
    go_simp
    skip
    refine hK.out _ _ (trivial) (fun hHeld => ?_)
    clear hK K
    try simp only [tdy]
    refine wpAnyF_done (by kernel_rfl) ?_ _
    go_wp2_with fail
    go_meet
    have HX := head_set H1.out.hp HL.out 0
    simp only [List.nil_append] at HX
    rw [← kcells_ins] at HX
    exact ⟨_, hid ⟨HX.1, HX.2.1, HX.2.2⟩⟩
  obtain ⟨kv', hx⟩ := hcut
  go_upto_region 5 with fail
  have HK2 := hid hx.out
  have hnb := HNN
  clear hs1 hs2 R1 R2 NR1 NR2 HQ HQF HV hx hkv hnc
  have hh := HK2.out.2.1
  have hrr := H1.out.rr.head H1.out.hp HK2.out.2.2
  have HRR := hid hrr
  have hlb : w.heap.size < w1.heap.size := (Array.getElem?_eq_some_iff.1 HB1.out).1
  obtain ⟨ra, rc, rb, N3, C2, hbv, hnc, hs1, hs2, r1, r2, n1, n2, hN3⟩ := cut_row (t := 59) hrr.bo (bcells_one M ks) (by kernel_rfl) (fun W => by kernel_rfl) i i HP.out.le HP.out.le
  obtain rfl : N3 = N2 := by have := HNN.out; omega
  rw [bcells_take] at r1
  rw [bcells_drop] at r2
  have R1 : Hid (RdR 3 wc ra i (bcells M (ks.take i))) := r1
  have R2 : Hid (RdR 3 wc rb N3 (bcells M (ks.drop i))) := r2
  have NR1 := hid n1
  have NR2 := hid n2
  have c1 : wc.cell? ⟨q, 1, none⟩ = some bv := by simp [World.cell?, hh]
  have f1 : wc.frozen? ⟨q, 1, none⟩ = false := by simp [World.frozen?, hh]
  rw [hbv] at c1
  have hq := (Array.getElem?_eq_some_iff.1 hh).1
  have hne : w.heap.size ≠ q := fun e => by have := HF.out q H1.out.fq; omega
  have hb2 := (HK2.out.2.2.block w.heap.size hlb hne).trans HB1.out
  have hlc := (Array.getElem?_eq_some_iff.1 hb2).1
  rw [NN.out] at hs1 hs2 c1 hnc
  have HV : Hid (Up Nul wc wc.drew) := (Up.refl Nul wc).drew
  have HQ : Hid (∀ V, Up Nul wc V → V.cell? ⟨q, 1, none⟩ = some (.slice ra N rc) ∧ V.cell? ⟨w.heap.size, 0, none⟩ = some (.int .i64 bn) ∧ V.cell? ⟨w.heap.size, 1, none⟩ = some (.int .i64 bs_) ∧ V.cell? ⟨w.heap.size, 2, none⟩ = some (.int .i64 bp)) := fun V u => by
   have hb3 := (u.block w.heap.size hlc id).trans hb2
   exact ⟨(u.cell (p := ⟨q, 1, none⟩) hq id).trans c1, by simp [World.cell?, hb3], by simp [World.cell?, hb3], by simp [World.cell?, hb3]⟩
  have HQF : Hid (∀ V, Up Nul wc V → V.frozen? ⟨q, 1, none⟩ = false) := fun V u => (u.froz (p := ⟨q, 1, none⟩) hq id).trans f1
  have HC2 := hid hh
  clear r1 r2 n1 n2 c1 f1 hb2 hh hrr hlb
  refine wp_region_F (S := (fun V => V.cell? ⟨q, 1, none⟩ = some (.slice ra N rc) ∧ V.cell? ⟨w.heap.size, 0, none⟩ = some (.int .i64 bn) ∧ V.cell? ⟨w.heap.size, 1, none⟩ = some (.int .i64 bs_) ∧ V.cell? ⟨w.heap.size, 2, none⟩ = some (.int .i64 bp))) 21 (by kernel_rfl) (by exact HQ.out _ HV.out) (fun hHeld => ?_)
  refine tkf 0 (some 43) rfl ?_
  refine tkf 2 (some 45) rfl ?_
  refine tkf 3 (some 46) rfl ?_
  refine tkf 4 (some 47) rfl ?_
  refine tkf 5 (some 48) rfl ?_
  refine tkf 6 (some 49) rfl ?_
  refine tkf 7 (some 50) rfl ?_
  refine tkf 9 (some 52) rfl ?_
  refine tkf 12 (some 55) rfl ?_
  refine tkf 13 (some 56) rfl ?_
  refine tkf 14 (some 57) rfl ?_
  refine tkf 15 (some 58) rfl ?_
  refine tkf 16 (some 59) rfl ?_
  refine tkf 17 (some 60) rfl ?_
  refine wpAnyF_ready (rs := [1, 10]) (by kernel_rfl) (by simp) ?_
  refine (AllReadyF.cons (o := ⟨some 44, _, _, _, _, _⟩) rfl (fun K hK => ?_) (AllReadyF.cons (o := ⟨some 53, _, _, _, _, _⟩) rfl (fun K hK => ?_) AllReadyF.nil))
  ·go_simp
   have HA0 := ApS.start (T := 51) (s := 3) HV.out; (try simp only [World.size_alloc] at HA0); have HA0 := hid HA0
   refine hK.out _ _ (HQ.out _ HA0.out.up) (fun hHeld => ?_)
   clear hK K
   try simp only [tdy]
   refine wpAnyF_ready (rs := [8, 10]) (by kernel_rfl) (by simp) ?_
   refine (AllReadyF.cons (o := ⟨some 51, _, _, _, _, _⟩) rfl (fun K hK => ?_) (AllReadyF.cons (o := ⟨some 53, _, _, _, _, _⟩) rfl (fun K hK => ?_) AllReadyF.nil))
   ·skip
    obtain ⟨aa1, cc1, ww1, hr1, HA1⟩ := HA0.out.app Tryz.underlying59 inf_blob (by omega) (by omega) R1.out NR1.out (by omega) 59; (try rw [Nat.zero_add] at hr1 HA1); refine wp_append_eqv (.tmp 44) (.tmp 50) 59 (by rfl) _ _ _ (by rfl) (by rfl) hr1 ?_; have HA1 := hid HA1; clear hr1
    refine hK.out _ _ (HQ.out _ HA1.out.up) (fun hHeld => ?_)
    clear hK K
    try simp only [tdy]
    refine onf 10 (some 53) rfl (fun K hK => ?_)
    go_simp
    have HA2 := HA1.out.one [.int .i64 bn, .int .i64 bs_, .int .i64 bp] rfl (by intro u hu; simp at hu; rcases hu with rfl | rfl | rfl <;> rfl); (try simp only [World.size_alloc] at HA2); have HA2 := hid HA2
    refine hK.out _ _ (HQ.out _ HA2.out.ap.up) (fun hHeld => ?_)
    clear hK K
    try simp only [tdy]
    refine onf 11 (some 54) rfl (fun K hK => ?_)
    obtain ⟨aa3, cc3, ww3, hr3, HA3⟩ := HA2.out.app1 Tryz.underlying59 inf_blob (by omega) (by omega) (by omega) 1 59; (try rw [Nat.zero_add] at hr3 HA3); refine wp_append_eqv (.tmp 51) (.tmp 53) 59 (by rfl) _ _ _ (by rfl) (by rfl) hr3 ?_; have HA3 := hid HA3; clear hr3
    refine hK.out _ _ (HQ.out _ HA3.out.up) (fun hHeld => ?_)
    clear hK K
    try simp only [tdy]
    refine onf 18 (some 61) rfl (fun K hK => ?_)
    obtain ⟨aa4, cc4, ww4, hr4, HA4⟩ := HA3.out.app Tryz.underlying59 inf_blob (by omega) (by omega) R2.out NR2.out (by omega) 59; (try rw [Nat.zero_add] at hr4 HA4); refine wp_append_eqv (.tmp 54) (.tmp 60) 59 (by rfl) _ _ _ (by rfl) (by rfl) hr4 ?_; have HA4 := hid HA4; clear hr4
    refine hK.out _ _ (HQ.out _ HA4.out.up) (fun hHeld => ?_)
    clear hK K
    try simp only [tdy]
    refine onf 19 (some 62) rfl (fun K hK => ?_)
    go_simp
    skip
    refine hK.out _ _ (HQ.out _ HA4.out.up) (fun hHeld => ?_)
    clear hK K
    try simp only [tdy]
    refine tkf 20 (some 63) rfl ?_
    have HL := HA4
    have c0 := (HQ.out _ HL.out.up).1
    have f0 := HQF.out _ HL.out.up
    refine wpAnyF_ready (rs := [21]) (by kernel_rfl) (by simp) ?_
    refine AllReadyF.last (o := ⟨none, _, _, _, _, _⟩) rfl (fun K hK => ?_)
    go_simp
    skip
    refine hK.out _ _ (trivial) (fun hHeld => ?_)
    clear hK K
    try simp only [tdy]
    refine wpAnyF_done (by kernel_rfl) ?_ _
    go_wp2_with fail
    go_end0
    exact ⟨rfl, set_fin (b := ⟨bn, bs_, bp⟩) H1.out HF.out HU1.out HP.out HKN.out HK2.out HL.out HNN.out⟩
   ·go_simp
    have HA1 := HA0.out.one [.int .i64 bn, .int .i64 bs_, .int .i64 bp] rfl (by intro u hu; simp at hu; rcases hu with rfl | rfl | rfl <;> rfl); (try simp only [World.size_alloc] at HA1); have HA1 := hid HA1
    refine hK.out _ _ (HQ.out _ HA1.out.ap.up) (fun hHeld => ?_)
    clear hK K
    try simp only [tdy]
    refine onf 8 (some 51) rfl (fun K hK => ?_)
    obtain ⟨aa2, cc2, ww2, hr2, HA2⟩ := HA1.out.app Tryz.underlying59 inf_blob (by omega) (by omega) R1.out NR1.out (by omega) 59; (try rw [Nat.zero_add] at hr2 HA2); refine wp_append_eqv (.tmp 44) (.tmp 50) 59 (by rfl) _ _ _ (by rfl) (by rfl) hr2 ?_; have HA2 := hid HA2; clear hr2
    refine hK.out _ _ (HQ.out _ HA2.out.ap.up) (fun hHeld => ?_)
    clear hK K
    try simp only [tdy]
    refine onf 11 (some 54) rfl (fun K hK => ?_)
    obtain ⟨aa3, cc3, ww3, hr3, HA3⟩ := HA2.out.app1 Tryz.underlying59 inf_blob (by omega) (by omega) (by omega) 1 59; (try rw [Nat.zero_add] at hr3 HA3); refine wp_append_eqv (.tmp 51) (.tmp 53) 59 (by rfl) _ _ _ (by rfl) (by rfl) hr3 ?_; have HA3 := hid HA3; clear hr3
    refine hK.out _ _ (HQ.out _ HA3.out.up) (fun hHeld => ?_)
    clear hK K
    try simp only [tdy]
    refine onf 18 (some 61) rfl (fun K hK => ?_)
    obtain ⟨aa4, cc4, ww4, hr4, HA4⟩ := HA3.out.app Tryz.underlying59 inf_blob (by omega) (by omega) R2.out NR2.out (by omega) 59; (try rw [Nat.zero_add] at hr4 HA4); refine wp_append_eqv (.tmp 54) (.tmp 60) 59 (by rfl) _ _ _ (by rfl) (by rfl) hr4 ?_; have HA4 := hid HA4; clear hr4
    refine hK.out _ _ (HQ.out _ HA4.out.up) (fun hHeld => ?_)
    clear hK K
    try simp only [tdy]
    refine onf 19 (some 62) rfl (fun K hK => ?_)
    go_simp
    skip
    refine hK.out _ _ (HQ.out _ HA4.out.up) (fun hHeld => ?_)
    clear hK K
    try simp only [tdy]
    refine tkf 20 (some 63) rfl ?_
    have HL := HA4
    have c0 := (HQ.out _ HL.out.up).1
    have f0 := HQF.out _ HL.out.up
    refine wpAnyF_ready (rs := [21]) (by kernel_rfl) (by simp) ?_
    refine AllReadyF.last (o := ⟨none, _, _, _, _, _⟩) rfl (fun K hK => ?_)
    go_simp
    skip
    refine hK.out _ _ (trivial) (fun hHeld => ?_)
    clear hK K
    try simp only [tdy]
    refine wpAnyF_done (by kernel_rfl) ?_ _
    go_wp2_with fail
    go_end0
    exact ⟨rfl, set_fin (b := ⟨bn, bs_, bp⟩) H1.out HF.out HU1.out HP.out HKN.out HK2.out HL.out HNN.out⟩
  ·go_simp
   have HI := hid (ApI.new (s := 3) HV.out 51 [.int .i64 bn, .int .i64 bs_, .int .i64 bp] rfl (by intro u hu; simp at hu; rcases hu with rfl | rfl | rfl <;> rfl))
   refine hK.out _ _ (HQ.out _ HI.out.up) (fun hHeld => ?_)
   clear hK K
   try simp only [tdy]
   refine onf 1 (some 44) rfl (fun K hK => ?_)
   go_simp
   have HA1 := ApI.start (T := 51) HI.out; (try simp only [World.size_alloc] at HA1); have HA1 := hid HA1
   refine hK.out _ _ (HQ.out _ HA1.out.ap.up) (fun hHeld => ?_)
   clear hK K
   try simp only [tdy]
   refine onf 8 (some 51) rfl (fun K hK => ?_)
   obtain ⟨aa2, cc2, ww2, hr2, HA2⟩ := HA1.out.app Tryz.underlying59 inf_blob (by omega) (by omega) R1.out NR1.out (by omega) 59; (try rw [Nat.zero_add] at hr2 HA2); refine wp_append_eqv (.tmp 44) (.tmp 50) 59 (by rfl) _ _ _ (by rfl) (by rfl) hr2 ?_; have HA2 := hid HA2; clear hr2
   refine hK.out _ _ (HQ.out _ HA2.out.ap.up) (fun hHeld => ?_)
   clear hK K
   try simp only [tdy]
   refine onf 11 (some 54) rfl (fun K hK => ?_)
   obtain ⟨aa3, cc3, ww3, hr3, HA3⟩ := HA2.out.app1 Tryz.underlying59 inf_blob (by omega) (by omega) (by omega) 1 59; (try rw [Nat.zero_add] at hr3 HA3); refine wp_append_eqv (.tmp 51) (.tmp 53) 59 (by rfl) _ _ _ (by rfl) (by rfl) hr3 ?_; have HA3 := hid HA3; clear hr3
   refine hK.out _ _ (HQ.out _ HA3.out.up) (fun hHeld => ?_)
   clear hK K
   try simp only [tdy]
   refine onf 18 (some 61) rfl (fun K hK => ?_)
   obtain ⟨aa4, cc4, ww4, hr4, HA4⟩ := HA3.out.app Tryz.underlying59 inf_blob (by omega) (by omega) R2.out NR2.out (by omega) 59; (try rw [Nat.zero_add] at hr4 HA4); refine wp_append_eqv (.tmp 54) (.tmp 60) 59 (by rfl) _ _ _ (by rfl) (by rfl) hr4 ?_; have HA4 := hid HA4; clear hr4
   refine hK.out _ _ (HQ.out _ HA4.out.up) (fun hHeld => ?_)
   clear hK K
   try simp only [tdy]
   refine onf 19 (some 62) rfl (fun K hK => ?_)
   go_simp
   skip
   refine hK.out _ _ (HQ.out _ HA4.out.up) (fun hHeld => ?_)
   clear hK K
   try simp only [tdy]
   refine tkf 20 (some 63) rfl ?_
   have HL := HA4
   have c0 := (HQ.out _ HL.out.up).1
   have f0 := HQF.out _ HL.out.up
   refine wpAnyF_ready (rs := [21]) (by kernel_rfl) (by simp) ?_
   refine AllReadyF.last (o := ⟨none, _, _, _, _, _⟩) rfl (fun K hK => ?_)
   go_simp
   skip
   refine hK.out _ _ (trivial) (fun hHeld => ?_)
   clear hK K
   try simp only [tdy]
   refine wpAnyF_done (by kernel_rfl) ?_ _
   go_wp2_with fail
   go_end0
   exact ⟨rfl, set_fin (b := ⟨bn, bs_, bp⟩) H1.out HF.out HU1.out HP.out HKN.out HK2.out HL.out HNN.out⟩
end
end Go.Proofs.YtepggchnhgpcnaaGreatDoor
