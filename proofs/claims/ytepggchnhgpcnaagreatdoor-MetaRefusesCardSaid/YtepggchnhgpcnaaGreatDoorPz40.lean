/- 'Copy'. -/
import Derived.Test.YtepggchnhgpcnaaGreatDoorPkTidy
import Derived.Test.YtepggchnhgpcnaaGreatDoorPz32
import Derived.Test.YtepggchnhgpcnaaGreatDoorPz29
import Derived.Test.YtepggchnhgpcnaaGreatDoorMtLayC
import Derived.Maps.RangeWalk
import Derived.Deep.RegionHeld3
namespace Go.Proofs.YtepggchnhgpcnaaGreatDoor
open Go.RowKit Go.Maps
set_option linter.unusedVariables false
set_option linter.unusedSimpArgs false

def MM.come (M : MM) (left : Lit → Bool) : MM := { M with s := fun i => if left (ki i) = true then none else M.s i }
theorem same_ki (x y : Int) : (ki x).sameKey (ki y) = decide (x = y) := by
 simp [Lit.sameKey]
theorem MM.come_step (M : MM) (left : Lit → Bool) (x : Int) (s : St) (hs : M.s x = some s) : ({ (M.come left) with s := upd (M.come left).s x (some s) } : MM) = M.come fun z => left z && !z.sameKey (ki x) := by
 have e : upd (M.come left).s x (some s) = (M.come fun z => left z && !z.sameKey (ki x)).s := by
  funext j
  by_cases h : j = x
  ·subst h
   rw [upd_same]
   show _ = if (left (ki j) && !(ki j).sameKey (ki j)) = true then none else M.s j
   rw [same_ki]
   simp [hs]
  ·rw [upd_ne _ _ h]
   show (if left (ki j) = true then none else M.s j) = if (left (ki j) && !(ki j).sameKey (ki x)) = true then none else M.s j
   rw [same_ki]
   simp [h]
 show ({ M with s := upd (M.come left).s x (some s) } : MM) = { M with s := _ }
 rw [e]
 rfl
theorem MM.come_end (M : MM) (left : Lit → Bool) (h : ∀ kl, left kl = false) : M.come left = M := by
 have e : (fun i => if left (ki i) = true then none else M.s i) = M.s := by
  funext i
  rw [h]
  rfl
 show ({ M with s := _ } : MM) = M
 rw [e]
section
variable {F : Nat → Prop} {w w' : World} {p bm bs n : Nat} {Q : Int → Value} {M : MM}
theorem MT.there (h : MT F w p bm bs n Q M) : MT (fun k => F k ∧ k < w.heap.size) w p bm bs n Q M :=
 ⟨h.hp, h.mb, h.ms, fun i s e => by
  obtain ⟨g, c, e1, e2, e3⟩ := h.row i s e
  refine ⟨g, c, e1, ⟨e2, ?_⟩, e3⟩
  rw [e1] at e3
  obtain ⟨cur, hc⟩ := lo_block e3 rfl
  exact (Array.getElem?_eq_some_iff.1 hc).1, h.dis, ⟨h.fp, h.lt⟩, ⟨h.fm, h.mb.lt⟩, ⟨h.fs, h.ms.lt⟩, h.nb⟩
theorem grown_nul (u : Up Nul w w') : w.grownBy w' none := ⟨u.os, u.tape, u.output, u.size, fun k hk _ => u.block k hk id⟩
set_option maxRecDepth 100000 in
set_option maxHeartbeats 4000000 in
theorem copy_any (h : MT F w p bm bs n Q M) (hF : ∀ k, F k → k < w.heap.size) (hI : M.Inv3) (hn : n ≤ 10000) :
  Calls Tryz.prog 11 #[.pointer (some ⟨p, 0, none⟩)] w fun e w' => ∃ p' bm' bs' Q', e = .returned (.pointer (some ⟨p', 0, none⟩)) ∧ MT (Fresh w w') w' p' bm' bs' (2 * n) Q' M ∧ Up Nul w w' := by
 have hmm := @run_makeMap Tryz.prog
 obtain ⟨DB, hB, hBk⟩ := h.mb
 have hcl : ∀ W : World, W.ownsMap Tryz.prog 9 hv bm n DB → Calls Tryz.prog 33 #[.map (some bm)] W fun e w' => e = .returned (.map (some W.heap.size)) ∧ w'.ownsMap Tryz.prog 9 hv W.heap.size n DB ∧ w'.ownsMap Tryz.prog 9 hv bm n DB ∧ Below W.heap.size W w' := fun W ho => AnyW.maps_Clone_owns Tryz.cloneB 9 hv bm n DB W ho
 have hy : ∀ o v, (mhead bm bs M.last M.t)[o]? = some v → w.cell? ⟨p, o, none⟩ = some v := fun o v e => by simp only [World.cell?, h.hp]; exact e
 have q0 : w.cell? ⟨p, 0, none⟩ = some (.map (some bm)) := hy 0 _ rfl
 have q1 : w.cell? ⟨p, 1, none⟩ = some (.map (some bs)) := hy 1 _ rfl
 have q2 : w.cell? ⟨p, 2, none⟩ = some (.int .i64 M.last) := hy 2 _ rfl
 have q3 : w.cell? ⟨p, 3, none⟩ = some (.int .i64 M.t.hot) := hy 3 _ rfl
 have q4 : w.cell? ⟨p, 4, none⟩ = some (.int .i64 M.t.warm) := hy 4 _ rfl
 have q5 : w.cell? ⟨p, 5, none⟩ = some (.int .i64 M.t.gap) := hy 5 _ rfl
 have q6 : w.cell? ⟨p, 6, none⟩ = some (.int .i64 M.t.add) := hy 6 _ rfl
 have q7 : w.cell? ⟨p, 7, none⟩ = some (.int .i64 M.t.top) := hy 7 _ rfl
 have q8 : w.cell? ⟨p, 8, none⟩ = some (.int .i64 M.t.half) := hy 8 _ rfl
 have HM := hid h
 have HF := hid hF
 have HI := hid hI
 have HN := hid hn
 have HBo := hid hB
 have HBk := hid hBk
 have HCL := hid hcl
 have hpl := h.lt
 have HPL := hid hpl
 clear h hF hI hB hBk hcl hy hn hpl
 go_enter Tryz.func11, Tryz.ntmps11
 go_upto_region 2 with fail
 obtain ⟨w1, hw1⟩ : ∃ W, W = w.alloc (.cells #[.map (some bm), .map (some bs), .int .i64 M.last, .int .i64 M.t.hot, .int .i64 M.t.warm, .int .i64 M.t.gap, .int .i64 M.t.add, .int .i64 M.t.top, .int .i64 M.t.half] 58) := ⟨_, rfl⟩
 rw [← hw1]
 obtain ⟨pc, PC⟩ : ∃ x, Hid (w.heap.size = x) := ⟨_, rfl⟩
 have h1 : w1.heap[pc]? = some (.cells (mhead bm bs M.last M.t) 58 (0, 0)) := by rw [hw1, ← PC.out]; exact heap_alloc_new _ _
 have u1 : Up Nul w w1 := by rw [hw1]; exact (Up.refl _ _).alloc _
 rw [PC.out]
 have HU1 := hid u1
 have HP1 := hid h1
 clear hw1 u1 h1 q2 q3 q4 q5 q6 q7 q8
 have r0 := (HU1.out.cell (p := ⟨p, 0, none⟩) HPL.out id).trans q0
 clear q0
 go_wp2_with fail
 refine (HCL.out w1 (mp_block HBo.out HU1.out id)).mono ?_
 rintro e w2 ⟨rfl, ho1, ho2, hbl⟩
 have u2 : Up Nul w1 w2 := Up.of_below hbl Nul
 have h2 := u2.keep HP1.out id
 obtain ⟨bm2, BM⟩ : ∃ x, Hid (w1.heap.size = x) := ⟨_, rfl⟩
 rw [BM.out] at ho1 ⊢
 have f0 : w2.frozen? ⟨pc, 0, none⟩ = false := by simp [World.frozen?, h2]
 have t0 : w2.cell? ⟨pc, 0, none⟩ = some (.map (some bm)) := by simp [World.cell?, h2]
 have hl2 : bm2 < w2.heap.size := ho1.lt
 have hpc2 := lt_of_heap h2
 have HPCL := hid (lt_of_heap HP1.out)
 have HO1 := hid ho1
 have HU2 := hid (HU1.out.trans u2)
 have HP2 := hid h2
 clear ho1 ho2 hbl u2 h2 r0
 go_upto_region 3 with fail
 obtain ⟨w3, hw3⟩ : ∃ W, W = w2.setCell ⟨pc, 0, none⟩ (.map (some bm2)) := ⟨_, rfl⟩
 rw [← hw3]
 have v3 : Up (One pc) w2 w3 := by rw [hw3]; exact (Up.refl (One pc) w2).put rfl 0 _
 have h3 : w3.heap[pc]? = some (.cells (mhead bm2 bs M.last M.t) 58 (0, 0)) := by rw [hw3]; exact heap_set_same HP2.out 0 _
 have hpb : bm2 ≠ pc := by have := BM.out; have := HPCL.out; omega
 have ho3 : w3.ownsMap Tryz.prog 9 hv bm2 n DB := mp_block HO1.out v3 fun e => hpb e
 have HU3 := hid (HU2.out.thn v3 fun j e => .inr (by have e : j = pc := e; have := PC.out; omega))
 have HO3 := hid ho3
 have HP3 := hid h3
 have HPB1 := hid hpb
 obtain ⟨bs2, BS⟩ : ∃ x, Hid (w3.heap.size = x) := ⟨_, rfl⟩
 obtain ⟨w4, hw4⟩ : ∃ W, W = w3.alloc (.map #[] 0) := ⟨_, rfl⟩
 have h4 : w4.heap[pc]? = some (.cells (mhead bm2 bs M.last M.t) 58 (0, 0)) := by rw [hw4]; exact ((Up.refl Nul w3).alloc _).keep h3 id
 have m4 : MapI w4 bs2 0 fun _ => none := by rw [hw4, ← BS.out]; exact MapI.new w3
 have u4 : Up Nul w3 w4 := by rw [hw4]; exact (Up.refl _ _).alloc _
 have f1 : w4.frozen? ⟨pc, 1, none⟩ = false := by simp [World.frozen?, h4]
 have t1 : w4.cell? ⟨pc, 1, none⟩ = some (.map (some bs)) := by simp [World.cell?, h4]
 have HP4 := hid h4
 have HM4 := hid m4
 have HU4 := hid u4
 have hw4' : w3.alloc (.map #[] 0) = w4 := hw4.symm
 have hbs' : w3.heap.size = bs2 := BS.out
 clear hw3 v3 h3 hpb ho3 hw4 h4 m4 u4 f0 t0 q1 hl2 hpc2
 go_upto_region 4 with fail
 try rw [hw4', hbs']
 clear hw4' hbs'
 obtain ⟨w5, hw5⟩ : ∃ W, W = w4.setCell ⟨pc, 1, none⟩ (.map (some bs2)) := ⟨_, rfl⟩
 rw [← hw5]
 have v5 : Up (One pc) w4 w5 := by rw [hw5]; exact (Up.refl (One pc) w4).put rfl 1 _
 have h5 : w5.heap[pc]? = some (.cells (mhead bm2 bs2 M.last M.t) 58 (0, 0)) := by rw [hw5]; exact heap_set_same HP4.out 1 _
 have hps : bs2 ≠ pc := by have := BS.out; have := lt_of_heap HP3.out; omega
 have hms : bm2 ≠ bs2 := by have := BS.out; have := HO3.out.lt; omega
 have m5 : MT (fun k => w.heap.size ≤ k) w5 pc bm2 bs2 n (fun _ => undef) { M with s := fun _ => none } :=
  ⟨h5, ⟨DB, mp_block (mp_block HO3.out HU4.out id) v5 fun e => HPB1.out e, HBk.out⟩, (HM4.out.up v5 fun e => hps e).mono (Nat.zero_le _), fun i s e => (by cases e), fun i j s s' e => (by cases e), by show w.heap.size ≤ pc; have := PC.out; omega, by show w.heap.size ≤ bm2; have := BM.out; have := HU1.out.size; omega, by show w.heap.size ≤ bs2; have := BS.out; have := HU3.out.size; omega, hms⟩
 have HU5 := hid ((HU3.out.trans HU4.out).thn v5 fun j e => .inr (by have e : j = pc := e; have := PC.out; omega))
 have HMT := hid m5
 have HPB := hid (show ¬ pc = bs2 from fun e => hps e.symm)
 clear hw5 v5 h5 hps hms m5 f1 t1
 obtain ⟨D, hD, hDk⟩ := HM.out.ms
 have hown := mp_block hD HU5.out (show ¬ Nul bs from id)
 have p1 : w5.cell? ⟨p, 1, none⟩ = some (.map (some bs)) := by simp [World.cell?, HU5.out.keep HM.out.hp id]
 have HDK := hid hDk
 have HOW := hid hown
 have HSZ := hid hown.size_le
 have HHA := hid (held_all hown)
 clear hD hDk hown
 go_wp2_with (first | (at_range; refine wpList_range_own _ rfl _ 56 rfl 3 46 keyI Tryz.underlying56 hv bs n D rfl HOW.out ?_; intro w6 hrg0 hg0 hs0) | go_in)
 try go_frame
 obtain ⟨r, RR0⟩ : ∃ x, Hid (w5.heap.size = x) := ⟨_, rfl⟩
 rw [RR0.out] at hrg0 ⊢
 have HRG0 := hid hrg0
 have HU6 : Hid (Up Nul w5 w6) := ⟨hg0.os, hg0.tape, hg0.output, hg0.size, fun k hk _ => hg0.block k hk (by simp)⟩
 have HR0 : Hid (∀ i, M.s i ≠ none → has D (ki i) = true) := fun i hi => by
  cases hs : M.s i with
  | none => exact absurd hs hi
  | some s =>
   have h1 := (HI.out.s i s hs).1
   have h2 := HI.out.l
   have e2 := HDK.out i (WalkArith.wf_i64 (by omega))
   rw [hs] at e2
   rw [(at_held HHA.out undef).2, e2]
   rfl
 clear hrg0 hg0 hs0 p1
 go_loopw [4] (fun _ wr => ∃ (left : Lit → Bool) (cnt n' : Nat) (Q' : Int → Value), wr.ranges Tryz.prog 3 hv bs r n D left cnt ∧ MT (fun k => w.heap.size ≤ k ∧ k ≠ r) wr pc bm2 bs2 n' Q' (M.come left) ∧ n' + cnt ≤ n + n ∧ Up Nul w wr) (fun _ wr => wr.rangeLeft bs r)
 case atStart =>
  refine ⟨has D, _, n, fun _ => undef, HRG0.out, ?_, by have := HSZ.out; omega, HU5.out.trans HU6.out⟩
  have e : M.come (has D) = { M with s := fun _ => none } := by
   have e : (fun i => if has D (ki i) = true then none else M.s i) = fun _ => (none : Option St) := by
    funext i
    split
    ·rfl
    ·rename_i hx
     cases hs : M.s i with
     | none => rfl
     | some s => exact absurd (HR0.out i (by rw [hs]; simp)) hx
   show ({ M with s := _ } : MM) = _
   rw [e]
  rw [e]
  exact (HMT.out.there.wide fun k hk => ⟨hk.1, by have := hk.2; have := RR0.out; omega⟩).nxt HU6.out
 case round =>
  obtain ⟨left, cnt, n', Q', hrg, hmt, hcn, huw⟩ := hrel
  have HRG := hid hrg
  have HMTr := hid hmt
  have HCN0 := hid hcn
  have HUW0 := hid huw
  clear hrg hmt hcn huw
  go_wp2_with (first | (at_next; refine wpList_next_ranges _ rfl _ rfl 3 keyI hv (Value.int .i64) (id : Value → Value) (fun key kl hk => by obtain ⟨x, e, _⟩ := Maps.keyOf_int_inv Tryz.underlying3 hk; exact ⟨x, e⟩) (fun v y _ => ⟨v, rfl⟩) bs r n D left cnt rfl HRG.out ?_ ?_) | go_in)
  ·intro hc0 hl0
   have HE := hid (M.come_end left hl0)
   go_wp2
   go_ret
   refine ⟨pc, bm2, bs2, Q', rfl, ?_, HUW0.out⟩
   have h := HMTr.out.there
   rw [HE.out] at h
   exact (h.wide fun k hk => ⟨hk.1.1, hk.2⟩).mono (by have := HCN0.out; omega)
  ·intro x c kl y1 y2 w5 cnt5 hkey hlx hy hat hrg5 hlt hg5 hs5 hen
   obtain ⟨x', e1, rfl, hwf⟩ := Maps.keyOf_int_inv Tryz.underlying3 hkey
   cases e1
   have hc : ent D (ki x) = some c := by
    have := hat .nil
    unfold ent
    rw [this]
    simp only [hv, Option.some.injEq, Prod.mk.injEq] at hy
    rw [← hy.1]
   rw [HDK.out x hwf] at hc
   obtain ⟨s, hs, hsc⟩ := Option.map_eq_some_iff.1 hc
   have hu5 : Up Nul w w5 := ⟨hg5.os.trans HUW0.out.os, hg5.tape.trans HUW0.out.tape, hg5.output.trans HUW0.out.output, Nat.le_trans HUW0.out.size hg5.size, fun k hk _ => (hg5.block k (Nat.lt_of_lt_of_le hk HUW0.out.size) (fun e => by have e := Option.some.inj e; have := RR0.out; have := HU5.out.size; omega)).trans (HUW0.out.block k hk id)⟩
   have HUW := hid hu5
   have v5 : Up (One r) wr w5 := ⟨hg5.os, hg5.tape, hg5.output, hg5.size, fun k hk h => hg5.block k hk fun e => h (Option.some.inj e)⟩
   have HMT5 := hid (HMTr.out.up v5 fun k hk e => hk.2 e)
   have HRL := hid hrg5.lt
   have HS := hid hs
   have HWF := hid hwf
   have HHX := hid hlx
   have HRG5 := hid hrg5
   have HLT := hid hlt
   have HCN := HCN0
   have hst := (HI.out.s x s hs).2.1.few
   have HST := hid (fun (W : World) (u : Up Nul w5 W) => stripe_some ((HM.out.nxt hu5).nxt u) x hwf s hs ⟨hst.1, by omega⟩)
   have HQ5 : Hid (w5.drew.cell? ⟨pc, 1, none⟩ = some (.map (some bs2))) := by show w5.cell? _ = _; simp [World.cell?, HMT5.out.hp]
   have HFAR : Hid (∀ g, w5.heap.size ≤ g → ∀ gc j s', (M.come left).s j = some s' → x ≠ j → (Value.slice (some ⟨g, 0, none⟩) s.locs.length gc).ownBlock ≠ (Q' j).ownBlock) := fun g hg gc j s' hj hne e => by
    obtain ⟨g', c', e1, _, e3⟩ := HMT5.out.row j s' hj
    rw [e1] at e3 e
    obtain ⟨cur, hcur⟩ := lo_block e3 rfl
    have e : g = g' := by injection e
    have := lt_of_heap hcur
    omega
   have hq5 : w5.cell? ⟨p, 1, none⟩ = some (.map (some bs)) := by simp [World.cell?, hu5.keep HM.out.hp id]
   clear hkey hlx hy hat hrg5 hlt hg5 hs5 hc hs hsc hu5 v5 hst hwf
   go_upto_region 7 with fail
   refine wp_region_held_drew (S := (fun V => V.cell? ⟨pc, 1, none⟩ = some (.map (some bs2)))) (by kernel_rfl) (by exact HQ5.out) (fun hHeld => ?_)
   refine tkv 0 (some 26) rfl ?_
   refine tkv 1 (some 27) rfl ?_
   refine tkv 2 (some 28) rfl ?_
   refine tkv 3 (some 29) rfl ?_
   refine tkv 4 (some 30) rfl ?_
   refine one 5 (some 31) rfl (fun K hK => ?_)
   go_simp
   go_at_call 16; refine (HST.out _ ((Up.refl Nul w5).drew)).mono ?_; rintro e w6 ⟨g, gc, rfl, hg1, hg2, hol, u6⟩; have HU6 := hid (((Up.refl Nul w5).drew).trans u6); have HOL := hid hol; have HG := hid (show w5.heap.size ≤ g from hg1); clear hg1 hg2 hol u6
   refine hK.out _ _ ((HU6.out.cell (p := ⟨pc, 1, none⟩) (lt_of_cell HQ5.out) id).trans HQ5.out) (fun hHeld => ?_)
   clear hK K
   try simp only [tdy]
   refine tkv 6 (some 25) rfl ?_
   refine tkv 7 (some 32) rfl ?_
   refine tkv 8 (some 33) rfl ?_
   refine one 9 none rfl (fun K hK => ?_)
   obtain ⟨w7, hrun, hmt, hup⟩ := (HMT5.out.nxt HU6.out).putS (by unfold maxLen; have := HN.out; have := HCN.out; omega) HWF.out s (.slice (some ⟨g, 0, none⟩) s.locs.length gc) ⟨g, gc, rfl, by have := HUW.out.size; have := HG.out; show w.heap.size ≤ g ∧ g ≠ r; have := HRL.out; omega, HOL.out⟩ (HFAR.out g HG.out gc); have HM7 := hid hmt; have HU7 := hid hup; refine step_put_eqv rfl (.tmp 27) (.tmp 28) (.tmp 32) 56 rfl _ _ _ (by rfl) (by rfl) (by rfl) hrun ?_; clear hrun hmt hup
   refine hK.out _ _ ((HU7.out.cell (p := ⟨pc, 1, none⟩) (Nat.lt_of_lt_of_le (lt_of_cell HQ5.out) HU6.out.size) (fun e => HPB.out e)).trans ((HU6.out.cell (p := ⟨pc, 1, none⟩) (lt_of_cell HQ5.out) id).trans HQ5.out)) (fun hHeld => ?_)
   clear hK K
   try simp only [tdy]
   refine wpAnyH_done (by kernel_rfl) ?_ _
   have hg7 : w5.grownBy w7 (some bs2) := ⟨HU7.out.os.trans HU6.out.os, HU7.out.tape.trans HU6.out.tape, HU7.out.output.trans HU6.out.output, Nat.le_trans HU6.out.size HU7.out.size, fun k hk hne => (HU7.out.block k (Nat.lt_of_lt_of_le hk HU6.out.size) (fun e => hne (by have e : k = bs2 := e; rw [e]))).trans (HU6.out.block k hk id)⟩
   have hfs := HMTr.out.fs
   have hrg7 := hid (HRG5.out.kept hg7 (fun e => by have e := Option.some.inj e; have := HF.out bs HM.out.fs; omega) (fun e => by have e := Option.some.inj e; exact hfs.2 e.symm))
   have HE7 : Hid (Up Nul w w7) := (HUW.out.trans HU6.out).thn HU7.out fun j e => .inr (by have e : j = bs2 := e; rw [e]; exact hfs.1)
   have HM8 := HM7.out
   rw [M.come_step left x s HS.out] at HM8
   have HM9 := hid HM8
   clear hg7 hfs HM8
   go_wp2_with fail
   go_roundw
   case rel => exact ⟨_, cnt5, n' + 1, _, hrg7.out, HM9.out, by have := HCN.out; have := HLT.out; omega, HE7.out⟩
   case measure => rw [hrg7.out.left_eq, HRG.out.left_eq]; exact HLT.out
end
end Go.Proofs.YtepggchnhgpcnaaGreatDoor
