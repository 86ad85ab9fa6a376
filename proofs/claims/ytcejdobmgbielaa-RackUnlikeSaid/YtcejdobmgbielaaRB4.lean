/- Part 4 of what the walks rest on: DiskWrite, DiskCrash, DiskHold, DiskAwake. -/
import Derived.Test.YtcejdobmgbielaaRB3
namespace Go.Proofs.Ytcejdobmgbielaa
open Go.RowKit
set_option linter.unusedVariables false

set_option maxRecDepth 100000 in
set_option maxHeartbeats 1600000 in
theorem write_good (d : DK) (s : Nat) (k : Option Nat) (a : Option Addr) (cap : Nat) (y : List Nat) (w : World) (h : Dsk w d) (hs : s < d.n) (hl : d.live = true) (hf : FzO w d.fu k) (hk : k ≠ some 0) (hm : d.ps.length < 1000)
    (hy : SlN w a 96 y) (hay : ∀ x, a = some x → ¬ d.foot x.block ∧ d.fu ≠ some x.block) :
    Calls Try.prog 56 #[.pointer (some ⟨d.b, 0, none⟩), .int .i64 s, .slice a 96 cap] w fun e w' => e = .returned (.int .i64 0) ∧ FzO w' d.fu (less k) ∧ ∃ d', Put w d s y w' d' := by
  have HL := hid (lacks_in d s w h hs)
  have HSP := hid (spend_live d.fu k w hf hk)
  have HFT := hid (foot_fuse h hf)
  have H0 := hid h
  have HX := hid (And.intro hs (And.intro hm (And.intro hy (And.intro hay hl))))
  have c1 := h.c1
  rw [hl] at c1
  have c0 := h.c0
  obtain ⟨b, B⟩ : ∃ b, Hid (d.b = b) := ⟨_, rfl⟩
  obtain ⟨p, P⟩ : ∃ p, Hid (fp d.fu = p) := ⟨_, rfl⟩
  rw [B.out] at HL c0 c1 ⊢
  rw [P.out] at c0 HSP
  clear h hs hl hf hk hm hy hay
  go_enter Try.func56, Try.ntmps56
  go_wp2_with fail
  refine HL.out.mono ?_
  rintro e w0 ⟨rfl, rfl⟩
  go_wp2_with fail
  refine HSP.out.mono ?_
  rintro e w1 ⟨rfl, g1, g2, g3⟩
  have HF1 := hid g1
  have HU1 := hid (And.intro g2 g3)
  clear g1 g2 g3
  have H1 : Hid (Dsk w1 d) := H0.out.up HU1.out.1 fun g hg e => HFT.out g hg e
  obtain ⟨n, N⟩ : ∃ n, Hid (d.n = n) := ⟨_, rfl⟩
  obtain ⟨q, Qq⟩ : ∃ q, Hid (d.q = q) := ⟨_, rfl⟩
  obtain ⟨pa, PA⟩ : ∃ x, Hid (d.pa = x) := ⟨_, rfl⟩
  obtain ⟨pc, PC⟩ : ∃ x, Hid (d.pc = x) := ⟨_, rfl⟩
  obtain ⟨ps, PS⟩ : ∃ x, Hid (d.ps = x) := ⟨_, rfl⟩
  obtain ⟨pn, PN⟩ : ∃ x, Hid (ps.length = x) := ⟨_, rfl⟩
  obtain ⟨y0, Y0⟩ : ∃ x, Hid (d.slot s = x) := ⟨_, rfl⟩
  obtain ⟨cs, CS⟩ : ∃ x, Hid (vals y0 = x) := ⟨_, rfl⟩
  have HY : Hid (y0.length = 96) := by show _ = _; rw [← Y0.out]; exact slot_length H1.out HX.out.1
  have HCL : Hid (cs.length = 96) := by show _ = _; rw [← CS.out, vals_length]; exact HY.out
  have HI : Hid ((Try.prog.info? 114).map (·.size) = some cs.length) := by show _ = _; rw [HCL.out]; exact info_sec_size
  have HS : Hid (∀ W, Up (fun k => d.pv.ownBlock = some k) w1 W → W.cell? ⟨b, 2, none⟩ = some (.slice (some ⟨q, 0, none⟩) n n) ∧ W.rangeAt q (s * 96) cs) := fun W u => by
    have hb2 := (u.block _ H1.out.lt_b H1.out.pb).trans H1.out.head
    have hq2 : Up (fun k => d.pv.ownBlock = some k) w1 W := u
    rw [← B.out, ← Qq.out, ← N.out, ← CS.out, ← Y0.out]
    refine ⟨by simp [World.cell?, hb2], fun j v hv => ?_⟩
    rw [u.cell (p := ⟨d.q, s * 96 + j, none⟩) H1.out.lt_q H1.out.pq]
    exact H1.out.range HX.out.1 j v hv
  have hbd : ∀ W, (Instr.build 116 #[(0, .int .i64 s), (1, .agg cs.toArray)]).run Try.prog W = .ok (.agg (.int .i64 (s : Int) :: cs).toArray) W := fun W => by
    have := build_cov s cs.toArray (by simpa using HCL.out) W
    simpa using this
  obtain ⟨cp, CP⟩ : ∃ x, Hid ((.int .i64 (s : Int) :: cs).toArray = x) := ⟨_, rfl⟩
  rw [CP.out] at hbd
  have hbs : ∀ W, (Instr.buildSlice 78 1 #[(0, .agg cp)]).run Try.prog W = .ok (.slice (some ⟨W.heap.size, 0, none⟩) 1 1) (W.alloc (.cells cp 116)) := fun W => build_sl cp (by rw [← CP.out]; simpa using HCL.out) W
  have HCP : Hid (cp = (pcell (s, y0)).toArray) := by show _ = _; rw [← CP.out, ← CS.out]; rfl
  have HUA : Hid (Up Nul w1 (w1.drew.alloc (.cells cp 116))) := (Up.refl _ _).drew.alloc _
  have HO : Hid ((w1.drew.alloc (.cells cp 116)).ownsRow 0 116 97 (.slice pa pn pc) ps.length (pcells ps)) := by
    have := own_up H1.out.pend HUA.out fun _ _ => id
    unfold DK.pv at this
    rw [PS.out, PA.out, PC.out] at this
    show World.ownsRow _ _ _ _ _ _ _
    rw [← PN.out]
    exact this
  have HPV : Hid (d.pv = .slice pa pn pc) := by show _ = _; unfold DK.pv; rw [PS.out, PN.out, PA.out, PC.out]
  have HBK : Hid ((w1.drew.alloc (.cells cp 116)).heap[w1.heap.size]? = some (.cells (pcell (s, y0)).toArray 116 (0, 0))) := by
    show _ = _
    rw [← HCP.out]
    exact heap_alloc_new w1.drew _
  have HM : Hid (ps.length ≤ 900000) := by show _ ≤ _; have := HX.out.2.1; rw [PS.out] at this; omega
  have HGR : Hid (∀ v2 w2, w2.ownsRow 0 116 97 v2 (ps ++ [(s, y0)]).length (pcells (ps ++ [(s, y0)])) → (w1.drew.alloc (.cells cp 116)).grownBy w2 (Value.slice pa pn pc).ownBlock → (v2.ownBlock = (Value.slice pa pn pc).ownBlock ∨ v2.ownBlock = some (w1.drew.alloc (.cells cp 116)).heap.size) →
      ∃ pa2 pc2, v2 = .slice pa2 (pn + 1) pc2 ∧ Hid (Dsk (w2.setCell ⟨b, 3, none⟩ (.slice pa2 (pn + 1) pc2)) { d with pa := pa2, pc := pc2, ps := d.ps ++ [(s, d.slot s)] }) ∧ Hid (Up (fun k => d.pv.ownBlock = some k) w1 w2 ∧ w2.frozen? ⟨b, 3, none⟩ = false ∧ w2.cell? ⟨b, 3, none⟩ = some (.slice pa pn pc) ∧ ((w2.setCell ⟨b, 3, none⟩ (.slice pa2 (pn + 1) pc2)).cell? ⟨b, 2, none⟩ = some (.slice (some ⟨q, 0, none⟩) n n) ∧ (w2.setCell ⟨b, 3, none⟩ (.slice pa2 (pn + 1) pc2)).rangeAt q (s * 96) cs) ∧ (∀ g, (Value.slice pa2 (pn + 1) pc2).ownBlock = some g → d.pv.ownBlock = some g ∨ w1.heap.size ≤ g))) := by
    intro v2 w2 o2 gr wh
    have u2 : Up (fun k => d.pv.ownBlock = some k) w1 w2 := by
      refine ⟨gr.os.trans HUA.out.os, gr.tape.trans HUA.out.tape, gr.output.trans HUA.out.output, Nat.le_trans HUA.out.size gr.size, fun k hk hn => ?_⟩
      rw [gr.block k (Nat.lt_of_lt_of_le hk HUA.out.size) (fun e => hn (by rw [HPV.out]; exact e.symm)), HUA.out.block k hk id]
    obtain ⟨pa2, pc2, e, hd⟩ := H1.out.grow (s, d.slot s) ⟨HX.out.1, slot_length H1.out HX.out.1, fun x hx => by
      obtain ⟨i, hi, rfl⟩ := List.mem_iff_getElem.1 hx
      have := (H1.out.row HX.out.1).small i
      rwa [List.getD_eq_getElem?_getD, List.getElem?_eq_getElem hi] at this⟩ HX.out.2.1 v2 (by rw [PS.out, Y0.out]; exact o2) u2
    rw [PS.out, PN.out] at e
    subst e
    have u3 : Up (fun k => k = d.b ∨ d.pv.ownBlock = some k) w1 (w2.setCell ⟨b, 3, none⟩ (.slice pa2 (pn + 1) pc2)) := (u2.mono fun _ _ h => .inr h).put (.inl B.out.symm) 3 _
    refine ⟨_, _, rfl, by rw [← B.out]; exact hd, u2, ?_, ?_, ⟨?_, fun j v hv => ?_⟩, fun g hg => ?_⟩
    · rw [u2.froz (p := ⟨b, 3, none⟩) (by rw [← B.out]; exact H1.out.lt_b) (by rw [← B.out]; exact H1.out.pb), ← B.out]
      exact H1.out.fr 3
    · rw [u2.cell (p := ⟨b, 3, none⟩) (by rw [← B.out]; exact H1.out.lt_b) (by rw [← B.out]; exact H1.out.pb)]
      have := H1.out.c3
      rw [PS.out, PN.out, PA.out, PC.out, B.out] at this
      exact this
    · rw [World.cell?_setCell_other _ _ _ _ (by simp)]
      exact (HS.out w2 u2).1
    · rw [World.cell?_setCell_other _ _ _ _ (by simp; intro e; exact absurd (by rw [← B.out, ← Qq.out] at e; exact e) H1.out.bq)]
      exact (HS.out w2 u2).2 j v hv
    · rcases wh with wh | wh
      · left
        rw [HPV.out, ← wh]
        exact hg
      · right
        rw [wh] at hg
        injection hg with hg
        have := HUA.out.size
        omega
  have y3 : w1.cell? ⟨b, 3, none⟩ = some (.slice pa pn pc) := by
    have := H1.out.c3
    rw [PS.out, PN.out, PA.out, PC.out, B.out] at this
    exact this
  have z3 : (w1.drew.alloc (.cells cp 116)).cell? ⟨b, 3, none⟩ = some (.slice pa pn pc) := by
    rw [HUA.out.cell (p := ⟨b, 3, none⟩) (by rw [← B.out]; exact H1.out.lt_b) id]
    exact y3
  have z4 : (w1.alloc (.cells cp 116)).cell? ⟨b, 3, none⟩ = some (.slice pa pn pc) := z3
  have i1 : (s : Int) < (n : Int) := by have := HX.out.1; rw [N.out] at this; omega
  have HEND : Hid (∀ w2 pa2 pc2, Dsk (w2.setCell ⟨b, 3, none⟩ (.slice pa2 (pn + 1) pc2)) { d with pa := pa2, pc := pc2, ps := d.ps ++ [(s, d.slot s)] } → Up (fun k => d.pv.ownBlock = some k) w1 w2 → (∀ g, (Value.slice pa2 (pn + 1) pc2).ownBlock = some g → d.pv.ownBlock = some g ∨ w1.heap.size ≤ g) →
      ∃ w4, (Builtin.copy_ #[47, 47] 3 #[.slice (some ⟨q, s * 96, none⟩) 96 96, .slice a 96 cap]).run Try.prog (w2.setCell ⟨b, 3, none⟩ (.slice pa2 (pn + 1) pc2)) = .ok (.int .i64 96) w4 ∧ Hid (FzO w4 d.fu (less k) ∧ ∃ d', Put w0 d s y w4 d')) := by
    intro w2 pa2 pc2 h3 u2 hg
    have ha2 : ∀ v, (Up (fun k => d.foot k ∨ d.fu = some k) w0 (w2.setCell ⟨b, 3, none⟩ v)) := fun v =>
      (((HU1.out.1.mono fun _ _ e => .inr e).trans (u2.mono fun _ _ e => .inl (.inr (.inr e)))).put (.inl (.inl B.out.symm)) 3 v)
    have u3 := ha2 (.slice pa2 (pn + 1) pc2)
    have hf3 : FzO (w2.setCell ⟨b, 3, none⟩ (.slice pa2 (pn + 1) pc2)) d.fu (less k) := by
      refine (HF1.out.up u2 fun f e1 e2 => HFT.out f (.inr (.inr e2)) e1).up ((Up.refl (One b) _).put rfl 3 _) fun f e1 e2 => HFT.out f (.inl ?_) e1
      unfold One at e2
      rw [e2, B.out]
    have hsl : SlN (w2.setCell ⟨b, 3, none⟩ (.slice pa2 (pn + 1) pc2)) a 96 y := by
      refine ⟨HX.out.2.2.1.len, ?_, HX.out.2.2.1.le⟩
      rcases HX.out.2.2.1.row with e | ⟨b', o', e, hb', r⟩
      · exact .inl e
      · have := HX.out.2.2.2.1 _ e
        exact .inr ⟨b', o', e, Nat.lt_of_lt_of_le hb' u3.size, r.up u3 hb' fun hc => hc.elim this.1 this.2⟩
    obtain ⟨w4, hrun, h4, u4⟩ := run_copy_slot _ 3 _ h3 (s * 96) 96 96 96 a cap y hsl rfl (by show s * 96 + 96 ≤ d.n * 96; have := HX.out.1; omega)
    have hrun : (Builtin.copy_ #[47, 47] 3 #[.slice (some ⟨d.q, s * 96, none⟩) 96 96, .slice a 96 cap]).run Try.prog (w2.setCell ⟨b, 3, none⟩ (.slice pa2 (pn + 1) pc2)) = .ok (goInt 96) w4 := hrun
    rw [Qq.out] at hrun
    refine ⟨w4, hrun, hf3.up u4 fun f e1 e2 => HFT.out f (.inr (.inl e2)) e1, _, h4, ⟨_, _, rfl⟩, fun g hk => ?_, u3.trans (u4.mono fun g _ e => .inl (.inr (.inl e)))⟩
    rcases hk with hk | hk | hk
    · exact .inl (.inl hk)
    · exact .inl (.inr (.inl hk))
    · have hk : (Value.slice pa2 (d.ps ++ [(s, d.slot s)]).length pc2).ownBlock = some g := hk
      rcases hg g (by cases pa2 <;> exact hk) with e | e
      · exact .inl (.inr (.inr e))
      · exact .inr (Nat.le_trans HU1.out.1.size e)
  clear c0 c1
  go_wp2_with fail
  refine wp_region_held_drew (S := fun W => W.cell? ⟨b, 2, none⟩ = some (.slice (some ⟨q, 0, none⟩) n n) ∧ W.rangeAt q (s * 96) cs) (by kernel_rfl) (by exact HS.out _ (Up.refl _ _).drew) (fun hHeld => ?_)
  refine wpAnyH_take (i := 0) (oi := ⟨some 26, _, _, _, _, _⟩) (v := ?vw0) rfl (by kernel_rfl) (by kernel_rfl) (by kernel_rfl) (fun _ _ _ h => h) (Or.inl ⟨by rfl, ?yw0⟩) (by assumption) ?rw0
  case yw0 => (intro w hSw; (try dsimp only at hSw); go_simp; try with_reducible rfl)
  try simp only [Act.put, List.setIfInBounds_toArray, List.set_cons_zero, List.set_cons_succ]
  refine wpAnyH_take (i := 1) (oi := ⟨some 27, _, _, _, _, _⟩) (v := ?vw1) rfl (by kernel_rfl) (by kernel_rfl) (by kernel_rfl) (fun _ _ _ h => h) (Or.inl ⟨by rfl, ?yw1⟩) (by assumption) ?rw1
  case yw1 => (intro w hSw; (try dsimp only at hSw); go_simp; try with_reducible rfl)
  try simp only [Act.put, List.setIfInBounds_toArray, List.set_cons_zero, List.set_cons_succ]
  refine wpAnyH_take (i := 2) (oi := ⟨some 28, _, _, _, _, _⟩) (v := ?vw2) rfl (by kernel_rfl) (by kernel_rfl) (by kernel_rfl) (fun _ _ _ h => h) (Or.inl ⟨by rfl, ?yw2⟩) (by assumption) ?rw2
  case yw2 => (intro w hSw; (try dsimp only at hSw); go_simp; try with_reducible rfl)
  try simp only [Act.put, List.setIfInBounds_toArray, List.set_cons_zero, List.set_cons_succ]
  refine wpAnyH_take (i := 3) (oi := ⟨some 29, _, _, _, _, _⟩) (v := ?vw3) rfl (by kernel_rfl) (by kernel_rfl) (by kernel_rfl) (fun _ _ _ h => h) (Or.inl ⟨by rfl, ?yw3⟩) (by assumption) ?rw3
  case yw3 => (intro w hSw; (try dsimp only at hSw); go_simp; try with_reducible rfl)
  try simp only [Act.put, List.setIfInBounds_toArray, List.set_cons_zero, List.set_cons_succ]
  refine wpAnyH_take (i := 5) (oi := ⟨some 31, _, _, _, _, _⟩) (v := ?vw5) rfl (by kernel_rfl) (by kernel_rfl) (by kernel_rfl) (fun _ _ _ h => h) (Or.inl ⟨by rfl, ?yw5⟩) (by assumption) ?rw5
  case yw5 => (intro w hSw; (try dsimp only at hSw); go_simp; try with_reducible rfl)
  try simp only [Act.put, List.setIfInBounds_toArray, List.set_cons_zero, List.set_cons_succ]
  refine wpAnyH_take (i := 6) (oi := ⟨some 32, _, _, _, _, _⟩) (v := ?vw6) rfl (by kernel_rfl) (by kernel_rfl) (by kernel_rfl) (fun _ _ _ h => h) (Or.inl ⟨by rfl, ?yw6⟩) (by assumption) ?rw6
  case yw6 => (intro w hSw; (try dsimp only at hSw); go_simp; try with_reducible rfl)
  try simp only [Act.put, List.setIfInBounds_toArray, List.set_cons_zero, List.set_cons_succ]
  refine wpAnyH_take (i := 7) (oi := ⟨some 33, _, _, _, _, _⟩) (v := ?vw7) rfl (by kernel_rfl) (by kernel_rfl) (by kernel_rfl) (fun _ _ _ h => h) (Or.inl ⟨by rfl, ?yw7⟩) (by assumption) ?rw7
  case yw7 => (intro w hSw; (try dsimp only at hSw); go_simp; try with_reducible rfl)
  try simp only [Act.put, List.setIfInBounds_toArray, List.set_cons_zero, List.set_cons_succ]
  refine wpAnyH_take (i := 8) (oi := ⟨some 34, _, _, _, _, _⟩) (v := ?vw8) rfl (by kernel_rfl) (by kernel_rfl) (by kernel_rfl) (fun _ _ _ h => h) (Or.inl ⟨by rfl, ?yw8⟩) (by assumption) ?rw8
  case yw8 => (intro w hSw; (try dsimp only at hSw); go_simp; try with_reducible rfl)
  try simp only [Act.put, List.setIfInBounds_toArray, List.set_cons_zero, List.set_cons_succ]
  refine wpAnyH_take (i := 9) (oi := ⟨some 35, _, _, _, _, _⟩) (v := ?vw9) rfl (by kernel_rfl) (by kernel_rfl) (by kernel_rfl) (fun _ _ _ h => h) (Or.inl ⟨by rfl, ?yw9⟩) (by assumption) ?rw9
  case yw9 => (intro w hSw; (try dsimp only at hSw); go_simp; try with_reducible rfl)
  try simp only [Act.put, List.setIfInBounds_toArray, List.set_cons_zero, List.set_cons_succ]
  refine wpAnyH_take (i := 10) (oi := ⟨some 36, _, _, _, _, _⟩) (v := ?vw10) rfl (by kernel_rfl) (by kernel_rfl) (by kernel_rfl) (fun _ _ _ h => h) (Or.inl ⟨by rfl, ?yw10⟩) (by assumption) ?rw10
  case yw10 => (intro w hSw; (try dsimp only at hSw); go_simp; try with_reducible rfl)
  try simp only [Act.put, List.setIfInBounds_toArray, List.set_cons_zero, List.set_cons_succ]
  refine wpAnyH_take (i := 11) (oi := ⟨some 37, _, _, _, _, _⟩) (v := ?vw11) rfl (by kernel_rfl) (by kernel_rfl) (by kernel_rfl) (fun _ _ _ h => h) (Or.inl ⟨by rfl, ?yw11⟩) (by assumption) ?rw11
  case yw11 => (intro w hSw; (try dsimp only at hSw); go_simp; try with_reducible rfl)
  try simp only [Act.put, List.setIfInBounds_toArray, List.set_cons_zero, List.set_cons_succ]
  refine wpAnyH_take (i := 12) (oi := ⟨some 38, _, _, _, _, _⟩) (v := .agg cs.toArray) rfl (by kernel_rfl) (by kernel_rfl) (by kernel_rfl) (fun _ _ _ h => h) (yieldsIf_load_mid (by rfl) 114 (.tmp 37) rfl q (s * 96) (by first | rfl | simp [Act.eval]) cs _ (fun W h => h.2) Try.underlying114 rfl HI.out) (by assumption) ?rw12
  try simp only [Act.put, List.setIfInBounds_toArray, List.set_cons_zero, List.set_cons_succ]
  refine wpAnyH_take (i := 13) (oi := ⟨some 39, _, _, _, _, _⟩) (v := .agg cp) rfl (by kernel_rfl) (by kernel_rfl) (by kernel_rfl) (fun _ _ _ h => h) (Or.inl ⟨by rfl, fun W hSW => exec_build _ _ _ _ rfl #[(0, .int .i64 s), (1, .agg cs.toArray)] (by simp [Act.eval]) _ W (hbd W)⟩) (by assumption) ?rw13
  try simp only [Act.put, List.setIfInBounds_toArray, List.set_cons_zero, List.set_cons_succ]
  refine wpAnyH_ready (rs := [4, 14]) (by kernel_rfl) (by simp) ?_
  refine AllReadyH.cons (o := ⟨some 30, _, _, _, _, _⟩) rfl (fun K hK => ?_) (AllReadyH.cons (o := ⟨some 40, _, _, _, _, _⟩) rfl (fun K hK => ?_) AllReadyH.nil)
  · go_simp
    refine hK.out _ _ ?kla (fun hHeld => ?_)
    case kla => exact HS.out _ (Up.refl _ _).drew
    clear hK K
    try simp only [Act.put, List.setIfInBounds_toArray, List.set_cons_zero, List.set_cons_succ]
    refine wpAnyH_ready (rs := [14]) (by kernel_rfl) (by simp) ?_
    refine AllReadyH.cons (o := ⟨some 40, _, _, _, _, _⟩) rfl (fun K hK => ?_) AllReadyH.nil
    refine wp_exec (exec_slice _ _ _ _ _ rfl #[(0, .agg cp)] (by simp [Act.eval]) _ _ _ (hbs _)) ?_
    refine hK.out _ _ ?ksa (fun hHeld => ?_)
    case ksa => exact HS.out _ ((Up.refl _ _).drew.alloc _)
    clear hK K
    try simp only [Act.put, List.setIfInBounds_toArray, List.set_cons_zero, List.set_cons_succ]
    refine wpAnyH_ready (rs := [15]) (by kernel_rfl) (by simp) ?_
    refine AllReadyH.cons (o := ⟨some 41, _, _, _, _, _⟩) rfl (fun K hK => ?_) AllReadyH.nil
    refine wp_append_cov _ _ rfl (.slice pa pn pc) ps rfl HO.out w1.heap.size (s, y0) rfl HBK.out HY.out HM.out ?_
    intro v2 w2 O2 G2 W2
    obtain ⟨pa2, pc2, rfl, HD2, HF2⟩ := HGR.out v2 w2 O2.out G2.out W2.out
    refine hK.out _ _ ?kap (fun hHeld => ?_)
    case kap => exact HS.out _ HF2.out.1
    clear hK K
    try simp only [Act.put, List.setIfInBounds_toArray, List.set_cons_zero, List.set_cons_succ]
    refine wpAnyH_take (i := 16) (oi := ⟨some 42, _, _, _, _, _⟩) (v := ?vw16a) rfl (by kernel_rfl) (by kernel_rfl) (by kernel_rfl) (fun _ _ _ h => h) (Or.inl ⟨by rfl, ?yw16a⟩) (by assumption) ?rw16a
    case yw16a => (intro w hSw; (try dsimp only at hSw); go_simp; try with_reducible rfl)
    try simp only [Act.put, List.setIfInBounds_toArray, List.set_cons_zero, List.set_cons_succ]
    refine wpAnyH_take (i := 17) (oi := ⟨some 43, _, _, _, _, _⟩) (v := ?vw17a) rfl (by kernel_rfl) (by kernel_rfl) (by kernel_rfl) (fun _ _ _ h => h) (Or.inl ⟨by rfl, ?yw17a⟩) (by assumption) ?rw17a
    case yw17a => (intro w hSw; (try dsimp only at hSw); go_simp; try with_reducible rfl)
    try simp only [Act.put, List.setIfInBounds_toArray, List.set_cons_zero, List.set_cons_succ]
    have x3 := HF2.out.2.2.1
    have f3 := HF2.out.2.1
    refine wpAnyH_ready (rs := [18]) (by kernel_rfl) (by simp) ?_
    refine AllReadyH.cons (o := ⟨none, _, _, _, _, _⟩) rfl (fun K hK => ?_) AllReadyH.nil
    go_simp
    refine hK.out _ _ ?kas (fun hHeld => ?_)
    case kas => exact HF2.out.2.2.2.1
    clear hK K
    try simp only [Act.put, List.setIfInBounds_toArray, List.set_cons_zero, List.set_cons_succ]
    refine wpAnyH_done (by kernel_rfl) ?_ _
    clear HGR HS HO HBK hbs hbd
    obtain ⟨w4, hcp, HQ4⟩ := HEND.out w2 pa2 pc2 HD2.out HF2.out.1 HF2.out.2.2.2.2
    have c2' := HF2.out.2.2.2.1.1
    generalize w2.setCell ⟨b, 3, none⟩ (.slice pa2 (pn + 1) pc2) = w3 at hcp c2' ⊢
    clear HEND HD2 HF2
    go_wp2
    go_ret
    exact ⟨rfl, HQ4.out⟩
  · refine wp_exec (exec_slice _ _ _ _ _ rfl #[(0, .agg cp)] (by simp [Act.eval]) _ _ _ (hbs _)) ?_
    refine hK.out _ _ ?ksb (fun hHeld => ?_)
    case ksb => exact HS.out _ ((Up.refl _ _).drew.alloc _)
    clear hK K
    try simp only [Act.put, List.setIfInBounds_toArray, List.set_cons_zero, List.set_cons_succ]
    refine wpAnyH_ready (rs := [4]) (by kernel_rfl) (by simp) ?_
    refine AllReadyH.cons (o := ⟨some 30, _, _, _, _, _⟩) rfl (fun K hK => ?_) AllReadyH.nil
    go_simp
    refine hK.out _ _ ?klb (fun hHeld => ?_)
    case klb => exact HS.out _ ((Up.refl _ _).drew.alloc _)
    clear hK K
    try simp only [Act.put, List.setIfInBounds_toArray, List.set_cons_zero, List.set_cons_succ]
    refine wpAnyH_ready (rs := [15]) (by kernel_rfl) (by simp) ?_
    refine AllReadyH.cons (o := ⟨some 41, _, _, _, _, _⟩) rfl (fun K hK => ?_) AllReadyH.nil
    refine wp_append_cov _ _ rfl (.slice pa pn pc) ps rfl HO.out w1.heap.size (s, y0) rfl HBK.out HY.out HM.out ?_
    intro v2 w2 O2 G2 W2
    obtain ⟨pa2, pc2, rfl, HD2, HF2⟩ := HGR.out v2 w2 O2.out G2.out W2.out
    refine hK.out _ _ ?kbp (fun hHeld => ?_)
    case kbp => exact HS.out _ HF2.out.1
    clear hK K
    try simp only [Act.put, List.setIfInBounds_toArray, List.set_cons_zero, List.set_cons_succ]
    refine wpAnyH_take (i := 16) (oi := ⟨some 42, _, _, _, _, _⟩) (v := ?vw16b) rfl (by kernel_rfl) (by kernel_rfl) (by kernel_rfl) (fun _ _ _ h => h) (Or.inl ⟨by rfl, ?yw16b⟩) (by assumption) ?rw16b
    case yw16b => (intro w hSw; (try dsimp only at hSw); go_simp; try with_reducible rfl)
    try simp only [Act.put, List.setIfInBounds_toArray, List.set_cons_zero, List.set_cons_succ]
    refine wpAnyH_take (i := 17) (oi := ⟨some 43, _, _, _, _, _⟩) (v := ?vw17b) rfl (by kernel_rfl) (by kernel_rfl) (by kernel_rfl) (fun _ _ _ h => h) (Or.inl ⟨by rfl, ?yw17b⟩) (by assumption) ?rw17b
    case yw17b => (intro w hSw; (try dsimp only at hSw); go_simp; try with_reducible rfl)
    try simp only [Act.put, List.setIfInBounds_toArray, List.set_cons_zero, List.set_cons_succ]
    have x3 := HF2.out.2.2.1
    have f3 := HF2.out.2.1
    refine wpAnyH_ready (rs := [18]) (by kernel_rfl) (by simp) ?_
    refine AllReadyH.cons (o := ⟨none, _, _, _, _, _⟩) rfl (fun K hK => ?_) AllReadyH.nil
    go_simp
    refine hK.out _ _ ?kbs (fun hHeld => ?_)
    case kbs => exact HF2.out.2.2.2.1
    clear hK K
    try simp only [Act.put, List.setIfInBounds_toArray, List.set_cons_zero, List.set_cons_succ]
    refine wpAnyH_done (by kernel_rfl) ?_ _
    clear HGR HS HO HBK hbs hbd
    obtain ⟨w4, hcp, HQ4⟩ := HEND.out w2 pa2 pc2 HD2.out HF2.out.1 HF2.out.2.2.2.2
    have c2' := HF2.out.2.2.2.1.1
    generalize w2.setCell ⟨b, 3, none⟩ (.slice pa2 (pn + 1) pc2) = w3 at hcp c2' ⊢
    clear HEND HD2 HF2
    go_wp2
    go_ret
    exact ⟨rfl, HQ4.out⟩

theorem Up.trans' {S : Nat → Prop} {u v w : World} (h : Up Nul u v) (k : Up S v w) : Up S u w := h.nul.trans k
/-- A pending write taken back, but its first t bytes. -/
def und (p : Nat × List Nat) (t : Nat) (z : List Nat) : List Nat := over z (p.1 * 96 + t) (p.2.drop t)
/-- The slots, n of the pending writes taken back, the last ones first. -/
def crs (ps : List (Nat × List Nat)) (keep torn : Nat) (z : List Nat) : Nat → List Nat
  | 0 => z
  | n + 1 => und (ps.getD (ps.length - 1 - n) (0, [])) (if ps.length - 1 - n = keep then torn else 0) (crs ps keep torn z n)
/-- The slots behind a crash. -/
def crash (ps : List (Nat × List Nat)) (keep torn : Nat) (z : List Nat) : List Nat := crs ps keep torn z (ps.length - keep)
theorem pcells_at : ∀ (ps : List (Nat × List Nat)) (hp : ∀ p ∈ ps, p.2.length = 96) (m : Nat) (hm : m < ps.length) (j : Nat) (hj : j < 97), (pcells ps)[m * 97 + j]? = (pcell (ps.getD m (0, [])))[j]?
  | [], _, m, hm, _, _ => absurd hm (Nat.not_lt_zero _)
  | p :: ps, hp, m, hm, j, hj => by
    have hl := pcell_length p (hp p (List.mem_cons_self ..))
    have e : pcells (p :: ps) = pcell p ++ pcells ps := by simp [pcells]
    rw [e]
    rcases m with _ | m
    · rw [List.getElem?_append_left (by omega)]
      simp
    · rw [List.getElem?_append_right (by omega), hl, show (m + 1) * 97 + j - 97 = m * 97 + j by omega, pcells_at ps (fun p h => hp p (List.mem_cons_of_mem _ h)) m (by simpa using hm) j hj]
      simp
/-- A pending write in memory. -/
theorem Dsk.pend_at {w : World} {d : DK} (h : Dsk w d) {m : Nat} (hm : m < d.ps.length) : ∃ g, d.pa = some ⟨g, 0, none⟩ ∧ g < w.heap.size ∧ d.pv.ownBlock = some g ∧ w.rangeAt g (m * 97) (pcell (d.ps.getD m (0, []))) := by
  rcases h.pend.2 with ⟨_, e⟩ | ⟨g, cap, cur, e, _, hg, hnc, hcm, hcs, htake⟩
  · omega
  · have e1 : d.pa = some ⟨g, 0, none⟩ := by
      unfold DK.pv at e
      injection e
    refine ⟨g, e1, (Array.getElem?_eq_some_iff.1 hg).1, by rw [e]; rfl, fun j v hv => ?_⟩
    have hgood : ∀ p ∈ d.ps, p.2.length = 96 := fun p hp => (h.good p hp).2.1
    have hpl : (pcell (d.ps.getD m (0, []))).length = 97 := by
      refine pcell_length _ ?_
      rw [List.getD_eq_getElem?_getD, List.getElem?_eq_getElem hm]
      exact hgood _ (List.getElem_mem hm)
    have hj : j < 97 := by
      rcases Nat.lt_or_ge j 97 with h | h
      · exact h
      · rw [List.getElem?_eq_none (by omega)] at hv; cases hv
    rw [← pcells_at d.ps hgood m hm j hj, ← htake, List.getElem?_take] at hv
    split at hv
    · simp only [World.cell?, hg]
      simpa using hv
    · cases hv
theorem good_at {w : World} {d : DK} (h : Dsk w d) {m : Nat} (hm : m < d.ps.length) : (d.ps.getD m (0, [])).1 < d.n ∧ (d.ps.getD m (0, [])).2.length = 96 ∧ ∀ x ∈ (d.ps.getD m (0, [])).2, x < 256 := by
  rw [List.getD_eq_getElem?_getD, List.getElem?_eq_getElem hm]
  exact h.good _ (List.getElem_mem hm)
theorem zero_cov : ∃ Z : Array Value, Z.size = 97 ∧ ∀ W, (zeroValue 116).run Try.prog W = .ok (.agg Z) W := by
  have h : (Try.prog.info? 116).map (fun i => i.zero.map fun z => match z with | .agg Z => some Z.size | _ => none) = some (some (some 97)) := by kernel_rfl
  cases e : Try.prog.info? 116 with
  | none => rw [e] at h; cases h
  | some i =>
    rw [e] at h
    simp only [Option.map_some, Option.some.injEq, Option.map_eq_some_iff] at h
    obtain ⟨z, h1, h2⟩ := h
    cases z with
    | agg Z => exact ⟨Z, by simpa using h2, fun W => by simp [zeroValue, typeInfo, e, h1]⟩
    | _ => simp at h2
theorem over_nil (z : List Nat) (o : Nat) : over z o [] = z := by simp [over]
theorem crash_step {wr : World} {d : DK} (h : Dsk wr d) (s t : Nat) (zz : List Nat) (hs : s < d.n) (hz : zz.length = 96) (h8 : ∀ x ∈ zz, x < 256) (ht : t ≤ 96) (a : Addr) (o : Nat) (ha : t < 96 → a = ⟨wr.heap.size, 1 + t, none⟩ ∧ o = s * 96 + t) (ho : o ≤ s * 96 + t) :
    ∃ w4, (Builtin.copy_ #[47, 47] 3 #[.slice (some ⟨d.q, o, none⟩) (96 - t) (96 - t), .slice (some a) (96 - t) (96 - t)]).run Try.prog (wr.alloc (.cells (pcell (s, zz)).toArray 116)).drew = .ok (goInt (96 - t : Nat)) w4 ∧ Dsk w4 { d with z := und (s, zz) t d.z } ∧ Up (One d.q) wr w4 := by
  have u : Up Nul wr (wr.alloc (.cells (pcell (s, zz)).toArray 116)).drew := ((Up.refl Nul wr).alloc _).drew
  have hd := h.nxt u
  have hl : (zz.drop t).length = 96 - t := by simp [hz]
  have hsl : SlN (wr.alloc (.cells (pcell (s, zz)).toArray 116)).drew (some a) (96 - t) (zz.drop t) := by
    refine ⟨hl, ?_, by omega⟩
    rcases Nat.lt_or_ge t 96 with e | e
    · refine .inr ⟨wr.heap.size, 1 + t, by rw [(ha e).1], by simp, fun i hi => ?_, fun i => ?_⟩
      · rw [hl] at hi
        show (wr.alloc _).cell? _ = _
        rw [World.cell?_alloc_new, Nat.add_assoc, Nat.add_comm 1 (t + i)]
        simp only [pcell, vals, List.getElem?_toArray, List.getElem?_cons_succ, List.getElem?_map]
        rw [List.getElem?_eq_getElem (by omega)]
        simp [List.getD_eq_getElem?_getD, List.getElem?_drop, List.getElem?_eq_getElem (show t + i < zz.length by omega)]
      · have := small_getD h8 (t + i)
        simpa [List.getD_eq_getElem?_getD, List.getElem?_drop] using this
    · exact .inl (by omega)
  obtain ⟨w4, h1, h2, h3⟩ := run_copy_slot _ 3 d hd o (96 - t) (96 - t) (96 - t) (some a) (96 - t) (zz.drop t) hsl (Nat.min_self _) (by omega)
  refine ⟨w4, h1, ?_, u.trans' h3⟩
  have e : over d.z o (zz.drop t) = und (s, zz) t d.z := by
    unfold und
    rcases Nat.lt_or_ge t 96 with e | e
    · rw [(ha e).2]
    · rw [List.drop_eq_nil_of_le (by omega), over_nil, over_nil]
  rw [← e]
  exact h2
theorem wpList_store_new {ops : Array Oper} {rest : List Oper} {op : Oper} {a : Act} {w : World} {Q : Exit → Act → World → Prop} (hgd : op.guard = none) (ty : TypeId) (x y : Operand) (ho : op.op = .store ty x y) (c c' : Array Value) (hx : a.eval x = .pointer (some ⟨w.heap.size, 0, none⟩)) (hy : a.eval y = .agg c')
    (hi : (Try.prog.info? ty).map (·.size) = some c'.size) (hs : c.size = c'.size) (h1 : c'.all (·.oneCell') = true)
    (h : wpList Try.prog ops Q rest (a.put op.dst undef) (w.alloc (.cells c' ty))) : wpList Try.prog ops Q (op :: rest) a (w.alloc (.cells c ty)) :=
  wpList_plain hgd fun _ hK => by
    unfold Oper.wp execOp
    simp only [ho, hx, hy, Sem.run_bind, run_storeAt_new (P := Try.prog) w ty c c' hi hs h1, Result.andThen_ok]
    exact hK _ _ h

/-- Blocks whose type is not among D are as they were. -/
structure Ks (D : TypeId → Prop) (w w' : World) : Prop where
  size : w.heap.size ≤ w'.heap.size
  kept : ∀ (g : Nat) (A : Array Value) (T : TypeId) (fr : Nat × Nat), w.heap[g]? = some (Obj.cells A T fr) → ¬ D T → w'.heap[g]? = some (Obj.cells A T fr)
theorem Ks.refl (D : TypeId → Prop) (w : World) : Ks D w w := ⟨Nat.le_refl _, fun _ _ _ _ h _ => h⟩
theorem Ks.trans {D : TypeId → Prop} {u v w : World} (h : Ks D u v) (k : Ks D v w) : Ks D u w := ⟨Nat.le_trans h.size k.size, fun g A T fr e d => k.kept g A T fr (h.kept g A T fr e d) d⟩
theorem Ks.mono {D E : TypeId → Prop} {w w' : World} (h : Ks D w w') (hd : ∀ t, D t → E t) : Ks E w w' := ⟨h.size, fun g A T fr e d => h.kept g A T fr e fun x => d (hd T x)⟩
theorem Ks.nul {D : TypeId → Prop} {w w' : World} (h : Up Nul w w') : Ks D w w' := ⟨h.size, fun g A T fr e _ => (h.block g (Array.getElem?_eq_some_iff.1 e).1 id).trans e⟩
theorem Ks.blk {D : TypeId → Prop} {w w' : World} (h : Ks D w w') (hd : ¬ D 5) {g : Nat} {z : List Nat} (b : Blk w g z) : Blk w' g z := ⟨h.kept g _ _ _ b.heap hd, b.small⟩
/-- The types of a Disk's blocks. -/
def DD (t : TypeId) : Prop := t = 80 ∨ t = 114 ∨ t = 116 ∨ t = 82
theorem dd_byte : ¬ DD 5 := by unfold DD; decide
theorem Dsk.ty {w : World} {d : DK} (h : Dsk w d) {k : Nat} (hk : d.foot k) : ∃ (A : Array Value) (T : TypeId), w.heap[k]? = some (Obj.cells A T (0, 0)) ∧ DD T ∧ T ≠ 82 := by
  rcases hk with rfl | rfl | hk
  · exact ⟨_, _, h.head, .inl rfl, by decide⟩
  · exact ⟨_, _, h.rows, .inr (.inl rfl), by decide⟩
  · obtain ⟨cur, e⟩ := h.pend_row hk
    exact ⟨_, _, e, .inr (.inr (.inl rfl)), by decide⟩
theorem Dsk.ks {D : TypeId → Prop} {w w' : World} {d : DK} (h : Dsk w d) (k : Ks D w w') (hd : ∀ t, DD t → ¬ D t) : Dsk w' d := by
  refine ⟨k.kept _ _ _ _ h.head (hd _ (.inl rfl)), k.kept _ _ _ _ h.rows (hd _ (.inr (.inl rfl))), h.small, h.len, h.le, ⟨h.pend.1, ?_⟩, h.good, h.most⟩
  rcases h.pend.2 with hn | ⟨g, cap, cur, h1, h2, h3, h4⟩
  · exact .inl hn
  · exact .inr ⟨g, cap, cur, h1, h2, k.kept _ _ _ _ h3 (hd _ (.inr (.inr (.inl rfl)))), h4⟩
theorem ks_foot {S : Nat → Prop} {w w' : World} (u : Up S w w') (hs : ∀ g, S g → g < w.heap.size → ∃ (A : Array Value) (T : TypeId), w.heap[g]? = some (Obj.cells A T (0, 0)) ∧ DD T) : Ks DD w w' := ⟨u.size, fun g A T fr e d => by
  by_cases h : S g
  · obtain ⟨A', T', e', d'⟩ := hs g h (Array.getElem?_eq_some_iff.1 e).1
    rw [e] at e'
    injection e' with e'
    injection e' with _ e' _
    exact absurd (e' ▸ d') d
  · exact (u.block g (Array.getElem?_eq_some_iff.1 e).1 h).trans e⟩
/-- A Disk and its Fuse, all new since w0. -/
structure H (w0 w : World) (b n : Nat) (fu k : Option Nat) (live : Bool) (R : Nat → List Nat) (ps : List (Nat × List Nat)) : Prop where
  ex : ∃ d, Dsk w d ∧ d.b = b ∧ d.n = n ∧ d.fu = fu ∧ d.live = live ∧ d.ps = ps ∧ (∀ s, s < n → d.slot s = R s) ∧ ∀ g, d.foot g → w0.heap.size ≤ g
  fz : FzO w fu k
  fnew : ∀ f, fu = some f → w0.heap.size ≤ f
theorem FzO.ks {D : TypeId → Prop} {w w' : World} {fu k : Option Nat} (h : FzO w fu k) (e : Ks D w w') (hd : ∀ t, DD t → ¬ D t) : FzO w' fu k := by
  cases fu with
  | none => exact h
  | some f =>
    have h : Fz w f k := h
    exact ⟨e.kept _ _ _ _ h.heap (hd _ (.inr (.inr (.inr rfl)))), h.le⟩
theorem H.ks {D : TypeId → Prop} {w0 w w' : World} {b n : Nat} {fu k : Option Nat} {live : Bool} {R : Nat → List Nat} {ps : List (Nat × List Nat)} (h : H w0 w b n fu k live R ps) (e : Ks D w w') (hd : ∀ t, DD t → ¬ D t) : H w0 w' b n fu k live R ps := by
  obtain ⟨d, h1, h2⟩ := h.ex
  exact ⟨⟨d, h1.ks e hd, h2⟩, h.fz.ks e hd, h.fnew⟩
theorem H.nxt {w0 w w' : World} {b n : Nat} {fu k : Option Nat} {live : Bool} {R : Nat → List Nat} {ps : List (Nat × List Nat)} (h : H w0 w b n fu k live R ps) (u : Up Nul w w') : H w0 w' b n fu k live R ps :=
  h.ks (D := fun _ => False) (.nul u) fun _ _ => id
/-- Where a law stands: nothing that was there at its beginning turns. -/
def At (w0 w : World) : Prop := Up Nul w0 w
theorem At.foot {S : Nat → Prop} {w0 w w' : World} (h : Up Nul w0 w) (u : Up S w w') (hs : ∀ g, S g → w0.heap.size ≤ g) : Up Nul w0 w' := h.newer u fun i hi e => by have := hs i e; omega
/-- One slot is another. -/
def upd (R : Nat → List Nat) (s : Nat) (y : List Nat) (t : Nat) : List Nat := if t = s then y else R t
theorem over_slot {z y : List Nat} {s t : Nat} (hy : y.length = 96) (hs : (s + 1) * 96 ≤ z.length) (ht : (t + 1) * 96 ≤ z.length) : ((over z (s * 96) y).drop (t * 96)).take 96 = if t = s then y else (z.drop (t * 96)).take 96 := by
  have hl : (over z (s * 96) y).length = z.length := over_length (by omega)
  apply ext_getD
  · split
    · rw [List.length_take, List.length_drop, hl, hy]; omega
    · rw [List.length_take, List.length_drop, hl, List.length_take, List.length_drop]
  · intro i hi
    have hi : i < 96 := by
      rw [List.length_take] at hi
      omega
    rw [getD_part _ _ _ _ hi, over_at (by omega)]
    by_cases e : t = s
    · subst e
      rw [if_pos rfl, if_pos (by omega), show t * 96 + i - t * 96 = i by omega]
    · rw [if_neg e, if_neg (by omega), getD_part _ _ _ _ hi]
/-- What lies there behind a write. -/
theorem slot_put {w : World} {d : DK} (h : Dsk w d) {s t : Nat} (y : List Nat) (pa : Option Addr) (pc : Nat) (ps : List (Nat × List Nat)) (hs : s < d.n) (ht : t < d.n) (hy : y.length = 96) :
    DK.slot { d with pa := pa, pc := pc, ps := ps, z := over d.z (s * 96) y } t = if t = s then y else d.slot t :=
  over_slot hy (by rw [h.len]; omega) (by rw [h.len]; omega)
theorem slot_new (b q n : Nat) (fu : Option Nat) (s : Nat) (hs : s < n) : (DK.new b q n fu).slot s = zer 96 := by
  unfold DK.slot DK.new zer
  rw [List.drop_replicate, List.take_replicate]
  congr 1
  omega
/-- A byte of a slot turned. -/
def turn (z : List Nat) (t c : Nat) : List Nat := z.set t (z.getD t 0 ^^^ c)
theorem slot_rot {w : World} {d : DK} (h : Dsk w d) {s t r c : Nat} (hs : s < d.n) (ht : t < 96) (hr : r < d.n) : (d.rot (s * 96 + t) c).slot r = if r = s then turn (d.slot s) t c else d.slot r := by
  have hl := h.len
  unfold DK.rot DK.slot turn
  dsimp only
  apply ext_getD
  · split
    · next e => subst e; simp
    · simp
  · intro i hi
    have hi : i < 96 := by
      rw [List.length_take] at hi
      omega
    rw [getD_part _ _ _ _ hi, getD_set _ _ _ _ (by omega)]
    by_cases e : r = s
    · subst e
      rw [if_pos rfl, getD_set _ _ _ _ (by rw [List.length_take, List.length_drop]; omega), getD_part _ _ _ _ ht, getD_part (d.z) (r * 96) 96 i (by omega)]
      by_cases e2 : i = t
      · subst e2; rw [if_pos rfl, if_pos rfl]
      · rw [if_neg (by omega), if_neg e2]
    · rw [if_neg e, if_neg (by omega), getD_part _ _ _ _ hi]
/-- What the first pending write to a slot covered; where there is none, what is there. -/
def fst : List (Nat × List Nat) → Nat → List Nat → List Nat
  | [], _, r => r
  | p :: ps, s, r => if p.1 = s then p.2 else fst ps s r
theorem und_slot {z zz : List Nat} {s r t : Nat} (hz : zz.length = 96) (ht : t ≤ 96) (hs : (s + 1) * 96 ≤ z.length) (hr : (r + 1) * 96 ≤ z.length) :
    ((und (s, zz) t z).drop (r * 96)).take 96 = if r = s then ((z.drop (r * 96)).take 96).take t ++ zz.drop t else (z.drop (r * 96)).take 96 := by
  have hl : (und (s, zz) t z).length = z.length := by unfold und; exact over_length (by simp [hz]; omega)
  apply ext_getD
  · split
    · simp only [List.length_take, List.length_drop, List.length_append, hl, hz]; omega
    · simp only [List.length_take, List.length_drop, hl]
  · intro i hi
    have h96 : i < 96 := by
      rw [List.length_take] at hi
      omega
    clear hi
    rw [getD_part _ _ _ _ h96]
    unfold und
    rw [over_at (by simp [hz]; omega)]
    simp only [List.length_drop, hz]
    by_cases e : r = s
    · subst e
      rw [if_pos rfl]
      by_cases e2 : t ≤ i
      · rw [if_pos (by omega)]
        simp only [List.getD_eq_getElem?_getD]
        rw [List.getElem?_append_right (by simp only [List.length_take, List.length_drop]; omega)]
        simp only [List.length_take, List.length_drop]
        congr 2
        omega
      · rw [if_neg (by omega)]
        simp only [List.getD_eq_getElem?_getD]
        rw [List.getElem?_append_left (by simp only [List.length_take, List.length_drop]; omega), List.getElem?_take, if_pos (by omega), List.getElem?_take, if_pos h96, List.getElem?_drop]
    · rw [if_neg e, if_neg (by omega), getD_part _ _ _ _ h96]
theorem und_length (z : List Nat) (p : Nat × List Nat) (t : Nat) (hz : p.2.length = 96) (ht : t ≤ 96) (hs : (p.1 + 1) * 96 ≤ z.length) : (und p t z).length = z.length := by
  unfold und
  exact over_length (by simp [hz]; omega)
/-- The slots with all pending writes from m on taken back, or but the first torn bytes of the first of them. -/
theorem crs_slots {ps : List (Nat × List Nat)} {keep torn n : Nat} {z : List Nat} (hz : z.length = n * 96) (hp : ∀ p ∈ ps, p.1 < n ∧ p.2.length = 96) (ht : torn ≤ 96) : ∀ j, j ≤ ps.length → j ≤ ps.length - keep → (crs ps keep torn z j).length = n * 96 ∧ ∀ r, r < n →
    ((crs ps keep torn z j).drop (r * 96)).take 96 = if j = ps.length - keep ∧ 0 < j ∧ r = (ps.getD keep (0, [])).1 then (fst (ps.drop (keep + 1)) r ((z.drop (r * 96)).take 96)).take torn ++ (ps.getD keep (0, [])).2.drop torn else fst (ps.drop (ps.length - j)) r ((z.drop (r * 96)).take 96)
  | 0, _, _ => ⟨hz, fun r hr => by rw [if_neg (by omega)]; simp [crs, fst]⟩
  | j + 1, h1, h2 => by
    obtain ⟨i1, i2⟩ := crs_slots (keep := keep) hz hp ht j (by omega) (by omega)
    obtain ⟨m, hm⟩ : ∃ m, ps.length - 1 - j = m := ⟨_, rfl⟩
    have hml : m < ps.length := by omega
    obtain ⟨q1, q2⟩ := hp (ps.getD m (0, [])) (by rw [List.getD_eq_getElem?_getD, List.getElem?_eq_getElem hml]; exact List.getElem_mem hml)
    have hd : ps.drop m = ps.getD m (0, []) :: ps.drop (m + 1) := by
      rw [List.getD_eq_getElem?_getD, List.getElem?_eq_getElem hml]
      exact List.drop_eq_getElem_cons hml
    have e1 : ps.length - j = m + 1 := by omega
    have e2 : ps.length - (j + 1) = m := by omega
    show (und _ _ _).length = _ ∧ _
    have htt : (if ps.length - 1 - j = keep then torn else 0) ≤ 96 := by split <;> omega
    refine ⟨by rw [hm, und_length _ _ _ q2 (by rw [hm] at htt; exact htt) (by rw [i1]; omega), i1], fun r hr => ?_⟩
    show ((und _ _ _).drop _).take _ = _
    rw [hm] at htt ⊢
    have := und_slot (z := crs ps keep torn z j) (s := (ps.getD m (0, [])).1) (r := r) q2 htt (by rw [i1]; omega) (by rw [i1]; omega)
    rw [this, i2 r hr, if_neg (show ¬ (j = ps.length - keep ∧ 0 < j ∧ r = (ps.getD keep (0, [])).1) by omega), e1, e2, hd]
    by_cases er : r = (ps.getD m (0, [])).1
    · rw [if_pos er]
      by_cases ek : m = keep
      · subst ek
        rw [if_pos rfl, if_pos ⟨by omega, by omega, er⟩]
      · rw [if_neg ek, if_neg (by omega)]
        simp only [List.take_zero, List.nil_append, List.drop_zero, fst]
        rw [if_pos er.symm]
    · rw [if_neg er]
      by_cases ek : m = keep
      · subst ek
        rw [if_neg (fun h => er h.2.2)]
        simp only [fst]
        rw [if_neg (fun h => er h.symm)]
      · rw [if_neg (by omega)]
        simp only [fst]
        rw [if_neg (fun h => er h.symm)]
/-- What lies in a slot behind a crash. -/
def crashR (ps : List (Nat × List Nat)) (keep torn : Nat) (R : Nat → List Nat) (r : Nat) : List Nat :=
  if keep < ps.length ∧ r = (ps.getD keep (0, [])).1 then (fst (ps.drop (keep + 1)) r (R r)).take torn ++ (ps.getD keep (0, [])).2.drop torn else fst (ps.drop keep) r (R r)
theorem crash_slot {w : World} {d : DK} (h : Dsk w d) (keep torn : Nat) (ht : torn ≤ 96) {r : Nat} (hr : r < d.n) :
    ((crash d.ps keep torn d.z).drop (r * 96)).take 96 = crashR d.ps keep torn d.slot r := by
  have hp : ∀ p ∈ d.ps, p.1 < d.n ∧ p.2.length = 96 := fun p hp => ⟨(h.good p hp).1, (h.good p hp).2.1⟩
  unfold crash
  rw [(crs_slots h.len hp ht (d.ps.length - keep) (by omega) (Nat.le_refl _)).2 r hr]
  unfold crashR
  by_cases hk : keep < d.ps.length
  · rw [show d.ps.length - (d.ps.length - keep) = keep by omega]
    by_cases er : r = (d.ps.getD keep (0, [])).1
    · rw [if_pos ⟨rfl, by omega, er⟩, if_pos ⟨hk, er⟩]; rfl
    · rw [if_neg (fun h => er h.2.2), if_neg (fun h => er h.2)]; rfl
  · have e1 : d.ps.drop (d.ps.length - (d.ps.length - keep)) = [] := List.drop_eq_nil_of_le (by omega)
    have e2 : d.ps.drop keep = [] := List.drop_eq_nil_of_le (by omega)
    rw [if_neg (fun h => hk (by have := h.2.1; omega)), if_neg (fun h => hk h.1), e1, e2]
    rfl
theorem newH {w0 w : World} (h0 : Up Nul w0 w) (x : Int) (fu k : Option Nat) (hf : FzO w fu k) (hn : ∀ f, fu = some f → w0.heap.size ≤ f) (n : Nat) (hx : cnt x = n) :
    Calls Try.prog 28 #[.int .i64 x, .pointer (fp fu)] w fun e w' => ∃ b, e = .returned (.pointer (some ⟨b, 0, none⟩)) ∧ H w0 w' b n fu k true (fun _ => zer 96) [] ∧ Up Nul w w' := by
  subst hx
  refine (new_any x fu w).mono ?_
  rintro e w' ⟨b, q, rfl, h1, h2, h3, h4⟩
  refine ⟨b, rfl, ⟨⟨_, h1, rfl, rfl, rfl, rfl, rfl, fun s hs => slot_new _ _ _ _ s hs, fun g hg => ?_⟩, hf.up h2 fun _ _ => id, hn⟩, h2⟩
  have := h0.size
  rcases hg with rfl | rfl | hg
  · exact Nat.le_trans this h3
  · exact Nat.le_trans this h4
  · cases hg
section
variable {w0 w : World} {b n : Nat} {fu k : Option Nat} {live : Bool} {R : Nat → List Nat} {ps : List (Nat × List Nat)}
theorem slotsH (h : H w0 w b n fu k live R ps) : Calls Try.prog 46 #[.pointer (some ⟨b, 0, none⟩)] w fun e w' => e = .returned (.int .i64 (n : Nat)) ∧ w' = w := by
  obtain ⟨d, h1, rfl, rfl, _⟩ := h.ex
  exact slots_any d w h1
theorem liveH (h : H w0 w b n fu k live R ps) : Calls Try.prog 47 #[.pointer (some ⟨b, 0, none⟩)] w fun e w' => e = .returned (.bool live) ∧ w' = w := by
  obtain ⟨d, h1, rfl, _, _, rfl, _⟩ := h.ex
  exact live_any d w h1
theorem failH (h : H w0 w b n fu k live R ps) (h0 : Up Nul w0 w) : Calls Try.prog 20 #[.pointer (some ⟨b, 0, none⟩)] w fun e w' => e = .returned (.tuple #[]) ∧ H w0 w' b n fu k false R ps ∧ Up Nul w0 w' ∧ Ks DD w w' := by
  obtain ⟨d, h1, rfl, rfl, rfl, rfl, rfl, h6, h7⟩ := h.ex
  refine (fail_any d w h1).mono ?_
  rintro e w' ⟨rfl, g1, g2⟩
  exact ⟨rfl, ⟨⟨_, g1, rfl, rfl, rfl, rfl, rfl, h6, h7⟩, h.fz.up g2 fun f e1 e2 => foot_fuse h1 h.fz f (.inl e2) e1, h.fnew⟩, At.foot h0 g2 fun g e => h7 g (.inl e), ks_foot g2 fun g e _ => by
    obtain ⟨A, T, e1, e2, _⟩ := h1.ty (.inl e)
    exact ⟨A, T, e1, e2⟩⟩
end
section
variable {w0 w : World} {b n : Nat} {fu k : Option Nat} {R : Nat → List Nat} {ps : List (Nat × List Nat)}
theorem syncH_gone (h : H w0 w b n fu k false R ps) : Calls Try.prog 45 #[.pointer (some ⟨b, 0, none⟩)] w fun e w' => e = .returned (.int .i64 5) ∧ w' = w := by
  obtain ⟨d, h1, rfl, rfl, rfl, h5, rfl, h6, h7⟩ := h.ex
  exact sync_gone d w h1 h5
end
section
variable {w0 w : World} {b n : Nat} {fu : Option Nat} {R : Nat → List Nat} {ps : List (Nat × List Nat)}
theorem syncH_dead (h : H w0 w b n fu (some 0) true R ps) : Calls Try.prog 45 #[.pointer (some ⟨b, 0, none⟩)] w fun e w' => e = .returned (.int .i64 4) ∧ w' = w := by
  obtain ⟨d, h1, rfl, rfl, rfl, h5, rfl, h6, h7⟩ := h.ex
  exact sync_dead d w h1 h5 h.fz
end
section
variable {w0 w : World} {b n : Nat} {fu k : Option Nat} {R : Nat → List Nat} {ps : List (Nat × List Nat)}
theorem syncH (h : H w0 w b n fu k true R ps) (h0 : Up Nul w0 w) (hk : k ≠ some 0) : Calls Try.prog 45 #[.pointer (some ⟨b, 0, none⟩)] w fun e w' => e = .returned (.int .i64 0) ∧ H w0 w' b n fu k true R [] ∧ Up Nul w0 w' ∧ Ks DD w w' := by
  obtain ⟨d, h1, rfl, rfl, rfl, h5, rfl, h6, h7⟩ := h.ex
  refine (sync_good d k w h1 h5 h.fz hk).mono ?_
  rintro e w' ⟨rfl, g1, g2⟩
  refine ⟨rfl, ⟨⟨_, g1, rfl, rfl, rfl, h5, rfl, h6, fun g hg => ?_⟩, h.fz.up g2 fun f e1 e2 => foot_fuse h1 h.fz f (.inl e2) e1, h.fnew⟩, At.foot h0 g2 fun g e => h7 g (.inl e), ks_foot g2 fun g e _ => by
    obtain ⟨A, T, e1, e2, _⟩ := h1.ty (.inl e)
    exact ⟨A, T, e1, e2⟩⟩
  rcases hg with e | e | e
  · exact h7 g (.inl e)
  · exact h7 g (.inr (.inl e))
  · cases e
theorem readH (h : H w0 w b n fu k true R ps) {s : Nat} (hs : s < n) : Calls Try.prog 57 #[.pointer (some ⟨b, 0, none⟩), .int .i64 s] w fun e w' => ∃ a c, e = .returned (.tuple #[.slice a 96 c, .int .i64 0]) ∧ Got w w' a 96 c (R s) := by
  obtain ⟨d, h1, rfl, rfl, rfl, h5, rfl, h6, h7⟩ := h.ex
  rw [← h6 s hs]
  exact read_good d s w h1 hs h5
theorem writeH (h : H w0 w b n fu k true R ps) (h0 : Up Nul w0 w) {s : Nat} (hs : s < n) (hk : k ≠ some 0) (hm : ps.length < 1000) {q c : Nat} {y : List Nat} (hy : Blk w q y) (hl : y.length = 96) :
    Calls Try.prog 56 #[.pointer (some ⟨b, 0, none⟩), .int .i64 s, .slice (some ⟨q, 0, none⟩) 96 c] w fun e w' => e = .returned (.int .i64 0) ∧ H w0 w' b n fu (less k) true (upd R s y) (ps ++ [(s, R s)]) ∧ Up Nul w0 w' ∧ Ks DD w w' := by
  obtain ⟨d, h1, rfl, rfl, rfl, h5, rfl, h6, h7⟩ := h.ex
  have hfoot : ∀ g, (d.foot g ∨ d.fu = some g) → ∃ (A : Array Value) (T : TypeId), w.heap[g]? = some (Obj.cells A T (0, 0)) ∧ DD T := fun g hg => by
    rcases hg with hg | hg
    · obtain ⟨A, T, e1, e2, _⟩ := h1.ty hg
      exact ⟨A, T, e1, e2⟩
    · have hz := h.fz
      rw [hg] at hz
      exact ⟨_, _, Fz.heap hz, .inr (.inr (.inr rfl))⟩
  refine (write_good d s k (some ⟨q, 0, none⟩) c y w h1 hs h5 h.fz hk hm ⟨hl, .inr ⟨q, 0, rfl, hy.lt, hy.whole⟩, by omega⟩ fun x hx => ?_).mono ?_
  · injection hx with hx
    subst hx
    have no : ∀ (A : Array Value) (T : TypeId), w.heap[q]? = some (Obj.cells A T (0, 0)) → ¬ DD T := fun A T e1 e2 => by
      have e3 := hy.heap
      rw [e1] at e3
      injection e3 with e3
      injection e3 with _ e3 _
      exact dd_byte (e3 ▸ e2)
    refine ⟨fun e => ?_, fun e => ?_⟩
    · obtain ⟨A, T, e1, e2⟩ := hfoot q (.inl e)
      exact no A T e1 e2
    · obtain ⟨A, T, e1, e2⟩ := hfoot q (.inr e)
      exact no A T e1 e2
  · rintro e w' ⟨rfl, g1, d', g2⟩
    obtain ⟨pa, pc, e⟩ := g2.at_
    refine ⟨rfl, ⟨⟨d', g2.dsk, by rw [e], by rw [e], by rw [e], by rw [e]; exact h5, by rw [e, ← h6 s hs], fun t ht => ?_, fun g hg => ?_⟩, g1, h.fnew⟩, At.foot h0 g2.up fun g hg => ?_, ks_foot g2.up fun g hg _ => hfoot g hg⟩
    · rw [e, slot_put h1 y pa pc _ hs ht hl, h6 t ht]
      rfl
    · rcases g2.foot g hg with hg | hg
      · exact h7 g hg
      · exact Nat.le_trans h0.size hg
    · rcases hg with hg | hg
      · exact h7 g hg
      · exact h.fnew g hg
end

theorem Blk.sln {w : World} {q : Nat} {z : List Nat} (h : Blk w q z) {n : Nat} (hn : z.length = n) (hl : n ≤ 1000) : SlN w (some ⟨q, 0, none⟩) n z := ⟨hn, .inr ⟨q, 0, rfl, h.lt, h.whole⟩, by omega⟩
theorem ful_small (c : Nat) : ∀ i, (ful c).getD i 0 < 256 := fun i => by
  rcases Nat.lt_or_ge i 96 with h | h
  · rw [ful, tab_at _ _ _ h]; unfold fl; omega
  · rw [List.getD_eq_getElem?_getD, List.getElem?_eq_none (by rw [ful_length]; exact h)]; decide
section
variable {w0 w : World} {b n : Nat} {fu : Option Nat} {R : Nat → List Nat} {ps : List (Nat × List Nat)}
theorem writeH_dead (h : H w0 w b n fu (some 0) true R ps) {s : Nat} (hs : s < n) (a : Option Addr) (cap : Nat) :
    Calls Try.prog 56 #[.pointer (some ⟨b, 0, none⟩), .int .i64 s, .slice a 96 cap] w fun e w' => e = .returned (.int .i64 4) ∧ w' = w := by
  obtain ⟨d, h1, rfl, rfl, rfl, h5, rfl, h6, h7⟩ := h.ex
  exact write_dead d s a cap w h1 hs h5 h.fz
end
section
variable {w0 w : World} {b n : Nat} {fu k : Option Nat} {R : Nat → List Nat} {ps : List (Nat × List Nat)}
theorem writeH_gone (h : H w0 w b n fu k false R ps) {s : Nat} (hs : s < n) (a : Option Addr) (cap : Nat) :
    Calls Try.prog 56 #[.pointer (some ⟨b, 0, none⟩), .int .i64 s, .slice a 96 cap] w fun e w' => e = .returned (.int .i64 5) ∧ w' = w := by
  obtain ⟨d, h1, rfl, rfl, rfl, h5, rfl, h6, h7⟩ := h.ex
  exact write_gone d s a cap w h1 hs h5
end
section
variable {w0 w : World} {b n : Nat} {fu k : Option Nat} {live : Bool} {R : Nat → List Nat} {ps : List (Nat × List Nat)}
theorem writeH_slot (h : H w0 w b n fu k live R ps) {x : Int} (hs : x < 0 ∨ (n : Int) ≤ x) (a : Option Addr) (m cap : Nat) :
    Calls Try.prog 56 #[.pointer (some ⟨b, 0, none⟩), .int .i64 x, .slice a m cap] w fun e w' => e = .returned (.int .i64 1) ∧ w' = w := by
  obtain ⟨d, h1, rfl, rfl, rfl, h5, rfl, h6, h7⟩ := h.ex
  exact write_slot d x a m cap w h1 hs
theorem writeH_len (h : H w0 w b n fu k live R ps) {s : Nat} (hs : s < n) (a : Option Addr) (m cap : Nat) (hm : m ≠ 96) :
    Calls Try.prog 56 #[.pointer (some ⟨b, 0, none⟩), .int .i64 s, .slice a m cap] w fun e w' => e = .returned (.int .i64 1) ∧ w' = w := by
  obtain ⟨d, h1, rfl, rfl, rfl, h5, rfl, h6, h7⟩ := h.ex
  exact write_len d s a m cap w h1 hs hm
theorem readH_arg (h : H w0 w b n fu k live R ps) {x : Int} (hs : x < 0 ∨ (n : Int) ≤ x) :
    Calls Try.prog 57 #[.pointer (some ⟨b, 0, none⟩), .int .i64 x] w fun e w' => e = .returned (.tuple #[.slice none 0 0, .int .i64 1]) ∧ w' = w := by
  obtain ⟨d, h1, rfl, rfl, rfl, h5, rfl, h6, h7⟩ := h.ex
  exact read_arg d x w h1 hs
end
end Go.Proofs.Ytcejdobmgbielaa
