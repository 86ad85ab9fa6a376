/- 'Write' of a Disk. -/
import Derived.Test.YtfmgbmpdifjliaaDiskPut
import Derived.Test.YtfmgbmpdifjliaaHand
namespace Go.Proofs.Ytfmgbmpdifjliaa
open Go.RowKit
set_option linter.unusedVariables false

theorem write_slot (d : DK) (x : Int) (a : Option Addr) (m cap : Nat) (w : World) (h : Dsk w d) (hs : x < 0 ∨ (d.n : Int) ≤ x) :
    Calls Try.prog 44 #[.pointer (some ⟨d.b, 0, none⟩), .int .i64 x, .slice a m cap] w fun e w' => e = .returned (.int .i64 1) ∧ w' = w := by
  have HL := hid (lacks_out d x w h hs)
  generalize d.b = b at HL ⊢
  clear h hs
  go_enter Try.func44, Try.ntmps44
  go_wp2_with ((go_at_call 45; (with_reducible refine HL.out.mono ?_); rintro e w1 ⟨rfl, rfl⟩))
  go_ret
  exact ⟨rfl, rfl⟩
theorem write_len (d : DK) (s : Nat) (a : Option Addr) (m cap : Nat) (w : World) (h : Dsk w d) (hs : s < d.n) (hm : m ≠ 96) :
    Calls Try.prog 44 #[.pointer (some ⟨d.b, 0, none⟩), .int .i64 s, .slice a m cap] w fun e w' => e = .returned (.int .i64 1) ∧ w' = w := by
  have HL := hid (lacks_in d s w h hs)
  generalize d.b = b at HL ⊢
  have i1 : ((m : Int) == 96) = false := by simp; omega
  have i2 : ¬ (m : Int) = 96 := by omega
  clear h hs
  go_enter Try.func44, Try.ntmps44
  go_wp2_with ((go_at_call 45; (with_reducible refine HL.out.mono ?_); rintro e w1 ⟨rfl, rfl⟩))
  go_ret
  exact ⟨rfl, rfl⟩
theorem write_gone (d : DK) (s : Nat) (a : Option Addr) (cap : Nat) (w : World) (h : Dsk w d) (hs : s < d.n) (hl : d.live = false) :
    Calls Try.prog 44 #[.pointer (some ⟨d.b, 0, none⟩), .int .i64 s, .slice a 96 cap] w fun e w' => e = .returned (.int .i64 5) ∧ w' = w := by
  have HL := hid (lacks_in d s w h hs)
  have c1 := h.c1
  rw [hl] at c1
  generalize d.b = b at HL c1 ⊢
  clear h hs hl
  go_enter Try.func44, Try.ntmps44
  go_wp2_with ((go_at_call 45; (with_reducible refine HL.out.mono ?_); rintro e w1 ⟨rfl, rfl⟩))
  go_ret
  exact ⟨rfl, rfl⟩
theorem write_dead (d : DK) (s : Nat) (a : Option Addr) (cap : Nat) (w : World) (h : Dsk w d) (hs : s < d.n) (hl : d.live = true) (hf : FzO w d.fu (some 0)) :
    Calls Try.prog 44 #[.pointer (some ⟨d.b, 0, none⟩), .int .i64 s, .slice a 96 cap] w fun e w' => e = .returned (.int .i64 4) ∧ w' = w := by
  have HL := hid (lacks_in d s w h hs)
  have HD := hid (spend_dead d.fu w hf)
  have c1 := h.c1
  rw [hl] at c1
  have c0 := h.c0
  generalize d.b = b at HL c1 c0 ⊢
  generalize fp d.fu = p at c0 HD
  clear h hs hl hf
  go_enter Try.func44, Try.ntmps44
  go_wp2_with (first
    | (go_at_call 45; (with_reducible refine HL.out.mono ?_); rintro e w1 ⟨rfl, rfl⟩)
    | (go_at_call 59; (with_reducible refine HD.out.mono ?_); rintro e w1 ⟨rfl, rfl⟩))
  go_ret
  exact ⟨rfl, rfl⟩

/-! ### A write that is done -/
theorem Dsk.grow {w w2 : World} {d : DK} (h : Dsk w d) (p : Nat × List Nat) (hp : p.1 < d.n ∧ p.2.length = 96 ∧ ∀ x ∈ p.2, x < 256) (hm : d.ps.length < 1000) (v' : Value) (own : w2.ownsRow 0 100 97 v' (d.ps ++ [p]).length (pcells (d.ps ++ [p]))) (u : Up (fun k => d.pv.ownBlock = some k) w w2) :
    ∃ pa pc, v' = .slice pa (d.ps.length + 1) pc ∧ Dsk (w2.setCell ⟨d.b, 3, none⟩ v') { d with pa := pa, pc := pc, ps := d.ps ++ [p] } := by
  have hn : (d.ps ++ [p]).length = d.ps.length + 1 := by simp
  rcases own.2 with ⟨_, e⟩ | ⟨g, cap, cur, rfl, hbg, hg, hrest⟩
  · rw [hn] at e; omega
  · rw [hn]
    have hb2 := (u.block _ h.lt_b h.pb).trans h.head
    have hq2 := (u.block _ h.lt_q h.pq).trans h.rows
    have u2 := (Up.refl (One d.b) w2).put rfl 3 (.slice (some ⟨g, 0, none⟩) (d.ps.length + 1) cap)
    refine ⟨_, _, rfl, ?_, (u2.block _ (Array.getElem?_eq_some_iff.1 hq2).1 (fun e => h.bq e.symm)).trans hq2, h.small, h.len, h.le, ?_, ?_, ?_⟩
    · have := heap_setCell_same w2 d.b 3 _ _ (.slice (some ⟨g, 0, none⟩) (d.ps.length + 1) cap) hb2
      simpa using this
    · refine ⟨own.1, .inr ⟨g, cap, cur, by simp [DK.pv], hbg, ?_, hrest⟩⟩
      rw [u2.block g (Array.getElem?_eq_some_iff.1 hg).1 (fun e => ne_type hb2 hg (by decide) (by unfold One at e; exact e.symm))]
      exact hg
    · intro x hx
      rcases List.mem_append.1 hx with hx | hx
      · exact h.good x hx
      · obtain rfl : x = p := by simpa using hx
        exact hp
    · show (d.ps ++ [p]).length ≤ 1000
      omega
/-- What a write leaves: where it lies, and what it holds. -/
structure Put (w : World) (d : DK) (s : Nat) (y : List Nat) (w' : World) (d' : DK) : Prop where
  dsk : Dsk w' d'
  at_ : ∃ pa pc, d' = { d with pa := pa, pc := pc, ps := d.ps ++ [(s, d.slot s)], z := over d.z (s * 96) y }
  foot : ∀ k, d'.foot k → d.foot k ∨ w.heap.size ≤ k
  up : Up (fun k => d.foot k ∨ d.fu = some k) w w'
theorem foot_fuse {w : World} {d : DK} (h : Dsk w d) {k : Option Nat} (hf : FzO w d.fu k) : ∀ g, d.foot g → d.fu ≠ some g := by
  intro g hg e
  have hz : Fz w g k := by
    have := hf
    rw [e] at this
    exact this
  rcases hg with rfl | rfl | hg
  · exact ne_type h.head hz.heap (by decide) rfl
  · exact ne_type h.rows hz.heap (by decide) rfl
  · obtain ⟨cur, e2⟩ := h.pend_row hg
    exact ne_type e2 hz.heap (by decide) rfl
set_option maxRecDepth 100000 in
set_option maxHeartbeats 1600000 in
theorem write_good (d : DK) (s : Nat) (k : Option Nat) (a : Option Addr) (cap : Nat) (y : List Nat) (w : World) (h : Dsk w d) (hs : s < d.n) (hl : d.live = true) (hf : FzO w d.fu k) (hk : k ≠ some 0) (hm : d.ps.length < 1000)
    (hy : SlN w a 96 y) (hay : ∀ x, a = some x → ¬ d.foot x.block ∧ d.fu ≠ some x.block) :
    Calls Try.prog 44 #[.pointer (some ⟨d.b, 0, none⟩), .int .i64 s, .slice a 96 cap] w fun e w' => e = .returned (.int .i64 0) ∧ FzO w' d.fu (less k) ∧ ∃ d', Put w d s y w' d' := by
  have HL := hid (lacks_in d s w h hs)
  have HSP := hid (spend_live d.fu k w hf hk)
  have HFT := hid (foot_fuse h hf)
  have H0 := hid h
  have HX := hid (And.intro hs (And.intro hm (And.intro hy (And.intro hay hl))))
  have c1 := h.c1
  rw [hl] at c1
  have c0 := h.c0
  obtain ⟨b, B⟩ : ∃ b, Hid (d.b = b) := ⟨_, rfl⟩
  obtain ⟨p, P⟩ : ∃ p, Hid (fp d.fu = p) := ⟨_, rfl⟩
  rw [B.out] at HL c0 c1 ⊢
  rw [P.out] at c0 HSP
  clear h hs hl hf hk hm hy hay
  go_enter Try.func44, Try.ntmps44
  go_wp2_with fail
  refine HL.out.mono ?_
  rintro e w0 ⟨rfl, rfl⟩
  go_wp2_with fail
  refine HSP.out.mono ?_
  rintro e w1 ⟨rfl, g1, g2, g3⟩
  have HF1 := hid g1
  have HU1 := hid (And.intro g2 g3)
  clear g1 g2 g3
  have H1 : Hid (Dsk w1 d) := H0.out.up HU1.out.1 fun g hg e => HFT.out g hg e
  obtain ⟨n, N⟩ : ∃ n, Hid (d.n = n) := ⟨_, rfl⟩
  obtain ⟨q, Qq⟩ : ∃ q, Hid (d.q = q) := ⟨_, rfl⟩
  obtain ⟨pa, PA⟩ : ∃ x, Hid (d.pa = x) := ⟨_, rfl⟩
  obtain ⟨pc, PC⟩ : ∃ x, Hid (d.pc = x) := ⟨_, rfl⟩
  obtain ⟨ps, PS⟩ : ∃ x, Hid (d.ps = x) := ⟨_, rfl⟩
  obtain ⟨pn, PN⟩ : ∃ x, Hid (ps.length = x) := ⟨_, rfl⟩
  obtain ⟨y0, Y0⟩ : ∃ x, Hid (d.slot s = x) := ⟨_, rfl⟩
  obtain ⟨cs, CS⟩ : ∃ x, Hid (vals y0 = x) := ⟨_, rfl⟩
  have HY : Hid (y0.length = 96) := by show _ = _; rw [← Y0.out]; exact slot_length H1.out HX.out.1
  have HCL : Hid (cs.length = 96) := by show _ = _; rw [← CS.out, vals_length]; exact HY.out
  have HI : Hid ((Try.prog.info? 83).map (·.size) = some cs.length) := by show _ = _; rw [HCL.out]; exact info_sec_size
  have HS : Hid (∀ W, Up (fun k => d.pv.ownBlock = some k) w1 W → W.cell? ⟨b, 2, none⟩ = some (.slice (some ⟨q, 0, none⟩) n n) ∧ W.rangeAt q (s * 96) cs) := fun W u => by
    have hb2 := (u.block _ H1.out.lt_b H1.out.pb).trans H1.out.head
    have hq2 : Up (fun k => d.pv.ownBlock = some k) w1 W := u
    rw [← B.out, ← Qq.out, ← N.out, ← CS.out, ← Y0.out]
    refine ⟨by simp [World.cell?, hb2], fun j v hv => ?_⟩
    rw [u.cell (p := ⟨d.q, s * 96 + j, none⟩) H1.out.lt_q H1.out.pq]
    exact H1.out.range HX.out.1 j v hv
  have hbd : ∀ W, (Instr.build 100 #[(0, .int .i64 s), (1, .agg cs.toArray)]).run Try.prog W = .ok (.agg (.int .i64 (s : Int) :: cs).toArray) W := fun W => by
    have := build_cov s cs.toArray (by simpa using HCL.out) W
    simpa using this
  obtain ⟨cp, CP⟩ : ∃ x, Hid ((.int .i64 (s : Int) :: cs).toArray = x) := ⟨_, rfl⟩
  rw [CP.out] at hbd
  have hbs : ∀ W, (Instr.buildSlice 73 1 #[(0, .agg cp)]).run Try.prog W = .ok (.slice (some ⟨W.heap.size, 0, none⟩) 1 1) (W.alloc (.cells cp 100)) := fun W => build_sl cp (by rw [← CP.out]; simpa using HCL.out) W
  have HCP : Hid (cp = (pcell (s, y0)).toArray) := by show _ = _; rw [← CP.out, ← CS.out]; rfl
  have HUA : Hid (Up Nul w1 (w1.drew.alloc (.cells cp 100))) := (Up.refl _ _).drew.alloc _
  have HO : Hid ((w1.drew.alloc (.cells cp 100)).ownsRow 0 100 97 (.slice pa pn pc) ps.length (pcells ps)) := by
    have := own_up H1.out.pend HUA.out fun _ _ => id
    unfold DK.pv at this
    rw [PS.out, PA.out, PC.out] at this
    show World.ownsRow _ _ _ _ _ _ _
    rw [← PN.out]
    exact this
  have HPV : Hid (d.pv = .slice pa pn pc) := by show _ = _; unfold DK.pv; rw [PS.out, PN.out, PA.out, PC.out]
  have HBK : Hid ((w1.drew.alloc (.cells cp 100)).heap[w1.heap.size]? = some (.cells (pcell (s, y0)).toArray 100 (0, 0))) := by
    show _ = _
    rw [← HCP.out]
    exact heap_alloc_new w1.drew _
  have HM : Hid (ps.length ≤ 900000) := by show _ ≤ _; have := HX.out.2.1; rw [PS.out] at this; omega
  have HGR : Hid (∀ v2 w2, w2.ownsRow 0 100 97 v2 (ps ++ [(s, y0)]).length (pcells (ps ++ [(s, y0)])) → (w1.drew.alloc (.cells cp 100)).grownBy w2 (Value.slice pa pn pc).ownBlock → (v2.ownBlock = (Value.slice pa pn pc).ownBlock ∨ v2.ownBlock = some (w1.drew.alloc (.cells cp 100)).heap.size) →
      ∃ pa2 pc2, v2 = .slice pa2 (pn + 1) pc2 ∧ Hid (Dsk (w2.setCell ⟨b, 3, none⟩ (.slice pa2 (pn + 1) pc2)) { d with pa := pa2, pc := pc2, ps := d.ps ++ [(s, d.slot s)] }) ∧ Hid (Up (fun k => d.pv.ownBlock = some k) w1 w2 ∧ w2.frozen? ⟨b, 3, none⟩ = false ∧ w2.cell? ⟨b, 3, none⟩ = some (.slice pa pn pc) ∧ ((w2.setCell ⟨b, 3, none⟩ (.slice pa2 (pn + 1) pc2)).cell? ⟨b, 2, none⟩ = some (.slice (some ⟨q, 0, none⟩) n n) ∧ (w2.setCell ⟨b, 3, none⟩ (.slice pa2 (pn + 1) pc2)).rangeAt q (s * 96) cs) ∧ (∀ g, (Value.slice pa2 (pn + 1) pc2).ownBlock = some g → d.pv.ownBlock = some g ∨ w1.heap.size ≤ g))) := by
    intro v2 w2 o2 gr wh
    have u2 : Up (fun k => d.pv.ownBlock = some k) w1 w2 := by
      refine ⟨gr.os.trans HUA.out.os, gr.tape.trans HUA.out.tape, gr.output.trans HUA.out.output, Nat.le_trans HUA.out.size gr.size, fun k hk hn => ?_⟩
      rw [gr.block k (Nat.lt_of_lt_of_le hk HUA.out.size) (fun e => hn (by rw [HPV.out]; exact e.symm)), HUA.out.block k hk id]
    obtain ⟨pa2, pc2, e, hd⟩ := H1.out.grow (s, d.slot s) ⟨HX.out.1, slot_length H1.out HX.out.1, fun x hx => by
      obtain ⟨i, hi, rfl⟩ := List.mem_iff_getElem.1 hx
      have := (H1.out.row HX.out.1).small i
      rwa [List.getD_eq_getElem?_getD, List.getElem?_eq_getElem hi] at this⟩ HX.out.2.1 v2 (by rw [PS.out, Y0.out]; exact o2) u2
    rw [PS.out, PN.out] at e
    subst e
    have u3 : Up (fun k => k = d.b ∨ d.pv.ownBlock = some k) w1 (w2.setCell ⟨b, 3, none⟩ (.slice pa2 (pn + 1) pc2)) := (u2.mono fun _ _ h => .inr h).put (.inl B.out.symm) 3 _
    refine ⟨_, _, rfl, by rw [← B.out]; exact hd, u2, ?_, ?_, ⟨?_, fun j v hv => ?_⟩, fun g hg => ?_⟩
    · rw [u2.froz (p := ⟨b, 3, none⟩) (by rw [← B.out]; exact H1.out.lt_b) (by rw [← B.out]; exact H1.out.pb), ← B.out]
      exact H1.out.fr 3
    · rw [u2.cell (p := ⟨b, 3, none⟩) (by rw [← B.out]; exact H1.out.lt_b) (by rw [← B.out]; exact H1.out.pb)]
      have := H1.out.c3
      rw [PS.out, PN.out, PA.out, PC.out, B.out] at this
      exact this
    · rw [World.cell?_setCell_other _ _ _ _ (by simp)]
      exact (HS.out w2 u2).1
    · rw [World.cell?_setCell_other _ _ _ _ (by simp; intro e; exact absurd (by rw [← B.out, ← Qq.out] at e; exact e) H1.out.bq)]
      exact (HS.out w2 u2).2 j v hv
    · rcases wh with wh | wh
      · left
        rw [HPV.out, ← wh]
        exact hg
      · right
        rw [wh] at hg
        injection hg with hg
        have := HUA.out.size
        omega
  have y3 : w1.cell? ⟨b, 3, none⟩ = some (.slice pa pn pc) := by
    have := H1.out.c3
    rw [PS.out, PN.out, PA.out, PC.out, B.out] at this
    exact this
  have z3 : (w1.drew.alloc (.cells cp 100)).cell? ⟨b, 3, none⟩ = some (.slice pa pn pc) := by
    rw [HUA.out.cell (p := ⟨b, 3, none⟩) (by rw [← B.out]; exact H1.out.lt_b) id]
    exact y3
  have z4 : (w1.alloc (.cells cp 100)).cell? ⟨b, 3, none⟩ = some (.slice pa pn pc) := z3
  have i1 : (s : Int) < (n : Int) := by have := HX.out.1; rw [N.out] at this; omega
  have HEND : Hid (∀ w2 pa2 pc2, Dsk (w2.setCell ⟨b, 3, none⟩ (.slice pa2 (pn + 1) pc2)) { d with pa := pa2, pc := pc2, ps := d.ps ++ [(s, d.slot s)] } → Up (fun k => d.pv.ownBlock = some k) w1 w2 → (∀ g, (Value.slice pa2 (pn + 1) pc2).ownBlock = some g → d.pv.ownBlock = some g ∨ w1.heap.size ≤ g) →
      ∃ w4, (Builtin.copy_ #[32, 32] 3 #[.slice (some ⟨q, s * 96, none⟩) 96 96, .slice a 96 cap]).run Try.prog (w2.setCell ⟨b, 3, none⟩ (.slice pa2 (pn + 1) pc2)) = .ok (.int .i64 96) w4 ∧ Hid (FzO w4 d.fu (less k) ∧ ∃ d', Put w0 d s y w4 d')) := by
    intro w2 pa2 pc2 h3 u2 hg
    have ha2 : ∀ v, (Up (fun k => d.foot k ∨ d.fu = some k) w0 (w2.setCell ⟨b, 3, none⟩ v)) := fun v =>
      (((HU1.out.1.mono fun _ _ e => .inr e).trans (u2.mono fun _ _ e => .inl (.inr (.inr e)))).put (.inl (.inl B.out.symm)) 3 v)
    have u3 := ha2 (.slice pa2 (pn + 1) pc2)
    have hf3 : FzO (w2.setCell ⟨b, 3, none⟩ (.slice pa2 (pn + 1) pc2)) d.fu (less k) := by
      refine (HF1.out.up u2 fun f e1 e2 => HFT.out f (.inr (.inr e2)) e1).up ((Up.refl (One b) _).put rfl 3 _) fun f e1 e2 => HFT.out f (.inl ?_) e1
      unfold One at e2
      rw [e2, B.out]
    have hsl : SlN (w2.setCell ⟨b, 3, none⟩ (.slice pa2 (pn + 1) pc2)) a 96 y := by
      refine ⟨HX.out.2.2.1.len, ?_, HX.out.2.2.1.le⟩
      rcases HX.out.2.2.1.row with e | ⟨b', o', e, hb', r⟩
      · exact .inl e
      · have := HX.out.2.2.2.1 _ e
        exact .inr ⟨b', o', e, Nat.lt_of_lt_of_le hb' u3.size, r.up u3 hb' fun hc => hc.elim this.1 this.2⟩
    obtain ⟨w4, hrun, h4, u4⟩ := run_copy_slot _ 3 _ h3 (s * 96) 96 96 96 a cap y hsl rfl (by show s * 96 + 96 ≤ d.n * 96; have := HX.out.1; omega)
    have hrun : (Builtin.copy_ #[32, 32] 3 #[.slice (some ⟨d.q, s * 96, none⟩) 96 96, .slice a 96 cap]).run Try.prog (w2.setCell ⟨b, 3, none⟩ (.slice pa2 (pn + 1) pc2)) = .ok (goInt 96) w4 := hrun
    rw [Qq.out] at hrun
    refine ⟨w4, hrun, hf3.up u4 fun f e1 e2 => HFT.out f (.inr (.inl e2)) e1, _, h4, ⟨_, _, rfl⟩, fun g hk => ?_, u3.trans (u4.mono fun g _ e => .inl (.inr (.inl e)))⟩
    rcases hk with hk | hk | hk
    · exact .inl (.inl hk)
    · exact .inl (.inr (.inl hk))
    · have hk : (Value.slice pa2 (d.ps ++ [(s, d.slot s)]).length pc2).ownBlock = some g := hk
      rcases hg g (by cases pa2 <;> exact hk) with e | e
      · exact .inl (.inr (.inr e))
      · exact .inr (Nat.le_trans HU1.out.1.size e)
  clear c0 c1
  go_wp2_with fail
  refine wp_region_held_drew (S := fun W => W.cell? ⟨b, 2, none⟩ = some (.slice (some ⟨q, 0, none⟩) n n) ∧ W.rangeAt q (s * 96) cs) (by kernel_rfl) (by exact HS.out _ (Up.refl _ _).drew) (fun hHeld => ?_)
  refine wpAnyH_take (i := 0) (oi := ⟨some 26, _, _, _, _, _⟩) (v := ?vw0) rfl (by kernel_rfl) (by kernel_rfl) (by kernel_rfl) (fun _ _ _ h => h) (Or.inl ⟨by rfl, ?yw0⟩) (by assumption) ?rw0
  case yw0 => (intro w hSw; (try dsimp only at hSw); go_simp; try with_reducible rfl)
  try simp only [Act.put, List.setIfInBounds_toArray, List.set_cons_zero, List.set_cons_succ]
  refine wpAnyH_take (i := 1) (oi := ⟨some 27, _, _, _, _, _⟩) (v := ?vw1) rfl (by kernel_rfl) (by kernel_rfl) (by kernel_rfl) (fun _ _ _ h => h) (Or.inl ⟨by rfl, ?yw1⟩) (by assumption) ?rw1
  case yw1 => (intro w hSw; (try dsimp only at hSw); go_simp; try with_reducible rfl)
  try simp only [Act.put, List.setIfInBounds_toArray, List.set_cons_zero, List.set_cons_succ]
  refine wpAnyH_take (i := 2) (oi := ⟨some 28, _, _, _, _, _⟩) (v := ?vw2) rfl (by kernel_rfl) (by kernel_rfl) (by kernel_rfl) (fun _ _ _ h => h) (Or.inl ⟨by rfl, ?yw2⟩) (by assumption) ?rw2
  case yw2 => (intro w hSw; (try dsimp only at hSw); go_simp; try with_reducible rfl)
  try simp only [Act.put, List.setIfInBounds_toArray, List.set_cons_zero, List.set_cons_succ]
  refine wpAnyH_take (i := 3) (oi := ⟨some 29, _, _, _, _, _⟩) (v := ?vw3) rfl (by kernel_rfl) (by kernel_rfl) (by kernel_rfl) (fun _ _ _ h => h) (Or.inl ⟨by rfl, ?yw3⟩) (by assumption) ?rw3
  case yw3 => (intro w hSw; (try dsimp only at hSw); go_simp; try with_reducible rfl)
  try simp only [Act.put, List.setIfInBounds_toArray, List.set_cons_zero, List.set_cons_succ]
  refine wpAnyH_take (i := 5) (oi := ⟨some 31, _, _, _, _, _⟩) (v := ?vw5) rfl (by kernel_rfl) (by kernel_rfl) (by kernel_rfl) (fun _ _ _ h => h) (Or.inl ⟨by rfl, ?yw5⟩) (by assumption) ?rw5
  case yw5 => (intro w hSw; (try dsimp only at hSw); go_simp; try with_reducible rfl)
  try simp only [Act.put, List.setIfInBounds_toArray, List.set_cons_zero, List.set_cons_succ]
  refine wpAnyH_take (i := 6) (oi := ⟨some 32, _, _, _, _, _⟩) (v := ?vw6) rfl (by kernel_rfl) (by kernel_rfl) (by kernel_rfl) (fun _ _ _ h => h) (Or.inl ⟨by rfl, ?yw6⟩) (by assumption) ?rw6
  case yw6 => (intro w hSw; (try dsimp only at hSw); go_simp; try with_reducible rfl)
  try simp only [Act.put, List.setIfInBounds_toArray, List.set_cons_zero, List.set_cons_succ]
  refine wpAnyH_take (i := 7) (oi := ⟨some 33, _, _, _, _, _⟩) (v := ?vw7) rfl (by kernel_rfl) (by kernel_rfl) (by kernel_rfl) (fun _ _ _ h => h) (Or.inl ⟨by rfl, ?yw7⟩) (by assumption) ?rw7
  case yw7 => (intro w hSw; (try dsimp only at hSw); go_simp; try with_reducible rfl)
  try simp only [Act.put, List.setIfInBounds_toArray, List.set_cons_zero, List.set_cons_succ]
  refine wpAnyH_take (i := 8) (oi := ⟨some 34, _, _, _, _, _⟩) (v := ?vw8) rfl (by kernel_rfl) (by kernel_rfl) (by kernel_rfl) (fun _ _ _ h => h) (Or.inl ⟨by rfl, ?yw8⟩) (by assumption) ?rw8
  case yw8 => (intro w hSw; (try dsimp only at hSw); go_simp; try with_reducible rfl)
  try simp only [Act.put, List.setIfInBounds_toArray, List.set_cons_zero, List.set_cons_succ]
  refine wpAnyH_take (i := 9) (oi := ⟨some 35, _, _, _, _, _⟩) (v := ?vw9) rfl (by kernel_rfl) (by kernel_rfl) (by kernel_rfl) (fun _ _ _ h => h) (Or.inl ⟨by rfl, ?yw9⟩) (by assumption) ?rw9
  case yw9 => (intro w hSw; (try dsimp only at hSw); go_simp; try with_reducible rfl)
  try simp only [Act.put, List.setIfInBounds_toArray, List.set_cons_zero, List.set_cons_succ]
  refine wpAnyH_take (i := 10) (oi := ⟨some 36, _, _, _, _, _⟩) (v := ?vw10) rfl (by kernel_rfl) (by kernel_rfl) (by kernel_rfl) (fun _ _ _ h => h) (Or.inl ⟨by rfl, ?yw10⟩) (by assumption) ?rw10
  case yw10 => (intro w hSw; (try dsimp only at hSw); go_simp; try with_reducible rfl)
  try simp only [Act.put, List.setIfInBounds_toArray, List.set_cons_zero, List.set_cons_succ]
  refine wpAnyH_take (i := 11) (oi := ⟨some 37, _, _, _, _, _⟩) (v := ?vw11) rfl (by kernel_rfl) (by kernel_rfl) (by kernel_rfl) (fun _ _ _ h => h) (Or.inl ⟨by rfl, ?yw11⟩) (by assumption) ?rw11
  case yw11 => (intro w hSw; (try dsimp only at hSw); go_simp; try with_reducible rfl)
  try simp only [Act.put, List.setIfInBounds_toArray, List.set_cons_zero, List.set_cons_succ]
  refine wpAnyH_take (i := 12) (oi := ⟨some 38, _, _, _, _, _⟩) (v := .agg cs.toArray) rfl (by kernel_rfl) (by kernel_rfl) (by kernel_rfl) (fun _ _ _ h => h) (yieldsIf_load_mid (by rfl) 83 (.tmp 37) rfl q (s * 96) (by first | rfl | simp [Act.eval]) cs _ (fun W h => h.2) Try.underlying83 rfl HI.out) (by assumption) ?rw12
  try simp only [Act.put, List.setIfInBounds_toArray, List.set_cons_zero, List.set_cons_succ]
  refine wpAnyH_take (i := 13) (oi := ⟨some 39, _, _, _, _, _⟩) (v := .agg cp) rfl (by kernel_rfl) (by kernel_rfl) (by kernel_rfl) (fun _ _ _ h => h) (Or.inl ⟨by rfl, fun W hSW => exec_build _ _ _ _ rfl #[(0, .int .i64 s), (1, .agg cs.toArray)] (by simp [Act.eval]) _ W (hbd W)⟩) (by assumption) ?rw13
  try simp only [Act.put, List.setIfInBounds_toArray, List.set_cons_zero, List.set_cons_succ]
  refine wpAnyH_ready (rs := [4, 14]) (by kernel_rfl) (by simp) ?_
  refine AllReadyH.cons (o := ⟨some 30, _, _, _, _, _⟩) rfl (fun K hK => ?_) (AllReadyH.cons (o := ⟨some 40, _, _, _, _, _⟩) rfl (fun K hK => ?_) AllReadyH.nil)
  · go_simp
    refine hK.out _ _ ?kla (fun hHeld => ?_)
    case kla => exact HS.out _ (Up.refl _ _).drew
    clear hK K
    try simp only [Act.put, List.setIfInBounds_toArray, List.set_cons_zero, List.set_cons_succ]
    refine wpAnyH_ready (rs := [14]) (by kernel_rfl) (by simp) ?_
    refine AllReadyH.cons (o := ⟨some 40, _, _, _, _, _⟩) rfl (fun K hK => ?_) AllReadyH.nil
    refine wp_exec (exec_slice _ _ _ _ _ rfl #[(0, .agg cp)] (by simp [Act.eval]) _ _ _ (hbs _)) ?_
    refine hK.out _ _ ?ksa (fun hHeld => ?_)
    case ksa => exact HS.out _ ((Up.refl _ _).drew.alloc _)
    clear hK K
    try simp only [Act.put, List.setIfInBounds_toArray, List.set_cons_zero, List.set_cons_succ]
    refine wpAnyH_ready (rs := [15]) (by kernel_rfl) (by simp) ?_
    refine AllReadyH.cons (o := ⟨some 41, _, _, _, _, _⟩) rfl (fun K hK => ?_) AllReadyH.nil
    refine wp_append_cov _ _ rfl (.slice pa pn pc) ps rfl HO.out w1.heap.size (s, y0) rfl HBK.out HY.out HM.out ?_
    intro v2 w2 O2 G2 W2
    obtain ⟨pa2, pc2, rfl, HD2, HF2⟩ := HGR.out v2 w2 O2.out G2.out W2.out
    refine hK.out _ _ ?kap (fun hHeld => ?_)
    case kap => exact HS.out _ HF2.out.1
    clear hK K
    try simp only [Act.put, List.setIfInBounds_toArray, List.set_cons_zero, List.set_cons_succ]
    refine wpAnyH_take (i := 16) (oi := ⟨some 42, _, _, _, _, _⟩) (v := ?vw16a) rfl (by kernel_rfl) (by kernel_rfl) (by kernel_rfl) (fun _ _ _ h => h) (Or.inl ⟨by rfl, ?yw16a⟩) (by assumption) ?rw16a
    case yw16a => (intro w hSw; (try dsimp only at hSw); go_simp; try with_reducible rfl)
    try simp only [Act.put, List.setIfInBounds_toArray, List.set_cons_zero, List.set_cons_succ]
    refine wpAnyH_take (i := 17) (oi := ⟨some 43, _, _, _, _, _⟩) (v := ?vw17a) rfl (by kernel_rfl) (by kernel_rfl) (by kernel_rfl) (fun _ _ _ h => h) (Or.inl ⟨by rfl, ?yw17a⟩) (by assumption) ?rw17a
    case yw17a => (intro w hSw; (try dsimp only at hSw); go_simp; try with_reducible rfl)
    try simp only [Act.put, List.setIfInBounds_toArray, List.set_cons_zero, List.set_cons_succ]
    have x3 := HF2.out.2.2.1
    have f3 := HF2.out.2.1
    refine wpAnyH_ready (rs := [18]) (by kernel_rfl) (by simp) ?_
    refine AllReadyH.cons (o := ⟨none, _, _, _, _, _⟩) rfl (fun K hK => ?_) AllReadyH.nil
    go_simp
    refine hK.out _ _ ?kas (fun hHeld => ?_)
    case kas => exact HF2.out.2.2.2.1
    clear hK K
    try simp only [Act.put, List.setIfInBounds_toArray, List.set_cons_zero, List.set_cons_succ]
    refine wpAnyH_done (by kernel_rfl) ?_ _
    clear HGR HS HO HBK hbs hbd
    obtain ⟨w4, hcp, HQ4⟩ := HEND.out w2 pa2 pc2 HD2.out HF2.out.1 HF2.out.2.2.2.2
    have c2' := HF2.out.2.2.2.1.1
    generalize w2.setCell ⟨b, 3, none⟩ (.slice pa2 (pn + 1) pc2) = w3 at hcp c2' ⊢
    clear HEND HD2 HF2
    go_wp2
    go_ret
    exact ⟨rfl, HQ4.out⟩
  · refine wp_exec (exec_slice _ _ _ _ _ rfl #[(0, .agg cp)] (by simp [Act.eval]) _ _ _ (hbs _)) ?_
    refine hK.out _ _ ?ksb (fun hHeld => ?_)
    case ksb => exact HS.out _ ((Up.refl _ _).drew.alloc _)
    clear hK K
    try simp only [Act.put, List.setIfInBounds_toArray, List.set_cons_zero, List.set_cons_succ]
    refine wpAnyH_ready (rs := [4]) (by kernel_rfl) (by simp) ?_
    refine AllReadyH.cons (o := ⟨some 30, _, _, _, _, _⟩) rfl (fun K hK => ?_) AllReadyH.nil
    go_simp
    refine hK.out _ _ ?klb (fun hHeld => ?_)
    case klb => exact HS.out _ ((Up.refl _ _).drew.alloc _)
    clear hK K
    try simp only [Act.put, List.setIfInBounds_toArray, List.set_cons_zero, List.set_cons_succ]
    refine wpAnyH_ready (rs := [15]) (by kernel_rfl) (by simp) ?_
    refine AllReadyH.cons (o := ⟨some 41, _, _, _, _, _⟩) rfl (fun K hK => ?_) AllReadyH.nil
    refine wp_append_cov _ _ rfl (.slice pa pn pc) ps rfl HO.out w1.heap.size (s, y0) rfl HBK.out HY.out HM.out ?_
    intro v2 w2 O2 G2 W2
    obtain ⟨pa2, pc2, rfl, HD2, HF2⟩ := HGR.out v2 w2 O2.out G2.out W2.out
    refine hK.out _ _ ?kbp (fun hHeld => ?_)
    case kbp => exact HS.out _ HF2.out.1
    clear hK K
    try simp only [Act.put, List.setIfInBounds_toArray, List.set_cons_zero, List.set_cons_succ]
    refine wpAnyH_take (i := 16) (oi := ⟨some 42, _, _, _, _, _⟩) (v := ?vw16b) rfl (by kernel_rfl) (by kernel_rfl) (by kernel_rfl) (fun _ _ _ h => h) (Or.inl ⟨by rfl, ?yw16b⟩) (by assumption) ?rw16b
    case yw16b => (intro w hSw; (try dsimp only at hSw); go_simp; try with_reducible rfl)
    try simp only [Act.put, List.setIfInBounds_toArray, List.set_cons_zero, List.set_cons_succ]
    refine wpAnyH_take (i := 17) (oi := ⟨some 43, _, _, _, _, _⟩) (v := ?vw17b) rfl (by kernel_rfl) (by kernel_rfl) (by kernel_rfl) (fun _ _ _ h => h) (Or.inl ⟨by rfl, ?yw17b⟩) (by assumption) ?rw17b
    case yw17b => (intro w hSw; (try dsimp only at hSw); go_simp; try with_reducible rfl)
    try simp only [Act.put, List.setIfInBounds_toArray, List.set_cons_zero, List.set_cons_succ]
    have x3 := HF2.out.2.2.1
    have f3 := HF2.out.2.1
    refine wpAnyH_ready (rs := [18]) (by kernel_rfl) (by simp) ?_
    refine AllReadyH.cons (o := ⟨none, _, _, _, _, _⟩) rfl (fun K hK => ?_) AllReadyH.nil
    go_simp
    refine hK.out _ _ ?kbs (fun hHeld => ?_)
    case kbs => exact HF2.out.2.2.2.1
    clear hK K
    try simp only [Act.put, List.setIfInBounds_toArray, List.set_cons_zero, List.set_cons_succ]
    refine wpAnyH_done (by kernel_rfl) ?_ _
    clear HGR HS HO HBK hbs hbd
    obtain ⟨w4, hcp, HQ4⟩ := HEND.out w2 pa2 pc2 HD2.out HF2.out.1 HF2.out.2.2.2.2
    have c2' := HF2.out.2.2.2.1.1
    generalize w2.setCell ⟨b, 3, none⟩ (.slice pa2 (pn + 1) pc2) = w3 at hcp c2' ⊢
    clear HEND HD2 HF2
    go_wp2
    go_ret
    exact ⟨rfl, HQ4.out⟩
end Go.Proofs.Ytfmgbmpdifjliaa
