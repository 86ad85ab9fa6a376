/- RecOne. -/
import Derived.Test.YtpdkcpjofofkoaaDoorRcSRecA
import Derived.Test.YtpdkcpjofofkoaaDoorRcAwake
import Derived.Test.YtpdkcpjofofkoaaDoorRcEnc2
import Derived.Test.YtpdkcpjofofkoaaDoorRcRec
import Derived.Deep.MidRow
set_option maxRecDepth 100000
namespace Go.Proofs.YtpdkcpjofofkoaaDoor
open Go.RowKit
set_option linter.unusedVariables false
theorem info_rc13 : (Tryd.prog.info? 27).map (·.size) = some 13 := by kernel_rfl
theorem camei_nxt {w w' : World} {a : Option Addr} {len cap : Nat} {zs : List Int} (h : CameI w a len cap zs) (u : Up Nul w w') : CameI w' a len cap zs := by
  rcases h with h | ⟨x, e, hl, hm, hz, hc, hw⟩
  · exact .inl h
  · exact .inr ⟨x, e, hl, hm, hz, fun i hi => (u.cell (p := x.add i) (lt_of_cell (hc i hi)) id).trans (hc i hi), hw⟩
theorem one_any (w : World) (a0 a1 a2 : Option Addr) (len0 cap0 len1 cap1 len2 cap2 : Nat) (z0 z1 : List Int) (z2 : List Nat) (hS : Shp w) (h0 : CameI w a0 len0 cap0 z0) (h1 : CameI w a1 len1 cap1 z1) (hb : SlN w a2 len2 z2) (hc : len2 ≤ cap2) :
    Calls Tryd.prog 6 #[.slice a0 len0 cap0, .slice a1 len1 cap1, .slice a2 len2 cap2] w fun e w' => e = .returned (.bool true) ∧ Up Nul w w' := by
  have HS := hid hS
  have H0 := hid h0
  have H1 := hid h1
  have HB := hid hb
  clear hS h0 h1 hb
  go_enter Tryd.func6, Tryd.ntmps6
  go_wp2_with fail
  refine (rec_any _ _ _ _ _ H0.out).mono ?_
  rintro e w1 ⟨r, sa, sc, la, lc, rfl, F1, R1, u1⟩
  have HF1 := hid F1
  have HR1 := hid R1
  have U1 := hid u1
  clear F1 R1 u1
  go_wp2_with fail
  refine (rec_any _ _ _ _ _ (camei_nxt H1.out U1.out)).mono ?_
  rintro e w2 ⟨q, sb, tc, lb, mc, rfl, F2, R2, u2⟩
  have HF2 := hid F2
  have HR2 := hid R2
  have U2 := hid u2
  clear F2 R2 u2
  go_upto_region 2 with fail
  obtain ⟨W3, hW3⟩ : ∃ W, W = (w2.alloc (.cells (rcellsL r (.slice sa r.sids.length sc) (.slice la r.locs.length lc)) 27)).alloc (.cells (rcellsL q (.slice sb q.sids.length tc) (.slice lb q.locs.length mc)) 27) := ⟨_, rfl⟩
  have U3 : Hid (Up Nul w2 W3) := by show Up _ _ _; rw [hW3]; exact ((Up.refl Nul w2).alloc _).alloc _
  have q1 : W3.heap[w2.heap.size]? = some (.cells (rcellsL r (.slice sa r.sids.length sc) (.slice la r.locs.length lc)) 27 (0, 0)) := by rw [hW3]; exact (Below.heap_alloc _ _ _ (by first | (simp; done) | (simp; omega))).trans (heap_alloc_new _ _)
  have q2 : W3.heap[w2.heap.size + 1]? = some (.cells (rcellsL q (.slice sb q.sids.length tc) (.slice lb q.locs.length mc)) 27 (0, 0)) := by rw [hW3]; have := heap_alloc_new (w2.alloc (.cells (rcellsL r (.slice sa r.sids.length sc) (.slice la r.locs.length lc)) 27)) (.cells (rcellsL q (.slice sb q.sids.length tc) (.slice lb q.locs.length mc)) 27); simpa using this
  have l1 := (Array.getElem?_eq_some_iff.1 q1).1
  have l2 := (Array.getElem?_eq_some_iff.1 q2).1
  have G1 : Hid (∀ W, Up Nul W3 W → W.heap[w2.heap.size]? = some (.cells (rcellsL r (.slice sa r.sids.length sc) (.slice la r.locs.length lc)) 27 (0, 0))) := fun W u => (u.block _ l1 id).trans q1
  have G2 : Hid (∀ W, Up Nul W3 W → W.heap[w2.heap.size + 1]? = some (.cells (rcellsL q (.slice sb q.sids.length tc) (.slice lb q.locs.length mc)) 27 (0, 0))) := fun W u => (u.block _ l2 id).trans q2
  rw [← hW3]
  clear hW3 q1 q2 l1 l2
  generalize w2.heap.size + 1 = p2 at G2 ⊢
  generalize w2.heap.size = p1 at G1 ⊢
  have UW := hid ((U1.out.trans U2.out).trans U3.out)
  have HS3 := hid (HS.out.nxt UW.out)
  have HB3 := hid (HB.out.nxt UW.out)
  have RR := hid (HR1.out.nxt (U2.out.trans U3.out))
  have RQ := hid (HR2.out.nxt U3.out)
  clear HR1 HR2 HS HB U1 U2 U3 H0 H1
  have x0 : W3.cell? ⟨p1, 0, none⟩ = some (.int .i64 r.kind) := by have a := G1.out _ (Up.refl Nul W3); simp only [World.cell?, a]; rfl
  have x1 : W3.cell? ⟨p1, 1, none⟩ = some (.string r.key) := by have a := G1.out _ (Up.refl Nul W3); simp only [World.cell?, a]; rfl
  have x2 : W3.cell? ⟨p1, 2, none⟩ = some (.int .i64 r.n) := by have a := G1.out _ (Up.refl Nul W3); simp only [World.cell?, a]; rfl
  have x3 : W3.cell? ⟨p1, 3, none⟩ = some (.int .i64 r.sid) := by have a := G1.out _ (Up.refl Nul W3); simp only [World.cell?, a]; rfl
  have x4 : W3.cell? ⟨p1, 4, none⟩ = some (.slice sa r.sids.length sc) := by have a := G1.out _ (Up.refl Nul W3); simp only [World.cell?, a]; rfl
  have x5 : W3.cell? ⟨p1, 5, none⟩ = some (.int .i64 r.colour) := by have a := G1.out _ (Up.refl Nul W3); simp only [World.cell?, a]; rfl
  have x6 : W3.cell? ⟨p1, 6, none⟩ = some (.slice la r.locs.length lc) := by have a := G1.out _ (Up.refl Nul W3); simp only [World.cell?, a]; rfl
  have x7 : W3.cell? ⟨p1, 7, none⟩ = some (.int .i64 r.t.hot) := by have a := G1.out _ (Up.refl Nul W3); simp only [World.cell?, a]; rfl
  have x8 : W3.cell? ⟨p1, 8, none⟩ = some (.int .i64 r.t.warm) := by have a := G1.out _ (Up.refl Nul W3); simp only [World.cell?, a]; rfl
  have x9 : W3.cell? ⟨p1, 9, none⟩ = some (.int .i64 r.t.gap) := by have a := G1.out _ (Up.refl Nul W3); simp only [World.cell?, a]; rfl
  have x10 : W3.cell? ⟨p1, 10, none⟩ = some (.int .i64 r.t.add) := by have a := G1.out _ (Up.refl Nul W3); simp only [World.cell?, a]; rfl
  have x11 : W3.cell? ⟨p1, 11, none⟩ = some (.int .i64 r.t.top) := by have a := G1.out _ (Up.refl Nul W3); simp only [World.cell?, a]; rfl
  have x12 : W3.cell? ⟨p1, 12, none⟩ = some (.int .i64 r.t.half) := by have a := G1.out _ (Up.refl Nul W3); simp only [World.cell?, a]; rfl
  go_wp2_with fail
  refine (enc_yes r sa la sc lc _ HS3.out RR.out HF1.out).mono ?_
  rintro e w4 ⟨v1, B1, rfl, ub1, hz1⟩
  obtain ⟨va, vc, rfl, vs1, _⟩ := hz1.sln (Nat.le_trans HF1.out.len (by decide))
  have U4 := hid (ub1.trans hz1.up)
  have HV1 := hid vs1
  clear ub1 hz1 vs1 x0 x1 x2 x3 x4 x5 x6 x7 x8 x9 x10 x11 x12
  have x0 : w4.cell? ⟨p2, 0, none⟩ = some (.int .i64 q.kind) := by have a := G2.out _ U4.out; simp only [World.cell?, a]; rfl
  have x1 : w4.cell? ⟨p2, 1, none⟩ = some (.string q.key) := by have a := G2.out _ U4.out; simp only [World.cell?, a]; rfl
  have x2 : w4.cell? ⟨p2, 2, none⟩ = some (.int .i64 q.n) := by have a := G2.out _ U4.out; simp only [World.cell?, a]; rfl
  have x3 : w4.cell? ⟨p2, 3, none⟩ = some (.int .i64 q.sid) := by have a := G2.out _ U4.out; simp only [World.cell?, a]; rfl
  have x4 : w4.cell? ⟨p2, 4, none⟩ = some (.slice sb q.sids.length tc) := by have a := G2.out _ U4.out; simp only [World.cell?, a]; rfl
  have x5 : w4.cell? ⟨p2, 5, none⟩ = some (.int .i64 q.colour) := by have a := G2.out _ U4.out; simp only [World.cell?, a]; rfl
  have x6 : w4.cell? ⟨p2, 6, none⟩ = some (.slice lb q.locs.length mc) := by have a := G2.out _ U4.out; simp only [World.cell?, a]; rfl
  have x7 : w4.cell? ⟨p2, 7, none⟩ = some (.int .i64 q.t.hot) := by have a := G2.out _ U4.out; simp only [World.cell?, a]; rfl
  have x8 : w4.cell? ⟨p2, 8, none⟩ = some (.int .i64 q.t.warm) := by have a := G2.out _ U4.out; simp only [World.cell?, a]; rfl
  have x9 : w4.cell? ⟨p2, 9, none⟩ = some (.int .i64 q.t.gap) := by have a := G2.out _ U4.out; simp only [World.cell?, a]; rfl
  have x10 : w4.cell? ⟨p2, 10, none⟩ = some (.int .i64 q.t.add) := by have a := G2.out _ U4.out; simp only [World.cell?, a]; rfl
  have x11 : w4.cell? ⟨p2, 11, none⟩ = some (.int .i64 q.t.top) := by have a := G2.out _ U4.out; simp only [World.cell?, a]; rfl
  have x12 : w4.cell? ⟨p2, 12, none⟩ = some (.int .i64 q.t.half) := by have a := G2.out _ U4.out; simp only [World.cell?, a]; rfl
  go_wp2_with fail
  refine (enc_yes q sb lb tc mc _ (HS3.out.nxt U4.out) (RQ.out.nxt U4.out) HF2.out).mono ?_
  rintro e w5 ⟨v2, B2, rfl, ub2, hz2⟩
  obtain ⟨vb, vd, rfl, vs2, _⟩ := hz2.sln (Nat.le_trans HF2.out.len (by decide))
  have U5 := hid (U4.out.trans (ub2.trans hz2.up))
  have HV2 := hid vs2
  have HV3 := hid (HV1.out.nxt (ub2.trans hz2.up))
  clear ub2 hz2 vs2 HV1 x0 x1 x2 x3 x4 x5 x6 x7 x8 x9 x10 x11 x12
  go_upto_region 4 with fail
  obtain ⟨b, hb⟩ : ∃ b, b = decide (r = q) := ⟨_, rfl⟩
  have HST : Hid (((strOf (encR r)).toList == (strOf (encR q)).toList) = b) := by show _ = _; rw [str_beq (small_getD HF1.out.small) (small_getD HF2.out.small), hb]; exact decide_eq_decide.2 ⟨fun e => enc_inj HF1.out HF2.out e, fun e => by rw [e]⟩
  have C1 := hid (fun W (u : Up Nul w5 W) => (HV3.out.nxt u).conv vc)
  have C2 := hid (fun W (u : Up Nul w5 W) => (HV2.out.nxt u).conv vd)
  have RA1 : Hid (∀ W, Up Nul w5 W → W.rangeAt p1 0 [.int .i64 r.kind, .string r.key, .int .i64 r.n, .int .i64 r.sid, .slice sa r.sids.length sc, .int .i64 r.colour, .slice la r.locs.length lc, .int .i64 r.t.hot, .int .i64 r.t.warm, .int .i64 r.t.gap, .int .i64 r.t.add, .int .i64 r.t.top, .int .i64 r.t.half]) := fun W u j v hv => by have a := G1.out _ (U5.out.trans u); simp only [World.cell?, a, Nat.zero_add]; simpa using hv
  have RA2 : Hid (∀ W, Up Nul w5 W → W.rangeAt p2 0 [.int .i64 q.kind, .string q.key, .int .i64 q.n, .int .i64 q.sid, .slice sb q.sids.length tc, .int .i64 q.colour, .slice lb q.locs.length mc, .int .i64 q.t.hot, .int .i64 q.t.warm, .int .i64 q.t.gap, .int .i64 q.t.add, .int .i64 q.t.top, .int .i64 q.t.half]) := fun W u j v hv => by have a := G2.out _ (U5.out.trans u); simp only [World.cell?, a, Nat.zero_add]; simpa using hv
  have HSR : Hid (∀ W, Up Nul w5 W → Calls Tryd.prog 14 #[.agg [.int .i64 r.kind, .string r.key, .int .i64 r.n, .int .i64 r.sid, .slice sa r.sids.length sc, .int .i64 r.colour, .slice la r.locs.length lc, .int .i64 r.t.hot, .int .i64 r.t.warm, .int .i64 r.t.gap, .int .i64 r.t.add, .int .i64 r.t.top, .int .i64 r.t.half].toArray, .agg [.int .i64 q.kind, .string q.key, .int .i64 q.n, .int .i64 q.sid, .slice sb q.sids.length tc, .int .i64 q.colour, .slice lb q.locs.length mc, .int .i64 q.t.hot, .int .i64 q.t.warm, .int .i64 q.t.gap, .int .i64 q.t.add, .int .i64 q.t.top, .int .i64 q.t.half].toArray] W fun e w' => e = .returned (.bool b) ∧ Up Nul W w') := fun W u => by rw [hb]; exact srec_any W r q sa sb la lb sc tc lc mc (RR.out.nxt (U5.out.trans u)) (RQ.out.nxt (U5.out.trans u))
  clear hb
  have HR := hid (Up.refl Nul w5)
  refine wp_region_held_drew (S := (fun W => Up Nul w5 W)) (by kernel_rfl) (by exact HR.out.drew) (fun hHeld => ?_)
  refine wpAnyH_take (i := 0) (oi := ⟨some 31, _, _, _, _, _⟩) (v := ?vo0) rfl (by kernel_rfl) (by kernel_rfl) (by kernel_rfl) (fun _ _ _ h => h) (Or.inl ⟨by rfl, ?yo0⟩) (by assumption) ?ro0
  case yo0 => (intro w hSw; go_simp; try with_reducible rfl)
  try simp only [Act.put, List.setIfInBounds_toArray, List.set_cons_zero, List.set_cons_succ]
  refine wpAnyH_take (i := 1) (oi := ⟨some 32, _, _, _, _, _⟩) (v := ?vo1) rfl (by kernel_rfl) (by kernel_rfl) (by kernel_rfl) (fun _ _ _ h => h) (Or.inl ⟨by rfl, ?yo1⟩) (by assumption) ?ro1
  case yo1 => (intro w hSw; go_simp; try with_reducible rfl)
  try simp only [Act.put, List.setIfInBounds_toArray, List.set_cons_zero, List.set_cons_succ]
  refine wpAnyH_take (i := 2) (oi := ⟨some 33, _, _, _, _, _⟩) (v := ?vo2) rfl (by kernel_rfl) (by kernel_rfl) (by kernel_rfl) (fun _ _ _ h => h) (Or.inl ⟨by rfl, ?yo2⟩) (by assumption) ?ro2
  case yo2 => (intro w hSw; go_simp; try with_reducible rfl)
  try simp only [Act.put, List.setIfInBounds_toArray, List.set_cons_zero, List.set_cons_succ]
  refine wpAnyH_take (i := 3) (oi := ⟨some 34, _, _, _, _, _⟩) (v := ?vo3) rfl (by kernel_rfl) (by kernel_rfl) (by kernel_rfl) (fun _ _ _ h => h) (Or.inl ⟨by rfl, ?yo3⟩) (by assumption) ?ro3
  case yo3 => (intro w hSw; go_simp; try with_reducible rfl)
  try simp only [Act.put, List.setIfInBounds_toArray, List.set_cons_zero, List.set_cons_succ]
  refine wpAnyH_take (i := 4) (oi := ⟨some 35, _, _, _, _, _⟩) (v := ?vo4) rfl (by kernel_rfl) (by kernel_rfl) (by kernel_rfl) (fun _ _ _ h => h) (Or.inl ⟨by rfl, ?yo4⟩) (by assumption) ?ro4
  case yo4 => (intro w hSw; go_simp; try with_reducible rfl)
  try simp only [Act.put, List.setIfInBounds_toArray, List.set_cons_zero, List.set_cons_succ]
  refine wpAnyH_take (i := 5) (oi := ⟨some 36, _, _, _, _, _⟩) (v := ?vo5) rfl (by kernel_rfl) (by kernel_rfl) (by kernel_rfl) (fun _ _ _ h => h) (Or.inl ⟨by rfl, ?yo5⟩) (by assumption) ?ro5
  case yo5 => (intro w hSw; go_simp; try with_reducible rfl)
  try simp only [Act.put, List.setIfInBounds_toArray, List.set_cons_zero, List.set_cons_succ]
  refine wpAnyH_take (i := 6) (oi := ⟨some 37, _, _, _, _, _⟩) (v := ?vo6) rfl (by kernel_rfl) (by kernel_rfl) (by kernel_rfl) (fun _ _ _ h => h) (Or.inl ⟨by rfl, ?yo6⟩) (by assumption) ?ro6
  case yo6 => (intro w hSw; go_simp; try with_reducible rfl)
  try simp only [Act.put, List.setIfInBounds_toArray, List.set_cons_zero, List.set_cons_succ]
  refine wpAnyH_take (i := 7) (oi := ⟨some 38, _, _, _, _, _⟩) (v := ?vo7) rfl (by kernel_rfl) (by kernel_rfl) (by kernel_rfl) (fun _ _ _ h => h) (Or.inl ⟨by rfl, ?yo7⟩) (by assumption) ?ro7
  case yo7 => (intro w hSw; go_simp; try with_reducible rfl)
  try simp only [Act.put, List.setIfInBounds_toArray, List.set_cons_zero, List.set_cons_succ]
  refine wpAnyH_take (i := 8) (oi := ⟨some 39, _, _, _, _, _⟩) (v := ?vo8) rfl (by kernel_rfl) (by kernel_rfl) (by kernel_rfl) (fun _ _ _ h => h) (Or.inl ⟨by rfl, ?yo8⟩) (by assumption) ?ro8
  case yo8 => (intro w hSw; have a := C1.out w hSw; go_simp; try with_reducible rfl)
  try simp only [Act.put, List.setIfInBounds_toArray, List.set_cons_zero, List.set_cons_succ]
  refine wpAnyH_take (i := 9) (oi := ⟨some 40, _, _, _, _, _⟩) (v := ?vo9) rfl (by kernel_rfl) (by kernel_rfl) (by kernel_rfl) (fun _ _ _ h => h) (Or.inl ⟨by rfl, ?yo9⟩) (by assumption) ?ro9
  case yo9 => (intro w hSw; go_simp; try with_reducible rfl)
  try simp only [Act.put, List.setIfInBounds_toArray, List.set_cons_zero, List.set_cons_succ]
  refine wpAnyH_take (i := 10) (oi := ⟨some 41, _, _, _, _, _⟩) (v := ?vo10) rfl (by kernel_rfl) (by kernel_rfl) (by kernel_rfl) (fun _ _ _ h => h) (Or.inl ⟨by rfl, ?yo10⟩) (by assumption) ?ro10
  case yo10 => (intro w hSw; have a := C2.out w hSw; go_simp; try with_reducible rfl)
  try simp only [Act.put, List.setIfInBounds_toArray, List.set_cons_zero, List.set_cons_succ]
  refine wpAnyH_take (i := 11) (oi := ⟨some 42, _, _, _, _, _⟩) (v := ?vo11) rfl (by kernel_rfl) (by kernel_rfl) (by kernel_rfl) (fun _ _ _ h => h) (Or.inl ⟨by rfl, ?yo11⟩) (by assumption) ?ro11
  case yo11 => (intro w hSw; have a := HST.out; go_simp; try with_reducible rfl)
  try simp only [Act.put, List.setIfInBounds_toArray, List.set_cons_zero, List.set_cons_succ]
  refine wpAnyH_take (i := 12) (oi := ⟨some 43, _, _, _, _, _⟩) rfl (by kernel_rfl) (by kernel_rfl) (by kernel_rfl) (fun _ _ _ h => h) (yieldsIf_load_mid (by rfl) 27 (.tmp 7) rfl p1 0 rfl [.int .i64 r.kind, .string r.key, .int .i64 r.n, .int .i64 r.sid, .slice sa r.sids.length sc, .int .i64 r.colour, .slice la r.locs.length lc, .int .i64 r.t.hot, .int .i64 r.t.warm, .int .i64 r.t.gap, .int .i64 r.t.add, .int .i64 r.t.top, .int .i64 r.t.half] _ (fun W hW => RA1.out W hW) Tryd.underlying27 rfl info_rc13) (by assumption) ?ro12
  try simp only [Act.put, List.setIfInBounds_toArray, List.set_cons_zero, List.set_cons_succ]
  refine wpAnyH_take (i := 13) (oi := ⟨some 44, _, _, _, _, _⟩) rfl (by kernel_rfl) (by kernel_rfl) (by kernel_rfl) (fun _ _ _ h => h) (yieldsIf_load_mid (by rfl) 27 (.tmp 8) rfl p2 0 rfl [.int .i64 q.kind, .string q.key, .int .i64 q.n, .int .i64 q.sid, .slice sb q.sids.length tc, .int .i64 q.colour, .slice lb q.locs.length mc, .int .i64 q.t.hot, .int .i64 q.t.warm, .int .i64 q.t.gap, .int .i64 q.t.add, .int .i64 q.t.top, .int .i64 q.t.half] _ (fun W hW => RA2.out W hW) Tryd.underlying27 rfl info_rc13) (by assumption) ?ro13
  try simp only [Act.put, List.setIfInBounds_toArray, List.set_cons_zero, List.set_cons_succ]
  refine wpAnyH_ready (rs := [14]) (by kernel_rfl) (by simp) ?_
  refine AllReadyH.cons (o := ⟨some 45, _, _, _, _, _⟩) rfl (fun K hK => ?_) AllReadyH.nil
  go_simp
  go_at_call 14; refine (HSR.out _ (show Up Nul w5 _ from hHeld)).mono ?_; rintro e wb ⟨rfl, kb⟩
  refine hK.out _ _ ?ko14 (fun hHeld => ?_)
  case ko14 => exact (Up.trans (show Up Nul w5 _ from hHeld) kb)
  clear hK K
  try simp only [Act.put, List.setIfInBounds_toArray, List.set_cons_zero, List.set_cons_succ]
  refine wpAnyH_take (i := 15) (oi := ⟨some 46, _, _, _, _, _⟩) (v := ?vo15) rfl (by kernel_rfl) (by kernel_rfl) (by kernel_rfl) (fun _ _ _ h => h) (Or.inl ⟨by rfl, ?yo15⟩) (by assumption) ?ro15
  case yo15 => (intro w hSw; go_simp; try with_reducible rfl)
  try simp only [Act.put, List.setIfInBounds_toArray, List.set_cons_zero, List.set_cons_succ]
  refine wpAnyH_take (i := 16) (oi := ⟨some 47, _, _, _, _, _⟩) (v := ?vo16) rfl (by kernel_rfl) (by kernel_rfl) (by kernel_rfl) (fun _ _ _ h => h) (Or.inl ⟨by rfl, ?yo16⟩) (by assumption) ?ro16
  case yo16 => (intro w hSw; go_simp; try with_reducible rfl)
  try simp only [Act.put, List.setIfInBounds_toArray, List.set_cons_zero, List.set_cons_succ]
  refine wpAnyH_done (by kernel_rfl) ?_ _
  have U6 := hid (U5.out.trans (show Up Nul w5 _ from hHeld))
  have HS6 := hid (HS3.out.nxt U6.out)
  have HB6 := hid (HB3.out.nxt U6.out)
  have UT := hid (UW.out.trans U6.out)
  clear hHeld HSR RA1 RA2 C1 C2 HR HV2 HV3 U5 U4 G1 G2 RR RQ HST HS3 HB3 UW U6 HF1 HF2
  have HD := dec_any a2 len2 cap2 z2 _ HS6.out HB6.out hc
  unfold decO at HD
  cases hd : decR z2 with
  | none =>
    rw [hd] at HD
    have HD := hid HD
    clear hd
    go_wp2_with fail
    refine HD.out.mono ?_
    rintro e w7 ⟨sa2, sc2, la2, lc2, rfl, _, u7⟩
    have U7 := hid u7
    clear u7
    go_wp2_with fail
    refine (rawake_any _ (HS6.out.nxt (U7.out.alloc _))).mono ?_
    rintro e w8 ⟨rfl, u8⟩
    have U8 := hid ((UT.out.trans (U7.out.alloc _)).trans u8)
    clear u8
    go_wp2
    go_ret
    exact ⟨rfl, U8.out⟩
  | some v =>
    rw [hd] at HD
    have HD := hid HD
    obtain ⟨F, E⟩ := decR_iff.1 hd
    have HF := hid F
    have HE := hid E
    clear hd F E
    go_wp2_with fail
    refine HD.out.mono ?_
    rintro e w7 ⟨sa2, sc2, la2, lc2, rfl, R7, u7⟩
    simp only [Option.getD_some, Option.isSome_some] at R7 ⊢
    have U7 := hid u7
    have HR7 := hid R7
    clear u7 R7 HD
    go_upto_region 8 with fail
    obtain ⟨W8, hW8⟩ : ∃ W, W = w7.alloc (.cells (rcellsL v (.slice sa2 v.sids.length sc2) (.slice la2 v.locs.length lc2)) 27) := ⟨_, rfl⟩
    have U8 : Hid (Up Nul w7 W8) := by show Up _ _ _; rw [hW8]; exact (Up.refl Nul w7).alloc _
    have q8 : W8.heap[w7.heap.size]? = some (.cells (rcellsL v (.slice sa2 v.sids.length sc2) (.slice la2 v.locs.length lc2)) 27 (0, 0)) := by rw [hW8]; exact heap_alloc_new _ _
    rw [← hW8]
    clear hW8
    generalize w7.heap.size = p3 at q8 ⊢
    have x0 : W8.cell? ⟨p3, 0, none⟩ = some (.int .i64 v.kind) := by simp only [World.cell?, q8]; rfl
    have x1 : W8.cell? ⟨p3, 1, none⟩ = some (.string v.key) := by simp only [World.cell?, q8]; rfl
    have x2 : W8.cell? ⟨p3, 2, none⟩ = some (.int .i64 v.n) := by simp only [World.cell?, q8]; rfl
    have x3 : W8.cell? ⟨p3, 3, none⟩ = some (.int .i64 v.sid) := by simp only [World.cell?, q8]; rfl
    have x4 : W8.cell? ⟨p3, 4, none⟩ = some (.slice sa2 v.sids.length sc2) := by simp only [World.cell?, q8]; rfl
    have x5 : W8.cell? ⟨p3, 5, none⟩ = some (.int .i64 v.colour) := by simp only [World.cell?, q8]; rfl
    have x6 : W8.cell? ⟨p3, 6, none⟩ = some (.slice la2 v.locs.length lc2) := by simp only [World.cell?, q8]; rfl
    have x7 : W8.cell? ⟨p3, 7, none⟩ = some (.int .i64 v.t.hot) := by simp only [World.cell?, q8]; rfl
    have x8 : W8.cell? ⟨p3, 8, none⟩ = some (.int .i64 v.t.warm) := by simp only [World.cell?, q8]; rfl
    have x9 : W8.cell? ⟨p3, 9, none⟩ = some (.int .i64 v.t.gap) := by simp only [World.cell?, q8]; rfl
    have x10 : W8.cell? ⟨p3, 10, none⟩ = some (.int .i64 v.t.add) := by simp only [World.cell?, q8]; rfl
    have x11 : W8.cell? ⟨p3, 11, none⟩ = some (.int .i64 v.t.top) := by simp only [World.cell?, q8]; rfl
    have x12 : W8.cell? ⟨p3, 12, none⟩ = some (.int .i64 v.t.half) := by simp only [World.cell?, q8]; rfl
    clear q8
    have U9 := hid (U7.out.trans U8.out)
    go_wp2_with fail
    refine (enc_yes v sa2 la2 sc2 lc2 _ (HS6.out.nxt U9.out) (HR7.out.nxt U8.out) HF.out).mono ?_
    rintro e w9 ⟨v3, B3, rfl, ub3, hz3⟩
    obtain ⟨vf, vg, rfl, vs3, _⟩ := hz3.sln (Nat.le_trans HF.out.len (by decide))
    have U10 := hid (U9.out.trans (ub3.trans hz3.up))
    have c1 := vs3.conv vg
    have c2 := (HB6.out.nxt U10.out).conv cap2
    rw [← HE.out] at c2
    clear ub3 hz3 vs3 x0 x1 x2 x3 x4 x5 x6 x7 x8 x9 x10 x11 x12
    go_wp2_with fail
    refine (rawake_any _ (HS6.out.nxt U10.out)).mono ?_
    rintro e w11 ⟨rfl, u11⟩
    have U11 := hid ((UT.out.trans U10.out).trans u11)
    clear u11 c1 c2
    go_wp2
    go_ret
    exact ⟨rfl, U11.out⟩
end Go.Proofs.YtpdkcpjofofkoaaDoor
