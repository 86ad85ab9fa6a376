/- RecCodes. -/
import Derived.Test.YtpdkcpjofofkoaaDoorRcRefK
import Derived.Test.YtpdkcpjofofkoaaDoorRcRefY
import Derived.Test.YtpdkcpjofofkoaaDoorRcArg
import Derived.Test.YtpdkcpjofofkoaaDoorRcAwake
import Derived.Test.YtpdkcpjofofkoaaDoorRcSRecA
import Derived.Test.YtpdkcpjofofkoaaDoorRcEnc2
import Derived.Test.YtpdkcpjofofkoaaDoorRcDec
import Derived.Test.YtpdkcpjofofkoaaDoorRcRec
import Derived.Test.YtpdkcpjofofkoaaDoorRcRow
import Derived.Test.YtpdkcpjofofkoaaDoorRcSt
import Derived.Deep.MidRow
set_option maxRecDepth 100000
namespace Go.Proofs.YtpdkcpjofofkoaaDoor
open Go.RowKit
set_option linter.unusedVariables false

/-- The rows of a record that are new lie apart from an older block. -/
theorem RO.far {B p : Nat} {w : World} {r : Rc} {sa la : Option Addr} {lc : Nat} (h : RO B w r sa la lc) (hp : p < B) : (∀ g o, r.sids ≠ [] → sa = some ⟨g, o, none⟩ → g ≠ p) ∧ (∀ g o, la = some ⟨g, o, none⟩ → g ≠ p) := by
  constructor
  · intro g o hn e
    rcases h.s with e0 | ⟨g', e1, hb, _⟩
    · exact absurd e0 hn
    · rw [e1] at e
      cases e
      omega
  · intro g o e
    have := h.l.apart g o e
    omega
set_option maxHeartbeats 8000000 in
theorem codes_any (r : Rc) (sa la : Option Addr) (sc lc : Nat) (a1 : Option Addr) (len1 cap1 : Nat) (z1 : List Int) (w : World) (hS : Shp w) (h1 : CameI w a1 len1 cap1 z1) (hs : RowI w sa r.sids) (hl : RowL w la r.locs) :
    Calls Tryd.prog 4 #[rv r (.slice sa r.sids.length sc) (.slice la r.locs.length lc), .slice a1 len1 cap1] w fun e w' => e = .returned (.bool true) ∧ Up Nul w w' := by
  have HS := hid hS
  have H1 := hid h1
  have HSI := hid hs
  have HLO := hid hl
  clear hS h1 hs hl
  obtain ⟨W1, hW1⟩ : ∃ W, W = w.alloc (.cells (rcellsL r (.slice sa r.sids.length sc) (.slice la r.locs.length lc)) 27) := ⟨_, rfl⟩
  have U1 : Hid (Up Nul w W1) := by show Up _ _ _; rw [hW1]; exact (Up.refl Nul w).alloc _
  have B1 : Hid (RB W1 w.heap.size r (.slice sa r.sids.length sc) (.slice la r.locs.length lc)) := by show RB _ _ _ _ _; rw [hW1]; exact RB.new _ _ _ _
  go_enter Tryd.func4, Tryd.ntmps4
  go_upto_region 1 with fail
  rw [← hW1]
  clear hW1
  obtain ⟨p1, hpe⟩ : ∃ p, p = w.heap.size := ⟨_, rfl⟩
  rw [← hpe] at B1 ⊢
  clear hpe
  obtain ⟨x0, x1, x2, x3, x4, x5, x6, x7, x8, x9, x10, x11, x12⟩ := B1.out.cells
  by_cases c1 : (20 : Int) < (r.sids.length : Int)
  · go_wp2_with fail
    refine (rawake_any _ (HS.out.nxt U1.out)).mono ?_
    rintro e w2 ⟨rfl, u2⟩
    have U2 := hid (U1.out.trans u2)
    clear u2
    go_wp2
    go_ret
    exact ⟨rfl, U2.out⟩
  by_cases c2 : (40 : Int) < (r.locs.length : Int)
  · go_wp2_with fail
    refine (rawake_any _ (HS.out.nxt U1.out)).mono ?_
    rintro e w2 ⟨rfl, u2⟩
    have U2 := hid (U1.out.trans u2)
    clear u2
    go_wp2
    go_ret
    exact ⟨rfl, U2.out⟩
  by_cases c3 : (100 : Int) < (r.key.size : Int)
  · go_wp2_with fail
    refine (rawake_any _ (HS.out.nxt U1.out)).mono ?_
    rintro e w2 ⟨rfl, u2⟩
    have U2 := hid (U1.out.trans u2)
    clear u2
    go_wp2
    go_ret
    exact ⟨rfl, U2.out⟩
  have HRH : Hid (RH w r sa la) := ⟨HSI.out, HLO.out, by omega, by omega⟩
  have HKS : Hid (r.key.size ≤ 100000) := by show _ ≤ _; omega
  go_upto_region 4 with fail
  obtain ⟨W3, hW3⟩ : ∃ W, W = W1.alloc (.cells (rcellsL r (.slice sa r.sids.length sc) (.slice la r.locs.length lc)) 27) := ⟨_, rfl⟩
  have U3 : Hid (Up Nul w W3) := by show Up _ _ _; rw [hW3]; exact U1.out.alloc _
  have B3 : Hid (RB W3 W1.heap.size r (.slice sa r.sids.length sc) (.slice la r.locs.length lc)) := by show RB _ _ _ _ _; rw [hW3]; exact RB.new _ _ _ _
  rw [← hW3]
  clear hW3 B1 c1 c2 c3 x0 x1 x2 x3 x4 x5 x6 x7 x8 x9 x10 x11 x12
  obtain ⟨p, hpe⟩ : ∃ p, p = W1.heap.size := ⟨_, rfl⟩
  have hp := hid (show w.heap.size ≤ p by rw [hpe]; exact U1.out.size)
  rw [← hpe] at B3 ⊢
  clear hpe U1
  go_wp2_with fail
  go_loopw [6] (fun i wr => ∃ (t : Nat) (q : Rc) (sb lb : Option Addr) (tc mc : Nat), i = .int .i64 (t : Nat) ∧ t ≤ 2 ∧ Hid (t = 0 ∨ OkF q) ∧ Hid (RB wr p q (.slice sb q.sids.length tc) (.slice lb q.locs.length mc)) ∧ Hid (RH wr q sb lb) ∧ Hid (q.key.size ≤ 100000) ∧ Hid (Up Nul w wr)) (fun i _ => 2 - (intOf i).toNat)
  case atStart => exact ⟨0, r, sa, la, sc, lc, rfl, by omega, .inl rfl, B3, hid (HRH.out.nxt U3.out), HKS, U3⟩
  case round =>
    obtain ⟨t, q, sb, lb, tc, mc, rfl, ht, HF, HB, HR, HK, HU⟩ := hrel
    have i0 : (0 : Int) ≤ (t : Int) := by omega
    have HSW := hid (HS.out.nxt HU.out)
    obtain ⟨x0, x1, x2, x3, x4, x5, x6, x7, x8, x9, x10, x11, x12⟩ := HB.out.cells
    by_cases hd : t < 2
    · have j1 : (t : Int) < 2 := by omega
      have HD := hid hd
      clear hd ht
      cases hq : okR q with
      | false =>
        have HQ := hid hq
        clear hq
        go_wp2_with fail
        refine (enc_not q sb lb tc mc _ HSW.out HR.out HK.out HQ.out).mono ?_
        rintro e w4 ⟨rfl, u4⟩
        have HB4 := hid (HB.out.nxt u4)
        have HR4 := hid (HR.out.nxt u4)
        have HU4 := hid (HU.out.trans u4)
        clear u4 x0 x1 x2 x3 x4 x5 x6 x7 x8 x9 x10 x11 x12 HB HR HU HSW
        obtain ⟨x0, x1, x2, x3, x4, x5, x6, x7, x8, x9, x10, x11, x12⟩ := HB4.out.cells
        go_wp2_with fail
        refine (rok_any q sb lb tc mc _ HR4.out HK.out).mono ?_
        rintro e w6 ⟨rfl, u6⟩
        rw [HQ.out]
        have HB6 := hid (HB4.out.nxt u6)
        have HR6 := hid (HR4.out.nxt u6)
        have HU6 := hid (HU4.out.trans u6)
        clear u6 x0 x1 x2 x3 x4 x5 x6 x7 x8 x9 x10 x11 x12 HB4 HR4 HU4
        go_upto_region 9 with fail
        have RA : Hid (∀ W, Up Nul w6 W → W.rangeAt p 0 [.int .i64 q.kind, .string q.key, .int .i64 q.n, .int .i64 q.sid, .slice sb q.sids.length tc, .int .i64 q.colour, .slice lb q.locs.length mc, .int .i64 q.t.hot, .int .i64 q.t.warm, .int .i64 q.t.gap, .int .i64 q.t.add, .int .i64 q.t.top, .int .i64 q.t.half]) := fun W u => (HB6.out.nxt u).range
        have rok9 : Hid (∀ W, Up Nul w6 W → Calls Tryd.prog 8 #[.agg [.int .i64 q.kind, .string q.key, .int .i64 q.n, .int .i64 q.sid, .slice sb q.sids.length tc, .int .i64 q.colour, .slice lb q.locs.length mc, .int .i64 q.t.hot, .int .i64 q.t.warm, .int .i64 q.t.gap, .int .i64 q.t.add, .int .i64 q.t.top, .int .i64 q.t.half].toArray] W fun e w' => e = .returned (.bool false) ∧ Up Nul W w') := fun W u => by have := ok_any q sb lb tc mc W (HS.out.nxt (HU6.out.trans u)) (HR6.out.nxt u) HK.out; rw [HQ.out] at this; exact this
        refine wp_region_held_drew (S := (fun W => Up Nul w6 W)) (by kernel_rfl) (by exact (Up.refl Nul w6).drew) (fun hHeld => ?_)
        refine wpAnyH_take (i := 0) (oi := ⟨some 41, _, _, _, _, _⟩) (v := ?vh1) rfl (by kernel_rfl) (by kernel_rfl) (by kernel_rfl) (fun _ _ _ h => h) (Or.inl ⟨by rfl, ?yh1⟩) (by assumption) ?rh1
        case yh1 => (intro w hSw; (try dsimp only at hSw); go_simp; try with_reducible rfl)
        try simp only [Act.put, List.setIfInBounds_toArray, List.set_cons_zero, List.set_cons_succ]
        refine wpAnyH_take (i := 1) (oi := ⟨some 42, _, _, _, _, _⟩) (v := ?vh2) rfl (by kernel_rfl) (by kernel_rfl) (by kernel_rfl) (fun _ _ _ h => h) (Or.inl ⟨by rfl, ?yh2⟩) (by assumption) ?rh2
        case yh2 => (intro w hSw; (try dsimp only at hSw); go_simp; try with_reducible rfl)
        try simp only [Act.put, List.setIfInBounds_toArray, List.set_cons_zero, List.set_cons_succ]
        refine wpAnyH_take (i := 2) (oi := ⟨some 43, _, _, _, _, _⟩) (v := ?vh3) rfl (by kernel_rfl) (by kernel_rfl) (by kernel_rfl) (fun _ _ _ h => h) (Or.inl ⟨by rfl, ?yh3⟩) (by assumption) ?rh3
        case yh3 => (intro w hSw; (try dsimp only at hSw); go_simp; try with_reducible rfl)
        try simp only [Act.put, List.setIfInBounds_toArray, List.set_cons_zero, List.set_cons_succ]
        refine wpAnyH_take (i := 3) (oi := ⟨some 44, _, _, _, _, _⟩) (v := ?vh4) rfl (by kernel_rfl) (by kernel_rfl) (by kernel_rfl) (fun _ _ _ h => h) (Or.inl ⟨by rfl, ?yh4⟩) (by assumption) ?rh4
        case yh4 => (intro w hSw; (try dsimp only at hSw); go_simp; try with_reducible rfl)
        try simp only [Act.put, List.setIfInBounds_toArray, List.set_cons_zero, List.set_cons_succ]
        refine wpAnyH_take (i := 4) (oi := ⟨some 45, _, _, _, _, _⟩) rfl (by kernel_rfl) (by kernel_rfl) (by kernel_rfl) (fun _ _ _ h => h) (yieldsIf_load_mid (by rfl) 27 (.tmp 5) rfl p 0 rfl [.int .i64 q.kind, .string q.key, .int .i64 q.n, .int .i64 q.sid, .slice sb q.sids.length tc, .int .i64 q.colour, .slice lb q.locs.length mc, .int .i64 q.t.hot, .int .i64 q.t.warm, .int .i64 q.t.gap, .int .i64 q.t.add, .int .i64 q.t.top, .int .i64 q.t.half] _ (fun W hW => RA.out W hW) Tryd.underlying27 rfl info_rec13) (by assumption) ?rh5
        try simp only [Act.put, List.setIfInBounds_toArray, List.set_cons_zero, List.set_cons_succ]
        refine wpAnyH_take (i := 6) (oi := ⟨some 47, _, _, _, _, _⟩) (v := ?vh6) rfl (by kernel_rfl) (by kernel_rfl) (by kernel_rfl) (fun _ _ _ h => h) (Or.inl ⟨by rfl, ?yh6⟩) (by assumption) ?rh6
        case yh6 => (intro w hSw; (try dsimp only at hSw); go_simp; try with_reducible rfl)
        try simp only [Act.put, List.setIfInBounds_toArray, List.set_cons_zero, List.set_cons_succ]
        refine wpAnyH_ready (rs := [5]) (by kernel_rfl) (by simp) ?_
        refine (AllReadyH.cons (o := ⟨some 46, _, _, _, _, _⟩) rfl (fun K hK => ?_) AllReadyH.nil)
        go_simp
        go_at_call 8; refine (rok9.out _ (show Up Nul w6 _ from hHeld)).mono ?_; rintro e wb ⟨rfl, kb⟩
        refine hK.out _ _ ?kh7x (fun hHeld => ?_)
        case kh7x => exact (Up.trans (show Up Nul w6 _ from hHeld) kb)
        clear hK K
        try simp only [Act.put, List.setIfInBounds_toArray, List.set_cons_zero, List.set_cons_succ]
        refine wpAnyH_take (i := 7) (oi := ⟨some 48, _, _, _, _, _⟩) (v := ?vh8) rfl (by kernel_rfl) (by kernel_rfl) (by kernel_rfl) (fun _ _ _ h => h) (Or.inl ⟨by rfl, ?yh8⟩) (by assumption) ?rh8
        case yh8 => (intro w hSw; (try dsimp only at hSw); go_simp; try with_reducible rfl)
        try simp only [Act.put, List.setIfInBounds_toArray, List.set_cons_zero, List.set_cons_succ]
        refine wpAnyH_take (i := 8) (oi := ⟨some 49, _, _, _, _, _⟩) (v := ?vh9) rfl (by kernel_rfl) (by kernel_rfl) (by kernel_rfl) (fun _ _ _ h => h) (Or.inl ⟨by rfl, ?yh9⟩) (by assumption) ?rh9
        case yh9 => (intro w hSw; (try dsimp only at hSw); go_simp; try with_reducible rfl)
        try simp only [Act.put, List.setIfInBounds_toArray, List.set_cons_zero, List.set_cons_succ]
        refine wpAnyH_take (i := 9) (oi := ⟨some 50, _, _, _, _, _⟩) (v := ?vh10) rfl (by kernel_rfl) (by kernel_rfl) (by kernel_rfl) (fun _ _ _ h => h) (Or.inl ⟨by rfl, ?yh10⟩) (by assumption) ?rh10
        case yh10 => (intro w hSw; (try dsimp only at hSw); go_simp; try with_reducible rfl)
        try simp only [Act.put, List.setIfInBounds_toArray, List.set_cons_zero, List.set_cons_succ]
        refine wpAnyH_take (i := 10) (oi := ⟨some 51, _, _, _, _, _⟩) (v := ?vh11) rfl (by kernel_rfl) (by kernel_rfl) (by kernel_rfl) (fun _ _ _ h => h) (Or.inl ⟨by rfl, ?yh11⟩) (by assumption) ?rh11
        case yh11 => (intro w hSw; (try dsimp only at hSw); go_simp; try with_reducible rfl)
        try simp only [Act.put, List.setIfInBounds_toArray, List.set_cons_zero, List.set_cons_succ]
        refine wpAnyH_take (i := 11) (oi := ⟨some 52, _, _, _, _, _⟩) (v := ?vh12) rfl (by kernel_rfl) (by kernel_rfl) (by kernel_rfl) (fun _ _ _ h => h) (Or.inl ⟨by rfl, ?yh12⟩) (by assumption) ?rh12
        case yh12 => (intro w hSw; (try dsimp only at hSw); go_simp; try with_reducible rfl)
        try simp only [Act.put, List.setIfInBounds_toArray, List.set_cons_zero, List.set_cons_succ]
        refine wpAnyH_take (i := 12) (oi := ⟨some 53, _, _, _, _, _⟩) (v := ?vh13) rfl (by kernel_rfl) (by kernel_rfl) (by kernel_rfl) (fun _ _ _ h => h) (Or.inl ⟨by rfl, ?yh13⟩) (by assumption) ?rh13
        case yh13 => (intro w hSw; (try dsimp only at hSw); go_simp; try with_reducible rfl)
        try simp only [Act.put, List.setIfInBounds_toArray, List.set_cons_zero, List.set_cons_succ]
        refine wpAnyH_take (i := 13) (oi := ⟨some 54, _, _, _, _, _⟩) (v := ?vh14) rfl (by kernel_rfl) (by kernel_rfl) (by kernel_rfl) (fun _ _ _ h => h) (Or.inl ⟨by rfl, ?yh14⟩) (by assumption) ?rh14
        case yh14 => (intro w hSw; (try dsimp only at hSw); go_simp; try with_reducible rfl)
        try simp only [Act.put, List.setIfInBounds_toArray, List.set_cons_zero, List.set_cons_succ]
        refine wpAnyH_take (i := 14) (oi := ⟨some 55, _, _, _, _, _⟩) (v := ?vh15) rfl (by kernel_rfl) (by kernel_rfl) (by kernel_rfl) (fun _ _ _ h => h) (Or.inl ⟨by rfl, ?yh15⟩) (by assumption) ?rh15
        case yh15 => (intro w hSw; (try dsimp only at hSw); go_simp; try with_reducible rfl)
        try simp only [Act.put, List.setIfInBounds_toArray, List.set_cons_zero, List.set_cons_succ]
        refine wpAnyH_take (i := 15) (oi := ⟨some 56, _, _, _, _, _⟩) (v := ?vh16) rfl (by kernel_rfl) (by kernel_rfl) (by kernel_rfl) (fun _ _ _ h => h) (Or.inl ⟨by rfl, ?yh16⟩) (by assumption) ?rh16
        case yh16 => (intro w hSw; (try dsimp only at hSw); go_simp; try with_reducible rfl)
        try simp only [Act.put, List.setIfInBounds_toArray, List.set_cons_zero, List.set_cons_succ]
        refine wpAnyH_take (i := 16) (oi := ⟨some 57, _, _, _, _, _⟩) (v := ?vh17) rfl (by kernel_rfl) (by kernel_rfl) (by kernel_rfl) (fun _ _ _ h => h) (Or.inl ⟨by rfl, ?yh17⟩) (by assumption) ?rh17
        case yh17 => (intro w hSw; (try dsimp only at hSw); go_simp; try with_reducible rfl)
        try simp only [Act.put, List.setIfInBounds_toArray, List.set_cons_zero, List.set_cons_succ]
        refine wpAnyH_take (i := 17) (oi := ⟨some 58, _, _, _, _, _⟩) (v := ?vh18) rfl (by kernel_rfl) (by kernel_rfl) (by kernel_rfl) (fun _ _ _ h => h) (Or.inl ⟨by rfl, ?yh18⟩) (by assumption) ?rh18
        case yh18 => (intro w hSw; (try dsimp only at hSw); go_simp; try with_reducible rfl)
        try simp only [Act.put, List.setIfInBounds_toArray, List.set_cons_zero, List.set_cons_succ]
        refine wpAnyH_take (i := 18) (oi := ⟨some 59, _, _, _, _, _⟩) (v := ?vh19) rfl (by kernel_rfl) (by kernel_rfl) (by kernel_rfl) (fun _ _ _ h => h) (Or.inl ⟨by rfl, ?yh19⟩) (by assumption) ?rh19
        case yh19 => (intro w hSw; (try dsimp only at hSw); go_simp; try with_reducible rfl)
        try simp only [Act.put, List.setIfInBounds_toArray, List.set_cons_zero, List.set_cons_succ]
        refine wpAnyH_take (i := 19) (oi := ⟨some 60, _, _, _, _, _⟩) (v := ?vh20) rfl (by kernel_rfl) (by kernel_rfl) (by kernel_rfl) (fun _ _ _ h => h) (Or.inl ⟨by rfl, ?yh20⟩) (by assumption) ?rh20
        case yh20 => (intro w hSw; (try dsimp only at hSw); go_simp; try with_reducible rfl)
        try simp only [Act.put, List.setIfInBounds_toArray, List.set_cons_zero, List.set_cons_succ]
        refine wpAnyH_take (i := 20) (oi := ⟨some 61, _, _, _, _, _⟩) (v := ?vh21) rfl (by kernel_rfl) (by kernel_rfl) (by kernel_rfl) (fun _ _ _ h => h) (Or.inl ⟨by rfl, ?yh21⟩) (by assumption) ?rh21
        case yh21 => (intro w hSw; (try dsimp only at hSw); go_simp; try with_reducible rfl)
        try simp only [Act.put, List.setIfInBounds_toArray, List.set_cons_zero, List.set_cons_succ]
        refine wpAnyH_take (i := 21) (oi := ⟨some 62, _, _, _, _, _⟩) (v := undef) rfl (by kernel_rfl) (by kernel_rfl) (by kernel_rfl) (fun _ _ _ h => h) (Or.inr ⟨by rfl, rfl⟩) (by assumption) ?rh22u
        try simp only [Act.put, List.setIfInBounds_toArray, List.set_cons_zero, List.set_cons_succ]
        refine wpAnyH_take (i := 22) (oi := ⟨some 63, _, _, _, _, _⟩) (v := undef) rfl (by kernel_rfl) (by kernel_rfl) (by kernel_rfl) (fun _ _ _ h => h) (Or.inr ⟨by rfl, rfl⟩) (by assumption) ?rh23u
        try simp only [Act.put, List.setIfInBounds_toArray, List.set_cons_zero, List.set_cons_succ]
        refine wpAnyH_take (i := 23) (oi := ⟨some 64, _, _, _, _, _⟩) (v := undef) rfl (by kernel_rfl) (by kernel_rfl) (by kernel_rfl) (fun _ _ _ h => h) (Or.inr ⟨by rfl, rfl⟩) (by assumption) ?rh24u
        try simp only [Act.put, List.setIfInBounds_toArray, List.set_cons_zero, List.set_cons_succ]
        refine wpAnyH_take (i := 24) (oi := ⟨some 65, _, _, _, _, _⟩) (v := undef) rfl (by kernel_rfl) (by kernel_rfl) (by kernel_rfl) (fun _ _ _ h => h) (Or.inr ⟨by rfl, rfl⟩) (by assumption) ?rh25u
        try simp only [Act.put, List.setIfInBounds_toArray, List.set_cons_zero, List.set_cons_succ]
        refine wpAnyH_take (i := 25) (oi := ⟨some 66, _, _, _, _, _⟩) (v := undef) rfl (by kernel_rfl) (by kernel_rfl) (by kernel_rfl) (fun _ _ _ h => h) (Or.inr ⟨by rfl, rfl⟩) (by assumption) ?rh26u
        try simp only [Act.put, List.setIfInBounds_toArray, List.set_cons_zero, List.set_cons_succ]
        refine wpAnyH_take (i := 26) (oi := ⟨some 67, _, _, _, _, _⟩) (v := ?vh27) rfl (by kernel_rfl) (by kernel_rfl) (by kernel_rfl) (fun _ _ _ h => h) (Or.inl ⟨by rfl, ?yh27⟩) (by assumption) ?rh27
        case yh27 => (intro w hSw; (try dsimp only at hSw); go_simp; try with_reducible rfl)
        try simp only [Act.put, List.setIfInBounds_toArray, List.set_cons_zero, List.set_cons_succ]
        refine wpAnyH_take (i := 27) (oi := ⟨some 68, _, _, _, _, _⟩) (v := ?vh28) rfl (by kernel_rfl) (by kernel_rfl) (by kernel_rfl) (fun _ _ _ h => h) (Or.inl ⟨by rfl, ?yh28⟩) (by assumption) ?rh28
        case yh28 => (intro w hSw; (try dsimp only at hSw); go_simp; try with_reducible rfl)
        try simp only [Act.put, List.setIfInBounds_toArray, List.set_cons_zero, List.set_cons_succ]
        refine wpAnyH_done (by kernel_rfl) ?_ _
        have u7 := hid (show Up Nul w6 _ from hHeld)
        clear hHeld
        repeat clear hHeld
        have HB8 := hid (HB6.out.nxt u7.out)
        have HU8 := hid (HU6.out.trans u7.out)
        clear HB6 HU6 HR6 RA rok9
        have HB6 := HB8
        have HU6 := HU8
        obtain ⟨x0, x1, x2, x3, x4, x5, x6, x7, x8, x9, x10, x11, x12⟩ := HB6.out.cells
        have f0 := HB6.out.froz 0
        have f1 := HB6.out.froz 1
        have f2 := HB6.out.froz 2
        have f3 := HB6.out.froz 3
        have f4 := HB6.out.froz 4
        have f5 := HB6.out.froz 5
        have f6 := HB6.out.froz 6
        have f7 := HB6.out.froz 7
        have f8 := HB6.out.froz 8
        have f9 := HB6.out.froz 9
        have f10 := HB6.out.froz 10
        have f11 := HB6.out.froz 11
        have f12 := HB6.out.froz 12
        clear x0 x1 x2 x3 x4 x5 x6 x7 x8 x9 x10 x11 x12 f0 f1 f2 f3 f4 f5 f6 f7 f8 f9 f10 f11 f12
        go_wp2_with fail
        refine (rec_own _ _ _ _ _ (came_nxt H1.out HU6.out)).mono ?_
        rintro e w9 ⟨q2, sb2, tc2, lb2, mc2, rfl, F2, R2, O2, u9⟩
        have HO2 := hid (O2.far (HB6.out.lt))
        have HB9 := hid (HB6.out.nxt u9)
        have HU9 := hid (HU6.out.trans u9)
        have HF2 := hid F2
        have HR2 := hid R2
        clear F2 R2 O2 u9
        obtain ⟨x0, x1, x2, x3, x4, x5, x6, x7, x8, x9, x10, x11, x12⟩ := HB9.out.cells
        have f0 := HB9.out.froz 0
        have f1 := HB9.out.froz 1
        have f2 := HB9.out.froz 2
        have f3 := HB9.out.froz 3
        have f4 := HB9.out.froz 4
        have f5 := HB9.out.froz 5
        have f6 := HB9.out.froz 6
        have f7 := HB9.out.froz 7
        have f8 := HB9.out.froz 8
        have f9 := HB9.out.froz 9
        have f10 := HB9.out.froz 10
        have f11 := HB9.out.froz 11
        have f12 := HB9.out.froz 12
        have HBS := hid (HB9.out.store q2 (.slice sb2 q2.sids.length tc2) (.slice lb2 q2.locs.length mc2))
        have HUS := hid (HU9.out.newest (up13 w9 p (.int .i64 q2.kind) (.string q2.key) (.int .i64 q2.n) (.int .i64 q2.sid) (.slice sb2 q2.sids.length tc2) (.int .i64 q2.colour) (.slice lb2 q2.locs.length mc2) (.int .i64 q2.t.hot) (.int .i64 q2.t.warm) (.int .i64 q2.t.gap) (.int .i64 q2.t.add) (.int .i64 q2.t.top) (.int .i64 q2.t.half)) fun j hj e => by have e : j = p := e; have := hp.out; omega)
        have HRS := hid (HR2.out.keep13 (up13 w9 p (.int .i64 q2.kind) (.string q2.key) (.int .i64 q2.n) (.int .i64 q2.sid) (.slice sb2 q2.sids.length tc2) (.int .i64 q2.colour) (.slice lb2 q2.locs.length mc2) (.int .i64 q2.t.hot) (.int .i64 q2.t.warm) (.int .i64 q2.t.gap) (.int .i64 q2.t.add) (.int .i64 q2.t.top) (.int .i64 q2.t.half)) HO2.out)
        go_wp2_with fail
        go_roundw
        case rel => exact ⟨t + 1, q2, sb2, lb2, tc2, mc2, by go_num, HD.out, hid (.inr HF2.out), HBS, HRS, hid (Nat.le_trans HF2.out.keyl (by decide)), HUS⟩
        case measure => have := HD.out; simp [intOf]; omega
      | true =>
        have F := okR_iff.1 hq
        have HQ := hid F
        clear hq
        go_wp2_with fail
        refine (enc_yes q sb lb tc mc _ HSW.out HR.out F).mono ?_
        rintro e w4 ⟨v1, B0, rfl, ub, hz⟩
        obtain ⟨va, vc, rfl, vs, hvc⟩ := hz.sln (Nat.le_trans F.len (by decide))
        have u4 := ub.trans hz.up
        have HV := hid vs
        have HB4 := hid (HB.out.nxt u4)
        have HR4 := hid (HR.out.nxt u4)
        have HU4 := hid (HU.out.trans u4)
        have HVC := hid hvc
        clear u4 ub hz vs hvc F x0 x1 x2 x3 x4 x5 x6 x7 x8 x9 x10 x11 x12 HB HR HU HSW
        obtain ⟨x0, x1, x2, x3, x4, x5, x6, x7, x8, x9, x10, x11, x12⟩ := HB4.out.cells
        go_wp2_with fail
        refine (rok_any q sb lb tc mc _ HR4.out HK.out).mono ?_
        rintro e w6 ⟨rfl, u6⟩
        rw [okR_iff.2 HQ.out]
        have HB6 := hid (HB4.out.nxt u6)
        have HR6 := hid (HR4.out.nxt u6)
        have HU6 := hid (HU4.out.trans u6)
        have HV6 := hid (HV.out.nxt u6)
        clear u6 x0 x1 x2 x3 x4 x5 x6 x7 x8 x9 x10 x11 x12 HB4 HR4 HU4 HV
        go_upto_region 9 with fail
        have RA : Hid (∀ W, Up Nul w6 W → W.rangeAt p 0 [.int .i64 q.kind, .string q.key, .int .i64 q.n, .int .i64 q.sid, .slice sb q.sids.length tc, .int .i64 q.colour, .slice lb q.locs.length mc, .int .i64 q.t.hot, .int .i64 q.t.warm, .int .i64 q.t.gap, .int .i64 q.t.add, .int .i64 q.t.top, .int .i64 q.t.half]) := fun W u => (HB6.out.nxt u).range
        have CV := hid (fun (W : World) (u : Up Nul w6 W) => (HV6.out.nxt u).conv vc)
        have rok9 : Hid (∀ W, Up Nul w6 W → Calls Tryd.prog 8 #[.agg [.int .i64 q.kind, .string q.key, .int .i64 q.n, .int .i64 q.sid, .slice sb q.sids.length tc, .int .i64 q.colour, .slice lb q.locs.length mc, .int .i64 q.t.hot, .int .i64 q.t.warm, .int .i64 q.t.gap, .int .i64 q.t.add, .int .i64 q.t.top, .int .i64 q.t.half].toArray] W fun e w' => e = .returned (.bool true) ∧ Up Nul W w') := fun W u => by have := ok_any q sb lb tc mc W (HS.out.nxt (HU6.out.trans u)) (HR6.out.nxt u) HK.out; rw [okR_iff.2 HQ.out] at this; exact this
        have rby9 : Hid (∀ W, Up Nul w6 W → Calls Tryd.prog 12 #[.agg [.int .i64 q.kind, .string q.key, .int .i64 q.n, .int .i64 q.sid, .slice sb q.sids.length tc, .int .i64 q.colour, .slice lb q.locs.length mc, .int .i64 q.t.hot, .int .i64 q.t.warm, .int .i64 q.t.gap, .int .i64 q.t.add, .int .i64 q.t.top, .int .i64 q.t.half].toArray] W fun e w' => e = .returned (.string (strOf (encR q))) ∧ Up Nul W w') := fun W u => rby_any q sb lb tc mc W (HR6.out.nxt u) HQ.out
        generalize strOf (encR q) = sq at CV rby9
        refine wp_region_held_drew (S := (fun W => Up Nul w6 W)) (by kernel_rfl) (by exact (Up.refl Nul w6).drew) (fun hHeld => ?_)
        refine wpAnyH_take (i := 0) (oi := ⟨some 41, _, _, _, _, _⟩) (v := ?vg1) rfl (by kernel_rfl) (by kernel_rfl) (by kernel_rfl) (fun _ _ _ h => h) (Or.inl ⟨by rfl, ?yg1⟩) (by assumption) ?rg1
        case yg1 => (intro w hSw; (try dsimp only at hSw); go_simp; try with_reducible rfl)
        try simp only [Act.put, List.setIfInBounds_toArray, List.set_cons_zero, List.set_cons_succ]
        refine wpAnyH_take (i := 1) (oi := ⟨some 42, _, _, _, _, _⟩) (v := ?vg2) rfl (by kernel_rfl) (by kernel_rfl) (by kernel_rfl) (fun _ _ _ h => h) (Or.inl ⟨by rfl, ?yg2⟩) (by assumption) ?rg2
        case yg2 => (intro w hSw; (try dsimp only at hSw); go_simp; try with_reducible rfl)
        try simp only [Act.put, List.setIfInBounds_toArray, List.set_cons_zero, List.set_cons_succ]
        refine wpAnyH_take (i := 2) (oi := ⟨some 43, _, _, _, _, _⟩) (v := ?vg3) rfl (by kernel_rfl) (by kernel_rfl) (by kernel_rfl) (fun _ _ _ h => h) (Or.inl ⟨by rfl, ?yg3⟩) (by assumption) ?rg3
        case yg3 => (intro w hSw; (try dsimp only at hSw); go_simp; try with_reducible rfl)
        try simp only [Act.put, List.setIfInBounds_toArray, List.set_cons_zero, List.set_cons_succ]
        refine wpAnyH_take (i := 3) (oi := ⟨some 44, _, _, _, _, _⟩) (v := ?vg4) rfl (by kernel_rfl) (by kernel_rfl) (by kernel_rfl) (fun _ _ _ h => h) (Or.inl ⟨by rfl, ?yg4⟩) (by assumption) ?rg4
        case yg4 => (intro w hSw; (try dsimp only at hSw); go_simp; try with_reducible rfl)
        try simp only [Act.put, List.setIfInBounds_toArray, List.set_cons_zero, List.set_cons_succ]
        refine wpAnyH_take (i := 4) (oi := ⟨some 45, _, _, _, _, _⟩) rfl (by kernel_rfl) (by kernel_rfl) (by kernel_rfl) (fun _ _ _ h => h) (yieldsIf_load_mid (by rfl) 27 (.tmp 5) rfl p 0 rfl [.int .i64 q.kind, .string q.key, .int .i64 q.n, .int .i64 q.sid, .slice sb q.sids.length tc, .int .i64 q.colour, .slice lb q.locs.length mc, .int .i64 q.t.hot, .int .i64 q.t.warm, .int .i64 q.t.gap, .int .i64 q.t.add, .int .i64 q.t.top, .int .i64 q.t.half] _ (fun W hW => RA.out W hW) Tryd.underlying27 rfl info_rec13) (by assumption) ?rg5
        try simp only [Act.put, List.setIfInBounds_toArray, List.set_cons_zero, List.set_cons_succ]
        refine wpAnyH_take (i := 6) (oi := ⟨some 47, _, _, _, _, _⟩) (v := ?vg6) rfl (by kernel_rfl) (by kernel_rfl) (by kernel_rfl) (fun _ _ _ h => h) (Or.inl ⟨by rfl, ?yg6⟩) (by assumption) ?rg6
        case yg6 => (intro w hSw; (try dsimp only at hSw); go_simp; try with_reducible rfl)
        try simp only [Act.put, List.setIfInBounds_toArray, List.set_cons_zero, List.set_cons_succ]
        refine wpAnyH_ready (rs := [5]) (by kernel_rfl) (by simp) ?_
        refine (AllReadyH.cons (o := ⟨some 46, _, _, _, _, _⟩) rfl (fun K hK => ?_) AllReadyH.nil)
        go_simp
        go_at_call 8; refine (rok9.out _ (show Up Nul w6 _ from hHeld)).mono ?_; rintro e wb ⟨rfl, kb⟩
        refine hK.out _ _ ?kg7x (fun hHeld => ?_)
        case kg7x => exact (Up.trans (show Up Nul w6 _ from hHeld) kb)
        clear hK K
        try simp only [Act.put, List.setIfInBounds_toArray, List.set_cons_zero, List.set_cons_succ]
        refine wpAnyH_take (i := 7) (oi := ⟨some 48, _, _, _, _, _⟩) (v := ?vg8) rfl (by kernel_rfl) (by kernel_rfl) (by kernel_rfl) (fun _ _ _ h => h) (Or.inl ⟨by rfl, ?yg8⟩) (by assumption) ?rg8
        case yg8 => (intro w hSw; (try dsimp only at hSw); go_simp; try with_reducible rfl)
        try simp only [Act.put, List.setIfInBounds_toArray, List.set_cons_zero, List.set_cons_succ]
        refine wpAnyH_take (i := 8) (oi := ⟨some 49, _, _, _, _, _⟩) (v := ?vg9) rfl (by kernel_rfl) (by kernel_rfl) (by kernel_rfl) (fun _ _ _ h => h) (Or.inl ⟨by rfl, ?yg9⟩) (by assumption) ?rg9
        case yg9 => (intro w hSw; (try dsimp only at hSw); go_simp; try with_reducible rfl)
        try simp only [Act.put, List.setIfInBounds_toArray, List.set_cons_zero, List.set_cons_succ]
        refine wpAnyH_take (i := 9) (oi := ⟨some 50, _, _, _, _, _⟩) (v := ?vg10) rfl (by kernel_rfl) (by kernel_rfl) (by kernel_rfl) (fun _ _ _ h => h) (Or.inl ⟨by rfl, ?yg10⟩) (by assumption) ?rg10
        case yg10 => (intro w hSw; (try dsimp only at hSw); go_simp; try with_reducible rfl)
        try simp only [Act.put, List.setIfInBounds_toArray, List.set_cons_zero, List.set_cons_succ]
        refine wpAnyH_take (i := 10) (oi := ⟨some 51, _, _, _, _, _⟩) (v := ?vg11) rfl (by kernel_rfl) (by kernel_rfl) (by kernel_rfl) (fun _ _ _ h => h) (Or.inl ⟨by rfl, ?yg11⟩) (by assumption) ?rg11
        case yg11 => (intro w hSw; (try dsimp only at hSw); go_simp; try with_reducible rfl)
        try simp only [Act.put, List.setIfInBounds_toArray, List.set_cons_zero, List.set_cons_succ]
        refine wpAnyH_take (i := 11) (oi := ⟨some 52, _, _, _, _, _⟩) (v := ?vg12) rfl (by kernel_rfl) (by kernel_rfl) (by kernel_rfl) (fun _ _ _ h => h) (Or.inl ⟨by rfl, ?yg12⟩) (by assumption) ?rg12
        case yg12 => (intro w hSw; (try dsimp only at hSw); go_simp; try with_reducible rfl)
        try simp only [Act.put, List.setIfInBounds_toArray, List.set_cons_zero, List.set_cons_succ]
        refine wpAnyH_take (i := 12) (oi := ⟨some 53, _, _, _, _, _⟩) (v := ?vg13) rfl (by kernel_rfl) (by kernel_rfl) (by kernel_rfl) (fun _ _ _ h => h) (Or.inl ⟨by rfl, ?yg13⟩) (by assumption) ?rg13
        case yg13 => (intro w hSw; (try dsimp only at hSw); go_simp; try with_reducible rfl)
        try simp only [Act.put, List.setIfInBounds_toArray, List.set_cons_zero, List.set_cons_succ]
        refine wpAnyH_take (i := 13) (oi := ⟨some 54, _, _, _, _, _⟩) (v := undef) rfl (by kernel_rfl) (by kernel_rfl) (by kernel_rfl) (fun _ _ _ h => h) (Or.inr ⟨by rfl, rfl⟩) (by assumption) ?rg14u
        try simp only [Act.put, List.setIfInBounds_toArray, List.set_cons_zero, List.set_cons_succ]
        refine wpAnyH_take (i := 14) (oi := ⟨some 55, _, _, _, _, _⟩) (v := undef) rfl (by kernel_rfl) (by kernel_rfl) (by kernel_rfl) (fun _ _ _ h => h) (Or.inr ⟨by rfl, rfl⟩) (by assumption) ?rg15u
        try simp only [Act.put, List.setIfInBounds_toArray, List.set_cons_zero, List.set_cons_succ]
        refine wpAnyH_take (i := 15) (oi := ⟨some 56, _, _, _, _, _⟩) (v := undef) rfl (by kernel_rfl) (by kernel_rfl) (by kernel_rfl) (fun _ _ _ h => h) (Or.inr ⟨by rfl, rfl⟩) (by assumption) ?rg16u
        try simp only [Act.put, List.setIfInBounds_toArray, List.set_cons_zero, List.set_cons_succ]
        refine wpAnyH_take (i := 16) (oi := ⟨some 57, _, _, _, _, _⟩) (v := ?vg17) rfl (by kernel_rfl) (by kernel_rfl) (by kernel_rfl) (fun _ _ _ h => h) (Or.inl ⟨by rfl, ?yg17⟩) (by assumption) ?rg17
        case yg17 => (intro w hSw; (try dsimp only at hSw); go_simp; try with_reducible rfl)
        try simp only [Act.put, List.setIfInBounds_toArray, List.set_cons_zero, List.set_cons_succ]
        refine wpAnyH_take (i := 17) (oi := ⟨some 58, _, _, _, _, _⟩) (v := ?vg18) rfl (by kernel_rfl) (by kernel_rfl) (by kernel_rfl) (fun _ _ _ h => h) (Or.inl ⟨by rfl, ?yg18⟩) (by assumption) ?rg18
        case yg18 => (intro w hSw; (try dsimp only at hSw); go_simp; try with_reducible rfl)
        try simp only [Act.put, List.setIfInBounds_toArray, List.set_cons_zero, List.set_cons_succ]
        refine wpAnyH_take (i := 18) (oi := ⟨some 59, _, _, _, _, _⟩) (v := ?vg19) rfl (by kernel_rfl) (by kernel_rfl) (by kernel_rfl) (fun _ _ _ h => h) (Or.inl ⟨by rfl, ?yg19⟩) (by assumption) ?rg19
        case yg19 => (intro w hSw; (try dsimp only at hSw); go_simp; try with_reducible rfl)
        try simp only [Act.put, List.setIfInBounds_toArray, List.set_cons_zero, List.set_cons_succ]
        refine wpAnyH_take (i := 19) (oi := ⟨some 60, _, _, _, _, _⟩) (v := ?vg20) rfl (by kernel_rfl) (by kernel_rfl) (by kernel_rfl) (fun _ _ _ h => h) (Or.inl ⟨by rfl, ?yg20⟩) (by assumption) ?rg20
        case yg20 => (intro w hSw; (try dsimp only at hSw); go_simp; try with_reducible rfl)
        try simp only [Act.put, List.setIfInBounds_toArray, List.set_cons_zero, List.set_cons_succ]
        refine wpAnyH_take (i := 20) (oi := ⟨some 61, _, _, _, _, _⟩) (v := ?vg21) rfl (by kernel_rfl) (by kernel_rfl) (by kernel_rfl) (fun _ _ _ h => h) (Or.inl ⟨by rfl, ?yg21⟩) (by assumption) ?rg21
        case yg21 => (intro w hSw; (try dsimp only at hSw); go_simp; try with_reducible rfl)
        try simp only [Act.put, List.setIfInBounds_toArray, List.set_cons_zero, List.set_cons_succ]
        refine wpAnyH_take (i := 21) (oi := ⟨some 62, _, _, _, _, _⟩) (v := ?vg22) rfl (by kernel_rfl) (by kernel_rfl) (by kernel_rfl) (fun _ _ _ h => h) (Or.inl ⟨by rfl, ?yg22⟩) (by assumption) ?rg22
        case yg22 => (intro w hSw; (try dsimp only at hSw); go_simp; try with_reducible rfl)
        try simp only [Act.put, List.setIfInBounds_toArray, List.set_cons_zero, List.set_cons_succ]
        refine wpAnyH_take (i := 22) (oi := ⟨some 63, _, _, _, _, _⟩) (v := ?vg23) rfl (by kernel_rfl) (by kernel_rfl) (by kernel_rfl) (fun _ _ _ h => h) (Or.inl ⟨by rfl, ?yg23⟩) (by assumption) ?rg23
        case yg23 => (intro w hSw; (try dsimp only at hSw); have a := CV.out w hSw; go_simp; try with_reducible rfl)
        try simp only [Act.put, List.setIfInBounds_toArray, List.set_cons_zero, List.set_cons_succ]
        refine wpAnyH_take (i := 23) (oi := ⟨some 64, _, _, _, _, _⟩) rfl (by kernel_rfl) (by kernel_rfl) (by kernel_rfl) (fun _ _ _ h => h) (yieldsIf_load_mid (by rfl) 27 (.tmp 5) rfl p 0 rfl [.int .i64 q.kind, .string q.key, .int .i64 q.n, .int .i64 q.sid, .slice sb q.sids.length tc, .int .i64 q.colour, .slice lb q.locs.length mc, .int .i64 q.t.hot, .int .i64 q.t.warm, .int .i64 q.t.gap, .int .i64 q.t.add, .int .i64 q.t.top, .int .i64 q.t.half] _ (fun W hW => RA.out W hW) Tryd.underlying27 rfl info_rec13) (by assumption) ?rg24
        try simp only [Act.put, List.setIfInBounds_toArray, List.set_cons_zero, List.set_cons_succ]
        refine wpAnyH_ready (rs := [24]) (by kernel_rfl) (by simp) ?_
        refine (AllReadyH.cons (o := ⟨some 65, _, _, _, _, _⟩) rfl (fun K hK => ?_) AllReadyH.nil)
        go_simp
        go_at_call 12; refine (rby9.out _ (show Up Nul w6 _ from hHeld)).mono ?_; rintro e wb2 ⟨rfl, kb⟩
        refine hK.out _ _ ?kg25x (fun hHeld => ?_)
        case kg25x => exact (Up.trans (show Up Nul w6 _ from hHeld) kb)
        clear hK K
        try simp only [Act.put, List.setIfInBounds_toArray, List.set_cons_zero, List.set_cons_succ]
        refine wpAnyH_take (i := 25) (oi := ⟨some 66, _, _, _, _, _⟩) (v := ?vg26) rfl (by kernel_rfl) (by kernel_rfl) (by kernel_rfl) (fun _ _ _ h => h) (Or.inl ⟨by rfl, ?yg26⟩) (by assumption) ?rg26
        case yg26 => (intro w hSw; (try dsimp only at hSw); go_simp; try with_reducible rfl)
        try simp only [Act.put, List.setIfInBounds_toArray, List.set_cons_zero, List.set_cons_succ]
        refine wpAnyH_take (i := 26) (oi := ⟨some 67, _, _, _, _, _⟩) (v := ?vg27) rfl (by kernel_rfl) (by kernel_rfl) (by kernel_rfl) (fun _ _ _ h => h) (Or.inl ⟨by rfl, ?yg27⟩) (by assumption) ?rg27
        case yg27 => (intro w hSw; (try dsimp only at hSw); go_simp; try with_reducible rfl)
        try simp only [Act.put, List.setIfInBounds_toArray, List.set_cons_zero, List.set_cons_succ]
        refine wpAnyH_take (i := 27) (oi := ⟨some 68, _, _, _, _, _⟩) (v := ?vg28) rfl (by kernel_rfl) (by kernel_rfl) (by kernel_rfl) (fun _ _ _ h => h) (Or.inl ⟨by rfl, ?yg28⟩) (by assumption) ?rg28
        case yg28 => (intro w hSw; (try dsimp only at hSw); go_simp; try with_reducible rfl)
        try simp only [Act.put, List.setIfInBounds_toArray, List.set_cons_zero, List.set_cons_succ]
        refine wpAnyH_done (by kernel_rfl) ?_ _
        have u7 := hid (show Up Nul w6 _ from hHeld)
        clear hHeld
        repeat clear hHeld
        have HB8 := hid (HB6.out.nxt u7.out)
        have HU8 := hid (HU6.out.trans u7.out)
        have HR8 := hid (HR6.out.nxt u7.out)
        have HV8 := hid (HV6.out.nxt u7.out)
        clear HB6 HU6 HR6 HV6 RA rok9 rby9 CV u7
        go_wp2_with fail
        refine (dec_any _ _ _ _ _ (HS.out.nxt HU8.out) HV8.out HVC.out).mono ?_
        rw [decO_enc HQ.out, dec_enc HQ.out]
        rintro e w10 ⟨sa2, sc2, la2, lc2, rfl, r10, u10⟩
        have HR10 := hid r10
        have HB10 := hid (HB8.out.nxt u10)
        have HU10 := hid (HU8.out.trans u10)
        have HQ10 := hid (HR8.out.nxt u10)
        clear r10 u10 HB8 HU8 HR8 HV8
        go_upto_region 13 with fail
        obtain ⟨W11, hW11⟩ : ∃ W, W = w10.alloc (.cells (rcellsL q (.slice sa2 q.sids.length sc2) (.slice la2 q.locs.length lc2)) 27) := ⟨_, rfl⟩
        have u11 : Up Nul w10 W11 := by rw [hW11]; exact (Up.refl Nul w10).alloc _
        have BX : Hid (RB W11 w10.heap.size q (.slice sa2 q.sids.length sc2) (.slice la2 q.locs.length lc2)) := by show RB _ _ _ _ _; rw [hW11]; exact RB.new _ _ _ _
        have HB11 := hid (HB10.out.nxt u11)
        have HU11 := hid (HU10.out.trans u11)
        have HR11 := hid (HR10.out.nxt u11)
        have HQ11 := hid (HQ10.out.nxt u11)
        first | rw [← hW11] | (simp only [Option.isSome_some]; rw [← hW11])
        clear hW11 u11 HR10 HB10 HU10 HQ10
        generalize w10.heap.size = px at BX ⊢
        obtain ⟨x0, x1, x2, x3, x4, x5, x6, x7, x8, x9, x10, x11, x12⟩ := HB11.out.cells
        obtain ⟨y0, y1, y2, y3, y4, y5, y6, y7, y8, y9, y10, y11, y12⟩ := BX.out.cells
        have hlen : ¬ (250 : Int) < ((encR q).length : Int) := by have := HQ.out.len; omega
        go_wp2_with fail
        refine (srec_any _ q q sa2 sb la2 lb sc2 tc lc2 mc HR11.out HQ11.out).mono ?_
        rintro e w6 ⟨rfl, u12⟩
        rw [decide_eq_true (rfl : q = q)]
        have HB6 := hid (HB11.out.nxt u12)
        have HU6 := hid (HU11.out.trans u12)
        clear u12 HB11 HU11 HR11 HQ11 BX x0 x1 x2 x3 x4 x5 x6 x7 x8 x9 x10 x11 x12 y0 y1 y2 y3 y4 y5 y6 y7 y8 y9 y10 y11 y12
        obtain ⟨x0, x1, x2, x3, x4, x5, x6, x7, x8, x9, x10, x11, x12⟩ := HB6.out.cells
        have f0 := HB6.out.froz 0
        have f1 := HB6.out.froz 1
        have f2 := HB6.out.froz 2
        have f3 := HB6.out.froz 3
        have f4 := HB6.out.froz 4
        have f5 := HB6.out.froz 5
        have f6 := HB6.out.froz 6
        have f7 := HB6.out.froz 7
        have f8 := HB6.out.froz 8
        have f9 := HB6.out.froz 9
        have f10 := HB6.out.froz 10
        have f11 := HB6.out.froz 11
        have f12 := HB6.out.froz 12
        clear x0 x1 x2 x3 x4 x5 x6 x7 x8 x9 x10 x11 x12 f0 f1 f2 f3 f4 f5 f6 f7 f8 f9 f10 f11 f12
        go_wp2_with fail
        refine (rec_own _ _ _ _ _ (came_nxt H1.out HU6.out)).mono ?_
        rintro e w9 ⟨q2, sb2, tc2, lb2, mc2, rfl, F2, R2, O2, u9⟩
        have HO2 := hid (O2.far (HB6.out.lt))
        have HB9 := hid (HB6.out.nxt u9)
        have HU9 := hid (HU6.out.trans u9)
        have HF2 := hid F2
        have HR2 := hid R2
        clear F2 R2 O2 u9
        obtain ⟨x0, x1, x2, x3, x4, x5, x6, x7, x8, x9, x10, x11, x12⟩ := HB9.out.cells
        have f0 := HB9.out.froz 0
        have f1 := HB9.out.froz 1
        have f2 := HB9.out.froz 2
        have f3 := HB9.out.froz 3
        have f4 := HB9.out.froz 4
        have f5 := HB9.out.froz 5
        have f6 := HB9.out.froz 6
        have f7 := HB9.out.froz 7
        have f8 := HB9.out.froz 8
        have f9 := HB9.out.froz 9
        have f10 := HB9.out.froz 10
        have f11 := HB9.out.froz 11
        have f12 := HB9.out.froz 12
        have HBS := hid (HB9.out.store q2 (.slice sb2 q2.sids.length tc2) (.slice lb2 q2.locs.length mc2))
        have HUS := hid (HU9.out.newest (up13 w9 p (.int .i64 q2.kind) (.string q2.key) (.int .i64 q2.n) (.int .i64 q2.sid) (.slice sb2 q2.sids.length tc2) (.int .i64 q2.colour) (.slice lb2 q2.locs.length mc2) (.int .i64 q2.t.hot) (.int .i64 q2.t.warm) (.int .i64 q2.t.gap) (.int .i64 q2.t.add) (.int .i64 q2.t.top) (.int .i64 q2.t.half)) fun j hj e => by have e : j = p := e; have := hp.out; omega)
        have HRS := hid (HR2.out.keep13 (up13 w9 p (.int .i64 q2.kind) (.string q2.key) (.int .i64 q2.n) (.int .i64 q2.sid) (.slice sb2 q2.sids.length tc2) (.int .i64 q2.colour) (.slice lb2 q2.locs.length mc2) (.int .i64 q2.t.hot) (.int .i64 q2.t.warm) (.int .i64 q2.t.gap) (.int .i64 q2.t.add) (.int .i64 q2.t.top) (.int .i64 q2.t.half)) HO2.out)
        go_wp2_with fail
        go_roundw
        case rel => exact ⟨t + 1, q2, sb2, lb2, tc2, mc2, by go_num, HD.out, hid (.inr HF2.out), HBS, HRS, hid (Nat.le_trans HF2.out.keyl (by decide)), HUS⟩
        case measure => have := HD.out; simp [intOf]; omega
    · obtain rfl : t = 2 := by omega
      have F : OkF q := HF.out.resolve_left (by omega)
      have HQ := hid F
      clear F hd
      go_wp2_with fail
      refine (rok_any q sb lb tc mc _ HR.out HK.out).mono ?_
      rintro e w4 ⟨rfl, u4⟩
      rw [okR_iff.2 HQ.out]
      have HU4 := hid (HU.out.trans u4)
      clear u4
      go_wp2_with fail
      refine (rawake_any _ (HS.out.nxt HU4.out)).mono ?_
      rintro e w5 ⟨rfl, u5⟩
      have HU5 := hid (HU4.out.trans u5)
      clear u5
      go_wp2
      go_ret
      exact ⟨rfl, HU5.out⟩
theorem rcodes_walk (r : Rc) (sa la : Option Addr) (sc lc : Nat) (a1 : Option Addr) (l1 c1 : Nat) (z1 : List Int) (w : World) (hS : Shp w) (hs : RowI w sa r.sids) (hl : RowL w la r.locs) (w1 : CameI w a1 l1 c1 z1) :
    Calls Tryd.prog 4 #[rv r (.slice sa r.sids.length sc) (.slice la r.locs.length lc), .slice a1 l1 c1] w fun e w' => e = .returned (.bool true) ∧ Below w.heap.size w w' :=
  (codes_any r sa la sc lc a1 l1 c1 z1 w hS w1 hs hl).mono fun e w' ⟨h, u⟩ => ⟨h, u.below (Nat.le_refl _) fun _ _ h => h⟩

end Go.Proofs.YtpdkcpjofofkoaaDoor
