/- The document's RecOf of Kind 6. -/
import Derived.Test.YtpdkcpjofofkoaaDoorPkTidy
import Derived.Test.YtpdkcpjofofkoaaDoorPq14
import Derived.Test.YtpdkcpjofofkoaaDoorPq23
set_option maxRecDepth 100000
namespace Go.Proofs.YtpdkcpjofofkoaaDoor
open Go.RowKit
set_option linter.unusedVariables false
set_option linter.unusedSimpArgs false
theorem encP6 {r : Rc} (hk : kn r = 6) (F : OkF r) : encR r = [6] ++ (w4 r.sid.toNat ++ (wds r.sids ++ ([r.locs.length] ++ (los r.locs)))) := by
 have hkk := F.kk
 rw [hk] at hkk
 unfold encR
 rw [hk, hkk]
 have w1 : wds [r.sid] = w4 r.sid.toNat := by simp [wds]
 simp [opt, sh, shT, List.append_assoc, w1]
theorem eqr6 {r : Rc} (F : OkF r) (h3 : kn r = 6) : r = ⟨6, ⟨#[]⟩, 0, r.sid, r.sids, 0, r.locs, tb0⟩ := by
 have hk : r.kind = 6 := by rw [F.kk, h3]; rfl
 obtain ⟨i1, i2, i3, i4, i5, i6, i7, i8, i9, i10, i11, i12, i13, i14, i15⟩ := (okF6 hk).1 F
 clear F h3 i2 i7 i9
 obtain ⟨kd, key, n, sid, sids, co, locs, ⟨a, b, c, d, e, f⟩⟩ := r
 dsimp only at *
 subst hk
 obtain rfl : key = ⟨#[]⟩ := ByteArray.ext (Array.eq_empty_of_size_eq_zero (show key.data.size = 0 by have e : key.size = key.data.size := rfl; omega))
 obtain rfl : n = 0 := by omega
 obtain rfl : co = 0 := by omega
 obtain rfl : a = 0 := by omega
 obtain rfl : b = 0 := by omega
 obtain rfl : c = 0 := by omega
 obtain rfl : d = 0 := by omega
 obtain rfl : e = 0 := by omega
 obtain rfl : f = 0 := by omega
 rfl
set_option maxHeartbeats 8000000 in
theorem rof6 (z : List Nat) (w : World) (hz : ∀ x ∈ z, x < 256) (hl : z.length ≤ 100000) (hk : fold8 (tk 1 z) = 6) :
  Calls Tryd.prog 15 #[.string (strOf z)] w fun e w' => RofP w (decO z) (decR z).isSome e w' := by
 have HK := hid hk
 clear hk
 have HZ0 := hid hz
 have HL0 := hid hl
 obtain ⟨D, hDe⟩ : ∃ D, D = decO z := ⟨_, rfl⟩
 obtain ⟨ib, hib⟩ : ∃ ib, ib = (decR z).isSome := ⟨_, rfl⟩
 rw [← hDe, ← hib]
 have HDD := hid (And.intro hDe hib)
 obtain ⟨s0, hs0⟩ : ∃ s, s = strOf z := ⟨_, rfl⟩
 rw [← hs0]
 have HS0 := hid hs0
 have HSZ : Hid (s0.size = z.length) := by show _ = _; rw [hs0, strOf_size]
 obtain ⟨W2, hW2⟩ : ∃ W, W = (w.alloc (.cells #[.int .i64 0, .string ⟨#[]⟩, .int .i64 0, .int .i64 0, .slice none 0 0, .int .i64 0, .slice none 0 0, .int .i64 0, .int .i64 0, .int .i64 0, .int .i64 0, .int .i64 0, .int .i64 0] 27)).alloc (.cells #[.string s0, .bool false] 75) := ⟨_, rfl⟩
 have hr2 : RB W2 w.heap.size rc0 (.slice none 0 0) (.slice none 0 0) := by
  rw [hW2]
  exact (Below.heap_alloc _ _ _ (by simp)).trans (heap_alloc_new _ _)
 have hd2 : Rd W2 (w.heap.size + 1) z false := by
  show W2.heap[_]? = _
  rw [hW2, ← hs0]
  have := heap_alloc_new (w.alloc (.cells #[.int .i64 0, .string ⟨#[]⟩, .int .i64 0, .int .i64 0, .slice none 0 0, .int .i64 0, .slice none 0 0, .int .i64 0, .int .i64 0, .int .i64 0, .int .i64 0, .int .i64 0, .int .i64 0] 27)) (.cells #[.string s0, .bool false] 75)
  simpa using this
 have U2 : Up Nul w W2 := by rw [hW2]; exact ((Up.refl Nul w).alloc _).alloc _
 clear hDe hib hs0
 go_enter Tryd.func15, Tryd.ntmps15
 go_upto_region 2 with fail
 rw [← hW2]
 clear hW2
 obtain ⟨pr, hpr⟩ : ∃ p, p = w.heap.size := ⟨_, rfl⟩
 obtain ⟨pd, hpd⟩ : ∃ p, p = w.heap.size + 1 := ⟨_, rfl⟩
 have HPR := hid (Nat.le_of_eq hpr.symm)
 have HPD := hid (show w.heap.size ≤ pd by omega)
 have HNE := hid (show pr ≠ pd by omega)
 rw [← hpd, ← hpr]
 rw [← hpr] at hr2
 rw [← hpd] at hd2
 have HR2 := hid hr2
 have HD2 := hid hd2
 have HU2 := hid U2
 clear hpr hpd hr2 hd2 U2 hz hl
 go_wp2_with fail
 refine (num_s _ pd 1 z false HD2.out HZ0.out HL0.out (by omega)).mono ?_
 rintro e w3 ⟨rfl, d3, u3⟩

 rw [show ((fold8 (tk 1 z) : Nat) : Int) = 6 from by rw [HK.out]; rfl]
 go_upto_region 3 with fail
 obtain ⟨W4, hW4⟩ : ∃ W, W = w3.alloc (.cells (rcellsL (⟨6, ⟨#[]⟩, 0, 0, [], 0, [], tb0⟩ : Rc) (.slice none 0 0) (.slice none 0 0)) 27) := ⟨_, rfl⟩
 obtain ⟨p, hp⟩ : ∃ p, p = w3.heap.size := ⟨_, rfl⟩
 have u4 : Up Nul w3 W4 := by rw [hW4]; exact (Up.refl Nul w3).alloc _
 have hb4 : RB W4 p (⟨6, ⟨#[]⟩, 0, 0, [], 0, [], tb0⟩ : Rc) (.slice none 0 0) (.slice none 0 0) := by rw [hp, hW4]; exact RB.new _ _ _ _
 have hr4 := (HR2.out.up u3 HNE.out).nxt u4
 have hd4 := d3.up u4 id
 have hu4 := (HU2.out.newest u3 (fun i hi e => by have e : i = pd := e; have := HPD.out; omega)).trans u4
 have hpr3 : pr < w3.heap.size := (HR2.out.up u3 HNE.out).lt
 have hpd3 : pd < w3.heap.size := d3.lt
 have hw3 : w.heap.size ≤ w3.heap.size := (HU2.out.newest u3 (fun i hi e => by have e : i = pd := e; have := HPD.out; omega)).size
 have HG := hid (And.intro hr4 (And.intro hd4 (And.intro hb4 (And.intro hu4 (show p ≠ pr ∧ p ≠ pd ∧ w.heap.size ≤ p by omega)))))
 rw [← hp]
 first | rw [← hW4] | (have hW9 := hW4; simp only [tb0] at hW9; rw [← hW9]; clear hW9)
 clear hW4 u4 hb4 hr4 hd4 hu4 hpr3 hpd3 hw3 hp d3 u3 HR2 HU2 HD2
 have c0 : W4.cell? ⟨p, 0, none⟩ = some (.int .i64 6) := HG.out.2.2.1.cells.1
 go_wp2_with fail
 refine (in_any _ _ _ _).mono ?_
 rintro e w5 ⟨rfl, rfl⟩
 rw [show spn 1 8 6 = true from by decide]
 go_wp2_with fail
 refine (names6 _).mono ?_
 rintro e w5 ⟨rfl, u5⟩
 go_upto_region 6 with fail
 obtain ⟨W5, hW5⟩ : ∃ W, W = w5.alloc (.cells #[.bool (nmB 6 0), .bool (nmB 6 1), .bool (nmB 6 2), .bool (nmB 6 3), .bool (nmB 6 4)] 63) := ⟨_, rfl⟩
 obtain ⟨q, hq⟩ : ∃ q, q = w5.heap.size := ⟨_, rfl⟩
 have u6 := u5.trans (show Up Nul w5 W5 by rw [hW5]; exact (Up.refl Nul w5).alloc _)
 have hq5 : W5.heap[q]? = some (.cells #[.bool false, .bool false, .bool true, .bool false, .bool false] 63 (0, 0)) := by rw [hq, hW5]; exact heap_alloc_new _ _
 have hqp : pd < q ∧ p < q := by
  rw [hq]
  exact ⟨Nat.lt_of_lt_of_le HG.out.2.1.lt u5.size, Nat.lt_of_lt_of_le HG.out.2.2.1.lt u5.size⟩
 obtain ⟨z0, hz0⟩ : ∃ y, y = rs 1 z := ⟨_, rfl⟩
 obtain ⟨b0, hb0⟩ : ∃ y, y = (false || lk 1 z) := ⟨_, rfl⟩
 have RS0 : Hid (RfS w W5 pr pd p q (⟨6, ⟨#[]⟩, 0, 0, [], 0, [], tb0⟩ : Rc) (.slice none 0 0) (.slice none 0 0) z0 b0 #[.bool false, .bool false, .bool true, .bool false, .bool false]) := ⟨HG.out.1.nxt u6, by rw [hz0, hb0]; exact HG.out.2.1.up u6 id, HG.out.2.2.1.nxt u6, hq5, HG.out.2.2.2.1.trans u6, ⟨HPR.out, HPD.out, HG.out.2.2.2.2.2.2⟩,
  ⟨HNE.out, fun e => HG.out.2.2.2.2.1 e.symm, fun e => HG.out.2.2.2.2.2.1 e.symm, by omega, by omega⟩, by rw [hz0]; exact rs_small HZ0.out, by rw [hz0]; exact Nat.le_trans (rs_le _ _) HL0.out⟩
 have HP0 : Hid (∀ r, OkF r → encR r = z → b0 = false ∧ z0 = (w4 r.sid.toNat ++ (wds r.sids ++ ([r.locs.length] ++ (los r.locs)))) ∧ kn r = 6) := fun r F e => by
  have e1 : z = [kn r] ++ (encR r).tail := by rw [← e]; unfold encR; simp [kn]
  have e2 : fold8 (tk 1 z) = kn r := by rw [(st_app (b := false) 1 rfl ⟨rfl, e1⟩).2.2, fold8_one]
  have e3 : kn r = 6 := e2.symm.trans HK.out
  have e4 := st_app (b := false) (z := z) 1 rfl ⟨rfl, e.symm.trans (encP6 e3 F)⟩
  exact ⟨by rw [hb0]; exact e4.1, by rw [hz0]; exact e4.2.1, e3⟩
 rw [← hW5, ← hq]
 clear hW5 hq u5 u6 hq5 hqp hz0 hb0 HG c0
 obtain ⟨n0, n1, n2, n3, n4⟩ := RS0.out.names
 go_wp2_with fail
 refine (num_s _ pd 4 z0 b0 RS0.out.rd RS0.out.sm RS0.out.le (by omega)).mono ?_
 rintro e v1 ⟨rfl, d6, u6⟩
 have RT := hid (RS0.out.num 4 d6 u6)
 obtain ⟨x1, hx1⟩ : ∃ x, x = fold8 (tk 4 z0) := ⟨_, rfl⟩
 obtain ⟨z1, hz1⟩ : ∃ y, y = rs 4 z0 := ⟨_, rfl⟩
 obtain ⟨b1, hb1⟩ : ∃ y, y = (b0 || lk 4 z0) := ⟨_, rfl⟩
 have HP1 : Hid (∀ r, OkF r → encR r = z → b1 = false ∧ z1 = (wds r.sids ++ ([r.locs.length] ++ (los r.locs))) ∧ kn r = 6 ∧ ((x1 : Nat) : Int) = r.sid) := fun r F e => by
  obtain ⟨h1, h2, h3⟩ := HP0.out r F e
  have e4 := st_app (z := z0) (y := w4 r.sid.toNat) 4 rfl ⟨h1, h2⟩
  obtain ⟨i1, i2, i3, i4, i5, i6, i7, i8, i9, i10, i11, i12, i13, i14, i15⟩ := (okF6 (by rw [F.kk, h3]; rfl)).1 F
  refine ⟨by rw [hb1]; exact e4.1, by rw [hz1]; exact e4.2.1, h3, ?_⟩
  rw [hx1, e4.2.2, fold8_four _ (by omega)]
  omega
 rw [← hx1]
 rw [← hz1, ← hb1] at RT
 obtain ⟨cc, ff⟩ := RT.out.cells 3
 have cc : v1.cell? ⟨p, 3, none⟩ = some (.int .i64 0) := cc
 have RS1 := hid (RT.out.set (r' := (⟨6, ⟨#[]⟩, 0, ((x1 : Nat) : Int), [], 0, [], tb0⟩ : Rc)) 3 (.int .i64 (x1 : Nat)) rfl)
 clear d6 u6 RS0 HP0 hx1 hz1 hb1 n0 n1 n2 n3 n4
 go_upto_region 12 with fail
 obtain ⟨w18, hw8⟩ : ∃ W, W = v1.setCell ⟨p, 3, none⟩ (.int .i64 (x1 : Nat)) := ⟨_, rfl⟩
 rw [← hw8] at RS1 ⊢
 clear hw8 cc ff RT
 obtain ⟨n0, n1, n2, n3, n4⟩ := RS1.out.names
 have c0 := (RS1.out.cells 0).1
 have c0 : _ = some (Value.int .i64 6) := c0
 go_wp2_with fail
 refine (sids6 _).mono ?_
 rintro e w9 ⟨rfl, rfl⟩
 rw [show sdN 6 = 3 from rfl, show lcN 6 = -1 from rfl]
 obtain ⟨BB, hBB⟩ : ∃ B, B = w9.heap.size := ⟨_, rfl⟩
 have HBB : Hid (pr < BB ∧ pd < BB ∧ p < BB ∧ q < BB ∧ w.heap.size ≤ BB) := by rw [hBB]; exact RS1.out.lts
 have hBB := hid (Nat.le_of_eq hBB)
 clear c0 n0 n1 n2 n3 n4
 go_wp2_with fail
 go_loopw [9] (fun i wr => ∃ (t : Nat) (sv : Value) (ys : List Int) (zz : List Nat) (bb : Bool), i = .int .i64 (t : Nat) ∧ t ≤ 3 ∧ Hid (RfS w wr pr pd p q (⟨6, ⟨#[]⟩, 0, ((x1 : Nat) : Int), ys, 0, [], tb0⟩ : Rc) sv (.slice none 0 0) zz bb #[.bool false, .bool false, .bool true, .bool false, .bool false]) ∧ Hid (OwnI BB wr sv ys) ∧ ys.length = t ∧ BB ≤ wr.heap.size ∧ Hid (∀ r, OkF r → encR r = z → bb = false ∧ zz = wds (r.sids.drop t) ++ ([r.locs.length] ++ (los r.locs)) ∧ kn r = 6 ∧ ((x1 : Nat) : Int) = r.sid ∧ ys = r.sids.take t)) (fun i _ => 3 - (intOf i).toNat)
 case atStart => exact ⟨0, _, [], _, _, rfl, Nat.zero_le _, RS1, OwnI.nil _ _, rfl, hBB.out, fun r F e => by obtain ⟨h1, h2, h3, g0⟩ := HP1.out r F e; exact ⟨h1, h2, h3, g0, rfl⟩⟩
 case round =>
  obtain ⟨t, sv, ys, zz, bb, rfl, ht, HR, HO, hyl, hbw, HP⟩ := hrel
  have i0 : (0 : Int) ≤ (t : Int) := by omega
  by_cases hd : t < 3
  ·have j1 : (t : Int) < 3 := by omega
   have HT := hid hd
   obtain ⟨sa, sc, rfl⟩ := HO.out.shape
   rw [hyl] at HR HO
   have HR := hid (HR.out.nxt (Up.refl Nul wr).drew)
   have HO := hid (HO.out.up (Up.refl Nul wr).drew fun _ _ _ h => h)
   have hbw : BB ≤ wr.drew.heap.size := hbw
   obtain ⟨x, hx⟩ : ∃ x, x = fold8 (tk 4 zz) := ⟨_, rfl⟩
   have HX := hid hx
   have HPN : Hid (∀ r, OkF r → encR r = z → (bb || lk 4 zz) = false ∧ rs 4 zz = wds (r.sids.drop (t + 1)) ++ ([r.locs.length] ++ (los r.locs)) ∧ kn r = 6 ∧ ((x1 : Nat) : Int) = r.sid ∧ ys ++ [((x : Nat) : Int)] = r.sids.take (t + 1)) := fun r F e => by
    obtain ⟨h1, h2, h3, g0, gy⟩ := HP.out r F e
    obtain ⟨i1, i2, i3, i4, i5, i6, i7, i8, i9, i10, i11, i12, i13, i14, i15⟩ := (okF6 (by rw [F.kk, h3]; rfl)).1 F
    have hlt : t < r.sids.length := by omega
    have i7v := i7 _ (List.getElem_mem hlt)
    rw [List.drop_eq_getElem_cons hlt, wds_cons, List.append_assoc] at h2
    have e4 := st_app (z := zz) 4 rfl ⟨h1, h2⟩
    refine ⟨e4.1, e4.2.1, h3, g0, ?_⟩
    rw [List.take_succ_eq_append_getElem hlt, ← gy, hx, e4.2.2, fold8_four _ (by omega)]
    congr 1
    simp
    omega
   clear hx hd ht
   go_wp2_with fail
   refine wp_region_held_drew (S := (fun _ => True)) (by kernel_rfl) (by exact trivial) (fun hHeld => ?_)
   refine tkl 0 (some 62) ?vs1 rfl ?ys1 ?rs1
   case ys1 => (intro w hSw; (try dsimp only at hSw); go_simp; try with_reducible rfl)
   try simp only [tdy]
   refine tkl 2 (some 64) ?vs2 rfl ?ys2 ?rs2
   case ys2 => (intro w hSw; (try dsimp only at hSw); go_simp; try with_reducible rfl)
   try simp only [tdy]
   refine wpAnyH_ready (rs := [1, 3]) (by kernel_rfl) (by simp) ?_
   refine (AllReadyH.cons (o := ⟨some 63, _, _, _, _, _⟩) rfl (fun K hK => ?_) (AllReadyH.cons (o := ⟨some 65, _, _, _, _, _⟩) rfl (fun K hK => ?_) AllReadyH.nil))
   ·skip
    obtain ⟨c4, f4⟩ := HR.out.cells 4
    have c4 : _ = some (Value.slice sa t sc) := c4
    go_simp
    clear c4 f4
    refine hK.out _ _ ?ks3x (fun hHeld => ?_)
    case ks3x => exact trivial
    clear hK K
    try simp only [tdy]
    refine one 3 (some 65) rfl (fun K hK => ?_)
    go_simp
    go_at_call 39
    refine (num_s _ pd 4 zz bb HR.out.rd HR.out.sm HR.out.le (by omega)).mono ?_
    rintro e wb ⟨rfl, d6, u6⟩
    rw [← HX.out]
    have HR := hid (HR.out.num 4 d6 u6)
    have HO := hid (HO.out.up u6 fun g hg _ e => by have e : g = pd := e; have := HBB.out; omega)
    have hbw2 : BB ≤ wb.heap.size := Nat.le_trans hbw u6.size
    clear d6 u6
    refine hK.out _ _ ?ks4x (fun hHeld => ?_)
    case ks4x => exact trivial
    clear hK K
    try simp only [tdy]
    refine one 4 (some 66) rfl (fun K hK => ?_)
    go_simp
    have HR := hid (HR.out.nxt ((Up.refl Nul wb).alloc (.cells #[.int .i64 (x : Nat)] 3)))
    have HO := hid (HO.out.up ((Up.refl Nul wb).alloc (.cells #[.int .i64 (x : Nat)] 3)) fun _ _ _ h => h)
    have hbw3 : BB ≤ (wb.alloc (.cells #[.int .i64 (x : Nat)] 3)).heap.size := by simp; omega
    refine hK.out _ _ ?ks5x (fun hHeld => ?_)
    case ks5x => exact trivial
    clear hK K
    try simp only [tdy]
    obtain ⟨v', w', hrun, ho', hg'⟩ := HO.out.app (x : Nat) ⟨wb.heap.size, 0, none⟩ (World.cell?_alloc_new _ _ _ 0) 1 (by rw [hyl]; omega) hbw3
    obtain ⟨av, nv, cv, rfl⟩ : ∃ a l c, v' = .slice a l c := by obtain ⟨a, c, e⟩ := ho'.shape; exact ⟨a, _, c, e⟩
    have HR := hid (HR.out.grow HBB.out hg' HO.out.bs)
    have hbw4 : BB ≤ w'.heap.size := Nat.le_trans hbw3 hg'.size
    have HO := hid ho'
    clear ho' hg'
    refine one 5 (some 67) rfl (fun K hK => ?_)
    refine wp_append_eqv (.tmp 63) (.tmp 66) 22 rfl (.slice sa t sc) (.slice (some ⟨wb.heap.size, 0, none⟩) 1 1) (.slice av nv cv) rfl rfl hrun ?_
    clear hrun
    refine hK.out _ _ ?ks6x (fun hHeld => ?_)
    case ks6x => exact trivial
    clear hK K
    try simp only [tdy]
    refine tkl 6 (some 68) ?vs7 rfl ?ys7 ?rs7
    case ys7 => (intro w hSw; (try dsimp only at hSw); go_simp; try with_reducible rfl)
    try simp only [tdy]
    obtain ⟨c4, f4⟩ := HR.out.cells 4
    have c4 : _ = some (Value.slice sa t sc) := c4
    refine one 7 none rfl (fun K hK => ?_)
    go_simp
    have HR := hid (HR.out.set (r' := (⟨6, ⟨#[]⟩, 0, ((x1 : Nat) : Int), (ys ++ [((x : Nat) : Int)]), 0, [], tb0⟩ : Rc)) (sv' := .slice av nv cv) 4 (.slice av nv cv) rfl)
    have HO := hid (HO.out.up ((Up.refl (One p) w').put rfl 4 (.slice av nv cv)) fun g hg _ e => by have e : g = p := e; have := HBB.out; omega)
    have hbw5 : BB ≤ (w'.setCell ⟨p, 4, none⟩ (.slice av nv cv)).heap.size := by simpa using hbw4
    clear c4 f4
    refine hK.out _ _ ?ks8x (fun hHeld => ?_)
    case ks8x => exact trivial
    clear hK K
    try simp only [tdy]
    refine wpAnyH_done (by kernel_rfl) ?_ _
    go_wp2_with fail
    go_roundw
    case rel => exact ⟨t + 1, _, ys ++ [((x : Nat) : Int)], rs 4 zz, (bb || lk 4 zz), by go_num, HT.out, HR, HO, by rw [List.length_append, hyl]; rfl, hbw5, HPN⟩
    case measure => have := HT.out; simp [intOf]; omega
   ·skip
    go_simp
    go_at_call 39
    refine (num_s _ pd 4 zz bb HR.out.rd HR.out.sm HR.out.le (by omega)).mono ?_
    rintro e wb ⟨rfl, d6, u6⟩
    rw [← HX.out]
    have HR := hid (HR.out.num 4 d6 u6)
    have HO := hid (HO.out.up u6 fun g hg _ e => by have e : g = pd := e; have := HBB.out; omega)
    have hbw2 : BB ≤ wb.heap.size := Nat.le_trans hbw u6.size
    clear d6 u6
    refine hK.out _ _ ?ks3y (fun hHeld => ?_)
    case ks3y => exact trivial
    clear hK K
    try simp only [tdy]
    refine wpAnyH_ready (rs := [1, 4]) (by kernel_rfl) (by simp) ?_
    refine (AllReadyH.cons (o := ⟨some 63, _, _, _, _, _⟩) rfl (fun K hK => ?_) (AllReadyH.cons (o := ⟨some 66, _, _, _, _, _⟩) rfl (fun K hK => ?_) AllReadyH.nil))
    ·skip
     obtain ⟨c4, f4⟩ := HR.out.cells 4
     have c4 : _ = some (Value.slice sa t sc) := c4
     go_simp
     clear c4 f4
     refine hK.out _ _ ?ks9x (fun hHeld => ?_)
     case ks9x => exact trivial
     clear hK K
     try simp only [tdy]
     refine one 4 (some 66) rfl (fun K hK => ?_)
     go_simp
     have HR := hid (HR.out.nxt ((Up.refl Nul wb).alloc (.cells #[.int .i64 (x : Nat)] 3)))
     have HO := hid (HO.out.up ((Up.refl Nul wb).alloc (.cells #[.int .i64 (x : Nat)] 3)) fun _ _ _ h => h)
     have hbw3 : BB ≤ (wb.alloc (.cells #[.int .i64 (x : Nat)] 3)).heap.size := by simp; omega
     refine hK.out _ _ ?ks10x (fun hHeld => ?_)
     case ks10x => exact trivial
     clear hK K
     try simp only [tdy]
     obtain ⟨v', w', hrun, ho', hg'⟩ := HO.out.app (x : Nat) ⟨wb.heap.size, 0, none⟩ (World.cell?_alloc_new _ _ _ 0) 1 (by rw [hyl]; omega) hbw3
     obtain ⟨av, nv, cv, rfl⟩ : ∃ a l c, v' = .slice a l c := by obtain ⟨a, c, e⟩ := ho'.shape; exact ⟨a, _, c, e⟩
     have HR := hid (HR.out.grow HBB.out hg' HO.out.bs)
     have hbw4 : BB ≤ w'.heap.size := Nat.le_trans hbw3 hg'.size
     have HO := hid ho'
     clear ho' hg'
     refine one 5 (some 67) rfl (fun K hK => ?_)
     refine wp_append_eqv (.tmp 63) (.tmp 66) 22 rfl (.slice sa t sc) (.slice (some ⟨wb.heap.size, 0, none⟩) 1 1) (.slice av nv cv) rfl rfl hrun ?_
     clear hrun
     refine hK.out _ _ ?ks11x (fun hHeld => ?_)
     case ks11x => exact trivial
     clear hK K
     try simp only [tdy]
     refine tkl 6 (some 68) ?vs12 rfl ?ys12 ?rs12
     case ys12 => (intro w hSw; (try dsimp only at hSw); go_simp; try with_reducible rfl)
     try simp only [tdy]
     obtain ⟨c4, f4⟩ := HR.out.cells 4
     have c4 : _ = some (Value.slice sa t sc) := c4
     refine one 7 none rfl (fun K hK => ?_)
     go_simp
     have HR := hid (HR.out.set (r' := (⟨6, ⟨#[]⟩, 0, ((x1 : Nat) : Int), (ys ++ [((x : Nat) : Int)]), 0, [], tb0⟩ : Rc)) (sv' := .slice av nv cv) 4 (.slice av nv cv) rfl)
     have HO := hid (HO.out.up ((Up.refl (One p) w').put rfl 4 (.slice av nv cv)) fun g hg _ e => by have e : g = p := e; have := HBB.out; omega)
     have hbw5 : BB ≤ (w'.setCell ⟨p, 4, none⟩ (.slice av nv cv)).heap.size := by simpa using hbw4
     clear c4 f4
     refine hK.out _ _ ?ks13x (fun hHeld => ?_)
     case ks13x => exact trivial
     clear hK K
     try simp only [tdy]
     refine wpAnyH_done (by kernel_rfl) ?_ _
     go_wp2_with fail
     go_roundw
     case rel => exact ⟨t + 1, _, ys ++ [((x : Nat) : Int)], rs 4 zz, (bb || lk 4 zz), by go_num, HT.out, HR, HO, by rw [List.length_append, hyl]; rfl, hbw5, HPN⟩
     case measure => have := HT.out; simp [intOf]; omega
    ·skip
     go_simp
     have HR := hid (HR.out.nxt ((Up.refl Nul wb).alloc (.cells #[.int .i64 (x : Nat)] 3)))
     have HO := hid (HO.out.up ((Up.refl Nul wb).alloc (.cells #[.int .i64 (x : Nat)] 3)) fun _ _ _ h => h)
     have hbw3 : BB ≤ (wb.alloc (.cells #[.int .i64 (x : Nat)] 3)).heap.size := by simp; omega
     refine hK.out _ _ ?ks9y (fun hHeld => ?_)
     case ks9y => exact trivial
     clear hK K
     try simp only [tdy]
     obtain ⟨c4, f4⟩ := HR.out.cells 4
     have c4 : _ = some (Value.slice sa t sc) := c4
     refine one 1 (some 63) rfl (fun K hK => ?_)
     go_simp
     clear c4 f4
     refine hK.out _ _ ?ks14x (fun hHeld => ?_)
     case ks14x => exact trivial
     clear hK K
     try simp only [tdy]
     obtain ⟨v', w', hrun, ho', hg'⟩ := HO.out.app (x : Nat) ⟨wb.heap.size, 0, none⟩ (World.cell?_alloc_new _ _ _ 0) 1 (by rw [hyl]; omega) hbw3
     obtain ⟨av, nv, cv, rfl⟩ : ∃ a l c, v' = .slice a l c := by obtain ⟨a, c, e⟩ := ho'.shape; exact ⟨a, _, c, e⟩
     have HR := hid (HR.out.grow HBB.out hg' HO.out.bs)
     have hbw4 : BB ≤ w'.heap.size := Nat.le_trans hbw3 hg'.size
     have HO := hid ho'
     clear ho' hg'
     refine one 5 (some 67) rfl (fun K hK => ?_)
     refine wp_append_eqv (.tmp 63) (.tmp 66) 22 rfl (.slice sa t sc) (.slice (some ⟨wb.heap.size, 0, none⟩) 1 1) (.slice av nv cv) rfl rfl hrun ?_
     clear hrun
     refine hK.out _ _ ?ks15x (fun hHeld => ?_)
     case ks15x => exact trivial
     clear hK K
     try simp only [tdy]
     refine tkl 6 (some 68) ?vs16 rfl ?ys16 ?rs16
     case ys16 => (intro w hSw; (try dsimp only at hSw); go_simp; try with_reducible rfl)
     try simp only [tdy]
     obtain ⟨c4, f4⟩ := HR.out.cells 4
     have c4 : _ = some (Value.slice sa t sc) := c4
     refine one 7 none rfl (fun K hK => ?_)
     go_simp
     have HR := hid (HR.out.set (r' := (⟨6, ⟨#[]⟩, 0, ((x1 : Nat) : Int), (ys ++ [((x : Nat) : Int)]), 0, [], tb0⟩ : Rc)) (sv' := .slice av nv cv) 4 (.slice av nv cv) rfl)
     have HO := hid (HO.out.up ((Up.refl (One p) w').put rfl 4 (.slice av nv cv)) fun g hg _ e => by have e : g = p := e; have := HBB.out; omega)
     have hbw5 : BB ≤ (w'.setCell ⟨p, 4, none⟩ (.slice av nv cv)).heap.size := by simpa using hbw4
     clear c4 f4
     refine hK.out _ _ ?ks17x (fun hHeld => ?_)
     case ks17x => exact trivial
     clear hK K
     try simp only [tdy]
     refine wpAnyH_done (by kernel_rfl) ?_ _
     go_wp2_with fail
     go_roundw
     case rel => exact ⟨t + 1, _, ys ++ [((x : Nat) : Int)], rs 4 zz, (bb || lk 4 zz), by go_num, HT.out, HR, HO, by rw [List.length_append, hyl]; rfl, hbw5, HPN⟩
     case measure => have := HT.out; simp [intOf]; omega
  ·have HTE : Hid (t = 3) := by show _ = _; omega
   have hnd : ¬ (t : Int) < 3 := by omega
   have HYL : Hid (ys.length ≤ 100000) := by show _ ≤ _; omega
   have HPE : Hid (∀ r, OkF r → encR r = z → bb = false ∧ zz = ([r.locs.length] ++ (los r.locs)) ∧ kn r = 6 ∧ ((x1 : Nat) : Int) = r.sid ∧ ys = r.sids) := fun r F e => by
    obtain ⟨h1, h2, h3, g0, gy⟩ := HP.out r F e
    obtain ⟨i1, i2, i3, i4, i5, i6, i7, i8, i9, i10, i11, i12, i13, i14, i15⟩ := (okF6 (by rw [F.kk, h3]; rfl)).1 F
    have := HTE.out
    rw [List.drop_of_length_le (by omega)] at h2
    rw [List.take_of_length_le (by omega)] at gy
    exact ⟨h1, h2, h3, g0, gy⟩
   clear hd ht hyl
   go_wp2_with fail
   refine (num_s _ pd 1 zz bb HR.out.rd HR.out.sm HR.out.le (by omega)).mono ?_
   rintro e w8 ⟨rfl, d6, u6⟩
   have HRQ := hid (HR.out.num 1 d6 u6)
   obtain ⟨x8, hx8⟩ : ∃ x, x = fold8 (tk 1 zz) := ⟨_, rfl⟩
   obtain ⟨z8, hz8⟩ : ∃ y, y = rs 1 zz := ⟨_, rfl⟩
   obtain ⟨b8, hb8⟩ : ∃ y, y = (bb || lk 1 zz) := ⟨_, rfl⟩
   have hxb : x8 < 256 ^ 1 := by rw [hx8]; exact fold8_bound HR.out.sm
   have hx255 : x8 ≤ 255 := by omega
   have HPL : Hid (∀ r, OkF r → encR r = z → b8 = false ∧ z8 = (los r.locs) ∧ kn r = 6 ∧ ((x1 : Nat) : Int) = r.sid ∧ ys = r.sids ∧ x8 = r.locs.length) := fun r F e => by
    obtain ⟨h1, h2, h3, g0, g1⟩ := HPE.out r F e
    have e4 := st_app (z := zz) (y := [r.locs.length]) 1 rfl ⟨h1, h2⟩
    exact ⟨by rw [hb8]; exact e4.1, by rw [hz8]; exact e4.2.1, h3, g0, g1, by rw [hx8, e4.2.2, fold8_one]⟩
   rw [← hx8]
   rw [← hz8, ← hb8] at HRQ
   have HOQ := hid (HO.out.up u6 fun g hg _ e => by have e : g = pd := e; have := HBB.out; omega)
   have hbwq : BB ≤ w8.heap.size := Nat.le_trans hbw u6.size
   clear HR HO hbw d6 u6 hx8 hz8 hb8 hxb HPE
   have HR := HRQ
   have HO := HOQ
   have hbw := hbwq
   have HPE := HPL
   clear HRQ HOQ hbwq HPL
   go_wp2_with fail
   go_loopw [10] (fun i wr => ∃ (t : Nat) (lv : Value) (ls : List Lo) (zz : List Nat) (bb : Bool), i = .int .i64 (t : Nat) ∧ t ≤ x8 ∧ Hid (RfS w wr pr pd p q (⟨6, ⟨#[]⟩, 0, ((x1 : Nat) : Int), ys, 0, ls, tb0⟩ : Rc) sv lv zz bb #[.bool false, .bool false, .bool true, .bool false, .bool false]) ∧ Hid (OwnI BB wr sv ys) ∧ Hid (OwnLo BB wr lv ls) ∧ ls.length = t ∧ BB ≤ wr.heap.size ∧ Hid (∀ r, OkF r → encR r = z → bb = false ∧ zz = los (r.locs.drop t) ++ ([] : List Nat) ∧ kn r = 6 ∧ ((x1 : Nat) : Int) = r.sid ∧ ys = r.sids ∧ x8 = r.locs.length ∧ ls = r.locs.take t)) (fun i _ => x8 - (intOf i).toNat)
   case atStart => exact ⟨0, _, [], _, _, rfl, Nat.zero_le _, HR, HO, OwnLo.nil _ _, rfl, hbw, fun r F e => by obtain ⟨h1, h2, h3, g0, g1, g2⟩ := HPE.out r F e; exact ⟨h1, by rw [List.drop_zero]; simpa using h2, h3, g0, g1, g2, rfl⟩⟩
   case round =>
    clear HR HO hbw HPE HP
    obtain ⟨t2, lv, ls, zz, bb, rfl, ht, HR, HO, HLO, hll, hbw, HP⟩ := hrel
    have i0 : (0 : Int) ≤ (t2 : Int) := by omega
    have i9 : (t2 : Int) ≤ 255 := by omega
    by_cases hd : t2 < x8
    ·have j1 : (t2 : Int) < x8 := by omega
     have HT := hid hd
     obtain ⟨la, lc, rfl⟩ := HLO.out.shape
     rw [hll] at HR HLO
     go_wp2_with fail
     refine (num_s _ pd 1 zz bb HR.out.rd HR.out.sm HR.out.le (by omega)).mono ?_
     rintro e v1 ⟨rfl, d6, u6⟩
     have HR1 := hid (HR.out.num 1 d6 u6)
     have HO1 := hid (HO.out.up u6 fun g hg _ e => by have e : g = pd := e; have := HBB.out; omega)
     have HL1 := hid (HLO.out.up u6 fun g hg _ e => by have e : g = pd := e; have := HBB.out; omega)
     have hbv : BB ≤ v1.heap.size := Nat.le_trans hbw u6.size
     obtain ⟨d, hdd⟩ : ∃ d, d = fold8 (tk 1 zz) := ⟨_, rfl⟩
     obtain ⟨zc, hzc⟩ : ∃ y, y = rs 1 zz := ⟨_, rfl⟩
     obtain ⟨bc, hbc⟩ : ∃ y, y = (bb || lk 1 zz) := ⟨_, rfl⟩
     rw [← hdd]
     rw [← hzc, ← hbc] at HR1
     have HDD2 := hid hdd
     have HZC := hid hzc
     have HBC := hid hbc
     clear d6 u6 HR HO HLO hbw hdd hzc hbc
     go_wp2_with fail
     refine (num_s _ pd 1 zc bc HR1.out.rd HR1.out.sm HR1.out.le (by omega)).mono ?_
     rintro e v2 ⟨rfl, d6, u6⟩
     have HR2 := hid (HR1.out.num 1 d6 u6)
     have HO2 := hid (HO1.out.up u6 fun g hg _ e => by have e : g = pd := e; have := HBB.out; omega)
     have HL2 := hid (HL1.out.up u6 fun g hg _ e => by have e : g = pd := e; have := HBB.out; omega)
     have hbv2 : BB ≤ v2.heap.size := Nat.le_trans hbv u6.size
     obtain ⟨si, hsi⟩ : ∃ d, d = fold8 (tk 1 zc) := ⟨_, rfl⟩
     obtain ⟨zd, hzd⟩ : ∃ y, y = rs 1 zc := ⟨_, rfl⟩
     obtain ⟨bd, hbd⟩ : ∃ y, y = (bc || lk 1 zc) := ⟨_, rfl⟩
     rw [← hsi]
     rw [← hzd, ← hbd] at HR2
     clear d6 u6 HR1 HO1 HL1 hbv
     obtain ⟨x, hx⟩ : ∃ x, x = fold8 (tk 4 zd) := ⟨_, rfl⟩
     have HX := hid hx
     have hdd := HDD2.out
     have hzc := HZC.out
     have hbc := HBC.out
     have HPN : Hid (∀ r, OkF r → encR r = z → (bd || lk 4 zd) = false ∧ rs 4 zd = los (r.locs.drop (t2 + 1)) ++ ([] : List Nat) ∧ kn r = 6 ∧ ((x1 : Nat) : Int) = r.sid ∧ ys = r.sids ∧ x8 = r.locs.length ∧ ls ++ [(⟨((d : Nat) : Int), ((si : Nat) : Int), ((x : Nat) : Int)⟩ : Lo)] = r.locs.take (t2 + 1)) := fun r F e => by
      obtain ⟨h1, h2, h3, g0, g1, g2, gl⟩ := HP.out r F e
      obtain ⟨i1, i2, i3, i4, i5, i6, i7, i8, i9, i10, i11, i12, i13, i14, i15⟩ := (okF6 (by rw [F.kk, h3]; rfl)).1 F
      have hlt : t2 < r.locs.length := by omega
      obtain ⟨⟨j1, j2⟩, ⟨j3, j4⟩, j5, j6⟩ := i9 _ (List.getElem_mem hlt)
      rw [List.drop_eq_getElem_cons hlt, los_cons] at h2
      have h2' : zz = [r.locs[t2].d.toNat] ++ ([r.locs[t2].s.toNat] ++ (w4 r.locs[t2].i.toNat ++ (los (r.locs.drop (t2 + 1)) ++ ([] : List Nat)))) := by rw [h2]; simp [loB, List.append_assoc]
      have e4 := st_app (z := zz) 1 rfl ⟨h1, h2'⟩
      have e5 := st_app (z := zc) (b := bc) 1 rfl ⟨by rw [hbc]; exact e4.1, by rw [hzc]; exact e4.2.1⟩
      have e6 := st_app (z := zd) (b := bd) 4 rfl ⟨by rw [hbd]; exact e5.1, by rw [hzd]; exact e5.2.1⟩
      refine ⟨e6.1, e6.2.1, h3, g0, g1, g2, ?_⟩
      rw [List.take_succ_eq_append_getElem hlt, ← gl]
      have q1 : ((d : Nat) : Int) = r.locs[t2].d := by rw [hdd, e4.2.2, fold8_one]; omega
      have q2 : ((si : Nat) : Int) = r.locs[t2].s := by rw [hsi, e5.2.2, fold8_one]; omega
      have q3 : ((x : Nat) : Int) = r.locs[t2].i := by rw [hx, e6.2.2, fold8_four _ (by omega)]; omega
      rw [q1, q2, q3]
     have HR := hid (HR2.out.nxt (Up.refl Nul v2).drew)
     have HO := hid (HO2.out.up (Up.refl Nul v2).drew fun _ _ _ h => h)
     have HLO := hid (HL2.out.up (Up.refl Nul v2).drew fun _ _ _ h => h)
     have hbw : BB ≤ v2.drew.heap.size := hbv2
     clear hx hd ht hdd hsi hzc hzd hbc hbd HR2 HO2 HL2
     go_wp2_with fail
     refine wp_region_held_drew (S := (fun _ => True)) (by kernel_rfl) (by exact trivial) (fun hHeld => ?_)
     refine tkl 0 (some 82) ?vl1 rfl ?yl1 ?rl1
     case yl1 => (intro w hSw; (try dsimp only at hSw); go_simp; try with_reducible rfl)
     try simp only [tdy]
     refine tkl 2 (some 84) ?vl2 rfl ?yl2 ?rl2
     case yl2 => (intro w hSw; (try dsimp only at hSw); go_simp; try with_reducible rfl)
     try simp only [tdy]
     refine tkl 3 (some 85) ?vl3 rfl ?yl3 ?rl3
     case yl3 => (intro w hSw; (try dsimp only at hSw); go_simp; try with_reducible rfl)
     try simp only [tdy]
     refine tkl 4 (some 86) ?vl4 rfl ?yl4 ?rl4
     case yl4 => (intro w hSw; (try dsimp only at hSw); go_simp; try with_reducible rfl)
     try simp only [tdy]
     refine wpAnyH_ready (rs := [1, 5]) (by kernel_rfl) (by simp) ?_
     refine (AllReadyH.cons (o := ⟨some 83, _, _, _, _, _⟩) rfl (fun K hK => ?_) (AllReadyH.cons (o := ⟨some 87, _, _, _, _, _⟩) rfl (fun K hK => ?_) AllReadyH.nil))
     ·skip
      obtain ⟨c6, f6⟩ := HR.out.cells 6
      have c6 : _ = some (Value.slice la t2 lc) := c6
      go_simp
      clear c6 f6
      refine hK.out _ _ ?kl5x (fun hHeld => ?_)
      case kl5x => exact trivial
      clear hK K
      try simp only [tdy]
      refine one 5 (some 87) rfl (fun K hK => ?_)
      go_simp
      go_at_call 39
      refine (num_s _ pd 4 zd bd HR.out.rd HR.out.sm HR.out.le (by omega)).mono ?_
      rintro e wb ⟨rfl, d6, u6⟩
      rw [← HX.out]
      have HR := hid (HR.out.num 4 d6 u6)
      have HO := hid (HO.out.up u6 fun g hg _ e => by have e : g = pd := e; have := HBB.out; omega)
      have HLO := hid (HLO.out.up u6 fun g hg _ e => by have e : g = pd := e; have := HBB.out; omega)
      have hbw2 : BB ≤ wb.heap.size := Nat.le_trans hbw u6.size
      clear d6 u6
      refine hK.out _ _ ?kl6x (fun hHeld => ?_)
      case kl6x => exact trivial
      clear hK K
      try simp only [tdy]
      refine tkl 6 (some 88) ?vl7 rfl ?yl7 ?rl7
      case yl7 => (intro w hSw; (try dsimp only at hSw); go_simp; try with_reducible rfl)
      try simp only [tdy]
      refine one 7 (some 89) rfl (fun K hK => ?_)
      go_simp
      have HR := hid (HR.out.nxt ((Up.refl Nul wb).alloc (.cells #[.int .i64 (d : Nat), .int .i64 (si : Nat), .int .i64 (x : Nat)] 31)))
      have HO := hid (HO.out.up ((Up.refl Nul wb).alloc (.cells #[.int .i64 (d : Nat), .int .i64 (si : Nat), .int .i64 (x : Nat)] 31)) fun _ _ _ h => h)
      have HLO := hid (HLO.out.up ((Up.refl Nul wb).alloc (.cells #[.int .i64 (d : Nat), .int .i64 (si : Nat), .int .i64 (x : Nat)] 31)) fun _ _ _ h => h)
      have hbw3 : BB ≤ (wb.alloc (.cells #[.int .i64 (d : Nat), .int .i64 (si : Nat), .int .i64 (x : Nat)] 31)).heap.size := by simp; omega
      refine hK.out _ _ ?kl8x (fun hHeld => ?_)
      case kl8x => exact trivial
      clear hK K
      try simp only [tdy]
      obtain ⟨v', w', hrun, ho', hg'⟩ := HLO.out.app ⟨(d : Nat), (si : Nat), (x : Nat)⟩ wb.heap.size (fun j u hj => by
       match j, hj with
       | 0, hj => cases hj; exact World.cell?_alloc_new _ _ _ 0
       | 1, hj => cases hj; exact World.cell?_alloc_new _ _ _ 1
       | 2, hj => cases hj; exact World.cell?_alloc_new _ _ _ 2) 1 (by rw [hll]; omega) hbw3
      obtain ⟨av, nv, cv, rfl⟩ : ∃ a l c, v' = .slice a l c := by obtain ⟨a, c, e⟩ := ho'.shape; exact ⟨a, _, c, e⟩
      have HR := hid (HR.out.grow HBB.out hg' HLO.out.bs)
      have HO := hid (HO.out.grown hg' fun j hj => own_apart HO.out HLO.out j hj)
      have hbw4 : BB ≤ w'.heap.size := Nat.le_trans hbw3 hg'.size
      have HLO := hid ho'
      clear ho' hg'
      refine one 8 (some 90) rfl (fun K hK => ?_)
      refine wp_append_eqv (.tmp 83) (.tmp 89) 23 rfl (.slice la t2 lc) (.slice (some ⟨wb.heap.size, 0, none⟩) 1 1) (.slice av nv cv) rfl rfl hrun ?_
      clear hrun
      refine hK.out _ _ ?kl9x (fun hHeld => ?_)
      case kl9x => exact trivial
      clear hK K
      try simp only [tdy]
      refine tkl 9 (some 91) ?vl10 rfl ?yl10 ?rl10
      case yl10 => (intro w hSw; (try dsimp only at hSw); go_simp; try with_reducible rfl)
      try simp only [tdy]
      obtain ⟨c6, f6⟩ := HR.out.cells 6
      have c6 : _ = some (Value.slice la t2 lc) := c6
      refine one 10 none rfl (fun K hK => ?_)
      go_simp
      have HR := hid (HR.out.set (r' := (⟨6, ⟨#[]⟩, 0, ((x1 : Nat) : Int), ys, 0, (ls ++ [(⟨((d : Nat) : Int), ((si : Nat) : Int), ((x : Nat) : Int)⟩ : Lo)]), tb0⟩ : Rc)) (lv' := .slice av nv cv) 6 (.slice av nv cv) rfl)
      have HO := hid (HO.out.up ((Up.refl (One p) w').put rfl 6 (.slice av nv cv)) fun g hg _ e => by have e : g = p := e; have := HBB.out; omega)
      have HLO := hid (HLO.out.up ((Up.refl (One p) w').put rfl 6 (.slice av nv cv)) fun g hg _ e => by have e : g = p := e; have := HBB.out; omega)
      have hbw5 : BB ≤ (w'.setCell ⟨p, 6, none⟩ (.slice av nv cv)).heap.size := by simpa using hbw4
      clear c6 f6
      refine hK.out _ _ ?kl11x (fun hHeld => ?_)
      case kl11x => exact trivial
      clear hK K
      try simp only [tdy]
      refine wpAnyH_done (by kernel_rfl) ?_ _
      go_wp2_with fail
      go_roundw
      case rel => exact ⟨t2 + 1, _, ls ++ [(⟨((d : Nat) : Int), ((si : Nat) : Int), ((x : Nat) : Int)⟩ : Lo)], rs 4 zd, (bd || lk 4 zd), by go_num, HT.out, HR, HO, HLO, by rw [List.length_append, hll]; rfl, hbw5, HPN⟩
      case measure => have := HT.out; simp [intOf]; omega
     ·skip
      go_simp
      go_at_call 39
      refine (num_s _ pd 4 zd bd HR.out.rd HR.out.sm HR.out.le (by omega)).mono ?_
      rintro e wb ⟨rfl, d6, u6⟩
      rw [← HX.out]
      have HR := hid (HR.out.num 4 d6 u6)
      have HO := hid (HO.out.up u6 fun g hg _ e => by have e : g = pd := e; have := HBB.out; omega)
      have HLO := hid (HLO.out.up u6 fun g hg _ e => by have e : g = pd := e; have := HBB.out; omega)
      have hbw2 : BB ≤ wb.heap.size := Nat.le_trans hbw u6.size
      clear d6 u6
      refine hK.out _ _ ?kl5y (fun hHeld => ?_)
      case kl5y => exact trivial
      clear hK K
      try simp only [tdy]
      refine tkl 6 (some 88) ?vl12 rfl ?yl12 ?rl12
      case yl12 => (intro w hSw; (try dsimp only at hSw); go_simp; try with_reducible rfl)
      try simp only [tdy]
      refine wpAnyH_ready (rs := [1, 7]) (by kernel_rfl) (by simp) ?_
      refine (AllReadyH.cons (o := ⟨some 83, _, _, _, _, _⟩) rfl (fun K hK => ?_) (AllReadyH.cons (o := ⟨some 89, _, _, _, _, _⟩) rfl (fun K hK => ?_) AllReadyH.nil))
      ·skip
       obtain ⟨c6, f6⟩ := HR.out.cells 6
       have c6 : _ = some (Value.slice la t2 lc) := c6
       go_simp
       clear c6 f6
       refine hK.out _ _ ?kl13x (fun hHeld => ?_)
       case kl13x => exact trivial
       clear hK K
       try simp only [tdy]
       refine one 7 (some 89) rfl (fun K hK => ?_)
       go_simp
       have HR := hid (HR.out.nxt ((Up.refl Nul wb).alloc (.cells #[.int .i64 (d : Nat), .int .i64 (si : Nat), .int .i64 (x : Nat)] 31)))
       have HO := hid (HO.out.up ((Up.refl Nul wb).alloc (.cells #[.int .i64 (d : Nat), .int .i64 (si : Nat), .int .i64 (x : Nat)] 31)) fun _ _ _ h => h)
       have HLO := hid (HLO.out.up ((Up.refl Nul wb).alloc (.cells #[.int .i64 (d : Nat), .int .i64 (si : Nat), .int .i64 (x : Nat)] 31)) fun _ _ _ h => h)
       have hbw3 : BB ≤ (wb.alloc (.cells #[.int .i64 (d : Nat), .int .i64 (si : Nat), .int .i64 (x : Nat)] 31)).heap.size := by simp; omega
       refine hK.out _ _ ?kl14x (fun hHeld => ?_)
       case kl14x => exact trivial
       clear hK K
       try simp only [tdy]
       obtain ⟨v', w', hrun, ho', hg'⟩ := HLO.out.app ⟨(d : Nat), (si : Nat), (x : Nat)⟩ wb.heap.size (fun j u hj => by
        match j, hj with
        | 0, hj => cases hj; exact World.cell?_alloc_new _ _ _ 0
        | 1, hj => cases hj; exact World.cell?_alloc_new _ _ _ 1
        | 2, hj => cases hj; exact World.cell?_alloc_new _ _ _ 2) 1 (by rw [hll]; omega) hbw3
       obtain ⟨av, nv, cv, rfl⟩ : ∃ a l c, v' = .slice a l c := by obtain ⟨a, c, e⟩ := ho'.shape; exact ⟨a, _, c, e⟩
       have HR := hid (HR.out.grow HBB.out hg' HLO.out.bs)
       have HO := hid (HO.out.grown hg' fun j hj => own_apart HO.out HLO.out j hj)
       have hbw4 : BB ≤ w'.heap.size := Nat.le_trans hbw3 hg'.size
       have HLO := hid ho'
       clear ho' hg'
       refine one 8 (some 90) rfl (fun K hK => ?_)
       refine wp_append_eqv (.tmp 83) (.tmp 89) 23 rfl (.slice la t2 lc) (.slice (some ⟨wb.heap.size, 0, none⟩) 1 1) (.slice av nv cv) rfl rfl hrun ?_
       clear hrun
       refine hK.out _ _ ?kl15x (fun hHeld => ?_)
       case kl15x => exact trivial
       clear hK K
       try simp only [tdy]
       refine tkl 9 (some 91) ?vl16 rfl ?yl16 ?rl16
       case yl16 => (intro w hSw; (try dsimp only at hSw); go_simp; try with_reducible rfl)
       try simp only [tdy]
       obtain ⟨c6, f6⟩ := HR.out.cells 6
       have c6 : _ = some (Value.slice la t2 lc) := c6
       refine one 10 none rfl (fun K hK => ?_)
       go_simp
       have HR := hid (HR.out.set (r' := (⟨6, ⟨#[]⟩, 0, ((x1 : Nat) : Int), ys, 0, (ls ++ [(⟨((d : Nat) : Int), ((si : Nat) : Int), ((x : Nat) : Int)⟩ : Lo)]), tb0⟩ : Rc)) (lv' := .slice av nv cv) 6 (.slice av nv cv) rfl)
       have HO := hid (HO.out.up ((Up.refl (One p) w').put rfl 6 (.slice av nv cv)) fun g hg _ e => by have e : g = p := e; have := HBB.out; omega)
       have HLO := hid (HLO.out.up ((Up.refl (One p) w').put rfl 6 (.slice av nv cv)) fun g hg _ e => by have e : g = p := e; have := HBB.out; omega)
       have hbw5 : BB ≤ (w'.setCell ⟨p, 6, none⟩ (.slice av nv cv)).heap.size := by simpa using hbw4
       clear c6 f6
       refine hK.out _ _ ?kl17x (fun hHeld => ?_)
       case kl17x => exact trivial
       clear hK K
       try simp only [tdy]
       refine wpAnyH_done (by kernel_rfl) ?_ _
       go_wp2_with fail
       go_roundw
       case rel => exact ⟨t2 + 1, _, ls ++ [(⟨((d : Nat) : Int), ((si : Nat) : Int), ((x : Nat) : Int)⟩ : Lo)], rs 4 zd, (bd || lk 4 zd), by go_num, HT.out, HR, HO, HLO, by rw [List.length_append, hll]; rfl, hbw5, HPN⟩
       case measure => have := HT.out; simp [intOf]; omega
      ·skip
       go_simp
       have HR := hid (HR.out.nxt ((Up.refl Nul wb).alloc (.cells #[.int .i64 (d : Nat), .int .i64 (si : Nat), .int .i64 (x : Nat)] 31)))
       have HO := hid (HO.out.up ((Up.refl Nul wb).alloc (.cells #[.int .i64 (d : Nat), .int .i64 (si : Nat), .int .i64 (x : Nat)] 31)) fun _ _ _ h => h)
       have HLO := hid (HLO.out.up ((Up.refl Nul wb).alloc (.cells #[.int .i64 (d : Nat), .int .i64 (si : Nat), .int .i64 (x : Nat)] 31)) fun _ _ _ h => h)
       have hbw3 : BB ≤ (wb.alloc (.cells #[.int .i64 (d : Nat), .int .i64 (si : Nat), .int .i64 (x : Nat)] 31)).heap.size := by simp; omega
       refine hK.out _ _ ?kl13y (fun hHeld => ?_)
       case kl13y => exact trivial
       clear hK K
       try simp only [tdy]
       obtain ⟨c6, f6⟩ := HR.out.cells 6
       have c6 : _ = some (Value.slice la t2 lc) := c6
       refine one 1 (some 83) rfl (fun K hK => ?_)
       go_simp
       clear c6 f6
       refine hK.out _ _ ?kl18x (fun hHeld => ?_)
       case kl18x => exact trivial
       clear hK K
       try simp only [tdy]
       obtain ⟨v', w', hrun, ho', hg'⟩ := HLO.out.app ⟨(d : Nat), (si : Nat), (x : Nat)⟩ wb.heap.size (fun j u hj => by
        match j, hj with
        | 0, hj => cases hj; exact World.cell?_alloc_new _ _ _ 0
        | 1, hj => cases hj; exact World.cell?_alloc_new _ _ _ 1
        | 2, hj => cases hj; exact World.cell?_alloc_new _ _ _ 2) 1 (by rw [hll]; omega) hbw3
       obtain ⟨av, nv, cv, rfl⟩ : ∃ a l c, v' = .slice a l c := by obtain ⟨a, c, e⟩ := ho'.shape; exact ⟨a, _, c, e⟩
       have HR := hid (HR.out.grow HBB.out hg' HLO.out.bs)
       have HO := hid (HO.out.grown hg' fun j hj => own_apart HO.out HLO.out j hj)
       have hbw4 : BB ≤ w'.heap.size := Nat.le_trans hbw3 hg'.size
       have HLO := hid ho'
       clear ho' hg'
       refine one 8 (some 90) rfl (fun K hK => ?_)
       refine wp_append_eqv (.tmp 83) (.tmp 89) 23 rfl (.slice la t2 lc) (.slice (some ⟨wb.heap.size, 0, none⟩) 1 1) (.slice av nv cv) rfl rfl hrun ?_
       clear hrun
       refine hK.out _ _ ?kl19x (fun hHeld => ?_)
       case kl19x => exact trivial
       clear hK K
       try simp only [tdy]
       refine tkl 9 (some 91) ?vl20 rfl ?yl20 ?rl20
       case yl20 => (intro w hSw; (try dsimp only at hSw); go_simp; try with_reducible rfl)
       try simp only [tdy]
       obtain ⟨c6, f6⟩ := HR.out.cells 6
       have c6 : _ = some (Value.slice la t2 lc) := c6
       refine one 10 none rfl (fun K hK => ?_)
       go_simp
       have HR := hid (HR.out.set (r' := (⟨6, ⟨#[]⟩, 0, ((x1 : Nat) : Int), ys, 0, (ls ++ [(⟨((d : Nat) : Int), ((si : Nat) : Int), ((x : Nat) : Int)⟩ : Lo)]), tb0⟩ : Rc)) (lv' := .slice av nv cv) 6 (.slice av nv cv) rfl)
       have HO := hid (HO.out.up ((Up.refl (One p) w').put rfl 6 (.slice av nv cv)) fun g hg _ e => by have e : g = p := e; have := HBB.out; omega)
       have HLO := hid (HLO.out.up ((Up.refl (One p) w').put rfl 6 (.slice av nv cv)) fun g hg _ e => by have e : g = p := e; have := HBB.out; omega)
       have hbw5 : BB ≤ (w'.setCell ⟨p, 6, none⟩ (.slice av nv cv)).heap.size := by simpa using hbw4
       clear c6 f6
       refine hK.out _ _ ?kl21x (fun hHeld => ?_)
       case kl21x => exact trivial
       clear hK K
       try simp only [tdy]
       refine wpAnyH_done (by kernel_rfl) ?_ _
       go_wp2_with fail
       go_roundw
       case rel => exact ⟨t2 + 1, _, ls ++ [(⟨((d : Nat) : Int), ((si : Nat) : Int), ((x : Nat) : Int)⟩ : Lo)], rs 4 zd, (bd || lk 4 zd), by go_num, HT.out, HR, HO, HLO, by rw [List.length_append, hll]; rfl, hbw5, HPN⟩
       case measure => have := HT.out; simp [intOf]; omega
    ·have HT2 : Hid (t2 = x8) := by show _ = _; omega
     have hn2 : ¬ (t2 : Int) < x8 := by omega
     have HLL : Hid (ls.length ≤ 100000) := by show _ ≤ _; omega
     have HPF : Hid (∀ r, OkF r → encR r = z → bb = false ∧ zz = ([] : List Nat) ∧ kn r = 6 ∧ ((x1 : Nat) : Int) = r.sid ∧ ys = r.sids ∧ x8 = r.locs.length ∧ ls = r.locs) := fun r F e => by
      obtain ⟨h1, h2, h3, g0, g1, g2, gl⟩ := HP.out r F e
      obtain ⟨i1, i2, i3, i4, i5, i6, i7, i8, i9, i10, i11, i12, i13, i14, i15⟩ := (okF6 (by rw [F.kk, h3]; rfl)).1 F
      have := HT2.out
      rw [List.drop_of_length_le (by omega)] at h2
      rw [List.take_of_length_le (by omega)] at gl
      exact ⟨h1, h2, h3, g0, g1, g2, gl⟩
     clear hd ht hll HP
     obtain ⟨n0, n1, n2, n3, n4⟩ := HR.out.names
     obtain ⟨sa, sc, rfl, hsr⟩ := HO.out.row
     obtain ⟨la, lc, rfl, hlr⟩ := HLO.out.row
     have HRH : Hid (RH wr (⟨6, ⟨#[]⟩, 0, ((x1 : Nat) : Int), ys, 0, ls, tb0⟩ : Rc) sa la) := ⟨hsr, hlr, HYL.out, HLL.out⟩
     have HKS : Hid (((⟨6, ⟨#[]⟩, 0, ((x1 : Nat) : Int), ys, 0, ls, tb0⟩ : Rc)).key.size ≤ 100000) := by show 0 ≤ 100000; omega
     have HFR : Hid ((∀ g o, ys ≠ [] → sa = some ⟨g, o, none⟩ → g ≠ pr) ∧ (∀ g o, la = some ⟨g, o, none⟩ → g ≠ pr)) := ⟨fun g o _ e => by have := HO.out.bs g (by rw [e]; rfl); have := HBB.out; omega, fun g o e => by have := HLO.out.bs g (by rw [e]; rfl); have := HBB.out; omega⟩
     have HEQ : Hid (∀ r, OkF r → encR r = z → bb = false ∧ r = (⟨6, ⟨#[]⟩, 0, ((x1 : Nat) : Int), ys, 0, ls, tb0⟩ : Rc)) := fun r F e => by
      obtain ⟨h1, h2, h3, g0, g1, g2, gl⟩ := HPF.out r F e
      refine ⟨h1, ?_⟩
      rw [eqr6 F h3, Rc.mk.injEq]
      exact ⟨rfl, rfl, rfl, g0.symm, g1.symm, rfl, gl.symm, rfl⟩
     have hcs := HR.out.rb.cells
     dsimp only [tb0] at hcs
     obtain ⟨m0, m1, m2, m3, m4, m5, m6, m7, m8, m9, m10, m11, m12⟩ := hcs
     have d1 := HR.out.rd.bad
     clear hsr hlr HPF HO HLO HYL HLL
     cases bb with
     | true =>
      have HDE : Hid (D = rc0 ∧ ib = false) := by
       rw [HDD.out.1, HDD.out.2]
       exact decR_no fun r F e => by cases (HEQ.out r F e).1
      have HRES := hid HR.out.res
      have HUX := hid HR.out.up
      obtain ⟨b0, b1, b2, b3, b4, b5, b6, b7, b8, b9, b10, b11, b12⟩ := HRES.out.cells
      obtain ⟨f0, f1, f2, f3, f4, f5, f6, f7, f8, f9, f10, f11, f12⟩ := HRES.out.frozs
      go_wp2_with fail
      have hld := run_loadVar_row (P := Tryd.prog) _ pr _ 27 _ _ _ (heap13s HRES.out (.int .i64 0) (.string ⟨#[]⟩) (.int .i64 0) (.int .i64 0) (.slice none 0 0) (.int .i64 0) (.slice none 0 0) (.int .i64 0) (.int .i64 0) (.int .i64 0) (.int .i64 0) (.int .i64 0) (.int .i64 0)) Tryd.underlying27 rfl info_rec13
      refine bodyPost_ret (v := .tuple #[.agg #[.int .i64 0, .string ⟨#[]⟩, .int .i64 0, .int .i64 0, .slice none 0 0, .int .i64 0, .slice none 0 0, .int .i64 0, .int .i64 0, .int .i64 0, .int .i64 0, .int .i64 0, .int .i64 0], .bool false]) (by rw [results_cell_tmp rfl]; simp [asAddr, hld, Result.andThen]) rfl ?_
      rw [HDE.out.1, HDE.out.2]
      exact ⟨none, 0, none, 0, rfl, ⟨RowI.nil _ _, RowL.nil _ _, by show 0 ≤ 100000; omega, by show 0 ≤ 100000; omega⟩, Up.newest HUX.out (up13 _ pr _ _ _ _ _ _ _ _ _ _ _ _ _) (fun i hi e => by have e : i = pr := e; have := HPR.out; omega)⟩
     | false =>
      go_wp2_with fail
      refine (rok_any (⟨6, ⟨#[]⟩, 0, ((x1 : Nat) : Int), ys, 0, ls, tb0⟩ : Rc) sa la sc lc _ HRH.out HKS.out).mono ?_
      rintro e w10 ⟨rfl, u10⟩
      have HR10 := hid (HR.out.nxt u10)
      have HRH10 := hid (HRH.out.nxt u10)
      clear u10 HR HRH d1 n0 n1 n2 n3 n4 m0 m1 m2 m3 m4 m5 m6 m7 m8 m9 m10 m11 m12
      cases ho : okR (⟨6, ⟨#[]⟩, 0, ((x1 : Nat) : Int), ys, 0, ls, tb0⟩ : Rc) with
      | false =>
       have HDE : Hid (D = rc0 ∧ ib = false) := by
        rw [HDD.out.1, HDD.out.2]
        exact decR_no fun r F e => by rw [(HEQ.out r F e).2] at F; rw [okR_iff.2 F] at ho; cases ho
       have HRES := hid HR10.out.res
       have HUX := hid HR10.out.up
       clear ho
       obtain ⟨b0, b1, b2, b3, b4, b5, b6, b7, b8, b9, b10, b11, b12⟩ := HRES.out.cells
       obtain ⟨f0, f1, f2, f3, f4, f5, f6, f7, f8, f9, f10, f11, f12⟩ := HRES.out.frozs
       go_wp2_with fail
       have hld := run_loadVar_row (P := Tryd.prog) _ pr _ 27 _ _ _ (heap13s HRES.out (.int .i64 0) (.string ⟨#[]⟩) (.int .i64 0) (.int .i64 0) (.slice none 0 0) (.int .i64 0) (.slice none 0 0) (.int .i64 0) (.int .i64 0) (.int .i64 0) (.int .i64 0) (.int .i64 0) (.int .i64 0)) Tryd.underlying27 rfl info_rec13
       refine bodyPost_ret (v := .tuple #[.agg #[.int .i64 0, .string ⟨#[]⟩, .int .i64 0, .int .i64 0, .slice none 0 0, .int .i64 0, .slice none 0 0, .int .i64 0, .int .i64 0, .int .i64 0, .int .i64 0, .int .i64 0, .int .i64 0], .bool false]) (by rw [results_cell_tmp rfl]; simp [asAddr, hld, Result.andThen]) rfl ?_
       rw [HDE.out.1, HDE.out.2]
       exact ⟨none, 0, none, 0, rfl, ⟨RowI.nil _ _, RowL.nil _ _, by show 0 ≤ 100000; omega, by show 0 ≤ 100000; omega⟩, Up.newest HUX.out (up13 _ pr _ _ _ _ _ _ _ _ _ _ _ _ _) (fun i hi e => by have e : i = pr := e; have := HPR.out; omega)⟩
      | true =>
       have HF := hid (okR_iff.1 ho)
       clear ho
       have hcs := HR10.out.rb.cells
       dsimp only [tb0] at hcs
       obtain ⟨m0, m1, m2, m3, m4, m5, m6, m7, m8, m9, m10, m11, m12⟩ := hcs
       go_wp2_with fail
       refine (rby_any (⟨6, ⟨#[]⟩, 0, ((x1 : Nat) : Int), ys, 0, ls, tb0⟩ : Rc) sa la sc lc _ HRH10.out HF.out).mono ?_
       rintro e w11 ⟨rfl, u11⟩
       obtain ⟨sq, hsq⟩ : ∃ s, s = strOf (encR (⟨6, ⟨#[]⟩, 0, ((x1 : Nat) : Int), ys, 0, ls, tb0⟩ : Rc)) := ⟨_, rfl⟩
       rw [← hsq]
       have HSQ := hid hsq
       have HR11 := hid (HR10.out.nxt u11)
       have HRH11 := hid (HRH10.out.nxt u11)
       clear u11 hsq HR10 HRH10 m0 m1 m2 m3 m4 m5 m6 m7 m8 m9 m10 m11 m12
       have hcs := HR11.out.rb.cells
       dsimp only [tb0] at hcs
       obtain ⟨m0, m1, m2, m3, m4, m5, m6, m7, m8, m9, m10, m11, m12⟩ := hcs
       have HRES := hid HR11.out.res
       have HUX := hid HR11.out.up
       by_cases hb : sq = s0
       ·have HDE : Hid (D = (⟨6, ⟨#[]⟩, 0, ((x1 : Nat) : Int), ys, 0, ls, tb0⟩ : Rc) ∧ ib = true) := by
         rw [HDD.out.1, HDD.out.2]
         exact decR_yes HF.out (strOf_enc HF.out HZ0.out (by rw [← HSQ.out, hb, HS0.out]))
        obtain ⟨b0, b1, b2, b3, b4, b5, b6, b7, b8, b9, b10, b11, b12⟩ := HRES.out.cells
        obtain ⟨f0, f1, f2, f3, f4, f5, f6, f7, f8, f9, f10, f11, f12⟩ := HRES.out.frozs
        go_wp2_with fail
        have hld := run_loadVar_row (P := Tryd.prog) _ pr _ 27 _ _ _ (heap13s HRES.out (.int .i64 ((⟨6, ⟨#[]⟩, 0, ((x1 : Nat) : Int), ys, 0, ls, tb0⟩ : Rc)).kind) (.string ((⟨6, ⟨#[]⟩, 0, ((x1 : Nat) : Int), ys, 0, ls, tb0⟩ : Rc)).key) (.int .i64 ((⟨6, ⟨#[]⟩, 0, ((x1 : Nat) : Int), ys, 0, ls, tb0⟩ : Rc)).n) (.int .i64 ((⟨6, ⟨#[]⟩, 0, ((x1 : Nat) : Int), ys, 0, ls, tb0⟩ : Rc)).sid) (.slice sa ys.length sc) (.int .i64 ((⟨6, ⟨#[]⟩, 0, ((x1 : Nat) : Int), ys, 0, ls, tb0⟩ : Rc)).colour) (.slice la ls.length lc) (.int .i64 ((⟨6, ⟨#[]⟩, 0, ((x1 : Nat) : Int), ys, 0, ls, tb0⟩ : Rc)).t.hot) (.int .i64 ((⟨6, ⟨#[]⟩, 0, ((x1 : Nat) : Int), ys, 0, ls, tb0⟩ : Rc)).t.warm) (.int .i64 ((⟨6, ⟨#[]⟩, 0, ((x1 : Nat) : Int), ys, 0, ls, tb0⟩ : Rc)).t.gap) (.int .i64 ((⟨6, ⟨#[]⟩, 0, ((x1 : Nat) : Int), ys, 0, ls, tb0⟩ : Rc)).t.add) (.int .i64 ((⟨6, ⟨#[]⟩, 0, ((x1 : Nat) : Int), ys, 0, ls, tb0⟩ : Rc)).t.top) (.int .i64 ((⟨6, ⟨#[]⟩, 0, ((x1 : Nat) : Int), ys, 0, ls, tb0⟩ : Rc)).t.half)) Tryd.underlying27 rfl info_rec13
        refine bodyPost_ret (v := .tuple #[rv (⟨6, ⟨#[]⟩, 0, ((x1 : Nat) : Int), ys, 0, ls, tb0⟩ : Rc) (.slice sa ys.length sc) (.slice la ls.length lc), .bool true]) (by rw [results_cell_tmp rfl]; simp [tb0] at hld ⊢; simp [asAddr, hld, Result.andThen]) rfl ?_
        rw [HDE.out.1, HDE.out.2]
        exact ⟨sa, sc, la, lc, rfl, HRH11.out.keep13 (up13 _ pr _ _ _ _ _ _ _ _ _ _ _ _ _) HFR.out, Up.newest HUX.out (up13 _ pr _ _ _ _ _ _ _ _ _ _ _ _ _) (fun i hi e => by have e : i = pr := e; have := HPR.out; omega)⟩
       ·have HDE : Hid (D = rc0 ∧ ib = false) := by
         rw [HDD.out.1, HDD.out.2]
         exact decR_no fun r F e => hb (by rw [HSQ.out, HS0.out, ← (HEQ.out r F e).2, e])
        have hb3 : (sq.toList == s0.toList) = false := beq_eq_false_iff_ne.2 fun e => hb (bytes_inj e)
        obtain ⟨b0, b1, b2, b3, b4, b5, b6, b7, b8, b9, b10, b11, b12⟩ := HRES.out.cells
        obtain ⟨f0, f1, f2, f3, f4, f5, f6, f7, f8, f9, f10, f11, f12⟩ := HRES.out.frozs
        go_wp2_with fail
        have hld := run_loadVar_row (P := Tryd.prog) _ pr _ 27 _ _ _ (heap13s HRES.out (.int .i64 0) (.string ⟨#[]⟩) (.int .i64 0) (.int .i64 0) (.slice none 0 0) (.int .i64 0) (.slice none 0 0) (.int .i64 0) (.int .i64 0) (.int .i64 0) (.int .i64 0) (.int .i64 0) (.int .i64 0)) Tryd.underlying27 rfl info_rec13
        refine bodyPost_ret (v := .tuple #[.agg #[.int .i64 0, .string ⟨#[]⟩, .int .i64 0, .int .i64 0, .slice none 0 0, .int .i64 0, .slice none 0 0, .int .i64 0, .int .i64 0, .int .i64 0, .int .i64 0, .int .i64 0, .int .i64 0], .bool false]) (by rw [results_cell_tmp rfl]; simp [asAddr, hld, Result.andThen]) rfl ?_
        rw [HDE.out.1, HDE.out.2]
        exact ⟨none, 0, none, 0, rfl, ⟨RowI.nil _ _, RowL.nil _ _, by show 0 ≤ 100000; omega, by show 0 ≤ 100000; omega⟩, Up.newest HUX.out (up13 _ pr _ _ _ _ _ _ _ _ _ _ _ _ _) (fun i hi e => by have e : i = pr := e; have := HPR.out; omega)⟩
end Go.Proofs.YtpdkcpjofofkoaaDoor
