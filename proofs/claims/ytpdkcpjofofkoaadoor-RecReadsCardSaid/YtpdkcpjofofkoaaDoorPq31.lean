/- The document's RecOf of Kind 8. -/
import Derived.Test.YtpdkcpjofofkoaaDoorPkTidy
import Derived.Test.YtpdkcpjofofkoaaDoorPq14
import Derived.Test.YtpdkcpjofofkoaaDoorPq23
set_option maxRecDepth 100000
namespace Go.Proofs.YtpdkcpjofofkoaaDoor
open Go.RowKit
set_option linter.unusedVariables false
set_option linter.unusedSimpArgs false
theorem encP8 {r : Rc} (hk : kn r = 8) (F : OkF r) : encR r = [8] ++ (wds r.sids ++ (los r.locs ++ (wds r.t.l))) := by
 have hkk := F.kk
 rw [hk] at hkk
 unfold encR
 rw [hk, hkk]
 have w1 : wds [r.sid] = w4 r.sid.toNat := by simp [wds]
 simp [opt, sh, shT, List.append_assoc, w1]
theorem eqr8 {r : Rc} (F : OkF r) (h3 : kn r = 8) : r = ⟨8, ⟨#[]⟩, 0, 0, r.sids, 0, r.locs, r.t⟩ := by
 have hk : r.kind = 8 := by rw [F.kk, h3]; rfl
 obtain ⟨i1, i2, i3, i4, i5, i6, i7, i8, i9, i10, i11, i12, i13, i14, i15⟩ := (okF8 hk).1 F
 clear F h3 i2 i7 i9
 obtain ⟨kd, key, n, sid, sids, co, locs, ⟨a, b, c, d, e, f⟩⟩ := r
 dsimp only at *
 subst hk
 obtain rfl : key = ⟨#[]⟩ := ByteArray.ext (Array.eq_empty_of_size_eq_zero (show key.data.size = 0 by have e : key.size = key.data.size := rfl; omega))
 obtain rfl : n = 0 := by omega
 obtain rfl : sid = 0 := by omega
 obtain rfl : co = 0 := by omega
 rfl
set_option maxHeartbeats 8000000 in
theorem rof8 (z : List Nat) (w : World) (hz : ∀ x ∈ z, x < 256) (hl : z.length ≤ 100000) (hk : fold8 (tk 1 z) = 8) :
  Calls Tryd.prog 15 #[.string (strOf z)] w fun e w' => RofP w (decO z) (decR z).isSome e w' := by
 have HK := hid hk
 clear hk
 have HZ0 := hid hz
 have HL0 := hid hl
 obtain ⟨D, hDe⟩ : ∃ D, D = decO z := ⟨_, rfl⟩
 obtain ⟨ib, hib⟩ : ∃ ib, ib = (decR z).isSome := ⟨_, rfl⟩
 rw [← hDe, ← hib]
 have HDD := hid (And.intro hDe hib)
 obtain ⟨s0, hs0⟩ : ∃ s, s = strOf z := ⟨_, rfl⟩
 rw [← hs0]
 have HS0 := hid hs0
 have HSZ : Hid (s0.size = z.length) := by show _ = _; rw [hs0, strOf_size]
 obtain ⟨W2, hW2⟩ : ∃ W, W = (w.alloc (.cells #[.int .i64 0, .string ⟨#[]⟩, .int .i64 0, .int .i64 0, .slice none 0 0, .int .i64 0, .slice none 0 0, .int .i64 0, .int .i64 0, .int .i64 0, .int .i64 0, .int .i64 0, .int .i64 0] 27)).alloc (.cells #[.string s0, .bool false] 75) := ⟨_, rfl⟩
 have hr2 : RB W2 w.heap.size rc0 (.slice none 0 0) (.slice none 0 0) := by
  rw [hW2]
  exact (Below.heap_alloc _ _ _ (by simp)).trans (heap_alloc_new _ _)
 have hd2 : Rd W2 (w.heap.size + 1) z false := by
  show W2.heap[_]? = _
  rw [hW2, ← hs0]
  have := heap_alloc_new (w.alloc (.cells #[.int .i64 0, .string ⟨#[]⟩, .int .i64 0, .int .i64 0, .slice none 0 0, .int .i64 0, .slice none 0 0, .int .i64 0, .int .i64 0, .int .i64 0, .int .i64 0, .int .i64 0, .int .i64 0] 27)) (.cells #[.string s0, .bool false] 75)
  simpa using this
 have U2 : Up Nul w W2 := by rw [hW2]; exact ((Up.refl Nul w).alloc _).alloc _
 clear hDe hib hs0
 go_enter Tryd.func15, Tryd.ntmps15
 go_upto_region 2 with fail
 rw [← hW2]
 clear hW2
 obtain ⟨pr, hpr⟩ : ∃ p, p = w.heap.size := ⟨_, rfl⟩
 obtain ⟨pd, hpd⟩ : ∃ p, p = w.heap.size + 1 := ⟨_, rfl⟩
 have HPR := hid (Nat.le_of_eq hpr.symm)
 have HPD := hid (show w.heap.size ≤ pd by omega)
 have HNE := hid (show pr ≠ pd by omega)
 rw [← hpd, ← hpr]
 rw [← hpr] at hr2
 rw [← hpd] at hd2
 have HR2 := hid hr2
 have HD2 := hid hd2
 have HU2 := hid U2
 clear hpr hpd hr2 hd2 U2 hz hl
 go_wp2_with fail
 refine (num_s _ pd 1 z false HD2.out HZ0.out HL0.out (by omega)).mono ?_
 rintro e w3 ⟨rfl, d3, u3⟩

 rw [show ((fold8 (tk 1 z) : Nat) : Int) = 8 from by rw [HK.out]; rfl]
 go_upto_region 3 with fail
 obtain ⟨W4, hW4⟩ : ∃ W, W = w3.alloc (.cells (rcellsL (⟨8, ⟨#[]⟩, 0, 0, [], 0, [], tb0⟩ : Rc) (.slice none 0 0) (.slice none 0 0)) 27) := ⟨_, rfl⟩
 obtain ⟨p, hp⟩ : ∃ p, p = w3.heap.size := ⟨_, rfl⟩
 have u4 : Up Nul w3 W4 := by rw [hW4]; exact (Up.refl Nul w3).alloc _
 have hb4 : RB W4 p (⟨8, ⟨#[]⟩, 0, 0, [], 0, [], tb0⟩ : Rc) (.slice none 0 0) (.slice none 0 0) := by rw [hp, hW4]; exact RB.new _ _ _ _
 have hr4 := (HR2.out.up u3 HNE.out).nxt u4
 have hd4 := d3.up u4 id
 have hu4 := (HU2.out.newest u3 (fun i hi e => by have e : i = pd := e; have := HPD.out; omega)).trans u4
 have hpr3 : pr < w3.heap.size := (HR2.out.up u3 HNE.out).lt
 have hpd3 : pd < w3.heap.size := d3.lt
 have hw3 : w.heap.size ≤ w3.heap.size := (HU2.out.newest u3 (fun i hi e => by have e : i = pd := e; have := HPD.out; omega)).size
 have HG := hid (And.intro hr4 (And.intro hd4 (And.intro hb4 (And.intro hu4 (show p ≠ pr ∧ p ≠ pd ∧ w.heap.size ≤ p by omega)))))
 rw [← hp]
 first | rw [← hW4] | (have hW9 := hW4; simp only [tb0] at hW9; rw [← hW9]; clear hW9)
 clear hW4 u4 hb4 hr4 hd4 hu4 hpr3 hpd3 hw3 hp d3 u3 HR2 HU2 HD2
 have c0 : W4.cell? ⟨p, 0, none⟩ = some (.int .i64 8) := HG.out.2.2.1.cells.1
 go_wp2_with fail
 refine (in_any _ _ _ _).mono ?_
 rintro e w5 ⟨rfl, rfl⟩
 rw [show spn 1 8 8 = true from by decide]
 go_wp2_with fail
 refine (names8 _).mono ?_
 rintro e w5 ⟨rfl, u5⟩
 go_upto_region 6 with fail
 obtain ⟨W5, hW5⟩ : ∃ W, W = w5.alloc (.cells #[.bool (nmB 8 0), .bool (nmB 8 1), .bool (nmB 8 2), .bool (nmB 8 3), .bool (nmB 8 4)] 63) := ⟨_, rfl⟩
 obtain ⟨q, hq⟩ : ∃ q, q = w5.heap.size := ⟨_, rfl⟩
 have u6 := u5.trans (show Up Nul w5 W5 by rw [hW5]; exact (Up.refl Nul w5).alloc _)
 have hq5 : W5.heap[q]? = some (.cells #[.bool false, .bool false, .bool false, .bool false, .bool true] 63 (0, 0)) := by rw [hq, hW5]; exact heap_alloc_new _ _
 have hqp : pd < q ∧ p < q := by
  rw [hq]
  exact ⟨Nat.lt_of_lt_of_le HG.out.2.1.lt u5.size, Nat.lt_of_lt_of_le HG.out.2.2.1.lt u5.size⟩
 obtain ⟨z0, hz0⟩ : ∃ y, y = rs 1 z := ⟨_, rfl⟩
 obtain ⟨b0, hb0⟩ : ∃ y, y = (false || lk 1 z) := ⟨_, rfl⟩
 have RS0 : Hid (RfS w W5 pr pd p q (⟨8, ⟨#[]⟩, 0, 0, [], 0, [], tb0⟩ : Rc) (.slice none 0 0) (.slice none 0 0) z0 b0 #[.bool false, .bool false, .bool false, .bool false, .bool true]) := ⟨HG.out.1.nxt u6, by rw [hz0, hb0]; exact HG.out.2.1.up u6 id, HG.out.2.2.1.nxt u6, hq5, HG.out.2.2.2.1.trans u6, ⟨HPR.out, HPD.out, HG.out.2.2.2.2.2.2⟩,
  ⟨HNE.out, fun e => HG.out.2.2.2.2.1 e.symm, fun e => HG.out.2.2.2.2.2.1 e.symm, by omega, by omega⟩, by rw [hz0]; exact rs_small HZ0.out, by rw [hz0]; exact Nat.le_trans (rs_le _ _) HL0.out⟩
 have HP0 : Hid (∀ r, OkF r → encR r = z → b0 = false ∧ z0 = (wds r.sids ++ (los r.locs ++ (wds r.t.l))) ∧ kn r = 8) := fun r F e => by
  have e1 : z = [kn r] ++ (encR r).tail := by rw [← e]; unfold encR; simp [kn]
  have e2 : fold8 (tk 1 z) = kn r := by rw [(st_app (b := false) 1 rfl ⟨rfl, e1⟩).2.2, fold8_one]
  have e3 : kn r = 8 := e2.symm.trans HK.out
  have e4 := st_app (b := false) (z := z) 1 rfl ⟨rfl, e.symm.trans (encP8 e3 F)⟩
  exact ⟨by rw [hb0]; exact e4.1, by rw [hz0]; exact e4.2.1, e3⟩
 rw [← hW5, ← hq]
 clear hW5 hq u5 u6 hq5 hqp hz0 hb0 HG c0
 obtain ⟨n0, n1, n2, n3, n4⟩ := RS0.out.names
 have c0 := (RS0.out.cells 0).1
 have c0 : _ = some (Value.int .i64 8) := c0
 go_wp2_with fail
 refine (sids8 _).mono ?_
 rintro e w9 ⟨rfl, rfl⟩
 rw [show sdN 8 = 0 from rfl, show lcN 8 = 0 from rfl]
 obtain ⟨BB, hBB⟩ : ∃ B, B = w9.heap.size := ⟨_, rfl⟩
 have HBB : Hid (pr < BB ∧ pd < BB ∧ p < BB ∧ q < BB ∧ w.heap.size ≤ BB) := by rw [hBB]; exact RS0.out.lts
 have hBB := hid (Nat.le_of_eq hBB)
 clear c0 n0 n1 n2 n3 n4
 go_wp2_with fail
 go_loopw [9] (fun i wr => ∃ (t : Nat) (sv : Value) (ys : List Int) (zz : List Nat) (bb : Bool), i = .int .i64 (t : Nat) ∧ t ≤ 0 ∧ Hid (RfS w wr pr pd p q (⟨8, ⟨#[]⟩, 0, 0, ys, 0, [], tb0⟩ : Rc) sv (.slice none 0 0) zz bb #[.bool false, .bool false, .bool false, .bool false, .bool true]) ∧ Hid (OwnI BB wr sv ys) ∧ ys.length = t ∧ BB ≤ wr.heap.size ∧ Hid (∀ r, OkF r → encR r = z → bb = false ∧ zz = wds (r.sids.drop t) ++ (los r.locs ++ (wds r.t.l)) ∧ kn r = 8 ∧ ys = r.sids.take t)) (fun i _ => 0 - (intOf i).toNat)
 case atStart => exact ⟨0, _, [], _, _, rfl, Nat.zero_le _, RS0, OwnI.nil _ _, rfl, hBB.out, fun r F e => by obtain ⟨h1, h2, h3⟩ := HP0.out r F e; exact ⟨h1, h2, h3, rfl⟩⟩
 case round =>
  obtain ⟨t, sv, ys, zz, bb, rfl, ht, HR, HO, hyl, hbw, HP⟩ := hrel
  have i0 : (0 : Int) ≤ (t : Int) := by omega
  by_cases hd : t < 0
  ·omega
  ·have HTE : Hid (t = 0) := by show _ = _; omega
   have hnd : ¬ (t : Int) < 0 := by omega
   have HYL : Hid (ys.length ≤ 100000) := by show _ ≤ _; omega
   have HPE : Hid (∀ r, OkF r → encR r = z → bb = false ∧ zz = (los r.locs ++ (wds r.t.l)) ∧ kn r = 8 ∧ ys = r.sids) := fun r F e => by
    obtain ⟨h1, h2, h3, gy⟩ := HP.out r F e
    obtain ⟨i1, i2, i3, i4, i5, i6, i7, i8, i9, i10, i11, i12, i13, i14, i15⟩ := (okF8 (by rw [F.kk, h3]; rfl)).1 F
    have := HTE.out
    rw [List.drop_of_length_le (by omega)] at h2
    rw [List.take_of_length_le (by omega)] at gy
    exact ⟨h1, h2, h3, gy⟩
   clear hd ht hyl
   go_wp2_with fail
   go_loopw [10] (fun i wr => ∃ (t : Nat) (lv : Value) (ls : List Lo) (zz : List Nat) (bb : Bool), i = .int .i64 (t : Nat) ∧ t ≤ 0 ∧ Hid (RfS w wr pr pd p q (⟨8, ⟨#[]⟩, 0, 0, ys, 0, ls, tb0⟩ : Rc) sv lv zz bb #[.bool false, .bool false, .bool false, .bool false, .bool true]) ∧ Hid (OwnI BB wr sv ys) ∧ Hid (OwnLo BB wr lv ls) ∧ ls.length = t ∧ BB ≤ wr.heap.size ∧ Hid (∀ r, OkF r → encR r = z → bb = false ∧ zz = los (r.locs.drop t) ++ (wds r.t.l) ∧ kn r = 8 ∧ ys = r.sids ∧ ls = r.locs.take t)) (fun i _ => 0 - (intOf i).toNat)
   case atStart => exact ⟨0, _, [], _, _, rfl, Nat.zero_le _, HR, HO, OwnLo.nil _ _, rfl, hbw, fun r F e => by obtain ⟨h1, h2, h3, g0⟩ := HPE.out r F e; exact ⟨h1, by rw [List.drop_zero]; simpa using h2, h3, g0, rfl⟩⟩
   case round =>
    clear HR HO hbw HPE HP
    obtain ⟨t2, lv, ls, zz, bb, rfl, ht, HR, HO, HLO, hll, hbw, HP⟩ := hrel
    have i0 : (0 : Int) ≤ (t2 : Int) := by omega
    have i9 : (t2 : Int) ≤ 255 := by omega
    by_cases hd : t2 < 0
    ·omega
    ·have HT2 : Hid (t2 = 0) := by show _ = _; omega
     have hn2 : ¬ (t2 : Int) < 0 := by omega
     have HLL : Hid (ls.length ≤ 100000) := by show _ ≤ _; omega
     have HPF : Hid (∀ r, OkF r → encR r = z → bb = false ∧ zz = (wds r.t.l) ∧ kn r = 8 ∧ ys = r.sids ∧ ls = r.locs) := fun r F e => by
      obtain ⟨h1, h2, h3, g0, gl⟩ := HP.out r F e
      obtain ⟨i1, i2, i3, i4, i5, i6, i7, i8, i9, i10, i11, i12, i13, i14, i15⟩ := (okF8 (by rw [F.kk, h3]; rfl)).1 F
      have := HT2.out
      rw [List.drop_of_length_le (by omega)] at h2
      rw [List.take_of_length_le (by omega)] at gl
      exact ⟨h1, h2, h3, g0, gl⟩
     clear hd ht hll HP
     obtain ⟨n0, n1, n2, n3, n4⟩ := HR.out.names
     go_upto_region 28 with fail
     obtain ⟨W8, hW8⟩ : ∃ W, W = wr.alloc (.cells #[.int .i64 0, .int .i64 0, .int .i64 0, .int .i64 0, .int .i64 0, .int .i64 0] 67) := ⟨_, rfl⟩
     obtain ⟨g, hg⟩ : ∃ g, g = wr.heap.size := ⟨_, rfl⟩
     have u8 : Up Nul wr W8 := by rw [hW8]; exact (Up.refl Nul wr).alloc _
     have HG8 : Hid (W8.heap[g]? = some (.cells (six []) 67 (0, 0))) := by show _ = _; rw [hW8, hg]; exact heap_alloc_new _ _
     have HGG : Hid (g ≠ pr ∧ g ≠ pd ∧ g ≠ p ∧ g ≠ q ∧ w.heap.size ≤ g) := by
      have := HR.out.lts
      show _ ∧ _
      omega
     rw [← hW8, ← hg]
     have HR8 := hid (HR.out.nxt u8)
     have HO8 := hid (HO.out.up u8 fun _ _ _ h => h)
     have HL8 := hid (HLO.out.up u8 fun _ _ _ h => h)
     have hbw8 : BB ≤ W8.heap.size := Nat.le_trans hbw u8.size
     have HOG : Hid ((∀ j, sv.ownBlock = some j → g ≠ j) ∧ (∀ j, lv.ownBlock = some j → g ≠ j)) := by
      refine ⟨fun j hj e => ?_, fun j hj e => ?_⟩
      ·have := (World.ownsRow.lt HO.out j hj).2; omega
      ·have := (World.ownsRow.lt HLO.out j hj).2; omega
     clear hW8 u8 hbw HR HO HLO hg n0 n1 n2 n3 n4
     go_wp2_with fail
     go_loopw [14] (fun i wr => ∃ (t : Nat) (xs : List Int) (zz : List Nat) (bb : Bool), i = .int .i64 (t : Nat) ∧ t ≤ 6 ∧ Hid (RfS w wr pr pd p q (⟨8, ⟨#[]⟩, 0, 0, ys, 0, ls, tb0⟩ : Rc) sv lv zz bb #[.bool false, .bool false, .bool false, .bool false, .bool true]) ∧ Hid (OwnI BB wr sv ys) ∧ Hid (OwnLo BB wr lv ls) ∧ Hid (wr.heap[g]? = some (.cells (six xs) 67 (0, 0))) ∧ Hid (xs.length = t) ∧ Hid (∀ r, OkF r → encR r = z → bb = false ∧ zz = wds (r.t.l.drop t) ∧ kn r = 8 ∧ ys = r.sids ∧ xs = r.t.l.take t ∧ ls = r.locs)) (fun i _ => 6 - (intOf i).toNat)
     case atStart => exact ⟨0, [], _, _, rfl, Nat.zero_le _, HR8, HO8, HL8, HG8, hid rfl, fun r F e => by obtain ⟨h1, h2, h3, g0, gl⟩ := HPF.out r F e; exact ⟨h1, by rw [List.drop_zero]; simpa [Tb.l] using h2, h3, g0, rfl, gl⟩⟩
     case round =>
      clear HR8 HO8 HL8 HG8 hbw8 HPF
      obtain ⟨t3, xs, zz, bb, rfl, ht, HR, HO, HLO, HG, HXL, HP⟩ := hrel
      have i0 : (0 : Int) ≤ (t3 : Int) := by omega
      by_cases hd : t3 < 6
      ·have j1 : (t3 : Int) < 6 := by omega
       have HT := hid hd
       clear hd ht
       go_wp2_with fail
       refine (num_s _ pd 4 zz bb HR.out.rd HR.out.sm HR.out.le (by omega)).mono ?_
       rintro e v4 ⟨rfl, d6, u6⟩
       have HR4 := hid (HR.out.num 4 d6 u6)
       have HO4 := hid (HO.out.up u6 fun g hg _ e => by have e : g = pd := e; have := HBB.out; omega)
       have HL4 := hid (HLO.out.up u6 fun g hg _ e => by have e : g = pd := e; have := HBB.out; omega)
       have HG4 : Hid (v4.heap[g]? = some (.cells (six xs) 67 (0, 0))) := (u6.block g (Array.getElem?_eq_some_iff.1 HG.out).1 HGG.out.2.1).trans HG.out
       obtain ⟨x, hx⟩ : ∃ x, x = fold8 (tk 4 zz) := ⟨_, rfl⟩
       have HX := hid hx
       have HPN : Hid (∀ r, OkF r → encR r = z → (bb || lk 4 zz) = false ∧ rs 4 zz = wds (r.t.l.drop (t3 + 1)) ∧ kn r = 8 ∧ ys = r.sids ∧ xs ++ [((x : Nat) : Int)] = r.t.l.take (t3 + 1) ∧ ls = r.locs) := fun r F e => by
        obtain ⟨h1, h2, h3, g0, gy, gl⟩ := HP.out r F e
        obtain ⟨i1, i2, i3, i4, i5, i6, i7, i8, i9, i10, i11, i12, i13, i14, i15⟩ := (okF8 (by rw [F.kk, h3]; rfl)).1 F
        have hlt : t3 < r.t.l.length := HT.out
        have hm : ∀ x ∈ r.t.l, 0 ≤ x ∧ x ≤ 1000000 := by
         intro x hx
         simp only [Tb.l, List.mem_cons, List.not_mem_nil, or_false] at hx
         rcases hx with rfl | rfl | rfl | rfl | rfl | rfl <;> assumption
        have i7v := hm _ (List.getElem_mem hlt)
        rw [List.drop_eq_getElem_cons hlt, wds_cons] at h2
        have e4 := st_app (z := zz) 4 rfl ⟨h1, h2⟩
        refine ⟨e4.1, e4.2.1, h3, g0, ?_, gl⟩
        rw [List.take_succ_eq_append_getElem hlt, ← gy, hx, e4.2.2, fold8_four _ (by omega)]
        congr 1
        simp
        omega
       rw [← hx]
       obtain ⟨ca, fa⟩ := six_cell HG4.out t3 HT.out
       have HR5 : Hid (RfS w (v4.setCell ⟨g, t3, none⟩ (.int .i64 (x : Nat))) pr pd p q (⟨8, ⟨#[]⟩, 0, 0, ys, 0, ls, tb0⟩ : Rc) sv lv (rs 4 zz) (bb || lk 4 zz) #[.bool false, .bool false, .bool false, .bool false, .bool true]) := by
        have u : Up (One g) v4 (v4.setCell ⟨g, t3, none⟩ (.int .i64 (x : Nat))) := (Up.refl (One g) v4).put rfl t3 _
        exact ⟨HR4.out.res.up u (fun e => HGG.out.1 e.symm), HR4.out.rd.up u (fun e => HGG.out.2.1 e.symm), HR4.out.rb.up u (fun e => HGG.out.2.2.1 e.symm), (u.block q (Array.getElem?_eq_some_iff.1 HR4.out.nm).1 (fun e => HGG.out.2.2.2.1 e.symm)).trans HR4.out.nm, HR4.out.up.newest u (fun i hi e => by have e : i = g := e; have := HGG.out.2.2.2.2; omega), HR4.out.ge, HR4.out.ne, HR4.out.sm, HR4.out.le⟩
       have U5 := hid (show Up (One g) v4 (v4.setCell ⟨g, t3, none⟩ (.int .i64 (x : Nat))) from (Up.refl (One g) v4).put rfl t3 _)
       have HO5 := hid (HO4.out.off U5.out fun j hj e => HOG.out.1 j hj (show j = g from e).symm)
       have HL5 := hid (HL4.out.off U5.out fun j hj e => HOG.out.2 j hj (show j = g from e).symm)
       have HG5 : Hid ((v4.setCell ⟨g, t3, none⟩ (.int .i64 (x : Nat))).heap[g]? = some (.cells (six (xs ++ [((x : Nat) : Int)])) 67 (0, 0))) := by
        have a := heap_set_same HG4.out t3 (.int .i64 (x : Nat))
        have e := six_set xs (x : Nat) (by rw [HXL.out]; exact HT.out)
        rw [HXL.out] at e
        rw [e] at a
        exact a
       clear hx d6 u6 U5 HR HO HLO HG HR4 HO4 HL4 HG4
       go_wp2_with fail
       go_roundw
       case rel => exact ⟨t3 + 1, xs ++ [((x : Nat) : Int)], rs 4 zz, (bb || lk 4 zz), by go_num, HT.out, HR5, HO5, HL5, HG5, hid (by rw [List.length_append, HXL.out]; rfl), HPN⟩
       case measure => have := HT.out; simp [intOf]; omega
      ·have HT3 : Hid (t3 = 6) := by show _ = _; omega
       have hn3 : ¬ (t3 : Int) < 6 := by omega
       clear hd ht
       obtain ⟨a0, a1, a2, a3, a4, a5, hxs⟩ := six_all xs (HXL.out.trans HT3.out)
       subst hxs
       have HPF : Hid (∀ r, OkF r → encR r = z → bb = false ∧ zz = ([] : List Nat) ∧ kn r = 8 ∧ ys = r.sids ∧ (⟨a0, a1, a2, a3, a4, a5⟩ : Tb) = r.t ∧ ls = r.locs) := fun r F e => by
        obtain ⟨h1, h2, h3, g0, gy, gl⟩ := HP.out r F e
        have h6 : r.t.l.length = 6 := rfl
        have h7 := HT3.out
        rw [List.drop_of_length_le (by omega)] at h2
        rw [List.take_of_length_le (by omega)] at gy
        refine ⟨h1, h2, h3, g0, ?_, gl⟩
        simp only [Tb.l, List.cons.injEq] at gy
        obtain ⟨b1, b2, b3, b4, b5, b6, _⟩ := gy
        rw [b1, b2, b3, b4, b5, b6]
       have z0 : wr.cell? ⟨g, 0, none⟩ = some (.int .i64 a0) := (six_cell HG.out 0 (by omega)).1
       have z1 : wr.cell? ⟨g, 1, none⟩ = some (.int .i64 a1) := (six_cell HG.out 1 (by omega)).1
       have z2 : wr.cell? ⟨g, 2, none⟩ = some (.int .i64 a2) := (six_cell HG.out 2 (by omega)).1
       have z3 : wr.cell? ⟨g, 3, none⟩ = some (.int .i64 a3) := (six_cell HG.out 3 (by omega)).1
       have z4 : wr.cell? ⟨g, 4, none⟩ = some (.int .i64 a4) := (six_cell HG.out 4 (by omega)).1
       have z5 : wr.cell? ⟨g, 5, none⟩ = some (.int .i64 a5) := (six_cell HG.out 5 (by omega)).1
       have hcs := HR.out.rb.cells
       dsimp only [tb0] at hcs
       obtain ⟨m0, m1, m2, m3, m4, m5, m6, m7, m8, m9, m10, m11, m12⟩ := hcs
       obtain ⟨f0, f1, f2, f3, f4, f5, f6, f7, f8, f9, f10, f11, f12⟩ := HR.out.rb.frozs
       have HR9 := hid ((((((HR.out.set (r' := (⟨8, ⟨#[]⟩, 0, 0, ys, 0, ls, (⟨a0, 0, 0, 0, 0, 0⟩ : Tb)⟩ : Rc)) 7 (.int .i64 a0) rfl).set (r' := (⟨8, ⟨#[]⟩, 0, 0, ys, 0, ls, (⟨a0, a1, 0, 0, 0, 0⟩ : Tb)⟩ : Rc)) 8 (.int .i64 a1) rfl).set (r' := (⟨8, ⟨#[]⟩, 0, 0, ys, 0, ls, (⟨a0, a1, a2, 0, 0, 0⟩ : Tb)⟩ : Rc)) 9 (.int .i64 a2) rfl).set (r' := (⟨8, ⟨#[]⟩, 0, 0, ys, 0, ls, (⟨a0, a1, a2, a3, 0, 0⟩ : Tb)⟩ : Rc)) 10 (.int .i64 a3) rfl).set (r' := (⟨8, ⟨#[]⟩, 0, 0, ys, 0, ls, (⟨a0, a1, a2, a3, a4, 0⟩ : Tb)⟩ : Rc)) 11 (.int .i64 a4) rfl).set (r' := (⟨8, ⟨#[]⟩, 0, 0, ys, 0, ls, (⟨a0, a1, a2, a3, a4, a5⟩ : Tb)⟩ : Rc)) 12 (.int .i64 a5) rfl)
       have u9 : Up (One p) wr ((((((wr.setCell ⟨p, 7, none⟩ (.int .i64 a0)).setCell ⟨p, 8, none⟩ (.int .i64 a1)).setCell ⟨p, 9, none⟩ (.int .i64 a2)).setCell ⟨p, 10, none⟩ (.int .i64 a3)).setCell ⟨p, 11, none⟩ (.int .i64 a4)).setCell ⟨p, 12, none⟩ (.int .i64 a5)) := (((((((Up.refl (One p) wr).put rfl 7 (.int .i64 a0)).put rfl 8 (.int .i64 a1)).put rfl 9 (.int .i64 a2)).put rfl 10 (.int .i64 a3)).put rfl 11 (.int .i64 a4)).put rfl 12 (.int .i64 a5))
       have HO9 := hid (HO.out.up u9 fun g hg _ e => by have e : g = p := e; have := HBB.out; omega)
       have HL9 := hid (HLO.out.up u9 fun g hg _ e => by have e : g = p := e; have := HBB.out; omega)
       clear u9 HP
       go_upto_region 33 with fail
       obtain ⟨W9, hW9⟩ : ∃ W, W = ((((((wr.setCell ⟨p, 7, none⟩ (.int .i64 a0)).setCell ⟨p, 8, none⟩ (.int .i64 a1)).setCell ⟨p, 9, none⟩ (.int .i64 a2)).setCell ⟨p, 10, none⟩ (.int .i64 a3)).setCell ⟨p, 11, none⟩ (.int .i64 a4)).setCell ⟨p, 12, none⟩ (.int .i64 a5)) := ⟨_, rfl⟩
       rw [← hW9] at HR9 HO9 HL9 ⊢
       clear hW9 m0 m1 m2 m3 m4 m5 m6 m7 m8 m9 m10 m11 m12 f0 f1 f2 f3 f4 f5 f6 f7 f8 f9 f10 f11 f12 z0 z1 z2 z3 z4 z5 HR HO HLO HG
       have HR := HR9
       have HO := HO9
       have HLO := HL9
       clear HR9 HO9 HL9
       obtain ⟨n0, n1, n2, n3, n4⟩ := HR.out.names
       obtain ⟨sa, sc, rfl, hsr⟩ := HO.out.row
       obtain ⟨la, lc, rfl, hlr⟩ := HLO.out.row
       have HRH : Hid (RH W9 (⟨8, ⟨#[]⟩, 0, 0, ys, 0, ls, (⟨a0, a1, a2, a3, a4, a5⟩ : Tb)⟩ : Rc) sa la) := ⟨hsr, hlr, HYL.out, HLL.out⟩
       have HKS : Hid (((⟨8, ⟨#[]⟩, 0, 0, ys, 0, ls, (⟨a0, a1, a2, a3, a4, a5⟩ : Tb)⟩ : Rc)).key.size ≤ 100000) := by show 0 ≤ 100000; omega
       have HFR : Hid ((∀ g o, ys ≠ [] → sa = some ⟨g, o, none⟩ → g ≠ pr) ∧ (∀ g o, la = some ⟨g, o, none⟩ → g ≠ pr)) := ⟨fun g o _ e => by have := HO.out.bs g (by rw [e]; rfl); have := HBB.out; omega, fun g o e => by have := HLO.out.bs g (by rw [e]; rfl); have := HBB.out; omega⟩
       have HEQ : Hid (∀ r, OkF r → encR r = z → bb = false ∧ r = (⟨8, ⟨#[]⟩, 0, 0, ys, 0, ls, (⟨a0, a1, a2, a3, a4, a5⟩ : Tb)⟩ : Rc)) := fun r F e => by
        obtain ⟨h1, h2, h3, g0, g1, gl⟩ := HPF.out r F e
        refine ⟨h1, ?_⟩
        rw [eqr8 F h3, Rc.mk.injEq]
        exact ⟨rfl, rfl, rfl, rfl, g0.symm, rfl, gl.symm, g1.symm⟩
       have hcs := HR.out.rb.cells
       dsimp only [tb0] at hcs
       obtain ⟨m0, m1, m2, m3, m4, m5, m6, m7, m8, m9, m10, m11, m12⟩ := hcs
       have d1 := HR.out.rd.bad
       clear hsr hlr HPF HO HLO HYL HLL
       cases bb with
       | true =>
        have HDE : Hid (D = rc0 ∧ ib = false) := by
         rw [HDD.out.1, HDD.out.2]
         exact decR_no fun r F e => by cases (HEQ.out r F e).1
        have HRES := hid HR.out.res
        have HUX := hid HR.out.up
        obtain ⟨b0, b1, b2, b3, b4, b5, b6, b7, b8, b9, b10, b11, b12⟩ := HRES.out.cells
        obtain ⟨f0, f1, f2, f3, f4, f5, f6, f7, f8, f9, f10, f11, f12⟩ := HRES.out.frozs
        go_wp2_with fail
        have hld := run_loadVar_row (P := Tryd.prog) _ pr _ 27 _ _ _ (heap13s HRES.out (.int .i64 0) (.string ⟨#[]⟩) (.int .i64 0) (.int .i64 0) (.slice none 0 0) (.int .i64 0) (.slice none 0 0) (.int .i64 0) (.int .i64 0) (.int .i64 0) (.int .i64 0) (.int .i64 0) (.int .i64 0)) Tryd.underlying27 rfl info_rec13
        refine bodyPost_ret (v := .tuple #[.agg #[.int .i64 0, .string ⟨#[]⟩, .int .i64 0, .int .i64 0, .slice none 0 0, .int .i64 0, .slice none 0 0, .int .i64 0, .int .i64 0, .int .i64 0, .int .i64 0, .int .i64 0, .int .i64 0], .bool false]) (by rw [results_cell_tmp rfl]; simp [asAddr, hld, Result.andThen]) rfl ?_
        rw [HDE.out.1, HDE.out.2]
        exact ⟨none, 0, none, 0, rfl, ⟨RowI.nil _ _, RowL.nil _ _, by show 0 ≤ 100000; omega, by show 0 ≤ 100000; omega⟩, Up.newest HUX.out (up13 _ pr _ _ _ _ _ _ _ _ _ _ _ _ _) (fun i hi e => by have e : i = pr := e; have := HPR.out; omega)⟩
       | false =>
        go_wp2_with fail
        refine (rok_any (⟨8, ⟨#[]⟩, 0, 0, ys, 0, ls, (⟨a0, a1, a2, a3, a4, a5⟩ : Tb)⟩ : Rc) sa la sc lc _ HRH.out HKS.out).mono ?_
        rintro e w10 ⟨rfl, u10⟩
        have HR10 := hid (HR.out.nxt u10)
        have HRH10 := hid (HRH.out.nxt u10)
        clear u10 HR HRH d1 n0 n1 n2 n3 n4 m0 m1 m2 m3 m4 m5 m6 m7 m8 m9 m10 m11 m12
        cases ho : okR (⟨8, ⟨#[]⟩, 0, 0, ys, 0, ls, (⟨a0, a1, a2, a3, a4, a5⟩ : Tb)⟩ : Rc) with
        | false =>
         have HDE : Hid (D = rc0 ∧ ib = false) := by
          rw [HDD.out.1, HDD.out.2]
          exact decR_no fun r F e => by rw [(HEQ.out r F e).2] at F; rw [okR_iff.2 F] at ho; cases ho
         have HRES := hid HR10.out.res
         have HUX := hid HR10.out.up
         clear ho
         obtain ⟨b0, b1, b2, b3, b4, b5, b6, b7, b8, b9, b10, b11, b12⟩ := HRES.out.cells
         obtain ⟨f0, f1, f2, f3, f4, f5, f6, f7, f8, f9, f10, f11, f12⟩ := HRES.out.frozs
         go_wp2_with fail
         have hld := run_loadVar_row (P := Tryd.prog) _ pr _ 27 _ _ _ (heap13s HRES.out (.int .i64 0) (.string ⟨#[]⟩) (.int .i64 0) (.int .i64 0) (.slice none 0 0) (.int .i64 0) (.slice none 0 0) (.int .i64 0) (.int .i64 0) (.int .i64 0) (.int .i64 0) (.int .i64 0) (.int .i64 0)) Tryd.underlying27 rfl info_rec13
         refine bodyPost_ret (v := .tuple #[.agg #[.int .i64 0, .string ⟨#[]⟩, .int .i64 0, .int .i64 0, .slice none 0 0, .int .i64 0, .slice none 0 0, .int .i64 0, .int .i64 0, .int .i64 0, .int .i64 0, .int .i64 0, .int .i64 0], .bool false]) (by rw [results_cell_tmp rfl]; simp [asAddr, hld, Result.andThen]) rfl ?_
         rw [HDE.out.1, HDE.out.2]
         exact ⟨none, 0, none, 0, rfl, ⟨RowI.nil _ _, RowL.nil _ _, by show 0 ≤ 100000; omega, by show 0 ≤ 100000; omega⟩, Up.newest HUX.out (up13 _ pr _ _ _ _ _ _ _ _ _ _ _ _ _) (fun i hi e => by have e : i = pr := e; have := HPR.out; omega)⟩
        | true =>
         have HF := hid (okR_iff.1 ho)
         clear ho
         have hcs := HR10.out.rb.cells
         dsimp only [tb0] at hcs
         obtain ⟨m0, m1, m2, m3, m4, m5, m6, m7, m8, m9, m10, m11, m12⟩ := hcs
         go_wp2_with fail
         refine (rby_any (⟨8, ⟨#[]⟩, 0, 0, ys, 0, ls, (⟨a0, a1, a2, a3, a4, a5⟩ : Tb)⟩ : Rc) sa la sc lc _ HRH10.out HF.out).mono ?_
         rintro e w11 ⟨rfl, u11⟩
         obtain ⟨sq, hsq⟩ : ∃ s, s = strOf (encR (⟨8, ⟨#[]⟩, 0, 0, ys, 0, ls, (⟨a0, a1, a2, a3, a4, a5⟩ : Tb)⟩ : Rc)) := ⟨_, rfl⟩
         rw [← hsq]
         have HSQ := hid hsq
         have HR11 := hid (HR10.out.nxt u11)
         have HRH11 := hid (HRH10.out.nxt u11)
         clear u11 hsq HR10 HRH10 m0 m1 m2 m3 m4 m5 m6 m7 m8 m9 m10 m11 m12
         have hcs := HR11.out.rb.cells
         dsimp only [tb0] at hcs
         obtain ⟨m0, m1, m2, m3, m4, m5, m6, m7, m8, m9, m10, m11, m12⟩ := hcs
         have HRES := hid HR11.out.res
         have HUX := hid HR11.out.up
         by_cases hb : sq = s0
         ·have HDE : Hid (D = (⟨8, ⟨#[]⟩, 0, 0, ys, 0, ls, (⟨a0, a1, a2, a3, a4, a5⟩ : Tb)⟩ : Rc) ∧ ib = true) := by
           rw [HDD.out.1, HDD.out.2]
           exact decR_yes HF.out (strOf_enc HF.out HZ0.out (by rw [← HSQ.out, hb, HS0.out]))
          obtain ⟨b0, b1, b2, b3, b4, b5, b6, b7, b8, b9, b10, b11, b12⟩ := HRES.out.cells
          obtain ⟨f0, f1, f2, f3, f4, f5, f6, f7, f8, f9, f10, f11, f12⟩ := HRES.out.frozs
          go_wp2_with fail
          have hld := run_loadVar_row (P := Tryd.prog) _ pr _ 27 _ _ _ (heap13s HRES.out (.int .i64 ((⟨8, ⟨#[]⟩, 0, 0, ys, 0, ls, (⟨a0, a1, a2, a3, a4, a5⟩ : Tb)⟩ : Rc)).kind) (.string ((⟨8, ⟨#[]⟩, 0, 0, ys, 0, ls, (⟨a0, a1, a2, a3, a4, a5⟩ : Tb)⟩ : Rc)).key) (.int .i64 ((⟨8, ⟨#[]⟩, 0, 0, ys, 0, ls, (⟨a0, a1, a2, a3, a4, a5⟩ : Tb)⟩ : Rc)).n) (.int .i64 ((⟨8, ⟨#[]⟩, 0, 0, ys, 0, ls, (⟨a0, a1, a2, a3, a4, a5⟩ : Tb)⟩ : Rc)).sid) (.slice sa ys.length sc) (.int .i64 ((⟨8, ⟨#[]⟩, 0, 0, ys, 0, ls, (⟨a0, a1, a2, a3, a4, a5⟩ : Tb)⟩ : Rc)).colour) (.slice la ls.length lc) (.int .i64 ((⟨8, ⟨#[]⟩, 0, 0, ys, 0, ls, (⟨a0, a1, a2, a3, a4, a5⟩ : Tb)⟩ : Rc)).t.hot) (.int .i64 ((⟨8, ⟨#[]⟩, 0, 0, ys, 0, ls, (⟨a0, a1, a2, a3, a4, a5⟩ : Tb)⟩ : Rc)).t.warm) (.int .i64 ((⟨8, ⟨#[]⟩, 0, 0, ys, 0, ls, (⟨a0, a1, a2, a3, a4, a5⟩ : Tb)⟩ : Rc)).t.gap) (.int .i64 ((⟨8, ⟨#[]⟩, 0, 0, ys, 0, ls, (⟨a0, a1, a2, a3, a4, a5⟩ : Tb)⟩ : Rc)).t.add) (.int .i64 ((⟨8, ⟨#[]⟩, 0, 0, ys, 0, ls, (⟨a0, a1, a2, a3, a4, a5⟩ : Tb)⟩ : Rc)).t.top) (.int .i64 ((⟨8, ⟨#[]⟩, 0, 0, ys, 0, ls, (⟨a0, a1, a2, a3, a4, a5⟩ : Tb)⟩ : Rc)).t.half)) Tryd.underlying27 rfl info_rec13
          refine bodyPost_ret (v := .tuple #[rv (⟨8, ⟨#[]⟩, 0, 0, ys, 0, ls, (⟨a0, a1, a2, a3, a4, a5⟩ : Tb)⟩ : Rc) (.slice sa ys.length sc) (.slice la ls.length lc), .bool true]) (by rw [results_cell_tmp rfl]; simp [tb0] at hld ⊢; simp [asAddr, hld, Result.andThen]) rfl ?_
          rw [HDE.out.1, HDE.out.2]
          exact ⟨sa, sc, la, lc, rfl, HRH11.out.keep13 (up13 _ pr _ _ _ _ _ _ _ _ _ _ _ _ _) HFR.out, Up.newest HUX.out (up13 _ pr _ _ _ _ _ _ _ _ _ _ _ _ _) (fun i hi e => by have e : i = pr := e; have := HPR.out; omega)⟩
         ·have HDE : Hid (D = rc0 ∧ ib = false) := by
           rw [HDD.out.1, HDD.out.2]
           exact decR_no fun r F e => hb (by rw [HSQ.out, HS0.out, ← (HEQ.out r F e).2, e])
          have hb3 : (sq.toList == s0.toList) = false := beq_eq_false_iff_ne.2 fun e => hb (bytes_inj e)
          obtain ⟨b0, b1, b2, b3, b4, b5, b6, b7, b8, b9, b10, b11, b12⟩ := HRES.out.cells
          obtain ⟨f0, f1, f2, f3, f4, f5, f6, f7, f8, f9, f10, f11, f12⟩ := HRES.out.frozs
          go_wp2_with fail
          have hld := run_loadVar_row (P := Tryd.prog) _ pr _ 27 _ _ _ (heap13s HRES.out (.int .i64 0) (.string ⟨#[]⟩) (.int .i64 0) (.int .i64 0) (.slice none 0 0) (.int .i64 0) (.slice none 0 0) (.int .i64 0) (.int .i64 0) (.int .i64 0) (.int .i64 0) (.int .i64 0) (.int .i64 0)) Tryd.underlying27 rfl info_rec13
          refine bodyPost_ret (v := .tuple #[.agg #[.int .i64 0, .string ⟨#[]⟩, .int .i64 0, .int .i64 0, .slice none 0 0, .int .i64 0, .slice none 0 0, .int .i64 0, .int .i64 0, .int .i64 0, .int .i64 0, .int .i64 0, .int .i64 0], .bool false]) (by rw [results_cell_tmp rfl]; simp [asAddr, hld, Result.andThen]) rfl ?_
          rw [HDE.out.1, HDE.out.2]
          exact ⟨none, 0, none, 0, rfl, ⟨RowI.nil _ _, RowL.nil _ _, by show 0 ≤ 100000; omega, by show 0 ≤ 100000; omega⟩, Up.newest HUX.out (up13 _ pr _ _ _ _ _ _ _ _ _ _ _ _ _) (fun i hi e => by have e : i = pr := e; have := HPR.out; omega)⟩
end Go.Proofs.YtpdkcpjofofkoaaDoor
