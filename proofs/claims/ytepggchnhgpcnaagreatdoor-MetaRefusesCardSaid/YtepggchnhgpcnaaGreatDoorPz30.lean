/- The document's 'merge'. -/
import Derived.Test.YtepggchnhgpcnaaGreatDoorPkTidy
import Derived.Test.YtepggchnhgpcnaaGreatDoorPz29
namespace Go.Proofs.YtepggchnhgpcnaaGreatDoor
open Go.RowKit Go.Maps Go.Sort
set_option linter.unusedVariables false

structure MgR (w2 wr : World) (pw : Nat) (M : MM) (zs : List Int) (t : Nat) : Prop where
 up : Up (One pw) w2 wr
 row : ∃ v, wr.heap[pw]? = some (.cells #[.int .i64 3, .int .i64 0, .string (mkk M zs t 0), .string (mkk M zs t 1), .string (mkk M zs t 2), v] 46 (0, 0)) ∧ OwnLo w2.heap.size wr v (M.mlocs (zs.take t))
 good : MgC M zs t
def layB (M : MM) (zs : List Int) (sid : Int) : Nat → ByteArray → Option Bl
 | 0 => M.b
 | t + 1 => lay1 (layB M zs sid t) (mkk M zs 3 t) sid (t : Int)
theorem layB_some {M : MM} {zs : List Int} {sid : Int} {k : ByteArray} (h : (M.b k).isSome = true) : ∀ t, (layB M zs sid t k).isSome = true
 | 0 => h
 | t + 1 => lay1_some (layB_some h t)
def wideS (M : MM) (zs : List Int) (r : Rc) : St := ⟨3, 0, mkk M zs 3 0, mkk M zs 3 1, mkk M zs 3 2, M.mlocs zs ++ r.locs⟩
def foldS (M : MM) (l : List Int) : Int → Option St := l.foldl (fun f i => upd f i none) M.s
def layM (M : MM) (zs : List Int) (r : Rc) (t : Nat) : MM := { M with b := layB M zs r.sid t, s := upd (foldS M zs) r.sid (some (wideS M zs r)), last := r.sid }
section
variable {F S : Nat → Prop} {w w' : World} {q n : Nat} {Q : Int → Value} {M : MM} {ks : List ByteArray} {is : List Int} {kv bv iv sv : Value}
def RMs (F : Nat → Prop) (w w' : World) (q n : Nat) (M : MM) (zs : List Int) (r : Rc) (t : Nat) : Prop := RMx (Gr F w w') w' q (n + 1 + t) (layM M zs r t)
set_option maxRecDepth 10000 in
set_option maxHeartbeats 8000000 in
theorem rmerge_any (h : RMx F w q n M) (hF : ∀ k, F k → k < w.heap.size) (hn : n ≤ 80000) (hI : M.Inv3) (r : Rc) (sa la : Option Addr) (sc lc : Nat) (a b c : Int) (hz : r.sids = [a, b, c]) (hrs : RowI w sa r.sids) (hsq : ∀ g o, sa = some ⟨g, o, none⟩ → g ≠ q) (hsc : 3 ≤ sc ∧ (sc : Int) ≤ 9223372036854775807)
  (hll : r.locs.length = 4) (hlast : M.last < r.sid) (hs0 : 0 ≤ r.sid ∧ r.sid ≤ 2147483647) (hv : OwnLo 0 w (.slice la r.locs.length lc) r.locs) (hvF : ∀ g, (Value.slice la r.locs.length lc).ownBlock = some g → F g) :
  Calls Tryz.prog 30 #[.pointer (some ⟨q, 0, none⟩), rv r (.slice sa r.sids.length sc) (.slice la r.locs.length lc)] w fun e w' => ∃ x, e = .returned (.int .i64 x) ∧ RMx (Gr F w w') w' q (n + 5) (if (M.merge r).1 = 0 then { (M.merge r).2 with last := r.sid } else M) ∧ Up F w w' := by
 obtain ⟨Q, ks, is, kv, bv, iv, sv, h⟩ := h
 obtain ⟨W1, hW1⟩ : ∃ W, W = w.alloc (.cells (rcellsL r (.slice sa r.sids.length sc) (.slice la r.locs.length lc)) 28) := ⟨_, rfl⟩
 have u1 : Up Nul w W1 := by rw [hW1]; exact (Up.refl Nul w).alloc _
 have b1 : RB W1 w.heap.size r (.slice sa r.sids.length sc) (.slice la r.locs.length lc) := by rw [hW1]; exact RB.new _ _ _ _
 have hsz : W1.heap.size = w.heap.size + 1 := by rw [hW1]; exact World.size_alloc _ _
 obtain ⟨W2, hW2⟩ : ∃ W, W = W1.alloc (.cells #[.int .i64 3, .int .i64 0, .string ⟨#[]⟩, .string ⟨#[]⟩, .string ⟨#[]⟩, .slice none 0 0] 46) := ⟨_, rfl⟩
 have u2 : Up Nul W1 W2 := by rw [hW2]; exact (Up.refl Nul W1).alloc _
 have bw : W2.heap[w.heap.size + 1]? = some (.cells #[.int .i64 3, .int .i64 0, .string ⟨#[]⟩, .string ⟨#[]⟩, .string ⟨#[]⟩, .slice none 0 0] 46 (0, 0)) := by rw [← hsz, hW2]; exact heap_alloc_new _ _
 have hsz2 : W2.heap.size = W1.heap.size + 1 := by rw [hW2]; exact World.size_alloc _ _
 have HB2 := hid (b1.nxt u2)
 have HU2 : Hid (Up Nul w W2) := u1.trans u2
 have HM0 := hid h
 have HF := hid hF
 have HRS := hid hrs
 have HSQ := hid hsq
 have HZZ := hid hz
 have HVL := hid hv
 have HVF := hid hvF
 have HLA := hid hlast
 have HS0 := hid hs0
 have HLL := hid hll
 have HSC := hid hsc
 have HII := hid hI
 obtain ⟨zs, ZS⟩ : ∃ x, Hid (r.sids = x) := ⟨_, rfl⟩
 have HZL : Hid (zs.length = 3) := by show zs.length = 3; rw [← ZS.out, HZZ.out]; rfl
 obtain ⟨R, HR⟩ : ∃ R, Hid ((if (M.merge r).1 = 0 then { (M.merge r).2 with last := r.sid } else M) = R) := ⟨_, rfl⟩
 rw [HR.out]
 rw [ZS.out] at hW1 HB2 HRS HZZ ⊢
 rw [HZL.out] at hW1 HB2 ⊢
 obtain ⟨nl, NL⟩ : ∃ x, Hid (r.locs.length = x) := ⟨_, rfl⟩
 rw [NL.out] at hW1 HB2 HVL HVF ⊢
 obtain ⟨pw, PW⟩ : ∃ x, x = w.heap.size + 1 := ⟨_, rfl⟩
 rw [← PW] at bw
 have HPW : Hid (pw = w.heap.size + 1 ∧ W2.heap.size = pw + 1) := ⟨PW, by omega⟩
 have HG0 : Hid (MgR W2 W2 pw M zs 0) := ⟨Up.refl _ _, ⟨_, bw, OwnLo.nil _ _⟩, ⟨fun u hu => absurd hu (by omega)⟩⟩
 have HPQ : Hid (w.heap.size ≠ pw ∧ pw ≠ w.heap.size) := ⟨by omega, by omega⟩
 clear h hF hrs hsq hz hv hvF hlast hs0 hll hsc hI u1 u2 b1 bw hsz hsz2
 go_enter Tryz.func30, Tryz.ntmps30
 go_upto_block 0 with fail
 rw [← hW1, ← hW2]
 clear hW1 hW2
 rw [← PW]
 clear PW
 go_wp2_with fail
 go_loopw [6] (fun i wr => ∃ t : Nat, t ≤ 3 ∧ i = .int .i64 (t : Nat) ∧ MgR W2 wr pw M zs t) (fun i _ => 3 - (intOf i).toNat)
 case atStart => exact ⟨0, by omega, rfl, HG0.out⟩
 case round =>
  obtain ⟨t, ht, rfl, hg⟩ := hrel
  have HG := hid hg
  have HUW : Hid (Up Nul w wr) := HU2.out.thn hg.up (fun j e => .inr (by have e : j = pw := e; have := HPW.out; omega))
  have HBZ := hid (HB2.out.up hg.up HPQ.out.1)
  by_cases hlt : t < 3
  ·have htl : t < zs.length := by rw [HZL.out]; exact hlt
   obtain ⟨gz, oz, rfl, hgz, hcz⟩ := (HRS.out.nxt HUW.out).resolve_left (fun e => by rw [e] at htl; cases htl)
   have x1 := hcz t _ (List.getElem?_eq_getElem htl)
   have HZK : Hid (zs[t]? = some zs[t]) := List.getElem?_eq_getElem htl
   have HNX := hid (mlocs_next (M := M) htl)
   have HKK : Hid (zs.getD t 0 = zs[t]) := by show _ = _; rw [List.getD_eq_getElem?_getD, List.getElem?_eq_getElem htl]; rfl
   generalize zs[t] = z at x1 HZK HNX HKK
   have HM := hid (HM0.out.nxt HUW.out)
   have HT := hid hlt
   have i0 : (0 : Int) ≤ (t : Int) := by omega
   have i2 : (t : Int) < 3 := by omega
   have i3 : (3 : Int) ≤ (sc : Int) := by have := HSC.out.1; omega
   have i4 : (t : Int) ≤ (sc : Int) := by omega
   obtain ⟨_, _, _, _, x4, _⟩ := HBZ.out.cells
   have HBAD : Hid ((M.s z = none ∨ z ∈ zs.take t ∨ ∃ s, M.s z = some s ∧ ¬ (s.kind = 2 ∧ s.colour = (t : Int))) → R = M) := fun hb => by
    rw [← HR.out]
    have e := HZZ.out
    have e2 := HZK.out
    rw [e] at hb e2
    exact if_neg (merge_bad (ZS.out.trans e) t HT.out z e2 hb)
   have HRT : Hid (RowI wr (some ⟨gz, oz, none⟩) (zs.take t)) := by
    refine .inr ⟨gz, oz, rfl, hgz, fun i x hx => hcz i x ?_⟩
    rw [List.getElem?_take] at hx
    split at hx
    ·exact hx
    ·cases hx
   have HTL : Hid ((zs.take t).length = t) := by show _ = _; rw [List.length_take]; omega
   clear hg ht hlt htl hcz hgz
   cases hsz : M.s z with
   | none =>
    have HST := hid (rstripe_no HM.out (by omega) z hsz)
    have HE : Hid (R = M) := HBAD.out (.inl hsz)
    clear hsz
    go_wp2_with fail
    refine HST.out.mono ?_
    rintro e w3 ⟨rfl, u3⟩
    have HU3 := hid u3
    clear u3
    go_wp2_with fail
    go_quiet (fail)
    go_wp2_with fail
    go_ret
    rw [HE.out]
    exact ⟨_, rfl, (RMx.wide ⟨_, _, _, _, _, _, _, HM.out.nxt ((HU3.out.alloc _).drewN _)⟩ fun k hk => .inl hk).mono (by omega), (HUW.out.trans ((HU3.out.alloc _).drewN _)).nul⟩
   | some s =>
    obtain ⟨qa, qc, hqv⟩ := (HM.out.rr.lo z s hsz).1.shape
    have HQV := hid hqv
    have hst := rstripe_yes HM.out (by omega) z s hsz
    rw [hqv] at hst
    obtain ⟨sl, SL⟩ : ∃ x, Hid (s.locs.length = x) := ⟨_, rfl⟩
    rw [SL.out] at hst HQV
    have HST := hid hst
    have HSZ := hid hsz
    clear hst hqv hsz
    go_wp2_with fail
    refine HST.out.mono ?_
    rintro e w3 ⟨rfl, u3⟩
    have HU3 := hid u3
    clear u3 HST x4
    go_upto_region 6 with fail
    obtain ⟨W4, hW4⟩ : ∃ W, W = w3.alloc (.cells #[.int .i64 s.kind, .int .i64 s.colour, .string s.k0, .string s.k1, .string s.k2, .slice qa sl qc] 46) := ⟨_, rfl⟩
    have u4 : Up Nul w3 W4 := by rw [hW4]; exact (Up.refl Nul w3).alloc _
    have b4 : W4.heap[w3.heap.size]? = some (.cells #[.int .i64 s.kind, .int .i64 s.colour, .string s.k0, .string s.k1, .string s.k2, .slice qa sl qc] 46 (0, 0)) := by rw [hW4]; exact heap_alloc_new _ _
    rw [← hW4]
    clear hW4
    have HU4 : Hid (Up Nul wr W4) := HU3.out.trans u4
    have HPS : Hid (pw < w3.heap.size) := by
     have h1 := HG.out.up.size; have h2 := HU3.out.size; have := HPW.out
     show pw < _
     omega
    generalize w3.heap.size = ps at *
    have HB4 := hid b4
    have HBZ4 := hid (HBZ.out.nxt HU4.out)
    obtain ⟨_, _, _, _, x4, _⟩ := HBZ4.out.cells
    have x1 := (HU4.out.cell (p := ⟨gz, oz + t, none⟩) (by have := lt_of_cell x1; exact this) id).trans x1
    have hin : ∀ V, Up Nul W4 V → Calls Tryz.prog 73 #[.slice (some ⟨gz, oz, none⟩) t sc, .int .i64 z] V fun e w' => e = .returned (.bool (decide (z ∈ zs.take t))) ∧ w' = V := fun V u => by
     have := rin_any (some ⟨gz, oz, none⟩) sc (zs.take t) z V (by have := HTL.out; have := HT.out; omega) (HRT.out.nxt (HU4.out.trans u))
     rw [HTL.out] at this
     exact this
    have HW4 : Hid (Up Nul W4 W4) := Up.refl _ _
    clear u4 b4 HU3
    by_cases hmem : z ∈ zs.take t
    ·have HE : Hid (R = M) := HBAD.out (.inr (.inl hmem))
     have hd : decide (z ∈ zs.take t) = true := decide_eq_true hmem
     rw [hd] at hin
     have HIN := hid hin
     clear hmem hd hin
     go_quiet ((go_at_call 73; refine Calls.quiet_of_same (HIN.out _ (HW4.out.drewN _))))
     go_wp2_with fail
     go_ret
     rw [HE.out]
     exact ⟨_, rfl, (RMx.wide ⟨_, _, _, _, _, _, _, HM.out.nxt (HU4.out.drewN _)⟩ fun k hk => .inl hk).mono (by omega), (HUW.out.trans (HU4.out.drewN _)).nul⟩
    ·have HIN0 := hid hmem
     have hd : decide (z ∈ zs.take t) = false := decide_eq_false hmem
     rw [hd] at hin
     have HIN := hid hin
     clear hmem hd hin
     go_quiet ((go_at_call 73; refine Calls.quiet_of_same (HIN.out _ (HW4.out.drewN _))))
     have u9 : Up Nul W4 (W4.drewN nq) := HW4.out.drewN nq
     obtain ⟨W9, hW9⟩ : ∃ W, W = W4.drewN nq := ⟨_, rfl⟩
     rw [← hW9] at u9 ⊢
     clear hW9 x4 x1
     have HU9 : Hid (Up Nul wr W9) := HU4.out.trans u9
     have b9 := u9.keep HB4.out id
     obtain ⟨s0, s1, s2, s3, s4, s5⟩ := cell6 b9
     clear u9 b9 HW4 HIN
     by_cases hgd : s.kind = 2 ∧ s.colour = (t : Int)
     ·have HGD := hid hgd
      have hsk : ((M.s (zs.getD t 0)).map (·.k0)).getD noK = s.k0 := by rw [HKK.out, HSZ.out]; rfl
      have HL6 : Hid (s.locs.length = 6) := by
       have := (HII.out.s z s HSZ.out).2.1.locs
       rw [hgd.1] at this
       exact this
      rw [HSZ.out] at HNX
      have HCAP : Hid (4 ≤ qc) := by
       show 4 ≤ qc
       have ho := (HM.out.rr.lo z s HSZ.out).1
       rw [HQV.out] at ho
       rcases ho.2 with ⟨e, e0⟩ | ⟨_, cap, _, e, _, _, e4, _⟩
       ·have := HL6.out; omega
       ·have e3 : qc = cap := by injection e
        have := HL6.out; omega
      have HVL : Hid ((M.mlocs (zs.take t)).length ≤ 1000) := mlocs_le M _ (by rw [List.length_take]; have := HT.out; omega)
      have k1 : (s.kind != 2) = false := by simp [hgd.1]
      have k2 : (s.colour != (t : Int)) = false := by simp [hgd.2]
      clear hgd
      obtain rfl | rfl | rfl : t = 0 ∨ t = 1 ∨ t = 2 := by have := HT.out; omega
      ·have mk0 : mkk M zs 1 0 = s.k0 := hsk
       have mk1 : mkk M zs 1 1 = mkk M zs 0 1 := rfl
       have mk2 : mkk M zs 1 2 = mkk M zs 0 2 := rfl
       obtain ⟨v, hv, hov⟩ := HG.out.row
       obtain ⟨va, vc, hvs⟩ := hov.shape
       obtain ⟨vl, VL⟩ : ∃ x, Hid ((M.mlocs (zs.take 0)).length = x) := ⟨_, rfl⟩
       rw [VL.out] at hvs
       subst hvs
       have hpw : pw < wr.heap.size := lt_of_heap hv
       have bw9 := HU9.out.keep hv id
       obtain ⟨w5, hw5⟩ : ∃ W, W = W9.setCell ⟨pw, 2, none⟩ (.string s.k0) := ⟨_, rfl⟩
       have b5 : w5.heap[pw]? = some (.cells #[.int .i64 3, .int .i64 0, .string (mkk M zs 1 0), .string (mkk M zs 1 1), .string (mkk M zs 1 2), .slice va vl vc] 46 (0, 0)) := by
        rw [hw5, mk0, mk1, mk2]
        exact heap_set_same bw9 2 _
       have u5 : Up (One pw) W9 w5 := by rw [hw5]; exact (Up.refl (One pw) W9).put rfl 2 _
       have UW5 : Hid (Up Nul w w5) := (HUW.out.trans HU9.out).thn u5 (fun j e => .inr (by have e : j = pw := e; have := HPW.out; omega))
       have HM5 := hid (HM0.out.nxt UW5.out)
       obtain ⟨ho5, _⟩ := HM5.out.rr.lo z s HSZ.out
       rw [HQV.out] at ho5
       obtain ⟨ra, rc, hrv, hrow⟩ := ho5.row
       have hra : ra = qa := by injection hrv with e1; exact e1.symm
       subst hra
       have hrow5 : RowL w5.drew ra (s.locs.take 4) := by
        rcases hrow with e | ⟨gg, oo, e, hgg, hcc⟩
        ·rw [e] at HL6; exact absurd HL6.out (by simp)
        ·exact .inr ⟨gg, oo, e, hgg, fun i l hi j v hj => hcc i l (by
          rw [List.getElem?_take] at hi
          split at hi
          ·exact hi
          ·cases hi) j v hj⟩
       have hov5 : OwnLo W2.heap.size w5.drew (.slice va vl vc) (M.mlocs (zs.take 0)) := ((hov.up HU9.out fun _ _ _ => id).up u5.drew fun j hj _ e => by have e : j = pw := e; have := HPW.out; omega)
       have ht4 : (s.locs.take 4).length = 4 := by rw [List.length_take, HL6.out]; rfl
       have hbase : W2.heap.size ≤ w5.drew.heap.size := by
        have h1 := HG.out.up.size
        have h2 := HU9.out.size
        have h3 := u5.size
        show _ ≤ w5.heap.size
        omega
       obtain ⟨v6, w6, hrun, hov6, hg6, _⟩ := hov5.apps ra qc hrow5 (fun e => by rw [e] at ht4; cases ht4) HVL.out (by omega) hbase
       rw [ht4] at hrun
       obtain ⟨va6, vc6, hv6⟩ := hov6.shape
       have b6 : w6.heap[pw]? = some (.cells #[.int .i64 3, .int .i64 0, .string (mkk M zs 1 0), .string (mkk M zs 1 1), .string (mkk M zs 1 2), .slice va vl vc] 46 (0, 0)) := (hg6.block pw (lt_of_heap b5) (fun e => by have := hov5.bs pw e.symm; have := HPW.out; omega)).trans b5
       have c6 : w6.cell? ⟨pw, 5, none⟩ = some (.slice va vl vc) := by simp [World.cell?, b6]
       have f6 : w6.frozen? ⟨pw, 5, none⟩ = false := by simp [World.frozen?, b6]
       have HFIN : Hid (MgR W2 (w6.setCell ⟨pw, 5, none⟩ v6) pw M zs 1) := by
        have u6 : Up (One pw) W2 w6 := ((HG.out.up.trans (HU9.out.nul.trans u5)).drew).grown hg6 fun j e => hov5.bs j e
        refine ⟨u6.put rfl 5 v6, ⟨v6, heap_set_same b6 5 v6, ?_⟩, ⟨fun u hu => ?_⟩⟩
        ·have e1 : M.mlocs (zs.take (0 + 1)) = M.mlocs (zs.take 0) ++ s.locs.take 4 := HNX.out
         rw [e1]
         exact hov6.up ((Up.refl (One pw) w6).put rfl 5 v6) fun j hj _ e => by have e : j = pw := e; have := HPW.out; omega
        ·rcases Nat.lt_or_ge u 0 with h | h
         ·exact HG.out.good.ok u h
         ·have e : u = 0 := by omega
          subst e
          exact ⟨z, s, HZK.out, HSZ.out, HGD.out.1, HGD.out.2, HIN0.out⟩
       have x9 : W9.cell? ⟨pw, 2, none⟩ = some (.string (mkk M zs 0 0)) := by simp [World.cell?, bw9]
       have y9 : W9.frozen? ⟨pw, 2, none⟩ = false := by simp [World.frozen?, bw9]
       have c5 : w5.cell? ⟨pw, 5, none⟩ = some (.slice va vl vc) := by simp [World.cell?, b5]
       have hpqw : ps ≠ pw := by have := HPS.out; omega
       have s55 := (u5.cell (p := ⟨ps, 5, none⟩) (by have := lt_of_cell s5; exact this) hpqw).trans s5
       have HRUN := hid hrun
       have HW5 := hid hw5
       generalize (M.mlocs (zs.take 0) ++ s.locs.take 4).length = vl6 at hv6
       subst hv6
       have j4 : (4 : Int) ≤ (qc : Int) := by have := HCAP.out; omega
       clear hv hov bw9 b5 u5 ho5 hrv hrow hrow5 hov5 hbase hov6 hg6 b6 hrun mk0 mk1 mk2 hpw hw5
       go_wp2_with fail
       rw [← HW5.out]
       clear x9 y9 s0 s1 s2 s5
       go_still_tail 5, (by kernel_rfl)
       change wpList _ _ _ _ _ w5.drew
       go_wp2_with (first | (at_builtin; refine wpList_append_eqv rfl _ _ _ rfl _ _ _ rfl rfl HRUN.out ?_))
       go_roundw
       case rel => exact ⟨1, by omega, by go_num, HFIN.out⟩
       case measure => simp [intOf]
      ·have mk0 : mkk M zs 2 0 = mkk M zs 1 0 := rfl
       have mk1 : mkk M zs 2 1 = s.k0 := hsk
       have mk2 : mkk M zs 2 2 = mkk M zs 1 2 := rfl
       obtain ⟨v, hv, hov⟩ := HG.out.row
       obtain ⟨va, vc, hvs⟩ := hov.shape
       obtain ⟨vl, VL⟩ : ∃ x, Hid ((M.mlocs (zs.take 1)).length = x) := ⟨_, rfl⟩
       rw [VL.out] at hvs
       subst hvs
       have hpw : pw < wr.heap.size := lt_of_heap hv
       have bw9 := HU9.out.keep hv id
       obtain ⟨w5, hw5⟩ : ∃ W, W = W9.setCell ⟨pw, 3, none⟩ (.string s.k0) := ⟨_, rfl⟩
       have b5 : w5.heap[pw]? = some (.cells #[.int .i64 3, .int .i64 0, .string (mkk M zs 2 0), .string (mkk M zs 2 1), .string (mkk M zs 2 2), .slice va vl vc] 46 (0, 0)) := by
        rw [hw5, mk0, mk1, mk2]
        exact heap_set_same bw9 3 _
       have u5 : Up (One pw) W9 w5 := by rw [hw5]; exact (Up.refl (One pw) W9).put rfl 3 _
       have UW5 : Hid (Up Nul w w5) := (HUW.out.trans HU9.out).thn u5 (fun j e => .inr (by have e : j = pw := e; have := HPW.out; omega))
       have HM5 := hid (HM0.out.nxt UW5.out)
       obtain ⟨ho5, _⟩ := HM5.out.rr.lo z s HSZ.out
       rw [HQV.out] at ho5
       obtain ⟨ra, rc, hrv, hrow⟩ := ho5.row
       have hra : ra = qa := by injection hrv with e1; exact e1.symm
       subst hra
       have hrow5 : RowL w5.drew ra (s.locs.take 4) := by
        rcases hrow with e | ⟨gg, oo, e, hgg, hcc⟩
        ·rw [e] at HL6; exact absurd HL6.out (by simp)
        ·exact .inr ⟨gg, oo, e, hgg, fun i l hi j v hj => hcc i l (by
          rw [List.getElem?_take] at hi
          split at hi
          ·exact hi
          ·cases hi) j v hj⟩
       have hov5 : OwnLo W2.heap.size w5.drew (.slice va vl vc) (M.mlocs (zs.take 1)) := ((hov.up HU9.out fun _ _ _ => id).up u5.drew fun j hj _ e => by have e : j = pw := e; have := HPW.out; omega)
       have ht4 : (s.locs.take 4).length = 4 := by rw [List.length_take, HL6.out]; rfl
       have hbase : W2.heap.size ≤ w5.drew.heap.size := by
        have h1 := HG.out.up.size
        have h2 := HU9.out.size
        have h3 := u5.size
        show _ ≤ w5.heap.size
        omega
       obtain ⟨v6, w6, hrun, hov6, hg6, _⟩ := hov5.apps ra qc hrow5 (fun e => by rw [e] at ht4; cases ht4) HVL.out (by omega) hbase
       rw [ht4] at hrun
       obtain ⟨va6, vc6, hv6⟩ := hov6.shape
       have b6 : w6.heap[pw]? = some (.cells #[.int .i64 3, .int .i64 0, .string (mkk M zs 2 0), .string (mkk M zs 2 1), .string (mkk M zs 2 2), .slice va vl vc] 46 (0, 0)) := (hg6.block pw (lt_of_heap b5) (fun e => by have := hov5.bs pw e.symm; have := HPW.out; omega)).trans b5
       have c6 : w6.cell? ⟨pw, 5, none⟩ = some (.slice va vl vc) := by simp [World.cell?, b6]
       have f6 : w6.frozen? ⟨pw, 5, none⟩ = false := by simp [World.frozen?, b6]
       have HFIN : Hid (MgR W2 (w6.setCell ⟨pw, 5, none⟩ v6) pw M zs 2) := by
        have u6 : Up (One pw) W2 w6 := ((HG.out.up.trans (HU9.out.nul.trans u5)).drew).grown hg6 fun j e => hov5.bs j e
        refine ⟨u6.put rfl 5 v6, ⟨v6, heap_set_same b6 5 v6, ?_⟩, ⟨fun u hu => ?_⟩⟩
        ·have e1 : M.mlocs (zs.take (1 + 1)) = M.mlocs (zs.take 1) ++ s.locs.take 4 := HNX.out
         rw [e1]
         exact hov6.up ((Up.refl (One pw) w6).put rfl 5 v6) fun j hj _ e => by have e : j = pw := e; have := HPW.out; omega
        ·rcases Nat.lt_or_ge u 1 with h | h
         ·exact HG.out.good.ok u h
         ·have e : u = 1 := by omega
          subst e
          exact ⟨z, s, HZK.out, HSZ.out, HGD.out.1, HGD.out.2, HIN0.out⟩
       have x9 : W9.cell? ⟨pw, 3, none⟩ = some (.string (mkk M zs 1 1)) := by simp [World.cell?, bw9]
       have y9 : W9.frozen? ⟨pw, 3, none⟩ = false := by simp [World.frozen?, bw9]
       have c5 : w5.cell? ⟨pw, 5, none⟩ = some (.slice va vl vc) := by simp [World.cell?, b5]
       have hpqw : ps ≠ pw := by have := HPS.out; omega
       have s55 := (u5.cell (p := ⟨ps, 5, none⟩) (by have := lt_of_cell s5; exact this) hpqw).trans s5
       have HRUN := hid hrun
       have HW5 := hid hw5
       generalize (M.mlocs (zs.take 1) ++ s.locs.take 4).length = vl6 at hv6
       subst hv6
       have j4 : (4 : Int) ≤ (qc : Int) := by have := HCAP.out; omega
       clear hv hov bw9 b5 u5 ho5 hrv hrow hrow5 hov5 hbase hov6 hg6 b6 hrun mk0 mk1 mk2 hpw hw5
       go_wp2_with fail
       rw [← HW5.out]
       clear x9 y9 s0 s1 s2 s5
       go_still_tail 5, (by kernel_rfl)
       change wpList _ _ _ _ _ w5.drew
       go_wp2_with (first | (at_builtin; refine wpList_append_eqv rfl _ _ _ rfl _ _ _ rfl rfl HRUN.out ?_))
       go_roundw
       case rel => exact ⟨2, by omega, by go_num, HFIN.out⟩
       case measure => simp [intOf]
      ·have mk0 : mkk M zs 3 0 = mkk M zs 2 0 := rfl
       have mk1 : mkk M zs 3 1 = mkk M zs 2 1 := rfl
       have mk2 : mkk M zs 3 2 = s.k0 := hsk
       obtain ⟨v, hv, hov⟩ := HG.out.row
       obtain ⟨va, vc, hvs⟩ := hov.shape
       obtain ⟨vl, VL⟩ : ∃ x, Hid ((M.mlocs (zs.take 2)).length = x) := ⟨_, rfl⟩
       rw [VL.out] at hvs
       subst hvs
       have hpw : pw < wr.heap.size := lt_of_heap hv
       have bw9 := HU9.out.keep hv id
       obtain ⟨w5, hw5⟩ : ∃ W, W = W9.setCell ⟨pw, 4, none⟩ (.string s.k0) := ⟨_, rfl⟩
       have b5 : w5.heap[pw]? = some (.cells #[.int .i64 3, .int .i64 0, .string (mkk M zs 3 0), .string (mkk M zs 3 1), .string (mkk M zs 3 2), .slice va vl vc] 46 (0, 0)) := by
        rw [hw5, mk0, mk1, mk2]
        exact heap_set_same bw9 4 _
       have u5 : Up (One pw) W9 w5 := by rw [hw5]; exact (Up.refl (One pw) W9).put rfl 4 _
       have UW5 : Hid (Up Nul w w5) := (HUW.out.trans HU9.out).thn u5 (fun j e => .inr (by have e : j = pw := e; have := HPW.out; omega))
       have HM5 := hid (HM0.out.nxt UW5.out)
       obtain ⟨ho5, _⟩ := HM5.out.rr.lo z s HSZ.out
       rw [HQV.out] at ho5
       obtain ⟨ra, rc, hrv, hrow⟩ := ho5.row
       have hra : ra = qa := by injection hrv with e1; exact e1.symm
       subst hra
       have hrow5 : RowL w5.drew ra (s.locs.take 4) := by
        rcases hrow with e | ⟨gg, oo, e, hgg, hcc⟩
        ·rw [e] at HL6; exact absurd HL6.out (by simp)
        ·exact .inr ⟨gg, oo, e, hgg, fun i l hi j v hj => hcc i l (by
          rw [List.getElem?_take] at hi
          split at hi
          ·exact hi
          ·cases hi) j v hj⟩
       have hov5 : OwnLo W2.heap.size w5.drew (.slice va vl vc) (M.mlocs (zs.take 2)) := ((hov.up HU9.out fun _ _ _ => id).up u5.drew fun j hj _ e => by have e : j = pw := e; have := HPW.out; omega)
       have ht4 : (s.locs.take 4).length = 4 := by rw [List.length_take, HL6.out]; rfl
       have hbase : W2.heap.size ≤ w5.drew.heap.size := by
        have h1 := HG.out.up.size
        have h2 := HU9.out.size
        have h3 := u5.size
        show _ ≤ w5.heap.size
        omega
       obtain ⟨v6, w6, hrun, hov6, hg6, _⟩ := hov5.apps ra qc hrow5 (fun e => by rw [e] at ht4; cases ht4) HVL.out (by omega) hbase
       rw [ht4] at hrun
       obtain ⟨va6, vc6, hv6⟩ := hov6.shape
       have b6 : w6.heap[pw]? = some (.cells #[.int .i64 3, .int .i64 0, .string (mkk M zs 3 0), .string (mkk M zs 3 1), .string (mkk M zs 3 2), .slice va vl vc] 46 (0, 0)) := (hg6.block pw (lt_of_heap b5) (fun e => by have := hov5.bs pw e.symm; have := HPW.out; omega)).trans b5
       have c6 : w6.cell? ⟨pw, 5, none⟩ = some (.slice va vl vc) := by simp [World.cell?, b6]
       have f6 : w6.frozen? ⟨pw, 5, none⟩ = false := by simp [World.frozen?, b6]
       have HFIN : Hid (MgR W2 (w6.setCell ⟨pw, 5, none⟩ v6) pw M zs 3) := by
        have u6 : Up (One pw) W2 w6 := ((HG.out.up.trans (HU9.out.nul.trans u5)).drew).grown hg6 fun j e => hov5.bs j e
        refine ⟨u6.put rfl 5 v6, ⟨v6, heap_set_same b6 5 v6, ?_⟩, ⟨fun u hu => ?_⟩⟩
        ·have e1 : M.mlocs (zs.take (2 + 1)) = M.mlocs (zs.take 2) ++ s.locs.take 4 := HNX.out
         rw [e1]
         exact hov6.up ((Up.refl (One pw) w6).put rfl 5 v6) fun j hj _ e => by have e : j = pw := e; have := HPW.out; omega
        ·rcases Nat.lt_or_ge u 2 with h | h
         ·exact HG.out.good.ok u h
         ·have e : u = 2 := by omega
          subst e
          exact ⟨z, s, HZK.out, HSZ.out, HGD.out.1, HGD.out.2, HIN0.out⟩
       have x9 : W9.cell? ⟨pw, 4, none⟩ = some (.string (mkk M zs 2 2)) := by simp [World.cell?, bw9]
       have y9 : W9.frozen? ⟨pw, 4, none⟩ = false := by simp [World.frozen?, bw9]
       have c5 : w5.cell? ⟨pw, 5, none⟩ = some (.slice va vl vc) := by simp [World.cell?, b5]
       have hpqw : ps ≠ pw := by have := HPS.out; omega
       have s55 := (u5.cell (p := ⟨ps, 5, none⟩) (by have := lt_of_cell s5; exact this) hpqw).trans s5
       have HRUN := hid hrun
       have HW5 := hid hw5
       generalize (M.mlocs (zs.take 2) ++ s.locs.take 4).length = vl6 at hv6
       subst hv6
       have j4 : (4 : Int) ≤ (qc : Int) := by have := HCAP.out; omega
       clear hv hov bw9 b5 u5 ho5 hrv hrow hrow5 hov5 hbase hov6 hg6 b6 hrun mk0 mk1 mk2 hpw hw5
       go_wp2_with fail
       rw [← HW5.out]
       clear x9 y9 s0 s1 s2 s5
       go_still_tail 5, (by kernel_rfl)
       change wpList _ _ _ _ _ w5.drew
       go_wp2_with (first | (at_builtin; refine wpList_append_eqv rfl _ _ _ rfl _ _ _ rfl rfl HRUN.out ?_))
       go_roundw
       case rel => exact ⟨3, by omega, by go_num, HFIN.out⟩
       case measure => simp [intOf]
     ·have HE : Hid (R = M) := HBAD.out (.inr (.inr ⟨s, HSZ.out, hgd⟩))
      by_cases hk2 : s.kind = 2
      ·have k1 : (s.kind != 2) = false := by simp [hk2]
       have k2 : (s.colour != (t : Int)) = true := by simp; exact fun e => hgd ⟨hk2, e⟩
       clear hgd hk2
       go_wp2_with fail
       go_ret
       rw [HE.out]
       exact ⟨_, rfl, (RMx.wide ⟨_, _, _, _, _, _, _, HM.out.nxt HU9.out⟩ fun k hk => .inl hk).mono (by omega), (HUW.out.trans HU9.out).nul⟩
      ·have k1 : (s.kind != 2) = true := by simp [hk2]
       clear hgd hk2
       go_wp2_with fail
       go_ret
       rw [HE.out]
       exact ⟨_, rfl, (RMx.wide ⟨_, _, _, _, _, _, _, HM.out.nxt HU9.out⟩ fun k hk => .inl hk).mono (by omega), (HUW.out.trans HU9.out).nul⟩
  ·obtain rfl : t = 3 := by omega
   obtain ⟨v, hv, hov⟩ := HG.out.row
   have hz3 : zs.take 3 = zs := List.take_of_length_le (by rw [HZL.out]; exact Nat.le_refl _)
   rw [hz3] at hov
   have HGC : Hid (MgC M zs 3) := HG.out.good
   have HRE : Hid (R = layM M zs r 3) := by
    show R = _
    rw [← HR.out]
    have hm : M.mchk r.sids 0 r.sids = none := by
     rw [ZS.out]
     have := HGC.out
     rw [HZZ.out] at this ⊢
     exact merge_good this
    have e0 : M.mkey r 0 = mkk M zs 3 0 := by unfold MM.mkey; rw [ZS.out]; rfl
    have e1 : M.mkey r 1 = mkk M zs 3 1 := by unfold MM.mkey; rw [ZS.out]; rfl
    have e2 : M.mkey r 2 = mkk M zs 3 2 := by unfold MM.mkey; rw [ZS.out]; rfl
    have e : M.merge r = (0, ({ M with s := r.sids.foldl (fun f i => upd f i none) M.s } : MM).lay r.sid ⟨3, 0, M.mkey r 0, M.mkey r 1, M.mkey r 2, M.mlocs r.sids ++ r.locs⟩) := by unfold MM.merge; rw [hm]
    rw [e, if_pos rfl, e0, e1, e2, ZS.out]
    rfl
   have HKB : Hid (∀ j, j < 3 → (M.b (mkk M zs 3 j)).isSome = true) := fun j hj => by
    obtain ⟨z, s, e1, e2, e3, e4, e5⟩ := HGC.out.ok j hj
    have hk : mkk M zs 3 j = s.k0 := by
     unfold mkk
     rw [if_pos hj, List.getD_eq_getElem?_getD, e1, Option.getD_some, e2]; rfl
    rw [hk]
    obtain ⟨_, ok, hb⟩ := HII.out.s z s e2
    obtain ⟨x, hx, _⟩ := (hb 0 (by omega) (ok.k0 (by omega)).1).2
    show (M.b (s.key 0)).isSome = true
    rw [hx]; rfl
   obtain ⟨va, vc, hvs⟩ := hov.shape
   obtain ⟨vl, VL⟩ : ∃ x, Hid ((M.mlocs zs).length = x) := ⟨_, rfl⟩
   rw [VL.out] at hvs
   subst hvs
   have HML : Hid ((M.mlocs zs).length ≤ 1000) := mlocs_le M _ (by have := HZL.out; omega)
   have hpw : pw < wr.heap.size := lt_of_heap hv
   have hbase : W2.heap.size ≤ wr.heap.size := HG.out.up.size
   have hne : r.locs ≠ [] := fun e => by have := HLL.out; rw [e] at this; cases this
   have hvr := lo_up HVL.out HUW.out fun _ _ => id
   obtain ⟨ra, rc, hrv, hrow⟩ := hvr.row
   have hra : ra = la := by injection hrv with e1; exact e1.symm
   subst hra
   obtain ⟨v5, w5, hrun, hov5, hg5, _⟩ := hov.apps ra lc hrow hne HML.out (by have := HLL.out; omega) hbase
   rw [NL.out] at hrun
   have HNE : Hid (M.mlocs zs ++ r.locs ≠ []) := by show _ ≠ _; simp [hne]
   obtain ⟨g5, vc5, hv5, hg5b, hg5l, _⟩ := hov5.sh HNE.out
   have b5 : w5.heap[pw]? = some (.cells #[.int .i64 3, .int .i64 0, .string (mkk M zs 3 0), .string (mkk M zs 3 1), .string (mkk M zs 3 2), .slice va vl vc] 46 (0, 0)) := (hg5.block pw hpw (fun e => by have := hov.bs pw e.symm; have := HPW.out; omega)).trans hv
   have UW5 : Hid (Up Nul w w5) := HUW.out.grown hg5 fun j e => by have := hov.bs j e; have := HPW.out; omega
   have U5r : Up (fun k => W2.heap.size ≤ k) wr w5 := ⟨hg5.os, hg5.tape, hg5.output, hg5.size, fun k hk hs => hg5.block k hk fun e => hs (hov.bs k e.symm)⟩
   have hrb5 := HBZ.out.up U5r (fun e => by have := HPW.out; omega)
   obtain ⟨w6, hw6⟩ : ∃ W, W = w5.setCell ⟨pw, 5, none⟩ v5 := ⟨_, rfl⟩
   have u6 : Up (One pw) w5 w6 := by rw [hw6]; exact (Up.refl (One pw) w5).put rfl 5 v5
   have b6 : w6.heap[pw]? = some (.cells #[.int .i64 3, .int .i64 0, .string (mkk M zs 3 0), .string (mkk M zs 3 1), .string (mkk M zs 3 2), v5] 46 (0, 0)) := by rw [hw6]; exact heap_set_same b5 5 v5
   have hrb6 := hrb5.up u6 HPQ.out.1
   have UW6 : Hid (Up Nul w w6) := UW5.out.thn u6 (fun j e => .inr (by have e : j = pw := e; have := HPW.out; omega))
   have ho6 : OwnLo W2.heap.size w6 v5 (M.mlocs zs ++ r.locs) := hov5.up u6 fun j hj _ e => by have e : j = pw := e; have := HPW.out; omega
   have HM6 := hid (HM0.out.nxt UW6.out)
   have HRB6 := hid hrb6
   have c5 : w5.cell? ⟨pw, 5, none⟩ = some (.slice va vl vc) := by simp [World.cell?, b5]
   have f5 : w5.frozen? ⟨pw, 5, none⟩ = false := by simp [World.frozen?, b5]
   have cr : wr.cell? ⟨pw, 5, none⟩ = some (.slice va vl vc) := by simp [World.cell?, hv]
   obtain ⟨_, _, _, _, _, _, x6, _⟩ := HBZ.out.cells
   have HW6 := hid hw6
   have HRUN := hid hrun
   obtain ⟨vl5, VL5⟩ : ∃ x, Hid ((M.mlocs zs ++ r.locs).length = x) := ⟨_, rfl⟩
   rw [VL5.out] at hv5
   subst hv5
   have HG5 : Hid (W2.heap.size ≤ g5 ∧ g5 < w6.heap.size) := ⟨hg5b, Nat.lt_of_lt_of_le hg5l u6.size⟩
   have HO6 : Hid (OwnLo 0 w6 (.slice (some ⟨g5, 0, none⟩) vl5 vc5) (wideS M zs r).locs) := ho6.weak (Nat.zero_le _)
   have HB6 := hid b6
   clear hv hov hz3 hpw hbase hne hvr hrv hrow hrun hov5 hg5b hg5l hg5 b5 U5r hrb5 hw6 u6 b6 hrb6 ho6 ht hlt hg
   go_wp2_with (first | (at_builtin; refine wpList_append_eqv rfl _ _ _ rfl _ _ _ rfl rfl HRUN.out ?_))
   rw [← HW6.out]
   clear c5 f5 cr x6
   go_loopw [9] (fun i wr => ∃ t : Nat, t ≤ 3 ∧ i = .int .i64 (t : Nat) ∧ (∃ is' iv' sv', RM (Gr F w wr) wr q n Q { M with s := foldS M (zs.take t) } ks is' kv bv iv' sv') ∧ Up (fun k => k = q) w6 wr) (fun i _ => 3 - (intOf i).toNat)
   case atStart => exact ⟨0, by omega, rfl, ⟨_, _, _, HM6.out.wide fun k hk => .inl hk⟩, Up.refl _ _⟩
   case round =>
    obtain ⟨t, ht, rfl, ⟨is', iv', sv', hm⟩, hu⟩ := hrel
    have HM := hid hm
    have HUU := hid hu
    have HUW : Hid (Up (fun k => k = q) w wr) := UW6.out.nul.trans hu
    have hqn : ¬ w.heap.size = q := fun e => by have := HF.out q HM0.out.fq; omega
    have hrb := HRB6.out.up hu hqn
    by_cases hlt : t < 3
    ·have htl : t < zs.length := by rw [HZL.out]; exact hlt
     obtain ⟨gz, oz, rfl, hgz, hcz⟩ := HRS.out.resolve_left (fun e => by rw [e] at htl; cases htl)
     have x0 := hcz t _ (List.getElem?_eq_getElem htl)
     have HZK : Hid (zs[t]? = some zs[t]) := List.getElem?_eq_getElem htl
     have HTK : Hid (foldS M (zs.take (t + 1)) = upd (foldS M (zs.take t)) zs[t] none) := by
      show _ = _
      unfold foldS
      rw [List.take_succ_eq_append_getElem htl, List.foldl_append]
      rfl
     generalize zs[t] = z at x0 HZK HTK
     have hgq : ¬ gz = q := HSQ.out gz oz rfl
     have x1 := (HUW.out.cell (p := ⟨gz, oz + t, none⟩) (by have := lt_of_cell x0; exact this) hgq).trans x0
     obtain ⟨z', s, e1, e2, _, _, e5⟩ := HGC.out.ok t hlt
     have e6 : z = z' := by have := HZK.out; rw [e1] at this; injection this with this; exact this.symm
     subst e6
     have hsome : (foldS M (zs.take t) z).isSome = true := by
      unfold foldS
      rw [fold_not _ e5, e2]; rfl
     have hcl := rlift_any hm (gr_lt HF.out HUW.out.size) (by omega) z hsome
     have HCL := hid hcl
     obtain ⟨_, _, _, _, x4, _⟩ := hrb.cells
     have i0 : (0 : Int) ≤ (t : Int) := by omega
     have i2 : (t : Int) < 3 := by omega
     have i3 : (3 : Int) ≤ (sc : Int) := by have := HSC.out.1; omega
     have HT := hid hlt
     clear hm hu hrb hcz hgz x0 htl e1 e2 e5 hsome hcl hgq hqn ht hlt
     go_wp2_with fail
     refine HCL.out.mono ?_
     rintro e w7 ⟨rfl, ⟨is7, iv7, sv7, h7⟩, u7⟩
     have H7 : Hid (RM (Gr F w w7) w7 q n Q { M with s := foldS M (zs.take (t + 1)) } ks is7 kv bv iv7 sv7) := by
      have := h7.wide (gr_tr HUW.out.size u7.size)
      rw [show ({ M with s := foldS M (zs.take (t + 1)) } : MM) = { M with s := upd (foldS M (zs.take t)) z none } from by rw [HTK.out]]
      exact this
     have HU7 : Hid (Up (fun k => k = q) w6 w7) := HUU.out.trans u7
     clear h7 u7
     go_wp2_with fail
     go_roundw
     case rel => exact ⟨t + 1, HT.out, by go_num, ⟨_, _, _, H7.out⟩, HU7.out⟩
     case measure => (have := HT.out; simp [intOf]; omega)
    ·obtain rfl : t = 3 := by omega
     have z3 : zs.take 3 = zs := List.take_of_length_le (by rw [HZL.out]; exact Nat.le_refl _)
     rw [z3] at hm
     have hpwq : ¬ pw = q := fun e => by have := HF.out q HM0.out.fq; have := HPW.out; omega
     have b7 := hu.keep HB6.out hpwq
     obtain ⟨y0, y1, y2, y3, y4, y5⟩ := cell6 b7
     obtain ⟨_, _, _, x3, _⟩ := hrb.cells
     have hfr := gr_lt HF.out HUW.out.size
     have hog : OwnLo 0 wr (.slice (some ⟨g5, 0, none⟩) vl5 vc5) (wideS M zs r).locs := lo_up HO6.out hu (fun k hk e => by
      have hk : g5 = k := by injection hk
      have := HG5.out; have := HPW.out; have := HF.out q HM0.out.fq; omega)
     have his : ∀ i ∈ is', i < r.sid := fun i hi => by
      have := (hm.rr.ri.mem i).1 hi
      obtain ⟨y, hy⟩ := Option.isSome_iff_exists.1 this
      have hy' := fold_some zs hy
      have := (HII.out.s i y hy').1.2
      have := HLA.out
      omega
     have hgf : ∀ g, (Value.slice (some ⟨g5, 0, none⟩) vl5 vc5).ownBlock = some g → Gr F w wr g := fun g e => by
      have e : g5 = g := by injection e
      have h1 := HG5.out; have h2 := HPW.out; have h3 := hu.size
      exact .inr ⟨by omega, by omega⟩
     have hcl := rlay_any hm hfr (by omega) r.sid (wideS M zs r) (.slice (some ⟨g5, 0, none⟩) vl5 vc5) his HS0.out hog hgf
     have HCL := hid hcl
     have HB7 := hid b7
     have HRB := hid hrb
     clear hm hu hrb hqn ht hlt z3 hpwq b7 hfr hog his hgf hcl
     go_wp2_with fail
     refine HCL.out.mono ?_
     rintro e w8 ⟨rfl, ⟨is8, iv8, sv8, h8⟩, u8⟩
     have hqn2 : ∀ p, p = pw ∨ p = w.heap.size → ¬ p = q := fun p hp e => by
      have := HF.out q HM0.out.fq; have := HPW.out
      rcases hp with rfl | rfl <;> omega
     have HB8 := hid (u8.keep HB7.out (hqn2 _ (.inl rfl)))
     have HRB8 := hid (HRB.out.up u8 (hqn2 _ (.inr rfl)))
     have HM8 : Hid (RMs F w w8 q n M zs r 0) := ⟨_, _, _, _, _, _, _, h8.wide (gr_tr HUW.out.size u8.size)⟩
     have HU8 : Hid (Up F w w8) := (HUW.out.trans u8).mono fun j _ e => by rw [e]; exact HM0.out.fq
     clear h8 u8 hqn2 y0 y1 y2 y3 y4 y5 x3
     go_wp2_with fail
     go_loopw [10] (fun i wr => ∃ t : Nat, t ≤ 3 ∧ i = .int .i64 (t : Nat) ∧ RMs F w wr q n M zs r t ∧ wr.heap[pw]? = some (.cells #[.int .i64 3, .int .i64 0, .string (mkk M zs 3 0), .string (mkk M zs 3 1), .string (mkk M zs 3 2), .slice (some ⟨g5, 0, none⟩) vl5 vc5] 46 (0, 0)) ∧ RB wr w.heap.size r (.slice sa 3 sc) (.slice ra nl lc) ∧ Up F w wr) (fun i _ => 3 - (intOf i).toNat)
     case atStart => exact ⟨0, by omega, rfl, HM8.out, HB8.out, HRB8.out, HU8.out⟩
     case round =>
      obtain ⟨t, ht, rfl, ⟨Q', ks', is', kv', bv', iv', sv', hm⟩, hpb, hrb, hu⟩ := hrel
      have HNN := hid hn
      by_cases hlt : t < 3
      ·obtain rfl | rfl | rfl : t = 0 ∨ t = 1 ∨ t = 2 := by omega
       ·-- the part 0
        have z2 : wr.cell? ⟨pw, 2, none⟩ = some (.string (mkk M zs 3 0)) := by simp [World.cell?, hpb]
        have z3 := hrb.cells.2.2.2.1
        have hbl := HKB.out 0 (by omega)
        obtain ⟨x, hx⟩ := Option.isSome_iff_exists.1 (show ((layB M zs r.sid 0) (mkk M zs 3 0)).isSome = true from layB_some hbl _)
        obtain ⟨xn, xi, xp⟩ := x
        have hbo : (layM M zs r 0).bof (mkk M zs 3 0) = ⟨xn, xi, xp⟩ := bof_some hx
        have hb := rblob_any hm (by have := HNN.out; omega) (mkk M zs 3 0)
        rw [hbo] at hb
        have HB := hid hb
        have HXX := hid hx
        have HM := hid hm
        have HUU := hid hu
        have HPB := hid hpb
        have HRB := hid hrb
        clear hm hu hpb hrb hbl hx hbo hb
        go_wp2_with fail
        refine HB.out.mono ?_
        rintro e w3 ⟨rfl, u3⟩
        have HU3 := hid u3
        clear u3 HB
        go_upto_region 22 with fail
        obtain ⟨W4, hW4⟩ : ∃ W, W = w3.alloc (.cells #[.int .i64 xn, .int .i64 xi, .int .i64 xp] 51) := ⟨_, rfl⟩
        have u4 : Up Nul w3 W4 := by rw [hW4]; exact (Up.refl Nul w3).alloc _
        have b4 : W4.heap[w3.heap.size]? = some (.cells #[.int .i64 xn, .int .i64 xi, .int .i64 xp] 51 (0, 0)) := by rw [hW4]; exact heap_alloc_new _ _
        rw [← hW4]
        clear hW4
        have HU4 : Hid (Up Nul wr W4.drew) := (HU3.out.trans u4).drew
        obtain ⟨v0, _, _⟩ := cell3 b4
        have hpb4 := HU4.out.keep HPB.out id
        have hrb4 := HRB.out.nxt HU4.out
        have z2 : W4.cell? ⟨pw, 2, none⟩ = some (.string (mkk M zs 3 0)) := by
         have h : W4.heap[pw]? = _ := hpb4
         simp [World.cell?, h]
        have z3 : W4.cell? ⟨w.heap.size, 3, none⟩ = some (.int .i64 r.sid) := hrb4.cells.2.2.2.1
        have HFB : Hid (∀ j, Gr F w wr j → j < W4.drew.heap.size) := fun j hj => Nat.lt_of_lt_of_le (gr_lt HF.out HUU.out.size j hj) HU4.out.size
        have hset := rset_any (HM.out.nxt HU4.out) HFB.out (by have := HNN.out; omega) (mkk M zs 3 0) ⟨xn, r.sid, 0⟩
        have HSET := hid hset
        have HPB4 := hid hpb4
        have HRB4 := hid hrb4
        clear u4 b4 hpb4 hrb4 hset
        go_still_tail 11, (by kernel_rfl)
        go_wp2_with fail
        refine HSET.out.mono ?_
        rintro e w5 ⟨rfl, ⟨ks5, kv5, bv5, h5⟩, u5⟩
        have hu5 : Up (Gr F w wr) W4.drew w5 := u5.mono fun j _ e => by
         rcases e with e | e
         ·rw [e]; exact HM.out.fq
         ·exact HM.out.rr.fb j e
        have hnp : ∀ p, p = pw ∨ p = w.heap.size → ¬ (p = q ∨ bv'.ownBlock = some p) := fun p hp e => by
         rcases e with e | e
         ·have := HF.out q HM0.out.fq; have := HPW.out; omega
         ·have hblk := fun {T : TypeId} {c : Array Value} {fr : Nat × Nat} {g : Nat} (h1 : wr.heap[g]? = some (.cells c T fr)) (h2 : (51 : TypeId) ≠ T) => row_ne HM.out.rr.bo h1 h2
          rcases hp with rfl | rfl
          ·exact hblk HPB.out (by decide) e
          ·exact hblk HRB.out (by decide) e
        have HR5 : Hid (RMs F w w5 q n M zs r 1 ∧ w5.heap[pw]? = some (.cells #[.int .i64 3, .int .i64 0, .string (mkk M zs 3 0), .string (mkk M zs 3 1), .string (mkk M zs 3 2), .slice (some ⟨g5, 0, none⟩) vl5 vc5] 46 (0, 0)) ∧ RB w5 w.heap.size r (.slice sa 3 sc) (.slice ra nl lc) ∧ Up F w w5) := by
         have hlm : layM M zs r 1 = { layM M zs r 0 with b := upd (layM M zs r 0).b (mkk M zs 3 0) (some ⟨xn, r.sid, 0⟩) } := by
          unfold layM
          rw [show layB M zs r.sid 1 = upd (layB M zs r.sid 0) (mkk M zs 3 0) (some ⟨xn, r.sid, ((0 : Nat) : Int)⟩) from lay1_upd HXX.out]
          rfl
         have h6 : RM (Gr F w w5) w5 q (n + 1 + 1) Q' (layM M zs r 1) ks5 is' kv5 bv5 iv' sv' := by
          rw [hlm]
          exact (h5.wide (gr_tr (Nat.le_trans HUU.out.size HU4.out.size) (Nat.le_trans HU4.out.size u5.size))).mono (by omega)
         exact ⟨⟨_, _, _, _, _, _, _, h6⟩, u5.keep HPB4.out (hnp _ (.inl rfl)), HRB4.out.up u5 (hnp _ (.inr rfl)), gr_up HUU.out HU4.out hu5⟩
        clear h5 u5 z2 z3 v0
        go_wp2_with fail
        go_roundw
        case rel => exact ⟨1, by omega, by go_num, HR5.out⟩
        case measure => simp [intOf]
       ·-- the part 1
        have z2 : wr.cell? ⟨pw, 3, none⟩ = some (.string (mkk M zs 3 1)) := by simp [World.cell?, hpb]
        have z3 := hrb.cells.2.2.2.1
        have hbl := HKB.out 1 (by omega)
        obtain ⟨x, hx⟩ := Option.isSome_iff_exists.1 (show ((layB M zs r.sid 1) (mkk M zs 3 1)).isSome = true from layB_some hbl _)
        obtain ⟨xn, xi, xp⟩ := x
        have hbo : (layM M zs r 1).bof (mkk M zs 3 1) = ⟨xn, xi, xp⟩ := bof_some hx
        have hb := rblob_any hm (by have := HNN.out; omega) (mkk M zs 3 1)
        rw [hbo] at hb
        have HB := hid hb
        have HXX := hid hx
        have HM := hid hm
        have HUU := hid hu
        have HPB := hid hpb
        have HRB := hid hrb
        clear hm hu hpb hrb hbl hx hbo hb
        go_wp2_with fail
        refine HB.out.mono ?_
        rintro e w3 ⟨rfl, u3⟩
        have HU3 := hid u3
        clear u3 HB
        go_upto_region 22 with fail
        obtain ⟨W4, hW4⟩ : ∃ W, W = w3.alloc (.cells #[.int .i64 xn, .int .i64 xi, .int .i64 xp] 51) := ⟨_, rfl⟩
        have u4 : Up Nul w3 W4 := by rw [hW4]; exact (Up.refl Nul w3).alloc _
        have b4 : W4.heap[w3.heap.size]? = some (.cells #[.int .i64 xn, .int .i64 xi, .int .i64 xp] 51 (0, 0)) := by rw [hW4]; exact heap_alloc_new _ _
        rw [← hW4]
        clear hW4
        have HU4 : Hid (Up Nul wr W4.drew) := (HU3.out.trans u4).drew
        obtain ⟨v0, _, _⟩ := cell3 b4
        have hpb4 := HU4.out.keep HPB.out id
        have hrb4 := HRB.out.nxt HU4.out
        have z2 : W4.cell? ⟨pw, 3, none⟩ = some (.string (mkk M zs 3 1)) := by
         have h : W4.heap[pw]? = _ := hpb4
         simp [World.cell?, h]
        have z3 : W4.cell? ⟨w.heap.size, 3, none⟩ = some (.int .i64 r.sid) := hrb4.cells.2.2.2.1
        have HFB : Hid (∀ j, Gr F w wr j → j < W4.drew.heap.size) := fun j hj => Nat.lt_of_lt_of_le (gr_lt HF.out HUU.out.size j hj) HU4.out.size
        have hset := rset_any (HM.out.nxt HU4.out) HFB.out (by have := HNN.out; omega) (mkk M zs 3 1) ⟨xn, r.sid, 1⟩
        have HSET := hid hset
        have HPB4 := hid hpb4
        have HRB4 := hid hrb4
        clear u4 b4 hpb4 hrb4 hset
        go_still_tail 11, (by kernel_rfl)
        go_wp2_with fail
        refine HSET.out.mono ?_
        rintro e w5 ⟨rfl, ⟨ks5, kv5, bv5, h5⟩, u5⟩
        have hu5 : Up (Gr F w wr) W4.drew w5 := u5.mono fun j _ e => by
         rcases e with e | e
         ·rw [e]; exact HM.out.fq
         ·exact HM.out.rr.fb j e
        have hnp : ∀ p, p = pw ∨ p = w.heap.size → ¬ (p = q ∨ bv'.ownBlock = some p) := fun p hp e => by
         rcases e with e | e
         ·have := HF.out q HM0.out.fq; have := HPW.out; omega
         ·have hblk := fun {T : TypeId} {c : Array Value} {fr : Nat × Nat} {g : Nat} (h1 : wr.heap[g]? = some (.cells c T fr)) (h2 : (51 : TypeId) ≠ T) => row_ne HM.out.rr.bo h1 h2
          rcases hp with rfl | rfl
          ·exact hblk HPB.out (by decide) e
          ·exact hblk HRB.out (by decide) e
        have HR5 : Hid (RMs F w w5 q n M zs r 2 ∧ w5.heap[pw]? = some (.cells #[.int .i64 3, .int .i64 0, .string (mkk M zs 3 0), .string (mkk M zs 3 1), .string (mkk M zs 3 2), .slice (some ⟨g5, 0, none⟩) vl5 vc5] 46 (0, 0)) ∧ RB w5 w.heap.size r (.slice sa 3 sc) (.slice ra nl lc) ∧ Up F w w5) := by
         have hlm : layM M zs r 2 = { layM M zs r 1 with b := upd (layM M zs r 1).b (mkk M zs 3 1) (some ⟨xn, r.sid, 1⟩) } := by
          unfold layM
          rw [show layB M zs r.sid 2 = upd (layB M zs r.sid 1) (mkk M zs 3 1) (some ⟨xn, r.sid, ((1 : Nat) : Int)⟩) from lay1_upd HXX.out]
          rfl
         have h6 : RM (Gr F w w5) w5 q (n + 1 + 2) Q' (layM M zs r 2) ks5 is' kv5 bv5 iv' sv' := by
          rw [hlm]
          exact (h5.wide (gr_tr (Nat.le_trans HUU.out.size HU4.out.size) (Nat.le_trans HU4.out.size u5.size))).mono (by omega)
         exact ⟨⟨_, _, _, _, _, _, _, h6⟩, u5.keep HPB4.out (hnp _ (.inl rfl)), HRB4.out.up u5 (hnp _ (.inr rfl)), gr_up HUU.out HU4.out hu5⟩
        clear h5 u5 z2 z3 v0
        go_wp2_with fail
        go_roundw
        case rel => exact ⟨2, by omega, by go_num, HR5.out⟩
        case measure => simp [intOf]
       ·-- the part 2
        have z2 : wr.cell? ⟨pw, 4, none⟩ = some (.string (mkk M zs 3 2)) := by simp [World.cell?, hpb]
        have z3 := hrb.cells.2.2.2.1
        have hbl := HKB.out 2 (by omega)
        obtain ⟨x, hx⟩ := Option.isSome_iff_exists.1 (show ((layB M zs r.sid 2) (mkk M zs 3 2)).isSome = true from layB_some hbl _)
        obtain ⟨xn, xi, xp⟩ := x
        have hbo : (layM M zs r 2).bof (mkk M zs 3 2) = ⟨xn, xi, xp⟩ := bof_some hx
        have hb := rblob_any hm (by have := HNN.out; omega) (mkk M zs 3 2)
        rw [hbo] at hb
        have HB := hid hb
        have HXX := hid hx
        have HM := hid hm
        have HUU := hid hu
        have HPB := hid hpb
        have HRB := hid hrb
        clear hm hu hpb hrb hbl hx hbo hb
        go_wp2_with fail
        refine HB.out.mono ?_
        rintro e w3 ⟨rfl, u3⟩
        have HU3 := hid u3
        clear u3 HB
        go_upto_region 22 with fail
        obtain ⟨W4, hW4⟩ : ∃ W, W = w3.alloc (.cells #[.int .i64 xn, .int .i64 xi, .int .i64 xp] 51) := ⟨_, rfl⟩
        have u4 : Up Nul w3 W4 := by rw [hW4]; exact (Up.refl Nul w3).alloc _
        have b4 : W4.heap[w3.heap.size]? = some (.cells #[.int .i64 xn, .int .i64 xi, .int .i64 xp] 51 (0, 0)) := by rw [hW4]; exact heap_alloc_new _ _
        rw [← hW4]
        clear hW4
        have HU4 : Hid (Up Nul wr W4.drew) := (HU3.out.trans u4).drew
        obtain ⟨v0, _, _⟩ := cell3 b4
        have hpb4 := HU4.out.keep HPB.out id
        have hrb4 := HRB.out.nxt HU4.out
        have z2 : W4.cell? ⟨pw, 4, none⟩ = some (.string (mkk M zs 3 2)) := by
         have h : W4.heap[pw]? = _ := hpb4
         simp [World.cell?, h]
        have z3 : W4.cell? ⟨w.heap.size, 3, none⟩ = some (.int .i64 r.sid) := hrb4.cells.2.2.2.1
        have HFB : Hid (∀ j, Gr F w wr j → j < W4.drew.heap.size) := fun j hj => Nat.lt_of_lt_of_le (gr_lt HF.out HUU.out.size j hj) HU4.out.size
        have hset := rset_any (HM.out.nxt HU4.out) HFB.out (by have := HNN.out; omega) (mkk M zs 3 2) ⟨xn, r.sid, 2⟩
        have HSET := hid hset
        have HPB4 := hid hpb4
        have HRB4 := hid hrb4
        clear u4 b4 hpb4 hrb4 hset
        go_still_tail 11, (by kernel_rfl)
        go_wp2_with fail
        refine HSET.out.mono ?_
        rintro e w5 ⟨rfl, ⟨ks5, kv5, bv5, h5⟩, u5⟩
        have hu5 : Up (Gr F w wr) W4.drew w5 := u5.mono fun j _ e => by
         rcases e with e | e
         ·rw [e]; exact HM.out.fq
         ·exact HM.out.rr.fb j e
        have hnp : ∀ p, p = pw ∨ p = w.heap.size → ¬ (p = q ∨ bv'.ownBlock = some p) := fun p hp e => by
         rcases e with e | e
         ·have := HF.out q HM0.out.fq; have := HPW.out; omega
         ·have hblk := fun {T : TypeId} {c : Array Value} {fr : Nat × Nat} {g : Nat} (h1 : wr.heap[g]? = some (.cells c T fr)) (h2 : (51 : TypeId) ≠ T) => row_ne HM.out.rr.bo h1 h2
          rcases hp with rfl | rfl
          ·exact hblk HPB.out (by decide) e
          ·exact hblk HRB.out (by decide) e
        have HR5 : Hid (RMs F w w5 q n M zs r 3 ∧ w5.heap[pw]? = some (.cells #[.int .i64 3, .int .i64 0, .string (mkk M zs 3 0), .string (mkk M zs 3 1), .string (mkk M zs 3 2), .slice (some ⟨g5, 0, none⟩) vl5 vc5] 46 (0, 0)) ∧ RB w5 w.heap.size r (.slice sa 3 sc) (.slice ra nl lc) ∧ Up F w w5) := by
         have hlm : layM M zs r 3 = { layM M zs r 2 with b := upd (layM M zs r 2).b (mkk M zs 3 2) (some ⟨xn, r.sid, 2⟩) } := by
          unfold layM
          rw [show layB M zs r.sid 3 = upd (layB M zs r.sid 2) (mkk M zs 3 2) (some ⟨xn, r.sid, ((2 : Nat) : Int)⟩) from lay1_upd HXX.out]
          rfl
         have h6 : RM (Gr F w w5) w5 q (n + 1 + 3) Q' (layM M zs r 3) ks5 is' kv5 bv5 iv' sv' := by
          rw [hlm]
          exact (h5.wide (gr_tr (Nat.le_trans HUU.out.size HU4.out.size) (Nat.le_trans HU4.out.size u5.size))).mono (by omega)
         exact ⟨⟨_, _, _, _, _, _, _, h6⟩, u5.keep HPB4.out (hnp _ (.inl rfl)), HRB4.out.up u5 (hnp _ (.inr rfl)), gr_up HUU.out HU4.out hu5⟩
        clear h5 u5 z2 z3 v0
        go_wp2_with fail
        go_roundw
        case rel => exact ⟨3, by omega, by go_num, HR5.out⟩
        case measure => simp [intOf]
      ·obtain rfl : t = 3 := by omega
       have HM := hid hm
       have HUF := hid hu
       clear hm hu hpb hrb
       go_wp2_with fail
       go_ret
       rw [HRE.out]
       exact ⟨_, rfl, RMx.mono ⟨_, _, _, _, _, _, _, HM.out⟩ (by omega), HUF.out⟩
end
end Go.Proofs.YtepggchnhgpcnaaGreatDoor
