/- 'merge'. -/
import Derived.Test.YtepggchnhgpcnaaGreatDoorPkTidy
import Derived.Test.YtepggchnhgpcnaaGreatDoorPz10
import Derived.Test.YtepggchnhgpcnaaGreatDoorPz3
import Derived.BigQuiet
namespace Go.Proofs.YtepggchnhgpcnaaGreatDoor
open Go.RowKit Go.Maps
set_option linter.unusedVariables false

theorem mlocs_next {M : MM} {zs : List Int} {t : Nat} (h : t < zs.length) : M.mlocs (zs.take (t + 1)) = M.mlocs (zs.take t) ++ ((M.s zs[t]).map (·.locs.take 4)).getD [] := by
 unfold MM.mlocs
 rw [List.take_succ_eq_append_getElem h, List.flatMap_append]
 simp
theorem rowI_two {w w' : World} {bm bs : Nat} (h : AreMaps w bm bs) {a : Option Addr} {zs : List Int} (hr : RowI w a zs) (u : Up (Two bm bs) w w') : RowI w' a zs := by
 rcases hr with e | ⟨g, o, e, hg, hc⟩
 ·exact .inl e
 ·refine .inr ⟨g, o, e, Nat.lt_of_lt_of_le hg u.size, fun i x hi => ?_⟩
  have hc' := hc i x hi
  refine (u.cell (p := ⟨g, o + i, none⟩) hg (fun e => ?_)).trans hc'
  rcases e with e | e
  ·have e : g = bm := e
   rw [e, h.m _ (by rw [← e]; exact hg)] at hc'
   cases hc'
  ·have e : g = bs := e
   rw [e, h.s _ (by rw [← e]; exact hg)] at hc'
   cases hc'
theorem mlocs_le (M : MM) : ∀ (l : List Int), l.length ≤ 250 → (M.mlocs l).length ≤ 1000 := by
 have key : ∀ l : List Int, (M.mlocs l).length ≤ 4 * l.length := by
  intro l
  induction l with
  | nil => exact Nat.le_refl _
  | cons z l ih =>
   have e : M.mlocs (z :: l) = ((M.s z).map (·.locs.take 4)).getD [] ++ M.mlocs l := rfl
   have h4 : (((M.s z).map (·.locs.take 4)).getD []).length ≤ 4 := by
    cases M.s z with
    | none => exact Nat.zero_le _
    | some s => show (s.locs.take 4).length ≤ 4; rw [List.length_take]; omega
   rw [e, List.length_append, List.length_cons]
   omega
 intro l hl
 have := key l
 omega
def mkk (M : MM) (zs : List Int) (t j : Nat) : ByteArray := if j < t then ((M.s (zs.getD j 0)).map (·.k0)).getD noK else noK
theorem OwnLo.sh {base : Nat} {w : World} {v : Value} {ls : List Lo} (h : OwnLo base w v ls) (hn : ls ≠ []) : ∃ g c, v = .slice (some ⟨g, 0, none⟩) ls.length c ∧ base ≤ g ∧ g < w.heap.size ∧ OwnLo 0 w (.slice (some ⟨g, 0, none⟩) ls.length c) ls := by
 rcases h.2 with ⟨_, e0⟩ | ⟨g, cap, cur, h1, h2, h3, h4⟩
 ·exact absurd (List.eq_nil_of_length_eq_zero e0) hn
 ·exact ⟨g, cap, h1, h2, (Array.getElem?_eq_some_iff.1 h3).1, ⟨h.1, .inr ⟨g, cap, cur, rfl, Nat.zero_le _, h3, h4⟩⟩⟩
theorem mkk_size {M : MM} (h : M.Inv2) (zs : List Int) (t j : Nat) : (mkk M zs t j).size ≤ 100000 := by
 unfold mkk
 split
 ·cases e : M.s (zs.getD j 0) with
  | none => exact Nat.zero_le _
  | some s => exact h.s _ s e 0
 ·exact Nat.zero_le _
structure MgI (w2 wr : World) (pw : Nat) (M : MM) (zs : List Int) (t : Nat) : Prop where
 up : Up (One pw) w2 wr
 row : ∃ v, wr.heap[pw]? = some (.cells #[.int .i64 3, .int .i64 0, .string (mkk M zs t 0), .string (mkk M zs t 1), .string (mkk M zs t 2), v] 46 (0, 0)) ∧ OwnLo w2.heap.size wr v (M.mlocs (zs.take t))
 chk : M.mchk zs 0 zs = M.mchk zs t (zs.drop t)
section
variable {F : Nat → Prop} {w : World} {p bm bs n : Nat} {Q : Int → Value} {M : MM}
set_option maxRecDepth 10000 in
set_option maxHeartbeats 8000000 in
theorem merge_any (h : MT F w p bm bs n Q M) (hFw : ∀ k, F k → k < w.heap.size) (hI : M.Inv3) (r : Rc) (sa la : Option Addr) (sc lc : Nat) (hrs : RowI w sa r.sids) (hrl : RowL w la r.locs) (hzl : r.sids.length = 3) (hsc : 3 ≤ sc ∧ (sc : Int) ≤ 9223372036854775807) (hz : ∀ z ∈ r.sids, 0 ≤ z ∧ z ≤ 2147483647) (hll : r.locs.length = 4) (hs : 0 ≤ r.sid ∧ r.sid ≤ 2147483647) (hn : n ≤ 50000) :
  Calls Tryz.prog 68 #[.pointer (some ⟨p, 0, none⟩), rv r (.slice sa r.sids.length sc) (.slice la r.locs.length lc)] w fun e w' => e = .returned (.int .i64 (M.merge r).1) ∧
   (∃ Q', MT (Gr F w w') w' p bm bs (n + 6) Q' (M.merge r).2) ∧ Up (Two bm bs) w w' := by
 obtain ⟨w1, hw1⟩ : ∃ W, W = w.alloc (.cells #[.int .i64 r.kind, .string r.key, .int .i64 r.n, .int .i64 r.sid, .slice sa r.sids.length sc, .int .i64 r.colour, .slice la r.locs.length lc, .int .i64 r.t.hot, .int .i64 r.t.warm, .int .i64 r.t.gap, .int .i64 r.t.add, .int .i64 r.t.top, .int .i64 r.t.half] 28) := ⟨_, rfl⟩
 obtain ⟨w2, hw2⟩ : ∃ W, W = w1.alloc (.cells #[.int .i64 3, .int .i64 0, .string ⟨#[]⟩, .string ⟨#[]⟩, .string ⟨#[]⟩, .slice none 0 0] 46) := ⟨_, rfl⟩
 have u1 : Up Nul w w1 := by rw [hw1]; exact (Up.refl _ _).alloc _
 have u2 : Up Nul w1 w2 := by rw [hw2]; exact (Up.refl _ _).alloc _
 have b1 : w1.heap[w.heap.size]? = some (.cells #[.int .i64 r.kind, .string r.key, .int .i64 r.n, .int .i64 r.sid, .slice sa r.sids.length sc, .int .i64 r.colour, .slice la r.locs.length lc, .int .i64 r.t.hot, .int .i64 r.t.warm, .int .i64 r.t.gap, .int .i64 r.t.add, .int .i64 r.t.top, .int .i64 r.t.half] 28 (0, 0)) := by rw [hw1]; exact heap_alloc_new _ _
 have z1 : w1.heap.size = w.heap.size + 1 := by rw [hw1]; exact World.size_alloc _ _
 have b2 := (u2.block w.heap.size (by omega) id).trans b1
 have bw : w2.heap[w1.heap.size]? = some (.cells #[.int .i64 3, .int .i64 0, .string ⟨#[]⟩, .string ⟨#[]⟩, .string ⟨#[]⟩, .slice none 0 0] 46 (0, 0)) := by rw [hw2]; exact heap_alloc_new _ _
 have z2 : w2.heap.size = w1.heap.size + 1 := by rw [hw2]; exact World.size_alloc _ _
 have HB2 := hid b2
 have g4 : w2.cell? ⟨w.heap.size, 4, none⟩ = some (.slice sa r.sids.length sc) := by simp [World.cell?, b2]
 have HH := hid h
 have HLT : Hid (∀ k, F k → k < w.heap.size) := hFw
 have HU2 : Hid (Up Nul w w2) := u1.trans u2
 have HRS := hid hrs
 have HRL := hid hrl
 have HZL := hid hzl
 have HSC := hid hsc
 have HZ := hid hz
 have HLL := hid hll
 have HS := hid hs
 have HN := hid hn
 have HI := hid hI
 have HM0 : Hid (MgI w2 w2 w1.heap.size M r.sids 0) := ⟨Up.refl _ _, ⟨_, bw, OwnLo.nil _ _⟩, rfl⟩
 obtain ⟨R, HR⟩ : ∃ R, Hid (M.merge r = R) := ⟨_, rfl⟩
 rw [HR.out]
 obtain ⟨zs, ZS⟩ : ∃ x, Hid (r.sids = x) := ⟨_, rfl⟩
 rw [ZS.out] at hw1 HB2 g4 HRS HZL HZ HM0 ⊢
 rw [HZL.out] at hw1 HB2 g4 ⊢
 obtain ⟨nl, NL⟩ : ∃ x, Hid (r.locs.length = x) := ⟨_, rfl⟩
 rw [NL.out] at hw1 HB2 ⊢
 show Calls Tryz.prog 68 #[.pointer (some ⟨p, 0, none⟩), .agg #[.int .i64 r.kind, .string r.key, .int .i64 r.n, .int .i64 r.sid, .slice sa 3 sc, .int .i64 r.colour, .slice la nl lc, .int .i64 r.t.hot, .int .i64 r.t.warm, .int .i64 r.t.gap, .int .i64 r.t.add, .int .i64 r.t.top, .int .i64 r.t.half]] w _
 obtain ⟨pw, PW⟩ : ∃ x, Hid (w1.heap.size = x) := ⟨_, rfl⟩
 rw [PW.out] at HM0
 have HPW : Hid (w.heap.size + 1 = pw ∧ w2.heap.size = pw + 1) := by rw [← PW.out]; exact ⟨z1.symm, z2⟩
 clear h hFw hrs hrl hzl hsc hz hll hs hn hI u1 u2 b1 b2 bw z1 z2
 go_enter Tryz.func68, Tryz.ntmps68
 go_upto_block 0 with fail
 rw [← hw1, ← hw2]
 clear hw1 hw2
 rw [HPW.out.1]
 obtain ⟨pz, PZ⟩ : ∃ x, Hid (w.heap.size = x) := ⟨_, rfl⟩
 rw [PZ.out] at HPW HB2 g4 ⊢
 go_wp2_with fail
 go_loopw [16] (fun i wr => ∃ t : Nat, t ≤ 3 ∧ i = .int .i64 (t : Nat) ∧ MgI w2 wr pw M zs t) (fun i _ => 3 - (intOf i).toNat)
 case atStart => exact ⟨0, by omega, rfl, HM0.out⟩
 case round =>
  obtain ⟨t, ht, rfl, hg⟩ := hrel
  have HG := hid hg
  have HUW : Hid (Up Nul w wr) := HU2.out.thn hg.up (fun j e => .inr (by have e : j = pw := e; have := HPW.out; have := PZ.out; omega))
  by_cases hlt : t < 3
  ·have htl : t < zs.length := by rw [HZL.out]; exact hlt
   obtain ⟨gz, oz, rfl, _, hcz⟩ := (HRS.out.nxt HUW.out).resolve_left (fun e => by rw [e] at htl; cases htl)
   have x1 := hcz t _ (List.getElem?_eq_getElem htl)
   have hzb := HZ.out _ (List.getElem_mem htl)
   have HZM : Hid (zs[t] ∈ zs) := List.getElem_mem htl
   have HNX := hid (mlocs_next (M := M) htl)
   have HCK : Hid (M.mchk zs t (zs.drop t) = (match M.s zs[t] with | none => some 11 | some s => if 1 < zs.count zs[t] then some 11 else if s.kind ≠ 2 ∨ s.colour ≠ (t : Int) then some 12 else M.mchk zs (t + 1) (zs.drop (t + 1)))) := by
    show _ = _
    rw [List.drop_eq_getElem_cons htl]
    rfl
   have HKK : Hid (zs.getD t 0 = zs[t]) := by show _ = _; rw [List.getD_eq_getElem?_getD, List.getElem?_eq_getElem htl]; rfl
   generalize zs[t] = z at x1 hzb HZM HNX HCK HKK
   have HM := hid (HH.out.nxt HUW.out)
   obtain ⟨d0, d1, _⟩ := HM.out.cells
   have hlk := HM.out.ms.look2 Tryz.underlying56 (zero_st _) (wfI hzb.1 hzb.2)
   have HT := hid hlt
   have i0 : (0 : Int) ≤ (t : Int) := by omega
   have i2 : (t : Int) < 3 := by omega
   have i3 : (3 : Int) ≤ (sc : Int) := by have := HSC.out.1; omega
   clear hg ht hlt htl hcz hzb
   cases hsz : M.s z with
   | none =>
    rw [hsz] at hlk HCK
    simp only [Option.map_none, Option.getD_none, Option.isSome_none] at hlk
    have HE : Hid (R = (11, M)) := by
     show R = _
     rw [← HR.out]
     unfold MM.merge
     rw [ZS.out, HG.out.chk, HCK.out]
    clear hsz
    go_wp2_with fail
    go_ret
    rw [HE.out]
    exact ⟨rfl, ⟨Q, (((HM.out.nxt ((Up.refl _ _).alloc _)).wide fun k hk => .inl hk).mono (by omega))⟩, (HUW.out.trans ((Up.refl _ _).alloc _)).nul⟩
   | some s =>
    obtain ⟨g, c, hq, hF, ho⟩ := HM.out.row z s hsz
    rw [hsz] at hlk HCK HNX
    simp only [Option.map_some, Option.getD_some, Option.isSome_some, hq, stv] at hlk
    have HSZ := hid hsz
    have HO : Hid (OwnLo 0 wr (.slice (some ⟨g, 0, none⟩) s.locs.length c) s.locs) := by rw [hq] at ho; exact ho
    have HQ := hid hq
    clear hsz hq ho
    have u3 : Up Nul wr (wr.alloc (.cells #[.int .i64 s.kind, .int .i64 s.colour, .string s.k0, .string s.k1, .string s.k2, .slice (some ⟨g, 0, none⟩) s.locs.length c] 46)) := (Up.refl _ _).alloc _
    have bz := (HG.out.up.block pz (by have := HPW.out; omega) (fun e => by have e : pz = pw := e; have := HPW.out; omega)).trans HB2.out
    have bz3 := (u3.block pz (Array.getElem?_eq_some_iff.1 bz).1 id).trans bz
    have e4 : (wr.alloc (.cells #[.int .i64 s.kind, .int .i64 s.colour, .string s.k0, .string s.k1, .string s.k2, .slice (some ⟨g, 0, none⟩) s.locs.length c] 46)).cell? ⟨pz, 4, none⟩ = some (.slice (some ⟨gz, oz, none⟩) 3 sc) := by simp [World.cell?, bz3]
    have bs3 := heap_alloc_new wr (.cells #[.int .i64 s.kind, .int .i64 s.colour, .string s.k0, .string s.k1, .string s.k2, .slice (some ⟨g, 0, none⟩) s.locs.length c] 46)
    have HBZ3 := hid bz3
    have HBS3 := hid bs3
    have HU3 := hid u3
    have HTW := hid (twice_any (wr.alloc (.cells #[.int .i64 s.kind, .int .i64 s.colour, .string s.k0, .string s.k1, .string s.k2, .slice (some ⟨g, 0, none⟩) s.locs.length c] 46)) (some ⟨gz, oz, none⟩) sc zs (HRS.out.nxt (HUW.out.trans u3)) (by have := HZL.out; omega) (by rw [HZL.out]; exact HSC.out.1) HSC.out.2 z HZM.out)
    rw [HZL.out] at HTW
    have hfr : (wr.heap.size : Nat) = wr.heap.size := rfl
    clear bz bz3 bs3 hfr u3
    go_wp2_with fail
    refine HTW.out.mono ?_
    rintro e w3 ⟨rfl, rfl⟩
    by_cases htw : 1 < zs.count z
    ·have HE : Hid (R = (11, M)) := by
      show R = _
      rw [← HR.out]
      unfold MM.merge
      rw [ZS.out, HG.out.chk, HCK.out]
      rw [if_pos htw]
     have hd := decide_eq_true htw
     have HUF : Hid (Up Nul w (wr.alloc (.cells #[.int .i64 s.kind, .int .i64 s.colour, .string s.k0, .string s.k1, .string s.k2, .slice (some ⟨g, 0, none⟩) s.locs.length c] 46))) := HUW.out.trans HU3.out
     have HMF := hid (HM.out.nxt HU3.out)
     clear htw e4
     go_wp2
     go_ret
     rw [HE.out]
     exact ⟨rfl, ⟨Q, ((HMF.out.wide fun k hk => .inl hk).mono (by omega))⟩, HUF.out.nul⟩
    ·have hd := decide_eq_false htw
     have HTN := hid htw
     obtain ⟨w3, hw3⟩ : ∃ W, W = wr.alloc (.cells #[.int .i64 s.kind, .int .i64 s.colour, .string s.k0, .string s.k1, .string s.k2, .slice (some ⟨g, 0, none⟩) s.locs.length c] 46) := ⟨_, rfl⟩
     rw [← hw3] at HBZ3 HBS3 HU3
     rw [← hw3]
     obtain ⟨pq, PQ⟩ : ∃ x, Hid (wr.heap.size = x) := ⟨_, rfl⟩
     rw [PQ.out] at HBS3
     rw [PQ.out]
     have b3 := HBS3.out
     have s0 : w3.cell? ⟨pq, 0, none⟩ = some (.int .i64 s.kind) := by simp [World.cell?, b3]
     have s1 : w3.cell? ⟨pq, 1, none⟩ = some (.int .i64 s.colour) := by simp [World.cell?, b3]
     have s2 : w3.cell? ⟨pq, 2, none⟩ = some (.string s.k0) := by simp [World.cell?, b3]
     have s5 : w3.cell? ⟨pq, 5, none⟩ = some (.slice (some ⟨g, 0, none⟩) s.locs.length c) := by simp [World.cell?, b3]
     clear hw3 htw e4 b3 HTW x1
     by_cases hgd : s.kind = 2 ∧ s.colour = (t : Int)
     ·have HGD := hid hgd
      have hsk : ((M.s (zs.getD t 0)).map (·.k0)).getD noK = s.k0 := by rw [HKK.out, HSZ.out]; rfl
      have HL6 : Hid (s.locs.length = 6) := by
       have := (HI.out.s z s HSZ.out).2.1.locs
       rw [hgd.1] at this
       exact this
      have HCAP : Hid (4 ≤ c) := by
       show 4 ≤ c
       rcases HO.out.2 with ⟨e, _⟩ | ⟨_, cap, _, e, _, _, e4, _⟩
       ·cases e
       ·have e3 : c = cap := by injection e
        have := HL6.out; omega
      have HVL : Hid ((M.mlocs (zs.take t)).length ≤ 1000) := mlocs_le M _ (by rw [List.length_take]; have := HT.out; omega)
      have k1 : (s.kind != 2) = false := by simp [hgd.1]
      have k2 : (s.colour != (t : Int)) = false := by simp [hgd.2]
      clear hgd
      obtain rfl | rfl | rfl : t = 0 ∨ t = 1 ∨ t = 2 := by have := HT.out; omega
      ·have mk0 : mkk M zs 1 0 = s.k0 := hsk
       have mk1 : mkk M zs 1 1 = mkk M zs 0 1 := rfl
       have mk2 : mkk M zs 1 2 = mkk M zs 0 2 := rfl
       obtain ⟨v, hv, hov⟩ := HG.out.row
       obtain ⟨va, vc, hvs⟩ := hov.shape
       obtain ⟨vl, VL⟩ : ∃ x, Hid ((M.mlocs (zs.take 0)).length = x) := ⟨_, rfl⟩
       rw [VL.out] at hvs
       subst hvs
       have hpw : pw < wr.heap.size := (Array.getElem?_eq_some_iff.1 hv).1
       have bw3 := (HU3.out.block pw hpw id).trans hv
       obtain ⟨w4, hw4⟩ : ∃ W, W = w3.setCell ⟨pw, 2, none⟩ (.string s.k0) := ⟨_, rfl⟩
       have b4 : w4.heap[pw]? = some (.cells #[.int .i64 3, .int .i64 0, .string (mkk M zs 1 0), .string (mkk M zs 1 1), .string (mkk M zs 1 2), .slice va vl vc] 46 (0, 0)) := by
        rw [hw4, mk0, mk1, mk2]
        exact heap_set_same bw3 2 _
       have u4 : Up (One pw) w3 w4 := by rw [hw4]; exact (Up.refl (One pw) w3).put rfl 2 _
       have UW4 : Hid (Up Nul w w4) := (HUW.out.trans HU3.out).thn u4 (fun j e => .inr (by have e : j = pw := e; have := HPW.out; have := PZ.out; omega))
       have HM4 := hid (HH.out.nxt UW4.out)
       obtain ⟨g', c', hq', _, ho'⟩ := HM4.out.row z s HSZ.out
       have hge : g' = g ∧ c' = c := by
        have := HQ.out.symm.trans hq'
        injection this with e1 _ e3
        injection e1 with e1
        injection e1 with e1
        exact ⟨e1.symm, e3.symm⟩
       obtain ⟨rfl, rfl⟩ := hge
       obtain ⟨ra, rc, hrv, hrow⟩ := (hq' ▸ ho').row
       have hra : ra = some ⟨g', 0, none⟩ := by injection hrv with e1; exact e1.symm
       subst hra
       have hrow4 : RowL w4.drew (some ⟨g', 0, none⟩) (s.locs.take 4) := by
        rcases hrow with e | ⟨gg, oo, e, hgg, hcc⟩
        ·rw [e] at HL6; exact absurd HL6.out (by simp)
        ·exact .inr ⟨gg, oo, e, hgg, fun i l hi j v hj => hcc i l (by
          rw [List.getElem?_take] at hi
          split at hi
          ·exact hi
          ·cases hi) j v hj⟩
       have hov4 : OwnLo w2.heap.size w4.drew (.slice va vl vc) (M.mlocs (zs.take 0)) := ((hov.up HU3.out fun _ _ _ => id).up u4 fun j hj _ e => by have e : j = pw := e; have := HPW.out; omega).up ((Up.refl Nul w4).drew) fun _ _ _ => id
       have ht4 : (s.locs.take 4).length = 4 := by rw [List.length_take, HL6.out]; rfl
       have hbase : w2.heap.size ≤ w4.drew.heap.size := by
        have h1 := HG.out.up.size
        have h2 := HU3.out.size
        have h3 := u4.size
        show _ ≤ w4.heap.size
        omega
       obtain ⟨v5, w5, hrun, hov5, hg5, _⟩ := hov4.apps (some ⟨g', 0, none⟩) c' hrow4 (fun e => by rw [e] at ht4; cases ht4) HVL.out (by omega) hbase
       rw [ht4] at hrun
       obtain ⟨va5, vc5, hv5⟩ := hov5.shape
       have b5 : w5.heap[pw]? = some (.cells #[.int .i64 3, .int .i64 0, .string (mkk M zs 1 0), .string (mkk M zs 1 1), .string (mkk M zs 1 2), .slice va vl vc] 46 (0, 0)) := (hg5.block pw (by have := (Array.getElem?_eq_some_iff.1 b4).1; exact this) (fun e => by have := hov4.bs pw e.symm; have := HPW.out; omega)).trans b4
       have c5 : w5.cell? ⟨pw, 5, none⟩ = some (.slice va vl vc) := by simp [World.cell?, b5]
       have f5 : w5.frozen? ⟨pw, 5, none⟩ = false := by simp [World.frozen?, b5]
       have HFIN : Hid (MgI w2 (w5.setCell ⟨pw, 5, none⟩ v5) pw M zs 1) := by
        have u5 : Up (One pw) w2 w5 := ((HG.out.up.trans (HU3.out.nul.trans u4)).drew).grown hg5 fun j e => hov4.bs j e
        refine ⟨u5.put rfl 5 v5, ⟨v5, heap_set_same b5 5 v5, ?_⟩, ?_⟩
        ·have e1 : M.mlocs (zs.take (0 + 1)) = M.mlocs (zs.take 0) ++ s.locs.take 4 := HNX.out
         rw [e1]
         exact hov5.up ((Up.refl (One pw) w5).put rfl 5 v5) fun j hj _ e => by have e : j = pw := e; have := HPW.out; omega
        ·rw [HG.out.chk, HCK.out, if_neg HTN.out, if_neg (by
          intro e
          rcases e with e | e
          ·exact e HGD.out.1
          ·exact e HGD.out.2)]
       have x3 : w3.cell? ⟨pw, 2, none⟩ = some (.string (mkk M zs 0 0)) := by simp [World.cell?, bw3]
       have y3 : w3.frozen? ⟨pw, 2, none⟩ = false := by simp [World.frozen?, bw3]
       have c4 : w4.cell? ⟨pw, 5, none⟩ = some (.slice va vl vc) := by simp [World.cell?, b4]
       have hpqw : pq ≠ pw := by rw [← PQ.out]; omega
       have s54 := (u4.cell (p := ⟨pq, 5, none⟩) (by have := lt_of_cell s5; exact this) hpqw).trans s5
       have HRUN := hid hrun
       have HW4 := hid hw4
       generalize (M.mlocs (zs.take 0) ++ s.locs.take 4).length = vl5 at hv5
       subst hv5
       have j4 : (4 : Int) ≤ (c' : Int) := by have := HCAP.out; omega
       clear hv hov bw3 b4 u4 ho' hq' hrv hrow hrow4 hov4 hbase hov5 hg5 b5 hrun mk0 mk1 mk2 hpw hw4
       go_wp2_with fail
       rw [← HW4.out]
       clear x3 y3 s0 s1 s2 s5
       go_still_tail 5, (by kernel_rfl)
       change wpList _ _ _ _ _ w4.drew
       go_wp2_with (first | (at_builtin; refine wpList_append_eqv rfl _ _ _ rfl _ _ _ rfl rfl HRUN.out ?_))
       go_roundw
       case rel => exact ⟨1, by omega, by go_num, HFIN.out⟩
       case measure => simp [intOf]
      ·have mk0 : mkk M zs 2 0 = mkk M zs 1 0 := rfl
       have mk1 : mkk M zs 2 1 = s.k0 := hsk
       have mk2 : mkk M zs 2 2 = mkk M zs 1 2 := rfl
       obtain ⟨v, hv, hov⟩ := HG.out.row
       obtain ⟨va, vc, hvs⟩ := hov.shape
       obtain ⟨vl, VL⟩ : ∃ x, Hid ((M.mlocs (zs.take 1)).length = x) := ⟨_, rfl⟩
       rw [VL.out] at hvs
       subst hvs
       have hpw : pw < wr.heap.size := (Array.getElem?_eq_some_iff.1 hv).1
       have bw3 := (HU3.out.block pw hpw id).trans hv
       obtain ⟨w4, hw4⟩ : ∃ W, W = w3.setCell ⟨pw, 3, none⟩ (.string s.k0) := ⟨_, rfl⟩
       have b4 : w4.heap[pw]? = some (.cells #[.int .i64 3, .int .i64 0, .string (mkk M zs 2 0), .string (mkk M zs 2 1), .string (mkk M zs 2 2), .slice va vl vc] 46 (0, 0)) := by
        rw [hw4, mk0, mk1, mk2]
        exact heap_set_same bw3 3 _
       have u4 : Up (One pw) w3 w4 := by rw [hw4]; exact (Up.refl (One pw) w3).put rfl 3 _
       have UW4 : Hid (Up Nul w w4) := (HUW.out.trans HU3.out).thn u4 (fun j e => .inr (by have e : j = pw := e; have := HPW.out; have := PZ.out; omega))
       have HM4 := hid (HH.out.nxt UW4.out)
       obtain ⟨g', c', hq', _, ho'⟩ := HM4.out.row z s HSZ.out
       have hge : g' = g ∧ c' = c := by
        have := HQ.out.symm.trans hq'
        injection this with e1 _ e3
        injection e1 with e1
        injection e1 with e1
        exact ⟨e1.symm, e3.symm⟩
       obtain ⟨rfl, rfl⟩ := hge
       obtain ⟨ra, rc, hrv, hrow⟩ := (hq' ▸ ho').row
       have hra : ra = some ⟨g', 0, none⟩ := by injection hrv with e1; exact e1.symm
       subst hra
       have hrow4 : RowL w4.drew (some ⟨g', 0, none⟩) (s.locs.take 4) := by
        rcases hrow with e | ⟨gg, oo, e, hgg, hcc⟩
        ·rw [e] at HL6; exact absurd HL6.out (by simp)
        ·exact .inr ⟨gg, oo, e, hgg, fun i l hi j v hj => hcc i l (by
          rw [List.getElem?_take] at hi
          split at hi
          ·exact hi
          ·cases hi) j v hj⟩
       have hov4 : OwnLo w2.heap.size w4.drew (.slice va vl vc) (M.mlocs (zs.take 1)) := ((hov.up HU3.out fun _ _ _ => id).up u4 fun j hj _ e => by have e : j = pw := e; have := HPW.out; omega).up ((Up.refl Nul w4).drew) fun _ _ _ => id
       have ht4 : (s.locs.take 4).length = 4 := by rw [List.length_take, HL6.out]; rfl
       have hbase : w2.heap.size ≤ w4.drew.heap.size := by
        have h1 := HG.out.up.size
        have h2 := HU3.out.size
        have h3 := u4.size
        show _ ≤ w4.heap.size
        omega
       obtain ⟨v5, w5, hrun, hov5, hg5, _⟩ := hov4.apps (some ⟨g', 0, none⟩) c' hrow4 (fun e => by rw [e] at ht4; cases ht4) HVL.out (by omega) hbase
       rw [ht4] at hrun
       obtain ⟨va5, vc5, hv5⟩ := hov5.shape
       have b5 : w5.heap[pw]? = some (.cells #[.int .i64 3, .int .i64 0, .string (mkk M zs 2 0), .string (mkk M zs 2 1), .string (mkk M zs 2 2), .slice va vl vc] 46 (0, 0)) := (hg5.block pw (by have := (Array.getElem?_eq_some_iff.1 b4).1; exact this) (fun e => by have := hov4.bs pw e.symm; have := HPW.out; omega)).trans b4
       have c5 : w5.cell? ⟨pw, 5, none⟩ = some (.slice va vl vc) := by simp [World.cell?, b5]
       have f5 : w5.frozen? ⟨pw, 5, none⟩ = false := by simp [World.frozen?, b5]
       have HFIN : Hid (MgI w2 (w5.setCell ⟨pw, 5, none⟩ v5) pw M zs 2) := by
        have u5 : Up (One pw) w2 w5 := ((HG.out.up.trans (HU3.out.nul.trans u4)).drew).grown hg5 fun j e => hov4.bs j e
        refine ⟨u5.put rfl 5 v5, ⟨v5, heap_set_same b5 5 v5, ?_⟩, ?_⟩
        ·have e1 : M.mlocs (zs.take (1 + 1)) = M.mlocs (zs.take 1) ++ s.locs.take 4 := HNX.out
         rw [e1]
         exact hov5.up ((Up.refl (One pw) w5).put rfl 5 v5) fun j hj _ e => by have e : j = pw := e; have := HPW.out; omega
        ·rw [HG.out.chk, HCK.out, if_neg HTN.out, if_neg (by
          intro e
          rcases e with e | e
          ·exact e HGD.out.1
          ·exact e HGD.out.2)]
       have x3 : w3.cell? ⟨pw, 3, none⟩ = some (.string (mkk M zs 1 1)) := by simp [World.cell?, bw3]
       have y3 : w3.frozen? ⟨pw, 3, none⟩ = false := by simp [World.frozen?, bw3]
       have c4 : w4.cell? ⟨pw, 5, none⟩ = some (.slice va vl vc) := by simp [World.cell?, b4]
       have hpqw : pq ≠ pw := by rw [← PQ.out]; omega
       have s54 := (u4.cell (p := ⟨pq, 5, none⟩) (by have := lt_of_cell s5; exact this) hpqw).trans s5
       have HRUN := hid hrun
       have HW4 := hid hw4
       generalize (M.mlocs (zs.take 1) ++ s.locs.take 4).length = vl5 at hv5
       subst hv5
       have j4 : (4 : Int) ≤ (c' : Int) := by have := HCAP.out; omega
       clear hv hov bw3 b4 u4 ho' hq' hrv hrow hrow4 hov4 hbase hov5 hg5 b5 hrun mk0 mk1 mk2 hpw hw4
       go_wp2_with fail
       rw [← HW4.out]
       clear x3 y3 s0 s1 s2 s5
       go_still_tail 5, (by kernel_rfl)
       change wpList _ _ _ _ _ w4.drew
       go_wp2_with (first | (at_builtin; refine wpList_append_eqv rfl _ _ _ rfl _ _ _ rfl rfl HRUN.out ?_))
       go_roundw
       case rel => exact ⟨2, by omega, by go_num, HFIN.out⟩
       case measure => simp [intOf]
      ·have mk0 : mkk M zs 3 0 = mkk M zs 2 0 := rfl
       have mk1 : mkk M zs 3 1 = mkk M zs 2 1 := rfl
       have mk2 : mkk M zs 3 2 = s.k0 := hsk
       obtain ⟨v, hv, hov⟩ := HG.out.row
       obtain ⟨va, vc, hvs⟩ := hov.shape
       obtain ⟨vl, VL⟩ : ∃ x, Hid ((M.mlocs (zs.take 2)).length = x) := ⟨_, rfl⟩
       rw [VL.out] at hvs
       subst hvs
       have hpw : pw < wr.heap.size := (Array.getElem?_eq_some_iff.1 hv).1
       have bw3 := (HU3.out.block pw hpw id).trans hv
       obtain ⟨w4, hw4⟩ : ∃ W, W = w3.setCell ⟨pw, 4, none⟩ (.string s.k0) := ⟨_, rfl⟩
       have b4 : w4.heap[pw]? = some (.cells #[.int .i64 3, .int .i64 0, .string (mkk M zs 3 0), .string (mkk M zs 3 1), .string (mkk M zs 3 2), .slice va vl vc] 46 (0, 0)) := by
        rw [hw4, mk0, mk1, mk2]
        exact heap_set_same bw3 4 _
       have u4 : Up (One pw) w3 w4 := by rw [hw4]; exact (Up.refl (One pw) w3).put rfl 4 _
       have UW4 : Hid (Up Nul w w4) := (HUW.out.trans HU3.out).thn u4 (fun j e => .inr (by have e : j = pw := e; have := HPW.out; have := PZ.out; omega))
       have HM4 := hid (HH.out.nxt UW4.out)
       obtain ⟨g', c', hq', _, ho'⟩ := HM4.out.row z s HSZ.out
       have hge : g' = g ∧ c' = c := by
        have := HQ.out.symm.trans hq'
        injection this with e1 _ e3
        injection e1 with e1
        injection e1 with e1
        exact ⟨e1.symm, e3.symm⟩
       obtain ⟨rfl, rfl⟩ := hge
       obtain ⟨ra, rc, hrv, hrow⟩ := (hq' ▸ ho').row
       have hra : ra = some ⟨g', 0, none⟩ := by injection hrv with e1; exact e1.symm
       subst hra
       have hrow4 : RowL w4.drew (some ⟨g', 0, none⟩) (s.locs.take 4) := by
        rcases hrow with e | ⟨gg, oo, e, hgg, hcc⟩
        ·rw [e] at HL6; exact absurd HL6.out (by simp)
        ·exact .inr ⟨gg, oo, e, hgg, fun i l hi j v hj => hcc i l (by
          rw [List.getElem?_take] at hi
          split at hi
          ·exact hi
          ·cases hi) j v hj⟩
       have hov4 : OwnLo w2.heap.size w4.drew (.slice va vl vc) (M.mlocs (zs.take 2)) := ((hov.up HU3.out fun _ _ _ => id).up u4 fun j hj _ e => by have e : j = pw := e; have := HPW.out; omega).up ((Up.refl Nul w4).drew) fun _ _ _ => id
       have ht4 : (s.locs.take 4).length = 4 := by rw [List.length_take, HL6.out]; rfl
       have hbase : w2.heap.size ≤ w4.drew.heap.size := by
        have h1 := HG.out.up.size
        have h2 := HU3.out.size
        have h3 := u4.size
        show _ ≤ w4.heap.size
        omega
       obtain ⟨v5, w5, hrun, hov5, hg5, _⟩ := hov4.apps (some ⟨g', 0, none⟩) c' hrow4 (fun e => by rw [e] at ht4; cases ht4) HVL.out (by omega) hbase
       rw [ht4] at hrun
       obtain ⟨va5, vc5, hv5⟩ := hov5.shape
       have b5 : w5.heap[pw]? = some (.cells #[.int .i64 3, .int .i64 0, .string (mkk M zs 3 0), .string (mkk M zs 3 1), .string (mkk M zs 3 2), .slice va vl vc] 46 (0, 0)) := (hg5.block pw (by have := (Array.getElem?_eq_some_iff.1 b4).1; exact this) (fun e => by have := hov4.bs pw e.symm; have := HPW.out; omega)).trans b4
       have c5 : w5.cell? ⟨pw, 5, none⟩ = some (.slice va vl vc) := by simp [World.cell?, b5]
       have f5 : w5.frozen? ⟨pw, 5, none⟩ = false := by simp [World.frozen?, b5]
       have HFIN : Hid (MgI w2 (w5.setCell ⟨pw, 5, none⟩ v5) pw M zs 3) := by
        have u5 : Up (One pw) w2 w5 := ((HG.out.up.trans (HU3.out.nul.trans u4)).drew).grown hg5 fun j e => hov4.bs j e
        refine ⟨u5.put rfl 5 v5, ⟨v5, heap_set_same b5 5 v5, ?_⟩, ?_⟩
        ·have e1 : M.mlocs (zs.take (2 + 1)) = M.mlocs (zs.take 2) ++ s.locs.take 4 := HNX.out
         rw [e1]
         exact hov5.up ((Up.refl (One pw) w5).put rfl 5 v5) fun j hj _ e => by have e : j = pw := e; have := HPW.out; omega
        ·rw [HG.out.chk, HCK.out, if_neg HTN.out, if_neg (by
          intro e
          rcases e with e | e
          ·exact e HGD.out.1
          ·exact e HGD.out.2)]
       have x3 : w3.cell? ⟨pw, 4, none⟩ = some (.string (mkk M zs 2 2)) := by simp [World.cell?, bw3]
       have y3 : w3.frozen? ⟨pw, 4, none⟩ = false := by simp [World.frozen?, bw3]
       have c4 : w4.cell? ⟨pw, 5, none⟩ = some (.slice va vl vc) := by simp [World.cell?, b4]
       have hpqw : pq ≠ pw := by rw [← PQ.out]; omega
       have s54 := (u4.cell (p := ⟨pq, 5, none⟩) (by have := lt_of_cell s5; exact this) hpqw).trans s5
       have HRUN := hid hrun
       have HW4 := hid hw4
       generalize (M.mlocs (zs.take 2) ++ s.locs.take 4).length = vl5 at hv5
       subst hv5
       have j4 : (4 : Int) ≤ (c' : Int) := by have := HCAP.out; omega
       clear hv hov bw3 b4 u4 ho' hq' hrv hrow hrow4 hov4 hbase hov5 hg5 b5 hrun mk0 mk1 mk2 hpw hw4
       go_wp2_with fail
       rw [← HW4.out]
       clear x3 y3 s0 s1 s2 s5
       go_still_tail 5, (by kernel_rfl)
       change wpList _ _ _ _ _ w4.drew
       go_wp2_with (first | (at_builtin; refine wpList_append_eqv rfl _ _ _ rfl _ _ _ rfl rfl HRUN.out ?_))
       go_roundw
       case rel => exact ⟨3, by omega, by go_num, HFIN.out⟩
       case measure => simp [intOf]
     ·have HE : Hid (R = (12, M)) := by
       show R = _
       rw [← HR.out]
       unfold MM.merge
       rw [ZS.out, HG.out.chk, HCK.out]
       rw [if_neg HTN.out, if_pos (by
        rcases Classical.em (s.kind = 2) with e | e
        ·exact .inr fun e2 => hgd ⟨e, e2⟩
        ·exact .inl e)]
      have HUF : Hid (Up Nul w w3) := HUW.out.trans HU3.out
      have HMF := hid (HM.out.nxt HU3.out)
      by_cases hk2 : s.kind = 2
      ·have k1 : (s.kind != 2) = false := by simp [hk2]
       have k2 : (s.colour != (t : Int)) = true := by simp; exact fun e => hgd ⟨hk2, e⟩
       clear hgd hk2
       go_wp2
       go_ret
       rw [HE.out]
       exact ⟨rfl, ⟨Q, ((HMF.out.wide fun k hk => .inl hk).mono (by omega))⟩, HUF.out.nul⟩
      ·have k1 : (s.kind != 2) = true := by simp [hk2]
       clear hgd hk2
       go_wp2
       go_ret
       rw [HE.out]
       exact ⟨rfl, ⟨Q, ((HMF.out.wide fun k hk => .inl hk).mono (by omega))⟩, HUF.out.nul⟩
  ·obtain rfl : t = 3 := by omega
   obtain ⟨v, hv, hov⟩ := HG.out.row
   have hz3 : zs.take 3 = zs := List.take_of_length_le (by rw [HZL.out]; exact Nat.le_refl _)
   rw [hz3] at hov
   have hchk : M.mchk zs 0 zs = none := by rw [HG.out.chk, List.drop_of_length_le (by rw [HZL.out]; exact Nat.le_refl _)]; rfl
   have HE : Hid (R = (0, ({ M with s := zs.foldl (fun f i => upd f i none) M.s } : MM).lay r.sid ⟨3, 0, mkk M zs 3 0, mkk M zs 3 1, mkk M zs 3 2, M.mlocs zs ++ r.locs⟩)) := by
    show R = _
    rw [← HR.out]
    have e0 : M.mkey r 0 = mkk M zs 3 0 := by unfold MM.mkey; rw [ZS.out]; rfl
    have e1 : M.mkey r 1 = mkk M zs 3 1 := by unfold MM.mkey; rw [ZS.out]; rfl
    have e2 : M.mkey r 2 = mkk M zs 3 2 := by unfold MM.mkey; rw [ZS.out]; rfl
    unfold MM.merge
    rw [ZS.out, hchk, e0, e1, e2]
   obtain ⟨va, vc, hvs⟩ := hov.shape
   obtain ⟨vl, VL⟩ : ∃ x, Hid ((M.mlocs zs).length = x) := ⟨_, rfl⟩
   rw [VL.out] at hvs
   subst hvs
   have HVL : Hid ((M.mlocs zs).length ≤ 1000) := mlocs_le M _ (by have := HZL.out; omega)
   have hpw : pw < wr.heap.size := (Array.getElem?_eq_some_iff.1 hv).1
   have bz := (HG.out.up.block pz (by have := HPW.out; omega) (fun e => by have e : pz = pw := e; have := HPW.out; omega)).trans HB2.out
   have hbase : w2.heap.size ≤ wr.heap.size := HG.out.up.size
   have hne : r.locs ≠ [] := fun e => by have := HLL.out; rw [e] at this; cases this
   obtain ⟨v5, w5, hrun, hov5, hg5, _⟩ := hov.apps la lc (HRL.out.nxt HUW.out) hne HVL.out (by have := HLL.out; omega) hbase
   rw [NL.out] at hrun
   have HNE : Hid (M.mlocs zs ++ r.locs ≠ []) := by show _ ≠ _; simp [hne]
   obtain ⟨g5, vc5, hv5, hg5b, hg5l, _⟩ := hov5.sh HNE.out
   have b5 : w5.heap[pw]? = some (.cells #[.int .i64 3, .int .i64 0, .string (mkk M zs 3 0), .string (mkk M zs 3 1), .string (mkk M zs 3 2), .slice va vl vc] 46 (0, 0)) := (hg5.block pw hpw (fun e => by have := hov.bs pw e.symm; have := HPW.out; omega)).trans hv
   have bz5 := (hg5.block pz (by have := HPW.out; omega) (fun e => by have := hov.bs pz e.symm; have := HPW.out; omega)).trans bz
   have UW5 : Hid (Up Nul w w5) := HUW.out.grown hg5 fun j e => by have := hov.bs j e; have := HPW.out; have := PZ.out; omega
   obtain ⟨w6, hw6⟩ : ∃ W, W = w5.setCell ⟨pw, 5, none⟩ v5 := ⟨_, rfl⟩
   have u6 : Up (One pw) w5 w6 := by rw [hw6]; exact (Up.refl (One pw) w5).put rfl 5 v5
   have b6 : w6.heap[pw]? = some (.cells #[.int .i64 3, .int .i64 0, .string (mkk M zs 3 0), .string (mkk M zs 3 1), .string (mkk M zs 3 2), v5] 46 (0, 0)) := by rw [hw6]; exact heap_set_same b5 5 v5
   have bz6 := (u6.block pz (Array.getElem?_eq_some_iff.1 bz5).1 (fun e => by have e : pz = pw := e; have := HPW.out; omega)).trans bz5
   have UW6 : Hid (Up Nul w w6) := UW5.out.thn u6 (fun j e => .inr (by have e : j = pw := e; have := HPW.out; have := PZ.out; omega))
   have HO6 : Hid (OwnLo w2.heap.size w6 v5 (M.mlocs zs ++ r.locs)) := hov5.up u6 fun j hj _ e => by have e : j = pw := e; have := HPW.out; omega
   have HM6 := hid (HH.out.nxt UW6.out)
   have HB6 := hid b6
   have HZ6 := hid bz6
   have c5 : w5.cell? ⟨pw, 5, none⟩ = some (.slice va vl vc) := by simp [World.cell?, b5]
   have f5 : w5.frozen? ⟨pw, 5, none⟩ = false := by simp [World.frozen?, b5]
   have cr : wr.cell? ⟨pw, 5, none⟩ = some (.slice va vl vc) := by simp [World.cell?, hv]
   have cz : wr.cell? ⟨pz, 6, none⟩ = some (.slice la nl lc) := by simp [World.cell?, bz]
   have cz5 : w5.cell? ⟨pz, 4, none⟩ = some (.slice sa 3 sc) := by simp [World.cell?, bz5]
   have HW6 := hid hw6
   have HRUN := hid hrun
   obtain ⟨vl5, VL5⟩ : ∃ x, Hid ((M.mlocs zs ++ r.locs).length = x) := ⟨_, rfl⟩
   have HG5 : Hid (w2.heap.size ≤ g5 ∧ g5 < w6.heap.size) := ⟨hg5b, Nat.lt_of_lt_of_le hg5l u6.size⟩
   have HO0 : Hid (OwnLo 0 w6 (.slice (some ⟨g5, 0, none⟩) vl5 vc5) (M.mlocs zs ++ r.locs)) := by
    obtain ⟨g', c', e', _, _, h'⟩ := HO6.out.sh HNE.out
    rw [hv5] at e'
    have e1 : g5 = g' := by injection e' with e1; injection e1 with e1; injection e1
    have e2 : vc5 = c' := by injection e'
    rw [VL5.out] at h'
    rw [e1, e2]; exact h'
   rw [VL5.out] at hv5
   subst hv5
   clear hg5b hg5l
   clear hv hov hz3 hchk hpw bz hbase hne hov5 hg5 b5 bz5 hw6 u6 b6 bz6 hrun ht hlt
   have i3 : (3 : Int) ≤ (sc : Int) := by have := HSC.out.1; omega
   have hpz : pz ≠ pw := by have := HPW.out; have := PZ.out; omega
   have hpz2 : pw ≠ pz := fun e => hpz e.symm
   go_wp2_with (first | (at_builtin; refine wpList_append_eqv rfl _ _ _ rfl _ _ _ rfl rfl HRUN.out ?_))
   rw [← HW6.out]
   clear c5 f5 cr cz cz5
   have h6size : Hid (pw < w6.heap.size) := (Array.getElem?_eq_some_iff.1 HB6.out).1
   have HNB : Hid (∀ k, F k → k ≠ pw ∧ k ≠ pz) := fun k hk => by have := HLT.out k hk; have := HPW.out; have := PZ.out; omega
   go_loopw [70] (fun i wr => ∃ t : Nat, t ≤ 3 ∧ i = .int .i64 (t : Nat) ∧ MT F wr p bm bs n Q { M with s := (zs.take t).foldl (fun f i => upd f i none) M.s } ∧ Up (fun k => k = bs) w6 wr) (fun i _ => 3 - (intOf i).toNat)
   case atStart => exact ⟨0, by omega, rfl, HM6.out, Up.refl _ _⟩
   case round =>
    obtain ⟨t, ht, rfl, hm, hu⟩ := hrel
    have HUU := hid hu
    have HM := hid hm
    have HU2 : Hid (Up (Two bm bs) w6 wr) := hu.mono fun _ _ e => .inr e
    by_cases hlt : t < 3
    ·have htl : t < zs.length := by rw [HZL.out]; exact hlt
     obtain ⟨gz, oz, rfl, _, hcz⟩ := (rowI_two HM6.out.maps (HRS.out.nxt UW6.out) HU2.out).resolve_left (fun e => by rw [e] at htl; cases htl)
     have x1 := hcz t _ (List.getElem?_eq_getElem htl)
     have hzb := HZ.out _ (List.getElem_mem htl)
     have HTK : Hid ((zs.take (t + 1)).foldl (fun f i => upd f i none) M.s = upd ((zs.take t).foldl (fun f i => upd f i none) M.s) zs[t] none) := by
      show _ = _
      rw [List.take_succ_eq_append_getElem htl, List.foldl_append]
      rfl
     generalize zs[t] = z at x1 hzb HTK
     obtain ⟨w7, hdel, h7, u7⟩ := hm.delS (wfI hzb.1 hzb.2) 0
     obtain ⟨d0, d1, d2⟩ := hm.cells
     have H7 := hid h7
     have HU7 := hid u7
     have i0 : (0 : Int) ≤ (t : Int) := by omega
     have i2 : (t : Int) < 3 := by omega
     clear hm hu h7 u7 hcz hzb htl
     go_wp2_with (first | (at_delete; refine wpList_del_eqv rfl _ _ _ _ rfl _ _ rfl rfl hdel ?_))
     go_roundw
     case rel => exact ⟨t + 1, by omega, by go_num, by
      rw [HTK.out]; exact H7.out, HUU.out.trans HU7.out⟩
     case measure => simp [intOf]; omega
    ·obtain rfl : t = 3 := by omega
     have b7 := (hu.block pw h6size.out (fun e => (HNB.out bs HM6.out.fs).1 e.symm)).trans HB6.out
     have z7 := (hu.block pz (Array.getElem?_eq_some_iff.1 HZ6.out).1 (fun e => (HNB.out bs HM6.out.fs).2 e.symm)).trans HZ6.out
     have y0 : wr.cell? ⟨pw, 0, none⟩ = some (.int .i64 3) := by simp [World.cell?, b7]
     have y1 : wr.cell? ⟨pw, 1, none⟩ = some (.int .i64 0) := by simp [World.cell?, b7]
     have y2 : wr.cell? ⟨pw, 2, none⟩ = some (.string (mkk M zs 3 0)) := by simp [World.cell?, b7]
     have y3 : wr.cell? ⟨pw, 3, none⟩ = some (.string (mkk M zs 3 1)) := by simp [World.cell?, b7]
     have y4 : wr.cell? ⟨pw, 4, none⟩ = some (.string (mkk M zs 3 2)) := by simp [World.cell?, b7]
     have y5 : wr.cell? ⟨pw, 5, none⟩ = some (.slice (some ⟨g5, 0, none⟩) vl5 vc5) := by simp [World.cell?, b7]
     have y6 : wr.cell? ⟨pz, 3, none⟩ = some (.int .i64 r.sid) := by simp [World.cell?, z7]
     have z3 : zs.take 3 = zs := List.take_of_length_le (by rw [HZL.out]; exact Nat.le_refl _)
     rw [z3] at hm
     have hLT : ∀ k, F k → k < wr.heap.size := fun k hk => by have := HLT.out k hk; have := UW6.out.size; have := hu.size; omega
     have hbs : bs < w2.heap.size := by have := HLT.out bs HM6.out.fs; have := HPW.out; have := PZ.out; omega
     have hog : OwnLo 0 wr (.slice (some ⟨g5, 0, none⟩) vl5 vc5) (M.mlocs zs ++ r.locs) := lo_up HO0.out hu (fun k hk e => by
      have hk : g5 = k := by injection hk
      have := HG5.out; omega)
     have hst : ((⟨3, 0, mkk M zs 3 0, mkk M zs 3 1, mkk M zs 3 2, M.mlocs zs ++ r.locs⟩ : St).locs.length) = vl5 := VL5.out
     have hfin := lay_any (hm.wide (G := fun k => F k ∨ k = g5) (fun k hk => .inl hk)) (fun k hk => by
      rcases hk with hk | hk
      ·exact hLT k hk
      ·have := HG5.out; have := hu.size; omega) r.sid (wfI HS.out.1 HS.out.2) ⟨3, 0, mkk M zs 3 0, mkk M zs 3 1, mkk M zs 3 2, M.mlocs zs ++ r.locs⟩ g5 vc5 (.inr rfl) (by rw [hst]; exact hog)
      (fun j s' hj hne e => by
       obtain ⟨g', c', e1, e2, _⟩ := hm.row j s' hj
       have e3 := HLT.out g' e2
       rw [e1] at e
       have e : g5 = g' := by injection e
       have := HG5.out; have := HPW.out; have := PZ.out; omega) (fun t => by
       rcases t with _ | _ | t
       ·exact big_max (show (mkk M zs 3 0).size ≤ 100000 from mkk_size (Inv3.two HI.out) _ _ _)
       ·exact big_max (show (mkk M zs 3 1).size ≤ 100000 from mkk_size (Inv3.two HI.out) _ _ _)
       ·exact big_max (show (mkk M zs 3 2).size ≤ 100000 from mkk_size (Inv3.two HI.out) _ _ _)) (by have := HN.out; unfold maxLen; omega)
     rw [hst] at hfin
     have HFIN := hid hfin
     have HB0 : Hid (w.heap.size ≤ g5 ∧ g5 < wr.heap.size) := by have := HG5.out; have := HPW.out; have := PZ.out; have := hu.size; exact ⟨by omega, by omega⟩
     clear b7 z7 hm hu ht hlt hfin hog hst hLT hbs z3
     go_wp2_with fail
     refine HFIN.out.mono ?_
     rintro e w8 ⟨rfl, ⟨Q', h8⟩, u8⟩
     have HFIN2 : Hid ((∃ Q', MT (Gr F w w8) w8 p bm bs (n + 6) Q' R.2) ∧ Up (Two bm bs) w w8) := by
      refine ⟨⟨Q', ?_⟩, (UW6.out.nul.trans HU2.out).trans u8⟩
      rw [HE.out]
      refine (h8.wide (fun k hk => ?_)).mono (by omega)
      rcases hk with hk | rfl
      ·exact .inl hk
      ·exact .inr ⟨HB0.out.1, Nat.lt_of_lt_of_le HB0.out.2 u8.size⟩
     have HE0 : Hid (R.1 = 0) := by show R.1 = 0; rw [HE.out]
     clear h8 u8
     go_wp2
     go_ret
     rw [HE0.out]
     exact ⟨rfl, HFIN2.out⟩
end
end Go.Proofs.YtepggchnhgpcnaaGreatDoor
