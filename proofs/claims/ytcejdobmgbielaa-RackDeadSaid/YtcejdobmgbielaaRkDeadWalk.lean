/- The law RackDead, walked, whatever the program's Rack is. -/
import Derived.Test.YtcejdobmgbielaaRkMath
namespace Go.Proofs.Ytcejdobmgbielaa
open Go.RowKit
set_option linter.unusedVariables false

section
variable {O : RackOps} {P : Nat → Prop} {w0 w w' : World} {r n m nx : Nat} {fu k : Option Nat} {D : Nat → DS}
theorem rh_put (h : RH O P w0 w r n m fu k D nx) {i j y : Nat} {a : Option Addr} {l : Nat} (c : Nat) {z : List Nat} (hz : SlN w a l z) (hc : l ≤ c) (hl : l ≤ 64) (hi : i < n) (hj : j < m) (hU : (D i).U j = true) (hv : (D i).live = true) (hy : y < 4294967296) (hp : (D i).ps.length < 1000) :
    Calls Try.prog 23 #[.pointer (some ⟨r, 0, none⟩), lcA (i : Nat) (j : Nat) (y : Nat), .slice a l c] w fun e w' =>
      (k = some 0 ∧ e = .returned (.int .i64 4) ∧ RH O P w0 w' r n m fu k D nx ∧ Sp P w w' ∧ w.heap.size ≤ w'.heap.size) ∨ (k ≠ some 0 ∧ e = .returned (.int .i64 0) ∧ RH O P w0 w' r n m fu (less k) (updD D i { D i with R := upd (D i).R j (FrM.fr y z), ps := (D i).ps ++ [(j, (D i).R j)] }) nx ∧ Sp P w w' ∧ w.heap.size ≤ w'.heap.size) := by
  obtain ⟨T, h1, h2, h3⟩ := h.ex
  refine (O.put h1 h.fz i j y a l c z hz hc hl hi hj hU hv hy hp).mono ?_
  rintro e w' (⟨e1, rfl, u⟩ | ⟨e1, rfl, d⟩)
  · exact .inl ⟨e1, rfl, h.nxt u, h.sp u, u.size⟩
  · obtain ⟨x1, x2⟩ := RH.did h1 h2 h3 h.fnew h.own h.up d
    exact .inr ⟨e1, rfl, x1, x2, d.up.size⟩
theorem rh_get (h : RH O P w0 w r n m fu k D nx) {i j : Nat} (y : Int) (hi : i < n) (hj : j < m) (hv : (D i).live = true) :
    Calls Try.prog 24 #[.pointer (some ⟨r, 0, none⟩), lcA (i : Nat) (j : Nat) y] w fun e w' =>
      ((∃ a l c, FrM.tk ((D i).R j) = some (FrM.idOf ((D i).R j), FrM.datOf ((D i).R j)) ∧ (FrM.idOf ((D i).R j) : Int) = y ∧ e = .returned (.tuple #[.slice a l c, .int .i64 0]) ∧ SlN w' a l (FrM.datOf ((D i).R j))) ∨
       (∃ a c, (FrM.tk ((D i).R j) = none ∨ ¬ (FrM.idOf ((D i).R j) : Int) = y) ∧ e = .returned (.tuple #[.slice a 0 c, .int .i64 6]))) ∧ RH O P w0 w' r n m fu k D nx ∧ Up Nul w w' := by
  obtain ⟨T, h1, h2, h3⟩ := h.ex
  refine (O.get h1 h.fz i j y hi hj hv).mono ?_
  rintro e w' ⟨h4, u⟩
  exact ⟨h4, h.nxt u, u⟩
theorem rh_syncDead (h : RH O P w0 w r n m fu (some 0) D nx) (hv : ∃ i, i < n ∧ (D i).live = true) : Calls Try.prog 25 #[.pointer (some ⟨r, 0, none⟩)] w fun e w' => e = .returned (.int .i64 4) ∧ RH O P w0 w' r n m fu (some 0) D nx ∧ Up Nul w w' := by
  obtain ⟨T, h1, h2, h3⟩ := h.ex
  refine (O.syncDead h1 h.fz hv).mono ?_
  rintro e w' ⟨rfl, u⟩
  exact ⟨rfl, h.nxt u, u⟩
end
theorem tkk_zer : FrM.tk (zer 96) = none := tk_head (by rw [zer_at]; decide)
/-- Where the law stands: what is in the first slots of the disks p. -/
structure DeadD (p : List Nat) (z : List Nat) (kk i : Nat) (D : Nat → DS) : Prop where
  U : ∀ j (h : j < p.length), (D p[j]).U 0 = true
  live : ∀ j (h : j < p.length), (D p[j]).live = true
  few : ∀ j (h : j < p.length), (D p[j]).ps.length ≤ i
  R : ∀ j (h : j < p.length), (D p[j]).R 0 = if j < i ∧ j < kk then FrM.fr (1 + j) z else zer 96
theorem DeadD.stay {p z : List Nat} {kk i : Nat} {D : Nat → DS} (h : DeadD p z kk i D) (hk : kk ≤ i) : DeadD p z kk (i + 1) D :=
  ⟨h.U, h.live, fun j hj => Nat.le_succ_of_le (h.few j hj), fun j hj => by
    rw [h.R j hj]
    by_cases e : j < kk
    · rw [if_pos ⟨by omega, e⟩, if_pos ⟨by omega, e⟩]
    · rw [if_neg (fun k => e k.2), if_neg (fun k => e k.2)]⟩
theorem DeadD.put {p z : List Nat} {kk i : Nat} {D : Nat → DS} (h : DeadD p z kk i D) (hk : i < kk) (hi : i < p.length) (hd : p.Nodup) (x : Nat × List Nat) :
    DeadD p z kk (i + 1) (updD D p[i] { D p[i] with R := upd (D p[i]).R 0 (FrM.fr (1 + i) z), ps := (D p[i]).ps ++ [x] }) := by
  have ne : ∀ j (hj : j < p.length), ¬ j = i → ¬ p[j] = p[i] := fun j hj e => nod_ne hd hj hi e
  refine ⟨fun j hj => ?_, fun j hj => ?_, fun j hj => ?_, fun j hj => ?_⟩
  all_goals
    by_cases e : j = i
    · subst e
      rw [updD_same]
      first
        | exact h.U j hj
        | exact h.live j hj
        | (show ((D p[j]).ps ++ [x]).length ≤ j + 1; rw [List.length_append]; exact Nat.succ_le_succ (h.few j hj))
        | (show upd (D p[j]).R 0 (FrM.fr (1 + j) z) 0 = _; rw [if_pos ⟨by omega, hk⟩]; unfold upd; rw [if_pos rfl])
    · rw [updD_other _ _ (ne j hj e)]
      first
        | exact h.U j hj
        | exact h.live j hj
        | exact Nat.le_succ_of_le (h.few j hj)
        | (rw [h.R j hj]
           by_cases e2 : j < i ∧ j < kk
           · rw [if_pos e2, if_pos ⟨by omega, e2.2⟩]
           · rw [if_neg e2, if_neg (by omega)])
theorem fit_all {D : Nat → DS} {av : Int → Prop} (hD : NewD 12 D) (hav : ∀ d, ¬ av d) : ∀ d ∈ List.range 12, Fit 12 4 D (-1) av d := by
  intro d hd
  have hd := List.mem_range.1 hd
  exact ⟨hd, hD.live d hd, by rw [hD.fre hd]; omega, hav _, .inl (by omega)⟩
set_option maxRecDepth 100000 in
theorem rdead_long (O : RackOps) (a0 : Int) (a1 : Option Addr) (l1 c1 : Nat) (w : World) (h : 64 < l1) :
    Calls Try.prog 6 #[.int .i64 a0, .slice a1 l1 c1] w fun e w' => e = .returned (.bool true) ∧ Below w.heap.size w w' := by
  have i1 : (64 : Int) < (l1 : Int) := by omega
  clear h
  go_enter Try.func6, Try.ntmps6
  go_wp2_with fail
  refine (kawake_any O _).mono ?_
  rintro e w2 ⟨rfl, k2⟩
  go_wp2
  go_ret
  exact ⟨rfl, k2.below (Nat.le_refl _) fun _ _ => id⟩
set_option maxRecDepth 100000 in
set_option maxHeartbeats 3200000 in
theorem rdead_short (O : RackOps) (a0 : Int) (a1 : Option Addr) (l1 c1 : Nat) (z : List Nat) (w : World) (h1 : l1 ≤ 64) (hc1 : l1 ≤ c1) (hz : SlN w a1 l1 z) :
    Calls Try.prog 6 #[.int .i64 a0, .slice a1 l1 c1] w fun e w' => e = .returned (.bool true) ∧ Below w.heap.size w w' := by
  have HZ := hid hz
  have HC := hid hc1
  have HL := hid h1
  have HZL : Hid (z.length ≤ 64) := by show _ ≤ _; rw [hz.len]; exact h1
  have i1 : ¬ (64 : Int) < (l1 : Int) := by omega
  obtain ⟨m0, hm0, _⟩ := FrL.mask8 a0
  obtain ⟨k0, hk0, hk10⟩ := FrL.rem_lit m0 10 (by omega)
  have hk0 : (m0 : Int) % 10 = (k0 : Int) := hk0
  obtain ⟨kk, KK⟩ : ∃ n : Nat, n = k0 + 1 := ⟨_, rfl⟩
  have hn1 : (k0 : Int) + 1 = (kk : Int) := by omega
  have HKK : Hid (1 ≤ kk ∧ kk ≤ 10) := by show _ ∧ _; omega
  have HOF : Hid (ofk (kk : Nat) = some kk) := by show _ = _; unfold ofk; rw [if_pos (by omega), Int.toNat_natCast]
  have n0 : (kk : Int) ≤ 10 := by omega
  have n9 : (1 : Int) ≤ (kk : Int) := by omega
  have HNF := hid fun w => newFuse_any (kk : Nat) w (by omega)
  clear hz hc1 h1 KK hk10
  go_enter Try.func6, Try.ntmps6
  go_wp2_with fail
  refine (HNF.out w).mono ?_
  rintro e w1 ⟨f, rfl, hf, u1, hfn⟩
  rw [HOF.out] at hf
  have HF := hid hf
  have U1 := hid u1
  have HFN := hid hfn
  clear hf u1 hfn HNF
  go_wp2_with fail
  refine (rh_new (n := 12) (m := 4) (fu := some f) (k := some kk) O U1.out HF.out (fun g e => by injection e with e; rw [← e]; exact HFN.out) (by omega) (by omega) (by omega) (by omega)).mono ?_
  rintro e w2 ⟨r, D, rfl, h2, hD, _⟩
  have H2 := hid h2
  have HD := hid hD
  clear h2 hD HF U1 HFN
  go_wp2_with fail
  refine (rh_place H2.out 12 (-1) 0 (slInil w2 fun _ => 0) (by omega) (by omega)).mono ?_
  rintro e w3 (⟨_, p, a, c, ht, rfl, hp, h3, u3⟩ | ⟨hno, ⟨b, c, rfl⟩, h3, u3⟩)
  · have HPL : Hid (p.length = 12) := ht.plc.len
    have HND := hid ht.plc.nodup
    have HFT : Hid (∀ d ∈ p, d < 12) := fun d hd => (ht.plc.all d hd).1
    have H3 := hid h3
    have HP := hid hp
    clear h3 ht hp H2 u3
    go_wp2_with fail
    refine (rh_take H3.out c HP.out HND.out (fun d hd => ⟨HFT.out d hd, by rw [HD.out.fre (HFT.out d hd)]; omega⟩) (by omega)).mono ?_
    rintro e w4 ⟨v, D', rfl, hl, hy, hn, h4, sp, sz⟩
    obtain ⟨la, lc, rfl⟩ := hl.shape
    have hll : (locs 4 1 D p).length = 12 := by rw [locs_length, HPL.out]
    rw [hll] at hl h4 ⊢
    rw [HPL.out] at h4
    have HDD : Hid (DeadD p z kk 0 D') := ⟨fun j hj => by rw [hy _ (List.getElem_mem hj)]; unfold tkD; rw [HD.out.slo (HFT.out _ (List.getElem_mem hj))]; show updB (D p[j]).U 0 true 0 = true; unfold updB; rw [if_pos rfl], fun j hj => by rw [hy _ (List.getElem_mem hj)]; exact HD.out.live _ (HFT.out _ (List.getElem_mem hj)), fun j hj => by rw [hy _ (List.getElem_mem hj)]; show ((D p[j]).ps).length ≤ 0; rw [HD.out.ps _ (HFT.out _ (List.getElem_mem hj))]; exact Nat.le_refl 0, fun j hj => by rw [hy _ (List.getElem_mem hj), if_neg (by omega)]; show (D p[j]).R 0 = _; rw [HD.out.R _ (HFT.out _ (List.getElem_mem hj))]⟩
    obtain ⟨P4, H4, HOWN⟩ : ∃ P4, Hid (RH O P4 w w4 r 12 4 (some f) (some kk) D' 13) ∧ Hid (∀ x, Value.ownBlock (.slice la 12 lc) = some x → P4 x) := ⟨_, h4, hid fun x hx => Or.inr hx⟩
    have HLS : Hid (∀ j (hj : j < 12), (locs 4 1 D p)[j]? = some ⟨p.getD j 0, 0, 1 + j⟩) := fun j hj => by
      have hj2 : j < p.length := by rw [HPL.out]; exact hj
      rw [List.getElem?_eq_getElem (by rw [locs_length]; exact hj2), locs_at _ _ _ _ hj2, HD.out.slo (HFT.out _ (List.getElem_mem hj2))]
      simp [List.getD_eq_getElem?_getD, hj2]
    obtain ⟨lg, rfl⟩ : ∃ lg, la = some ⟨lg, 0, none⟩ := by
      obtain ⟨g, cap, e, _⟩ := hl.at (s := 0) (by rw [hll]; omega)
      injection e with e
      exact ⟨g, e⟩
    have HO := hid hl
    have HLE : Hid (w.heap.size ≤ w3.heap.size) := H3.out.up.size
    clear hl hy hn h4 sp sz hll H3 HP
    go_wp2_with fail
    go_loopw [12] (fun s wr => ∃ t : Nat, t ≤ 12 ∧ s = .int .i64 (t : Nat) ∧ ∃ D1, RH O P4 w wr r 12 4 (some f) (some (kk - t)) D1 13 ∧ DeadD p z kk t D1 ∧ OwnL w3.heap.size wr (.slice (some ⟨lg, 0, none⟩) 12 lc) (locs 4 1 D p)) (fun s _ => 12 - (intOf s).toNat)
    case atStart => exact ⟨0, by omega, rfl, D', H4.out, HDD.out, HO.out⟩
    case round =>
      obtain ⟨t, ht, rfl, D1, hr, hd, ho⟩ := hrel
      have HR := hid hr
      have HD1 := hid hd
      have HO1 := hid ho
      clear hr hd ho
      have t0 : (0 : Int) ≤ (t : Int) := by omega
      by_cases hlt : t < 12
      · have t1 : (t : Int) < 12 := by omega
        have HT := hid hlt
        obtain ⟨d, DE⟩ : ∃ d, Hid (p.getD t 0 = d) := ⟨_, rfl⟩
        obtain ⟨y, YE⟩ : ∃ y, Hid (1 + t = y) := ⟨_, rfl⟩
        have HLt := HLS.out t hlt
        rw [DE.out, YE.out] at HLt
        obtain ⟨x0, x1, x2⟩ := HO1.out.rng HLt
        have hpt : t < p.length := by rw [HPL.out]; exact hlt
        have hpd : p[t] = d := by rw [← DE.out]; simp [List.getD_eq_getElem?_getD, hpt]
        have HPT : Hid (∃ h : t < p.length, p[t] = d) := ⟨hpt, hpd⟩
        have HPU := hid (rh_put (y := y) HR.out c1 (HZ.out.nxt HR.out.up) HC.out HL.out (i := d) (j := 0) (by rw [← hpd]; exact HFT.out _ (List.getElem_mem hpt)) (by omega) (by rw [← hpd]; exact HD1.out.U t hpt) (by rw [← hpd]; exact HD1.out.live t hpt) (by rw [← YE.out]; omega) (by rw [← hpd]; have := HD1.out.few t hpt; omega))
        clear hpt hpd HLt ht hlt
        have HOW := hid fun (w' : World) (hsp : Sp P4 wr w') => HO1.out.keep (w' := w') fun k hk => hsp k (HOWN.out k hk)
        by_cases hk : t < kk
        · have k1 : ¬ (kk : Int) ≤ (t : Int) := by omega
          have HK := hid hk
          clear hk
          go_wp2_with fail
          refine HPU.out.mono ?_
          rintro e w5 (⟨e1, _⟩ | ⟨_, rfl, h5, sp5, sz5⟩)
          · exfalso
            injection e1 with e1
            have := HK.out
            omega
          · have H5 := hid h5
            have HO5 := hid (HOW.out w5 sp5)
            clear h5 sp5 sz5
            go_wp2_with fail
            go_round
            case rel =>
              obtain ⟨hpt, hpd⟩ := HPT.out
              have g1 := H5.out
              rw [show less (some (kk - t)) = some (kk - (t + 1)) by unfold less; simp; omega] at g1
              have g2 := HD1.out.put HK.out hpt HND.out (0, (D1 d).R 0)
              rw [hpd, YE.out] at g2
              exact ⟨t + 1, HT.out, by go_num, _, g1, g2, HO5.out⟩
            case measure => have := HT.out; simp [intOf]; omega
        · have k1 : (kk : Int) ≤ (t : Int) := by omega
          have HK := hid hk
          clear hk
          go_wp2_with fail
          refine HPU.out.mono ?_
          rintro e w5 (⟨_, rfl, h5, sp5, sz5⟩ | ⟨e1, _⟩)
          · have H5 := hid h5
            have HO5 := hid (HOW.out w5 sp5)
            clear h5 sp5 sz5
            go_wp2_with fail
            go_round
            case rel =>
              refine ⟨t + 1, HT.out, by go_num, _, ?_, HD1.out.stay (by have := HK.out; omega), HO5.out⟩
              have := H5.out
              rw [show kk - t = kk - (t + 1) by have := HK.out; omega] at this
              exact this
            case measure => have := HT.out; simp [intOf]; omega
          · exfalso
            refine e1 ?_
            have := HK.out
            rw [show kk - t = 0 by omega]
      · have hte : t = 12 := by omega
        have t1 : ¬ (t : Int) < 12 := by omega
        have HR2 : Hid (RH O P4 w wr r 12 4 (some f) (some 0) D1 13) := by
          have := HR.out
          rw [show kk - t = 0 by have := HKK.out; omega] at this
          exact this
        rw [hte] at HD1
        clear HR hlt ht hte
        go_wp2_with fail
        go_loopw [14] (fun s wx => ∃ t : Nat, t ≤ 12 ∧ s = .int .i64 (t : Nat) ∧ RH O P4 w wx r 12 4 (some f) (some 0) D1 13 ∧ Up Nul wr wx) (fun s _ => 12 - (intOf s).toNat)
        case atStart => exact ⟨0, by omega, rfl, HR2.out, Up.refl _ _⟩
        case round =>
          obtain ⟨t, ht, rfl, hr, hu⟩ := hrel
          have HR := hid hr
          have HU := hid hu
          clear hr hu
          have t0 : (0 : Int) ≤ (t : Int) := by omega
          by_cases hlt : t < 12
          · have t1 : (t : Int) < 12 := by omega
            have HT := hid hlt
            obtain ⟨d, DE⟩ : ∃ d, Hid (p.getD t 0 = d) := ⟨_, rfl⟩
            obtain ⟨y, YE⟩ : ∃ y, Hid (1 + t = y) := ⟨_, rfl⟩
            have HLt := HLS.out t hlt
            rw [DE.out, YE.out] at HLt
            obtain ⟨x0, x1, x2⟩ := (HO1.out.nxt HU.out).rng HLt
            have hpt : t < p.length := by rw [HPL.out]; exact hlt
            have hpd : p[t] = d := by rw [← DE.out]; simp [List.getD_eq_getElem?_getD, hpt]
            have HRd : Hid ((D1 d).R 0 = if t < kk then FrM.fr y z else zer 96) := by
              have := HD1.out.R t hpt
              rw [hpd, YE.out] at this
              show _ = _
              rw [this]
              by_cases e : t < kk
              · rw [if_pos ⟨hlt, e⟩, if_pos e]
              · rw [if_neg (fun k => e k.2), if_neg e]
            have HG := hid (rh_get (j := 0) HR.out (y : Nat) (i := d) (by rw [← hpd]; exact HFT.out _ (List.getElem_mem hpt)) (by omega) (by rw [← hpd]; exact HD1.out.live t hpt))
            have HY : Hid (y < 4294967296) := by show _ < _; rw [← YE.out]; omega
            clear hpt hpd HLt ht hlt
            by_cases hk : t < kk
            · have k1 : (t : Int) < (kk : Int) := by omega
              have k2 : ¬ (kk : Int) ≤ (t : Int) := by omega
              rw [if_pos hk] at HRd
              rw [HRd.out, FrM.tk_fr HY.out HZL.out, FrM.fr_id HY.out, FrM.fr_dat] at HG
              clear hk
              go_wp2_with fail
              refine HG.out.mono ?_
              rintro e w5 ⟨⟨a5, l5, c5, _, _, rfl, hs5⟩ | ⟨a5, c5, hno, _⟩, h5, u5⟩
              · have H5 := hid h5
                have U5 := hid (HU.out.trans u5)
                have e5 := hs5.conv c5
                have e6 := (HZ.out.nxt h5.up).conv c1
                clear hs5 h5 u5
                go_wp2_with fail
                go_roundw
                case rel => exact ⟨t + 1, HT.out, by go_num, H5.out, U5.out⟩
                case measure => have := HT.out; simp [intOf]; omega
              · exfalso
                rcases hno with e | e
                · cases e
                · exact e trivial
            · have k1 : ¬ (t : Int) < (kk : Int) := by omega
              have k2 : (kk : Int) ≤ (t : Int) := by omega
              rw [if_neg hk] at HRd
              rw [HRd.out, tkk_zer] at HG
              clear hk
              go_wp2_with fail
              refine HG.out.mono ?_
              rintro e w5 ⟨⟨a5, l5, c5, e5, _⟩ | ⟨a5, c5, _, rfl⟩, h5, u5⟩
              · cases e5
              · have H5 := hid h5
                have U5 := hid (HU.out.trans u5)
                clear h5 u5
                go_wp2_with fail
                go_roundw
                case rel => exact ⟨t + 1, HT.out, by go_num, H5.out, U5.out⟩
                case measure => have := HT.out; simp [intOf]; omega
          · obtain rfl : t = 12 := by omega
            have HLV : Hid (∃ i, i < 12 ∧ (D1 i).live = true) := by
              have h0 : 0 < p.length := by rw [HPL.out]; omega
              exact ⟨p[0], HFT.out _ (List.getElem_mem h0), HD1.out.live 0 h0⟩
            clear hlt ht
            go_wp2_with fail
            refine (rh_syncDead HR.out HLV.out).mono ?_
            rintro e w6 ⟨rfl, h6, u6⟩
            have H6 : Hid (Up Nul w w6) := h6.up
            clear h6 u6
            go_wp2_with fail
            refine (kawake_any O _).mono ?_
            rintro e w7 ⟨rfl, k7⟩
            have H7 := hid (H6.out.trans k7)
            clear k7
            go_wp2
            go_ret
            exact ⟨rfl, H7.out.below (Nat.le_refl _) fun _ _ => fun h => h⟩
  · exfalso
    rcases hno with e | e
    · omega
    · have := e (List.range 12) List.nodup_range (fit_all HD.out fun d hd => by obtain ⟨i, hi, _⟩ := hd; omega)
      simp at this
theorem rdead_walk (O : RackOps) (a0 : Int) (a1 : Option Addr) (l1 c1 : Nat) (z1 : List Int) (w : World) (w1 : CameIn w a1 l1 c1 z1) :
    Calls Try.prog 6 #[.int .i64 a0, .slice a1 l1 c1] w fun e w' => e = .returned (.bool true) ∧ Below w.heap.size w w' := by
  by_cases h : 64 < l1
  · exact rdead_long O a0 a1 l1 c1 w h
  · obtain ⟨z1, h1⟩ := SlN.of w1
    exact rdead_short O a0 a1 l1 c1 z1 w (by omega) (came_cap w1) h1
end Go.Proofs.Ytcejdobmgbielaa
