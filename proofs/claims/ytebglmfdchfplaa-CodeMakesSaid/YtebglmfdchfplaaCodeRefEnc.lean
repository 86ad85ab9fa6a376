/- The document's own 'Encode'. -/
import Derived.Test.YtebglmfdchfplaaCodeCoef
namespace Go.Proofs.Ytebglmfdchfplaa
open Go.RowKit
set_option linter.unusedVariables false

theorem OwnV.weak {T : TypeId} {b b' : Nat} {w : World} {v : Value} {xs : List Value} (h : OwnV T b w v xs) (hb : b' ≤ b) : OwnV T b' w v xs :=
  ⟨h.1, h.2.imp id fun ⟨g, cap, cur, h1, h2, h3⟩ => ⟨g, cap, cur, h1, Nat.le_trans hb h2, h3⟩⟩
theorem own_ne2 {T : TypeId} {base : Nat} {w : World} {v : Value} {xs : List Value} {q : Nat} {z : List Nat} (hT : T ≠ 5) (h : OwnV T base w v xs) (hb : Blk w q z) : v.ownBlock ≠ some q := by
  intro e
  rcases h.2 with ⟨e2, _⟩ | ⟨g, cap, cur, e2, _, h3, _⟩
  · subst e2; cases e
  · subst e2
    have : g = q := by simpa [Value.ownBlock] using e
    subst this
    rw [hb.heap] at h3
    injection h3 with h3
    injection h3 with _ h4
    exact hT h4.symm
/-- A parity under way, s data reckoned in. -/
def encP (k L : Nat) (Z : List Nat) (D : Nat → List Nat) (j s u : Nat) : Nat := GfM.xs s fun v => GfM.mul (Z.getD (j * k + v) 0) ((D v).getD u 0)
set_option maxRecDepth 100000 in
set_option maxHeartbeats 3200000 in
theorem refEnc_any (FS : List Nat) (w0 w : World) (gx cx gy cy g cap k r L : Nat) (X Y : List Nat) (D : Nat → List Nat) (hs : LS w0 FS w) (rX : LR FS w gx 0 X) (rY : LR FS w gy 0 Y) (lX : X.length = k) (lY : Y.length = r) (k1 : 1 ≤ k) (k14 : k ≤ 14) (r4 : r ≤ 4)
    (hD : St2 w g k D) (lD : ∀ i, i < k → (D i).length = L) (sD : ∀ i u, (D i).getD u 0 < 256) (hL : L ≤ 70) :
    Calls Try.prog 23 #[.agg #[.slice (some ⟨gx, 0, none⟩) k cx, .slice (some ⟨gy, 0, none⟩) r cy], .slice (some ⟨g, 0, none⟩) k cap] w
      fun e w' => ∃ v, e = .returned v ∧ OwnV 9 w.heap.size w' v (strV r (acrZ k L (coefZ k r X Y) D)) ∧ Up Nul w w' := by
  have c0 : (w.alloc (.cells #[.slice (some ⟨gx, 0, none⟩) k cx, .slice (some ⟨gy, 0, none⟩) r cy] 25)).cell? ⟨w.heap.size, 0, none⟩ = some (.slice (some ⟨gx, 0, none⟩) k cx) := World.cell?_alloc_new w _ _ 0
  have c1 : (w.alloc (.cells #[.slice (some ⟨gx, 0, none⟩) k cx, .slice (some ⟨gy, 0, none⟩) r cy] 25)).cell? ⟨w.heap.size, 1, none⟩ = some (.slice (some ⟨gy, 0, none⟩) r cy) := World.cell?_alloc_new w _ _ 1
  have U := (Up.refl Nul w).alloc (.cells #[.slice (some ⟨gx, 0, none⟩) k cx, .slice (some ⟨gy, 0, none⟩) r cy] 25)
  have HW := hid (And.intro (And.intro c0 c1) (And.intro U (show w.heap.size < _ by simp : w.heap.size < (w.alloc (.cells #[.slice (some ⟨gx, 0, none⟩) k cx, .slice (some ⟨gy, 0, none⟩) r cy] 25)).heap.size)))
  have HS := hid (And.intro hs (And.intro (And.intro rX rY) (And.intro (And.intro lX lY) (And.intro hD (And.intro lD sD)))))
  clear hs rX rY lX lY hD lD sD U
  go_enter Try.func23, Try.ntmps23
  go_wp2_with fail
  generalize w.alloc (.cells #[.slice (some ⟨gx, 0, none⟩) k cx, .slice (some ⟨gy, 0, none⟩) r cy] 25) = W0 at *
  obtain ⟨V, HV⟩ : ∃ q, Hid (w.heap.size = q) := ⟨_, rfl⟩
  clear c0 c1
  rw [HV.out] at HW
  try rw [HV.out]
  go_loopw [5, 6] (fun v i wr => ∃ t : Nat, t ≤ r ∧ i = .int .i64 t ∧ OwnV 9 W0.heap.size wr v (strV t (acrZ k L (coefZ k r X Y) D)) ∧ Up Nul W0 wr) (fun _ i _ => r - (intOf i).toNat)
  case atStart => exact ⟨0, by omega, rfl, OwnV.nil _ _ _, Up.refl _ _⟩
  case round =>
    obtain ⟨j, hj, rfl, ho, hu⟩ := hrel
    have HO := hid (And.intro ho hu)
    clear ho hu
    have d1 := (HO.out.2.cell (p := ⟨V, 1, none⟩) HW.out.2.2 id).trans HW.out.1.2
    by_cases hlt : j < r
    · have HU1 := hid (HW.out.2.1.trans HO.out.2)
      have s0 := (HS.out.2.2.2.1.up HU1.out).cells 0 (by omega)
      have z0 : (strOf (D 0)).size = L := by rw [strOf_size]; exact HS.out.2.2.2.2.1 0 (by omega)
      generalize strOf (D 0) = str0 at s0 z0
      have hmk := make_bytes wr L (by omega)
      have i1 : (j : Int) < (r : Int) := by omega
      have i0 : (0 : Int) < (k : Int) := by omega
      go_wp2_with fail
      have HB := hid (And.intro (HO.out.1.alloc (.cells (bys (zer L)) 5)) (And.intro (HO.out.2.alloc (.cells (bys (zer L)) 5)) (Blk.new wr _ (zer_small L))))
      have HQW : Hid (W0.heap.size ≤ wr.heap.size) := HO.out.2.size
      clear hmk HU1 s0 z0 d1 HO
      generalize wr.alloc (.cells (bys (zer L)) 5) = wa at *
      generalize wr.heap.size = q at *
      clear wr
      go_loopw [8] (fun i wx => ∃ s : Nat, s ≤ k ∧ i = .int .i64 s ∧ OwnV 9 W0.heap.size wx u5 (strV j (acrZ k L (coefZ k r X Y) D)) ∧ Up Nul W0 wx ∧ ∃ y, Blk wx q y ∧ y.length = L ∧ ∀ u, u < L → y.getD u 0 = encP k L (coefZ k r X Y) D j s u) (fun i _ => k - (intOf i).toNat)
      case atStart => exact ⟨0, by omega, rfl, HB.out.1, HB.out.2.1, _, HB.out.2.2, zer_length _, fun u hu => by
        show (zer L).getD u 0 = 0
        simp [zer, List.getD_eq_getElem?_getD, hu]⟩
      case round =>
        clear HB
        obtain ⟨s, hsk, rfl, ho, hu, y, hb, hl, hy⟩ := hrel
        have HB := hid (And.intro (And.intro ho hu) (And.intro hb (And.intro hl hy)))
        clear ho hu hb hl hy
        have d0 := (HB.out.1.2.cell (p := ⟨V, 0, none⟩) HW.out.2.2 id).trans HW.out.1.1
        have d1 := (HB.out.1.2.cell (p := ⟨V, 1, none⟩) HW.out.2.2 id).trans HW.out.1.2
        by_cases hlt2 : s < k
        · have HU1 := hid (HW.out.2.1.trans HB.out.1.2)
          have i2 : (s : Int) < (k : Int) := by omega
          go_wp2_with fail
          refine (refCoef_raw FS gx 0 cx gy 0 cy k r X Y _ (HS.out.2.1.1.nxt (HS.out.1.nul HU1.out)) (HS.out.2.1.2.nxt (HS.out.1.nul HU1.out)) HS.out.2.2.1.1 HS.out.2.2.1.2 j s).mono ?_
          rintro e w1 ⟨rfl, u1⟩
          have HC : Hid (cfo k r X Y j s = (coefZ k r X Y).getD (j * k + s) 0) := by
            show _ = _
            unfold cfo
            rw [if_pos (by omega), coefZ_at hlt hlt2]
            simp
          rw [HC.out]
          obtain ⟨v, VV⟩ : ∃ v, Hid ((coefZ k r X Y).getD (j * k + s) 0 = v) := ⟨_, rfl⟩
          have v8 : v < 256 := by rw [← VV.out, coefZ_at hlt hlt2]; exact GfM.inv_lt _
          rw [VV.out]
          have HB1 := hid (And.intro (And.intro (OwnV.up HB.out.1.1 u1 fun _ _ _ => id) (HB.out.1.2.trans u1)) (And.intro (HB.out.2.1.up u1 id) HB.out.2.2))
          have s1 := fun (W : World) (h : Up Nul W0 W) => hid ((HS.out.2.2.2.1.up (HW.out.2.1.trans h)).cells s hlt2)
          have z1 : (strOf (D s)).size = L := by rw [strOf_size]; exact HS.out.2.2.2.2.1 s hlt2
          have HNA : Hid (∀ u (h : u < (strOf (D s)).size), (strOf (D s))[u].toNat = (D s).getD u 0) := fun u h => by rw [← nums_at, nums_strOf (HS.out.2.2.2.2.2 s)]
          generalize strOf (D s) = str at s1 z1 HNA
          have HS1 := hid s1
          clear s1 d0 d1 HB HU1 u1 HC
          go_wp2_with fail
          go_loopw [10] (fun i wx => ∃ t : Nat, t ≤ L ∧ i = .int .i64 t ∧ OwnV 9 W0.heap.size wx u5 (strV j (acrZ k L (coefZ k r X Y) D)) ∧ Up Nul W0 wx ∧ ∃ y2, Blk wx q y2 ∧ y2.length = L ∧ ∀ u, u < L → y2.getD u 0 = if u < t then encP k L (coefZ k r X Y) D j (s + 1) u else encP k L (coefZ k r X Y) D j s u) (fun i _ => L - (intOf i).toNat)
          case atStart => exact ⟨0, by omega, rfl, HB1.out.1.1, HB1.out.1.2, y, HB1.out.2.1, HB1.out.2.2.1, fun u hu => by rw [if_neg (Nat.not_lt_zero _)]; exact HB1.out.2.2.2 u hu⟩
          case round =>
            clear HB1
            obtain ⟨t, ht, rfl, ho, hu, y2, hb, hl, hy⟩ := hrel
            have HB := hid (And.intro (And.intro ho hu) (And.intro hb (And.intro hl hy)))
            clear ho hu hb hl hy
            by_cases hlt3 : t < L
            · have x0 := HB.out.2.1.cell t (by rw [HB.out.2.2.1]; exact hlt3)
              have f0 := HB.out.2.1.froz t
              have s1 := (HS1.out _ HB.out.1.2).out
              have HV := hid (HB.out.2.2.2 t hlt3)
              rw [if_neg (Nat.lt_irrefl _)] at HV
              have x8 : y2.getD t 0 < 256 := by rw [HV.out]; exact GfM.xs_lt fun _ _ => GfM.mul_lt _ _
              obtain ⟨xx, XX⟩ : ∃ x, Hid (y2.getD t 0 = x) := ⟨_, rfl⟩
              rw [XX.out] at x0 x8
              have hlt4 : t < str.size := by omega
              have q2 := HNA.out t hlt4
              have p8 := HS.out.2.2.2.2.2 s t
              obtain ⟨p, PP⟩ : ∃ x, Hid ((D s).getD t 0 = x) := ⟨_, rfl⟩
              rw [PP.out] at q2 p8
              obtain ⟨mv, MV⟩ : ∃ x, Hid (GfM.mul v p = x) := ⟨_, rfl⟩
              have m8 : mv < 256 := by rw [← MV.out]; exact GfM.mul_lt _ _
              have hxx := u8_xor_nat xx mv x8 m8
              have HST : Hid (xx ^^^ mv = encP k L (coefZ k r X Y) D j (s + 1) t) := by
                show _ = _
                have e1 : encP k L (coefZ k r X Y) D j (s + 1) t = encP k L (coefZ k r X Y) D j s t ^^^ GfM.mul ((coefZ k r X Y).getD (j * k + s) 0) ((D s).getD t 0) := rfl
                rw [e1, VV.out, PP.out, MV.out, ← HV.out, XX.out]
              have j1 : (0 : Int) ≤ (t : Int) := by omega
              have j2 : (t : Int) < (L : Int) := by omega
              have j3 : (t : Int) < (str.size : Int) := by omega
              have k0 : (0 : Int) ≤ (s : Int) := by omega
              have k2 : (s : Int) < (k : Int) := by omega
              have v9 := v8
              have hu2 : Up (One q) wr (wr.setCell ⟨q, t, none⟩ (.int .u8 (xx ^^^ mv : Nat))).drew := ((Up.refl _ _).setCell (p := ⟨q, t, none⟩) (.inr (show One q q from rfl)) _).drew
              have HN : Hid (OwnV 9 W0.heap.size (wr.setCell ⟨q, t, none⟩ (.int .u8 (xx ^^^ mv : Nat))).drew u5 (strV j (acrZ k L (coefZ k r X Y) D)) ∧ Up Nul W0 (wr.setCell ⟨q, t, none⟩ (.int .u8 (xx ^^^ mv : Nat))).drew ∧ Blk (wr.setCell ⟨q, t, none⟩ (.int .u8 (xx ^^^ mv : Nat))).drew q (y2.set t (xx ^^^ mv))) :=
                ⟨OwnV.apart HB.out.1.1 hu2 (fun g hg e => own_ne2 (by decide) HB.out.1.1 HB.out.2.1 (by rw [hg]; exact congrArg some e)), (HB.out.1.2.setCell (p := ⟨q, t, none⟩) (.inl HQW.out) _).drew, (HB.out.2.1.set t _ (GfM.xor_lt x8 m8)).drew⟩
              clear hu2
              go_wp2_with fail
              go_region_with ((go_at_call 45; (with_reducible refine (refMul_any v p _ v9 p8).mono ?_); rintro e w5 ⟨rfl, rfl⟩; rw [MV.out]))
              all_goals
                go_wp2
                go_roundw
                case rel => exact ⟨t + 1, by omega, by go_num, HN.out.1, HN.out.2.1, y2.set t (xx ^^^ mv), HN.out.2.2, by rw [List.length_set]; exact HB.out.2.2.1, fun u hu => by
                  rw [getD_set _ _ _ _ (by rw [HB.out.2.2.1]; exact hlt3)]
                  by_cases e : u = t
                  · rw [if_pos e, if_pos (by omega), e]; exact HST.out
                  · rw [if_neg e, HB.out.2.2.2 u hu]
                    by_cases e2 : u < t
                    · rw [if_pos e2, if_pos (by omega)]
                    · rw [if_neg e2, if_neg (by omega)]⟩
                case measure => simp [intOf]; omega
            · obtain rfl : L = t := by omega
              go_wp2
              go_roundw
              case rel => exact ⟨s + 1, by omega, by go_num, HB.out.1.1, HB.out.1.2, y2, HB.out.2.1, HB.out.2.2.1, fun u hu => by rw [HB.out.2.2.2 u hu, if_pos hu]⟩
              case measure => simp [intOf]; omega
        · obtain rfl : k = s := by omega
          have hyd : y = acrZ k L (coefZ k r X Y) D j := by
            refine eq_tab HB.out.2.2.1 fun u hu => ?_
            rw [HB.out.2.2.2 u hu]
            rfl
          have z1 := conv_row (cap := L) (blk_row HB.out.2.1) HB.out.2.2.1
          have HL : Hid ((strV j (acrZ k L (coefZ k r X Y) D)).length + 1 ≤ 1000000) := by show _ ≤ _; rw [strV_length]; omega
          have HNV : Hid (strV (j + 1) (acrZ k L (coefZ k r X Y) D) = strV j (acrZ k L (coefZ k r X Y) D) ++ [.string (strOf y)]) := by show _ = _; rw [strV_next, hyd]
          generalize strOf y = sr at z1 HNV
          have HU1 := hid HB.out.1
          clear HB hyd
          go_wp2_with (first
            | (at_builtin; refine wpList_append_vals Try.underlying42 info_str rfl (by omega) rfl (.tmp 56) (.tmp 59) rfl W0.heap.size u5 _ rfl (OwnV.alloc HU1.out.1 _) ⟨wr.heap.size, 0, none⟩ 1 1 [.string sr] rfl (fun j u hj => by
                match j, hj with
                | 0, hj => cases hj; exact World.cell?_alloc_new wr _ _ 0) (fun u hu => by cases hu with | head => rfl | tail _ h => cases h) rfl HL.out (by have := HU1.out.2.size; simp; omega) ?_; intro v2 w2 G1 G2)
            | go_in)
          go_roundw
          case rel => exact ⟨j + 1, by omega, by go_num, by rw [HNV.out]; exact G1.out, (HU1.out.2.alloc _).grown G2.out fun q hq => OwnV.base HU1.out.1 q hq⟩
          case measure => simp [intOf]; omega
    · obtain rfl : r = j := by omega
      go_wp2
      go_ret
      exact ⟨_, rfl, HO.out.1.weak HW.out.2.1.size, HW.out.2.1.trans HO.out.2⟩
end Go.Proofs.Ytebglmfdchfplaa
