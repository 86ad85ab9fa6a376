/- 'Merge'. -/
import Derived.Test.YtmaffnadmfphpaaGreatConvData
namespace Go.Proofs.YtmaffnadmfphpaaGreat
open Go.RowKit
set_option linter.unusedVariables false

theorem Up.fresh2 {S : Nat → Prop} {q : Nat} {W w w' : World} (h : Up S W w) (u : Up (One q) w w') (hq : W.heap.size ≤ q) : Up S W w' := by
  have h1 : Up (fun k => S k ∨ One q k) W w := h.mono fun k _ e => .inl e
  have h2 : Up (fun k => S k ∨ One q k) w w' := u.mono fun k _ e => .inr e
  exact (h1.trans h2).mono fun k hk e => by
    rcases e with e | e
    · exact e
    · unfold One at e
      omega
theorem run_copy_two (w : World) (ty : TypeId) (gl S : Nat) (x0 x1 y0 y1 : Value) (hx0 : w.cell? ⟨S, 0, none⟩ = some x0) (hx1 : w.cell? ⟨S, 1, none⟩ = some x1) (hy0 : w.cell? ⟨gl, 0, none⟩ = some y0) (hy1 : w.cell? ⟨gl, 1, none⟩ = some y1)
    (f0 : w.frozen? ⟨gl, 0, none⟩ = false) (f1 : w.frozen? ⟨gl, 1, none⟩ = false) (o0 : x0.oneCell' = true) (o1 : x1.oneCell' = true) :
    (Builtin.copy_ #[30, 30] ty #[.slice (some ⟨gl, 0, none⟩) 4 4, .slice (some ⟨S, 0, none⟩) 2 2]).run Tryz.prog w = .ok (goInt 2) ((w.setCell ⟨gl, 0, none⟩ x0).setCell ⟨gl, 1, none⟩ x1) := by
  have hl := run_loadCells_list (P := Tryz.prog) w ⟨S, 0, none⟩ [x0, x1] (fun j v hj => by
    match j, hj with
    | 0, hj => cases hj; exact hx0
    | 1, hj => cases hj; exact hx1)
  have s0 : (store ((⟨gl, 0, none⟩ : Addr).add 0) x0).run Tryz.prog w = .ok () (w.setCell ⟨gl, 0, none⟩ x0) := by
    rw [add_at, run_store Tryz.prog w _ x0 _ o0, Nat.add_zero, hy0]
    simp [f0]
  have c1 : (w.setCell ⟨gl, 0, none⟩ x0).cell? ⟨gl, 1, none⟩ = some y1 := (World.cell?_setCell_other _ _ _ _ (by intro e; have := congrArg Addr.off e; simp at this)).trans hy1
  have s1 : (store ((⟨gl, 0, none⟩ : Addr).add 1) x1).run Tryz.prog (w.setCell ⟨gl, 0, none⟩ x0) = .ok () ((w.setCell ⟨gl, 0, none⟩ x0).setCell ⟨gl, 1, none⟩ x1) := by
    rw [add_at, run_store Tryz.prog _ _ x1 _ o1, Nat.zero_add, c1]
    simp [World.frozen?_setCell, f1]
  obtain ⟨i0, hi, _, hz, _⟩ := info_parts info_sl
  have hs2 : (storeCells ⟨gl, 0, none⟩ [x0, x1]).run Tryz.prog w = .ok () ((w.setCell ⟨gl, 0, none⟩ x0).setCell ⟨gl, 1, none⟩ x1) := by
    simp only [storeCells, Sem.run_bind, s0, s1, Result.andThen_ok]
    rfl
  have hl2 : (loadCells ⟨S, 0, none⟩ 2).run Tryz.prog w = .ok #[x0, x1] w := hl
  simp [Builtin.copy_, run_underlying Tryz.underlying30, Builtin.lenOf, Builtin.firstCells, sizeOf, typeInfo, hi, hz, hl2, hs2]
set_option maxRecDepth 100000 in
set_option maxHeartbeats 3200000 in
theorem cmergeL (FS : List Nat) (w0 w : World) (F go co L : Nat) (G O C : Nat → Nat) (R : Nat → Nat → List Nat) (hs : LS w0 FS w) (hF : F ∈ FS) (hgo : go < w.heap.size) (hgb : go ∉ FS)
    (h0 : ∀ i, i < 3 → w.cell? ⟨go, i, none⟩ = some (.slice (some ⟨G i, O i, none⟩) 6 (C i))) (hl : ∀ i, i < 3 → LL FS w (G i) (O i) 6 fun j => some (R i j)) (lR : ∀ i, i < 3 → ∀ j, j < 6 → (R i j).length = L) (L1 : 1 ≤ L) (L64 : L ≤ 64) (hC : ∀ i, i < 3 → 4 ≤ C i) :
    Calls Tryz.prog 10 #[.pointer (some ⟨F, 0, none⟩), .slice (some ⟨go, 0, none⟩) 3 co] w
      fun e w' => ∃ gl, e = .returned (.tuple #[.slice (some ⟨gl, 0, none⟩) 4 4, .int .i64 0]) ∧ (∀ FS' : List Nat, (∀ x, w.heap.size ≤ x → x ∉ FS') → LL FS' w' gl 0 4 fun j => some (if j < 2 then sumK 3 L R j else acrZ 14 L widZ (dat14 L R) j)) ∧ Nxt FS w w' := by
  have hnot : ∀ (x : Bool) (w : World), (Op.unary .not (.bool x)).run Tryz.prog w = .ok (.bool (!x)) w := fun _ _ => rfl
  have HX := hid (And.intro hs (And.intro (And.intro hgo hgb) (And.intro h0 (And.intro hl (And.intro lR hC)))))
  have HFM := hid hF
  obtain ⟨RR, HRR⟩ : ∃ RR : Nat → Option (List Nat), Hid (RR = fun j => some (if j < 2 then sumK 3 L R j else acrZ 14 L widZ (dat14 L R) j)) := ⟨_, rfl⟩
  rw [← HRR.out]
  have HAT : Hid (∀ w', Nxt FS w w' → (∀ i, i < 3 → w'.cell? ⟨go, 0 + i, none⟩ = some (.slice (some ⟨G i, O i, none⟩) 6 (C i))) ∧ (∀ i, i < 3 → LL FS w' (G i) (O i) 6 fun j => some (R i j)) ∧ go < w'.heap.size) := fun w' n =>
    ⟨fun i hi => by rw [Nat.zero_add]; exact (n.up.cell (p := ⟨go, i, none⟩) hgo hgb).trans (h0 i hi), fun i hi => (hl i hi).nxt n, Nat.lt_of_lt_of_le hgo n.up.size⟩
  clear hs hF hgo hgb h0 hl lR hC
  go_enter Tryz.func10, Tryz.ntmps10
  have H0 := hid (HAT.out w HX.out.1.refl)
  go_wp2_with fail
  refine (calike_good FS go 0 3 co 0 0 L G O C R none [] w (by omega) (by omega) H0.out.2.2 H0.out.1 H0.out.2.1 HX.out.2.2.2.2.1 L1 L64 (Srow.nil _) (fun _ h => by cases h) (by omega)).mono ?_
  rintro e w1 ⟨rfl, u1⟩
  have H1 := hid (HX.out.1.nul u1)
  clear u1 H0
  go_wp2_with fail
  refine (wideL (HX.out.1.nxt H1.out) HFM.out).mono ?_
  rintro e w2 ⟨c, pp, pq, sp, sq, rfl, hc, n2⟩
  have H2 := hid (And.intro (H1.out.trans n2) hc)
  clear hc n2 H1
  have HA2 := hid (HAT.out w2 H2.out.1)
  go_wp2_with fail
  refine (alldata_any FS w0 w2 go co L G O C R (HX.out.1.nxt H2.out.1) HA2.out.2.2 (fun i hi => by have := HA2.out.1 i hi; rwa [Nat.zero_add] at this) HA2.out.2.1 HX.out.2.2.2.2.1 L64 HX.out.2.2.2.2.2).mono ?_
  rintro e w3 ⟨g, cg, rfl, hg, u3⟩
  have n3 := (HX.out.1.nxt H2.out.1).nul u3
  have H3 := hid (And.intro (H2.out.1.trans n3) (And.intro (H2.out.2.nxt n3) hg))
  clear hg n3 u3 HA2 H2
  go_wp2_with fail
  refine (encL (L := L) (HX.out.1.nxt H3.out.1) H3.out.2.1 H3.out.2.2 (fun i hi => by unfold dat14; split; exact HX.out.2.2.2.2.1 _ (by omega) _ (by omega); exact zer_length _) L64).mono ?_
  rintro e w4 ⟨gl, b, rfl, he, n4, u4⟩
  have H4 := hid (And.intro (H3.out.1.trans n4) (And.intro he (he.ll (HX.out.1.nxt H3.out.1))))
  have HFR := hid (And.intro he.frz he.gll)
  have HE4 := hid he
  have HN3 : Hid (w.heap.size ≤ w3.heap.size) := H3.out.1.up.size
  have HGB : Hid (gl ∉ FS) := (HX.out.1.nxt H3.out.1).lt he.glo
  have HGW : Hid (w.heap.size ≤ gl) := Nat.le_trans H3.out.1.up.size he.glo
  clear he n4 u4 H3
  have HA4 := hid (HAT.out w4 H4.out.1)
  go_wp2_with fail
  refine (csums_any FS w0 w4 go 0 3 co L G O C R (HX.out.1.nxt H4.out.1) (by omega) (by omega) HA4.out.2.2 HA4.out.1 HA4.out.2.1 HX.out.2.2.2.2.1 L64).mono ?_
  rintro e w5 ⟨S, b2, rfl, he2, u5⟩
  have n5 := (HX.out.1.nxt H4.out.1).nul u5
  have H5 := hid (H4.out.1.trans n5)
  have HSG : Hid (gl < w5.heap.size) := Nat.lt_of_lt_of_le HFR.out.2 u5.size
  have HE5 := hid (And.intro he2 u5)
  have x0 := he2.lin 0 (by omega)
  have x1 := he2.lin 1 (by omega)
  have y0 := (u5.cell (p := ⟨gl, 0, none⟩) HFR.out.2 id).trans (HE4.out.lin 0 (by omega))
  have y1 := (u5.cell (p := ⟨gl, 1, none⟩) HFR.out.2 id).trans (HE4.out.lin 1 (by omega))
  have f0 := (u5.froz (p := ⟨gl, 0, none⟩) HFR.out.2 id).trans (HFR.out.1 0)
  have f1 := (u5.froz (p := ⟨gl, 1, none⟩) HFR.out.2 id).trans (HFR.out.1 1)
  have HQ := hid (And.intro (And.intro x0 x1) (And.intro y0 y1))
  clear he2 n5 u5 HA4 x0 x1 y0 y1
  have hcp := run_copy_two w5 3 gl S _ _ _ _ HQ.out.1.1 HQ.out.1.2 HQ.out.2.1 HQ.out.2.2 f0 f1 rfl rfl
  have HU : Hid (Up (One gl) w5 ((w5.setCell ⟨gl, 0, none⟩ (.slice (some ⟨b2 0, 0, none⟩) L L)).setCell ⟨gl, 1, none⟩ (.slice (some ⟨b2 1, 0, none⟩) L L))) :=
    ((Up.refl _ w5).setCell (p := ⟨gl, 0, none⟩) (.inr (show One gl gl from rfl)) _).setCell (p := ⟨gl, 1, none⟩) (.inr (show One gl gl from rfl)) _
  have hne : ∀ i j : Nat, i ≠ j → (⟨gl, i, none⟩ : Addr) ≠ ⟨gl, j, none⟩ := fun i j h e => h (by have := congrArg Addr.off e; exact this)
  have e0 : ((w5.setCell ⟨gl, 0, none⟩ (.slice (some ⟨b2 0, 0, none⟩) L L)).setCell ⟨gl, 1, none⟩ (.slice (some ⟨b2 1, 0, none⟩) L L)).cell? ⟨gl, 0, none⟩ = some (.slice (some ⟨b2 0, 0, none⟩) L L) :=
    (World.cell?_setCell_other _ _ _ _ (by first | exact hne 0 1 (by omega) | exact hne 1 0 (by omega))).trans (World.cell?_setCell_same _ _ _ HQ.out.2.1)
  have e1 : ((w5.setCell ⟨gl, 0, none⟩ (.slice (some ⟨b2 0, 0, none⟩) L L)).setCell ⟨gl, 1, none⟩ (.slice (some ⟨b2 1, 0, none⟩) L L)).cell? ⟨gl, 1, none⟩ = some (.slice (some ⟨b2 1, 0, none⟩) L L) :=
    World.cell?_setCell_same _ _ _ ((World.cell?_setCell_other _ _ _ _ (by first | exact hne 0 1 (by omega) | exact hne 1 0 (by omega))).trans HQ.out.2.2)
  have e2 : ∀ i, 2 ≤ i → ((w5.setCell ⟨gl, 0, none⟩ (.slice (some ⟨b2 0, 0, none⟩) L L)).setCell ⟨gl, 1, none⟩ (.slice (some ⟨b2 1, 0, none⟩) L L)).cell? ⟨gl, i, none⟩ = w5.cell? ⟨gl, i, none⟩ := fun i hi =>
    (World.cell?_setCell_other _ _ _ _ (by first | exact hne i 1 (by omega) | exact hne 1 i (by omega))).trans (World.cell?_setCell_other _ _ _ _ (by first | exact hne i 0 (by omega) | exact hne 0 i (by omega)))
  generalize ((w5.setCell ⟨gl, 0, none⟩ (.slice (some ⟨b2 0, 0, none⟩) L L)).setCell ⟨gl, 1, none⟩ (.slice (some ⟨b2 1, 0, none⟩) L L)) = w6 at *
  have HN : Hid (Nxt FS w w6) := ⟨H5.out.up.fresh2 HU.out HGW.out, fun F' hF' => (H5.out.fld F' hF').up HU.out fun e => HGB.out (by have e2 : F' = gl := e; rw [← e2]; exact hF')⟩
  have HLR : Hid (∀ q (z : List Nat) (FS' : List Nat), Blk w5 q z → z.length = L → q ≠ gl → q ∉ FS' → LR FS' w6 q 0 z) := fun q z FS' hb hz hq hf => by
    have h1 := hb.up HU.out hq
    have := h1.row 0 L (by rw [hz]; omega)
    rw [List.drop_zero, List.take_of_length_le (by rw [hz]; exact Nat.le_refl _)] at this
    exact ⟨this, h1.lt, hf⟩
  have HLL : Hid (∀ FS' : List Nat, (∀ x, w.heap.size ≤ x → x ∉ FS') → LL FS' w6 gl 0 4 RR) := fun FS' hav => ⟨fun i hi => by
    rw [Nat.zero_add, HRR.out]
    by_cases h2 : i < 2
    · simp only [if_pos h2]
      have hb := HE5.out.1.rows i h2
      have hg : b2 i ≠ gl := by have h3 := (HE5.out.1.own i h2).1; have h4 := HFR.out.2; omega
      have hl := HE5.out.1.lens i h2
      refine ⟨.slice (some ⟨b2 i, 0, none⟩) L L, ?_, b2 i, 0, L, by rw [hl], HLR.out _ _ _ hb hl hg (hav _ (Nat.le_trans H4.out.1.up.size (HE5.out.1.own i h2).1))⟩
      match i, h2 with
      | 0, _ => exact e0
      | 1, _ => exact e1
    · simp only [if_neg h2]
      have hb := (HE4.out.rows i hi).up HE5.out.2 id
      have hl := HE4.out.lens i hi
      exact ⟨.slice (some ⟨b i, 0, none⟩) L L, (e2 i (by omega)).trans ((HE5.out.2.cell (p := ⟨gl, i, none⟩) HFR.out.2 id).trans (HE4.out.lin i hi)), b i, 0, L, by rw [hl], HLR.out _ _ _ hb hl (HE4.out.own i hi).2 (hav _ (Nat.le_trans HN3.out (HE4.out.own i hi).1))⟩, Nat.lt_of_lt_of_le HSG.out HU.out.size, hav _ HGW.out⟩
  clear e0 e1 e2 hne
  go_wp2
  go_ret2
  exact ⟨gl, rfl, HLL.out, HN.out⟩
end Go.Proofs.YtmaffnadmfphpaaGreat
