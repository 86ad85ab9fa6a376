/- Part 7 of what the walks rest on: CodeDecode, CodeCheck, CodeNew, CodeMake. -/
import Derived.Test.YtkenfabnbmkhbaaGreatCB6
namespace Go.Proofs.YtkenfabnbmkhbaaGreat
open Go.RowKit
set_option linter.unusedVariables false

theorem decode_lost (FS : List Nat) (w0 w : World) (c F k r pp pq sp sq : Nat) (Z : List Nat) (g o n cap L : Nat) (S : Nat → Option (List Nat)) (hs : LS w0 FS w) (hc : CD FS w c F k r pp pq sp sq Z) (hS : LL FS w g o n S) (hn : n = k + r) (hf : Fine S n L) (hL : L ≤ 64) (hT : (Tl S n).length < k) :
    Calls Tryz.prog 13 #[.pointer (some ⟨c, 0, none⟩), .slice (some ⟨g, o, none⟩) n cap] w
      fun e w' => e = .returned (.tuple #[.slice none 0 0, .int .i64 3]) ∧ Up Nul w w' := by
  have H := hid (there_fine FS w0 w c F k r pp pq sp sq Z g o n cap L S hs hc hS hn hf hL)
  have HC := hid (And.intro hs hc)
  have hlt : (((Tl S n).length : Nat) : Int) < (k : Int) := by omega
  clear hs hc hn hS hf hT
  go_enter Tryz.func13, Tryz.ntmps13
  go_wp2_with fail
  refine H.out.mono ?_
  rintro e w1 ⟨⟨a, capm, rfl, _⟩, u⟩
  have HU := hid u
  have x1 := (HC.out.2.nxt (HC.out.1.nul u)).k0
  clear u H
  go_wp2
  go_ret2
  exact ⟨rfl, HU.out⟩
/-- Lines as values. -/
def lnV (n L : Nat) (b : Nat → Nat) : List Value := (List.range n).map fun i => Value.slice (some ⟨b i, 0, none⟩) L L
theorem lnV_length (n L : Nat) (b : Nat → Nat) : (lnV n L b).length = n := by simp [lnV]
theorem lnV_at {n L i : Nat} {b : Nat → Nat} (h : i < n) : (lnV n L b)[i]? = some (.slice (some ⟨b i, 0, none⟩) L L) := by simp [lnV, h]
theorem lnV_one (n L : Nat) (b : Nat → Nat) : ∀ u ∈ lnV n L b, u.oneCell' = true := by
  intro u hu
  obtain ⟨i, _, rfl⟩ := List.mem_map.1 hu
  rfl
theorem add_zero_at (g j : Nat) : (⟨g, 0, none⟩ : Addr).add j = ⟨g, j, none⟩ := by
  by_cases h0 : j = 0
  · subst h0; simp [Addr.add]
  · simp [Addr.add, h0]
theorem Elim.vals {W w : World} {F gl n m : Nat} {b : Nat → Nat} {L : Nat → List Nat} (h : Elim W F gl n m b L w) : ∀ j u, (lnV n m b)[j]? = some u → w.cell? ((⟨gl, 0, none⟩ : Addr).add j) = some u := by
  intro j u hj
  have hlt : j < n := by
    rcases Nat.lt_or_ge j n with h | h
    · exact h
    · rw [List.getElem?_eq_none (by rw [lnV_length]; exact h)] at hj; cases hj
  rw [lnV_at hlt] at hj
  rw [add_zero_at, h.lin j hlt]
  exact hj
/-- Data and parities, one behind the other. -/
def two {A : Type} (k : Nat) (x y : Nat → A) (t : Nat) : A := if t < k then x t else y (t - k)
theorem whole_made {w w2 w3 w4 : World} {F gd gp k r L base : Nat} {bd bp : Nat → Nat} {D P : Nat → List Nat} {v : Value} {T : TypeId} (h1 : Elim w F gd k L bd D w3) (h2 : Elim w2 F gp r L bp P w3) (hlt : ∀ i, i < k → bd i < w2.heap.size) (u2 : Up (One F) w w2)
    (ho : OwnV T base w4 v (lnV k L bd ++ lnV r L bp)) (hb : w3.heap.size ≤ base) (u : Up Nul w3 w4) (hk : 1 ≤ k) :
    ∃ h cap, v = .slice (some ⟨h, 0, none⟩) (k + r) cap ∧ Elim w F h (k + r) L (two k bd bp) (two k D P) w4 := by
  have hl : (lnV k L bd ++ lnV r L bp).length = k + r := by rw [List.length_append, lnV_length, lnV_length]
  obtain ⟨h, cap, e, e2, e3, e4, e5, _⟩ := OwnV.row ho (by omega)
  have hw3 := h1.up.size
  have hw2 := u2.size
  refine ⟨h, cap, by rw [e, hl], { lin := fun i hi => e4 i _ ?_, frz := e5, gll := e3, glo := by omega, rows := fun i hi => ?_, lens := fun i hi => ?_, own := fun i hi => ?_, inj := fun i j hi hj => ?_, up := h1.up.trans u.nul }⟩
  · unfold two
    split
    · next hik => rw [List.getElem?_append_left (by rw [lnV_length]; exact hik)]; exact lnV_at hik
    · next hik => rw [List.getElem?_append_right (by rw [lnV_length]; omega), lnV_length]; exact lnV_at (by omega)
  · unfold two
    split
    · next hik => exact (h1.rows i hik).up u id
    · next hik => exact (h2.rows (i - k) (by omega)).up u id
  · unfold two
    split
    · next hik => exact h1.lens i hik
    · next hik => exact h2.lens (i - k) (by omega)
  · unfold two
    split
    · next hik =>
      have := h1.lt hik
      have := (h1.own i hik).1
      omega
    · next hik =>
      have := h2.lt (i := i - k) (by omega)
      have := (h2.own (i - k) (by omega)).1
      omega
  · unfold two
    intro he
    split at he
    · next hik =>
      split at he
      · next hjk => exact h1.inj i j hik hjk he
      · next hjk =>
        have := hlt i hik
        have := (h2.own (j - k) (by omega)).1
        omega
    · next hik =>
      split at he
      · next hjk =>
        have := hlt j hjk
        have := (h2.own (i - k) (by omega)).1
        omega
      · next hjk =>
        have := h2.inj (i - k) (j - k) (by omega) (by omega) he
        omega
/-- Lines, the first j that are there put back. -/
def cpy (T : List Nat) (S : Nat → Option (List Nat)) (R : Nat → List Nat) (j t : Nat) : List Nat := if t ∈ T.take j then (S t).getD [] else R t
theorem cpy_zero (T : List Nat) (S : Nat → Option (List Nat)) (R : Nat → List Nat) (t : Nat) : cpy T S R 0 t = R t := by simp [cpy]
theorem cpy_next {T : List Nat} {S : Nat → Option (List Nat)} {R : Nat → List Nat} {j : Nat} {z : List Nat} (hj : j < T.length) (e : S (T.getD j 0) = some z) (t : Nat) : updL (cpy T S R j) (T.getD j 0) z t = cpy T S R (j + 1) t := by
  have ht : T.take (j + 1) = T.take j ++ [T.getD j 0] := by
    rw [List.take_add_one, List.getElem?_eq_getElem hj]
    simp [List.getD_eq_getElem?_getD, List.getElem?_eq_getElem hj]
  unfold updL cpy
  rw [ht]
  by_cases h : t = T.getD j 0
  · rw [if_pos h, if_pos (List.mem_append.2 (.inr (by simp [h]))), h, e]
    rfl
  · rw [if_neg h]
    have : (t ∈ T.take j ++ [T.getD j 0]) ↔ t ∈ T.take j := by
      rw [List.mem_append]
      constructor
      · rintro (h1 | h1)
        · exact h1
        · exact absurd (List.mem_singleton.1 h1) h
      · exact Or.inl
    simp only [this]
/-- All shards, as those that are there say. -/
def decZ (k r L : Nat) (Z : List Nat) (S : Nat → Option (List Nat)) (M : GfM.Mx) : Nat → List Nat :=
  cpy (Tl S (k + r)) S (two k (acrZ k L (invZ k M) fun s => (S ((Tl S (k + r)).getD s 0)).getD []) (acrZ k L Z (acrZ k L (invZ k M) fun s => (S ((Tl S (k + r)).getD s 0)).getD []))) (Tl S (k + r)).length
theorem over_all {y z : List Nat} (h : y.length = z.length) : over y 0 z = z := by
  unfold over
  rw [List.take_zero, List.nil_append, Nat.zero_add, ← h, List.drop_length, List.append_nil]
theorem acrZ_length (k L : Nat) (z : List Nat) (R : Nat → List Nat) (j : Nat) : (acrZ k L z R j).length = L := tab_length _ _
set_option maxRecDepth 100000 in
set_option maxHeartbeats 3200000 in
theorem decode_good (FS : List Nat) (w0 w : World) (c F k r pp pq sp sq : Nat) (Z : List Nat) (g o n cap L : Nat) (S : Nat → Option (List Nat)) (M : GfM.Mx) (hs : LS w0 FS w) (hc : CD FS w c F k r pp pq sp sq Z) (hS : LL FS w g o n S)
    (hn : n = k + r) (hf : Fine S n L) (hL : L ≤ 64) (hT : k ≤ (Tl S n).length) (hM : GfM.run k (GfM.beside k (cz k (pickZ k k (unitZ k ++ Z) fun i => (Tl S n).getD i 0))) k = some M) :
    Calls Tryz.prog 13 #[.pointer (some ⟨c, 0, none⟩), .slice (some ⟨g, o, none⟩) n cap] w
      fun e w' => ∃ h capw b, e = .returned (.tuple #[.slice (some ⟨h, 0, none⟩) n capw, .int .i64 0]) ∧ Elim w F h n L b (decZ k r L Z S M) w' ∧ Fld F w' := by
  have H := hid (there_fine FS w0 w c F k r pp pq sp sq Z g o n cap L S hs hc hS hn hf hL)
  have k14 := hc.k14
  have r4 := hc.r4
  have c1 := hc.par.mat.c1
  have r1 := hc.par.mat.r1
  have HS := hid (And.intro hs (And.intro hc hS))
  have HF := hid (And.intro hf (And.intro hT (And.intro hM hn)))
  have HFM := hid hc.par.F
  have hge : ¬ ((((Tl S n).length : Nat) : Int) < (k : Int)) := by omega
  have HTN : Hid ((Tl S n).length ≤ n) := Tl_len S n
  obtain ⟨m, HM0⟩ : ∃ x, Hid ((Tl S n).length = x) := ⟨_, rfl⟩
  rw [HM0.out] at hge H
  have hmk : k ≤ m := by rw [← HM0.out]; exact hT
  have hn18 : n ≤ 18 := by omega
  have hm18 : m ≤ 18 := by have := HTN.out; rw [HM0.out] at this; omega
  clear hs hc hn hS hf hT hM
  go_enter Tryz.func13, Tryz.ntmps13
  go_wp2_with fail
  refine H.out.mono ?_
  rintro e w1 ⟨⟨a, capm, rfl, hcm, hplc, hbs⟩, u1⟩
  obtain ⟨gp, op, rfl, hgp, hrow⟩ : ∃ gp op, a = some ⟨gp, op, none⟩ ∧ gp < w1.heap.size ∧ RowI w1 gp op m fun i => ((Tl S n).getD i 0 : Nat) := by
    rcases hplc with e | e
    · omega
    · exact e
  have HU1 := hid u1
  have HN1 := hid (HS.out.1.nul u1)
  have x1 := (HS.out.2.1.nxt HN1.out).k0
  have HGF : Hid (gp ∉ FS ∧ gp ≠ F) := by
    have h1 : gp ∉ FS := HS.out.1.lt (hbs _ rfl)
    exact ⟨h1, fun e => h1 (by rw [e]; exact HFM.out)⟩
  have HRI := hid (And.intro hrow hgp)
  have HTS : Hid (∀ i, i < m → (Tl S n).getD i 0 < n ∧ S ((Tl S n).getD i 0) = some ((S ((Tl S n).getD i 0)).getD []) ∧ ((S ((Tl S n).getD i 0)).getD []).length = L) := fun i hi => by
    obtain ⟨h1, z, h2⟩ := Tl_mem (S := S) (n := n) (i := i) (by rw [HM0.out]; exact hi)
    exact ⟨h1, by rw [h2]; rfl, by rw [h2]; exact HF.out.1 _ h1 z h2⟩
  have HDA := hid (data_good FS w0 w1 c F k r pp pq sp sq Z g o n cap L gp op capm S (fun s => (S ((Tl S n).getD s 0)).getD []) (fun i => (Tl S n).getD i 0) M (HS.out.1.nxt HN1.out) (HS.out.2.1.nxt HN1.out) (HS.out.2.2.nxt HN1.out) HF.out.2.2.2 (fun i hi => HRI.out.1 i (by omega)) HRI.out.2 HGF.out.2
    (fun i hi => (HTS.out i (by omega)).1) (fun i hi => (HTS.out i (by omega)).2.1) (fun i hi => (HTS.out i (by omega)).2.2) hL HF.out.2.2.1)
  have i1 : (k : Int) ≤ (capm : Int) := by omega
  have i2 : (0 : Int) ≤ (k : Int) := by omega
  clear u1 hplc hbs hrow hgp H hcm
  go_wp2_with fail
  refine HDA.out.mono ?_
  rintro e w2 ⟨gd, bd, rfl, h1, h2⟩
  have HE1 := hid h1
  have HFL2 := hid h2
  have HN2 := hid (HN1.out.trans ((HS.out.1.nxt HN1.out).one HFM.out h1.up h2))
  have x2 := (HS.out.2.1.nxt HN2.out).p0
  obtain ⟨D, HD⟩ : ∃ D, Hid (D = acrZ k L (invZ k M) fun s => (S ((Tl S n).getD s 0)).getD []) := ⟨_, rfl⟩
  rw [← HD.out] at HE1
  have HAC := hid (across_any pp pq F r k gd 0 k L Z D FS w0 w2 (HS.out.1.nxt HN2.out) (HS.out.2.1.nxt HN2.out).par (HE1.out.ll (HS.out.1.nxt HN1.out)) (fun i hi => HE1.out.lens i hi) hL)
  clear h1 h2 HDA x1 i1
  go_wp2_with fail
  refine HAC.out.mono ?_
  rintro e w3 ⟨gq, bp, rfl, h1, h2⟩
  have HE2 := hid h1
  have HFL3 := hid h2
  have HE3 : Hid (Elim w1 F gd k L bd D w3) := HE1.out.step h1.up (fun e => by
      have := HE1.out.glo
      have := ((HS.out.1.nxt HN1.out).fld F HFM.out).lt
      unfold One at e
      omega) (fun i hi e => by
      have := (HE1.out.own i hi).1
      have := ((HS.out.1.nxt HN1.out).fld F HFM.out).lt
      unfold One at e
      omega) fun k hk e => e
  have HLT : Hid (∀ i, i < k → bd i < w2.heap.size) := fun i hi => HE1.out.lt hi
  obtain ⟨P, HP⟩ : ∃ P, Hid (P = acrZ k L Z D) := ⟨_, rfl⟩
  rw [← HP.out] at HE2
  clear h1 h2 HAC x2
  have q0 := World.cell?_alloc_new w3 #[.slice (some ⟨gd, 0, none⟩) k k, .slice (some ⟨gq, 0, none⟩) r r] 34 0
  have q1 := World.cell?_alloc_new w3 #[.slice (some ⟨gd, 0, none⟩) k k, .slice (some ⟨gq, 0, none⟩) r r] 34 1
  have HUA := hid ((Up.refl Nul w3).alloc (.cells #[.slice (some ⟨gd, 0, none⟩) k k, .slice (some ⟨gq, 0, none⟩) r r] 34))
  have HCT := hid (cat_s w3.heap.size gd gq 0 0 k r k r (lnV k L bd) (lnV r L bp) _ q0 q1 (fun j u hj => (HUA.out.cell (by rw [add_block]; exact HE3.out.gll) id).trans (HE3.out.vals j u hj)) (fun j u hj => (HUA.out.cell (by rw [add_block]; exact HE2.out.gll) id).trans (HE2.out.vals j u hj)) (lnV_one _ _ _) (lnV_one _ _ _) (lnV_length _ _ _) (lnV_length _ _ _)
    (Nat.lt_of_lt_of_le HE3.out.gll HUA.out.size) (Nat.lt_of_lt_of_le HE2.out.gll HUA.out.size) c1 (by omega) (by omega))
  clear q0 q1
  go_wp2_with fail
  refine HCT.out.mono ?_
  rintro e w4 ⟨v, rfl, hown, u4⟩
  obtain ⟨h, capw, rfl, hel⟩ := whole_made (HE3.out.back HU1.out.nul) HE2.out HLT.out (HU1.out.nul.trans HE1.out.up) hown HUA.out.size (HUA.out.trans u4) c1
  have hfl : Fld F w4 := HFL3.out.up (HUA.out.trans u4) id
  obtain ⟨Q, HQ⟩ : ∃ Q, Hid (Q = two k D P) := ⟨_, rfl⟩
  rw [← HQ.out] at hel
  have HW := hid (And.intro (hel.congr fun i _ => (cpy_zero (Tl S n) S Q i).symm) hfl)
  have HRI4 : Hid (∀ W, Up (One F) w W → Fld F W → LL FS W g o n S ∧ LS w0 FS W) := fun W u f => ⟨HS.out.2.2.nxt (HS.out.1.one HFM.out u f), HS.out.1.nxt (HS.out.1.one HFM.out u f)⟩
  have hn4 := HN2.out
  have HPL : Hid (Up (One F) w1 w4) := (HE1.out.up.trans HE2.out.up).trans (HUA.out.trans u4).nul
  have HGB : Hid (∀ i, i < n → two k bd bp i ≠ gp) := fun i hi => by
    unfold two
    have h1 := HRI.out.2
    split
    · next hik =>
      have := (HE1.out.own i hik).1
      omega
    · next hik =>
      have hik2 : i - k < r := by have := HF.out.2.2.2; omega
      have h2 := (HE2.out.own (i - k) hik2).1
      have h3 := HE1.out.up.size
      omega
  have HPI : Hid (RowI w4 gp op m (fun i => ((Tl S n).getD i 0 : Nat)) ∧ gp < w4.heap.size) := ⟨HRI.out.1.up HPL.out HRI.out.2 HGF.out.2, Nat.lt_of_lt_of_le HRI.out.2 HPL.out.size⟩
  clear hel hfl hown u4 hn4 HCT HPL HRI HE1 HE2 HE3 HUA HLT HFL2 HFL3 HN1 HN2 HU1
  rw [← HF.out.2.2.2] at HW ⊢
  go_wp2_with fail
  go_loopw [62] (fun i wr => ∃ j : Nat, j ≤ m ∧ i = .int .i64 j ∧ Elim w F h n L (two k bd bp) (cpy (Tl S n) S Q j) wr ∧ Fld F wr ∧ RowI wr gp op m (fun i => ((Tl S n).getD i 0 : Nat)) ∧ gp < wr.heap.size) (fun i _ => m - (intOf i).toNat)
  case atStart => exact ⟨0, by omega, rfl, HW.out.1, HW.out.2, HPI.out⟩
  case round =>
    clear HW HPI
    obtain ⟨j, hj, rfl, hel, hfl, hri, hgl⟩ := hrel
    have HEL := hid (And.intro hel hfl)
    have HRI := hid (And.intro hri hgl)
    clear hel hfl hri hgl
    by_cases hlt : j < m
    · obtain ⟨t1, t2, t3⟩ := HTS.out j hlt
      have HNX := hid (cpy_next (T := Tl S n) (S := S) (R := Q) (j := j) (by rw [HM0.out]; exact hlt) t2)
      have x1 : wr.cell? ⟨gp, op + j, none⟩ = some (.int .i64 ((Tl S n).getD j 0 : Nat)) := HRI.out.1 j hlt
      obtain ⟨t, ET⟩ : ∃ x, Hid ((Tl S n).getD j 0 = x) := ⟨_, rfl⟩
      rw [ET.out] at x1 t1 t2 t3 HNX
      obtain ⟨z, EZ⟩ : ∃ z, (S t).getD [] = z := ⟨_, rfl⟩
      rw [EZ] at t2 t3 HNX
      obtain ⟨bs, os, caps, x2, hr⟩ := (HRI4.out wr HEL.out.1.up HEL.out.2).1.at t1 t2
      rw [t3] at x2
      have x3 := HEL.out.1.lin t t1
      have HBL := hid (And.intro (HEL.out.1.rows t t1).drew (HEL.out.1.lens t t1))
      have HRR : Hid (Row wr.drew bs os z) := hr.row.up ((Up.refl Nul wr).drew) hr.lt id
      have HZL := hid t3
      have HTN1 := hid t1
      have HNE := hid (HGB.out t t1)
      obtain ⟨bt, BT⟩ : ∃ x, Hid (two k bd bp t = x) := ⟨_, rfl⟩
      rw [BT.out] at x3 HBL HNE
      have HG3 : Hid (g ≠ bt ∧ h ≠ bt) := by
        have h1 := (HEL.out.1.own t t1)
        rw [BT.out] at h1
        have h2 := HS.out.2.2.lt
        exact ⟨by omega, fun e => h1.2 e.symm⟩
      have j1 : (0 : Int) ≤ (j : Int) := by omega
      have j2 : (j : Int) < (m : Int) := by omega
      have j3 : (0 : Int) ≤ (t : Int) := by omega
      have j4 : (t : Int) < (n : Int) := by omega
      have y1 : wr.drew.cell? ⟨g, o + t, none⟩ = some (.slice (some ⟨bs, os, none⟩) L caps) := x2
      have y2 : wr.drew.cell? ⟨h, t, none⟩ = some (.slice (some ⟨bt, 0, none⟩) L L) := x3
      clear t1 t2 t3 EZ hr
      go_wp2_with fail
      go_region_held3 (fun w' => w'.cell? ⟨h, t, none⟩ = some (.slice (some ⟨bt, 0, none⟩) L L) ∧ w'.cell? ⟨g, o + t, none⟩ = some (.slice (some ⟨bs, os, none⟩) L caps)) (first | exact ⟨by assumption, by assumption⟩ | go_keep)
        (((with_reducible refine step_copy_bytes rfl (.tmp 69) (.tmp 73) rfl bt 0 L L L bs os caps (cpy (Tl S n) S Q j t) z HBL.out.1 HRR.out HZL.out (Nat.le_refl _) (by rw [HBL.out.2]; omega) rfl rfl ?_); intro wd H1 H2; have d1 := (H2.out.1.cell (p := ⟨h, t, none⟩) (lt_of_cell y2) HG3.out.2).trans y2; have d2 := (H2.out.1.cell (p := ⟨g, o + t, none⟩) (lt_of_cell y1) HG3.out.1).trans y1))
      have hup : Up (One (two k bd bp t)) wr wd := by rw [BT.out]; exact ((Up.refl _ wr).drew).trans H2.out.1
      have hb : Blk wd (two k bd bp t) z := by rw [BT.out, ← over_all (y := cpy (Tl S n) S Q j t) (z := z) (by rw [HBL.out.2, HZL.out])]; exact H1.out
      have hel := (HEL.out.1.turn HTN1.out hb HZL.out hup).congr fun i _ => HNX.out i
      have hfl : Fld F wd := HEL.out.2.up hup (by
        have := (HEL.out.1.own t HTN1.out).1
        have := (HS.out.1.fld F HFM.out).lt
        unfold One
        omega)
      have hri := HRI.out.1.up hup HRI.out.2 (by rw [BT.out]; exact fun e => HNE.out e.symm)
      have HFI := hid (And.intro hel (And.intro hfl (And.intro hri (Nat.lt_of_lt_of_le HRI.out.2 hup.size))))
      clear hup hb hel hfl hri
      go_wp2
      go_roundw
      case rel => exact ⟨j + 1, by omega, by go_num, HFI.out⟩
      case measure => simp [intOf]; omega
    · obtain rfl : m = j := by omega
      go_wp2
      go_ret2
      have e1 : ∀ i, i < n → cpy (Tl S n) S Q m i = decZ k r L Z S M i := fun i _ => by
        have hq := HQ.out
        have hd := HD.out
        have hp := HP.out
        subst hq hp hd
        unfold decZ
        rw [← HF.out.2.2.2, HM0.out]
      exact ⟨h, capw, two k bd bp, rfl, HEL.out.1.congr e1, HEL.out.2⟩

theorem strOf_inj {y z : List Nat} (hy : ∀ i, y.getD i 0 < 256) (hz : ∀ i, z.getD i 0 < 256) (h : strOf y = strOf z) : y = z := by
  rw [← nums_strOf hy, ← nums_strOf hz, h]
theorem bytes_inj {a b : ByteArray} (h : a.toList = b.toList) : a = b := by
  rw [ByteArray.toList_eq, ByteArray.toList_eq] at h
  exact ByteArray.ext (Array.toList_inj.1 h)
theorem equal_any (b1 o1 n1 c1 b2 o2 n2 c2 : Nat) (y z : List Nat) (w : World) (r1 : Row w b1 o1 y) (r2 : Row w b2 o2 z) (l1 : y.length = n1) (l2 : z.length = n2) :
    Calls Tryz.prog 39 #[.slice (some ⟨b1, o1, none⟩) n1 c1, .slice (some ⟨b2, o2, none⟩) n2 c2] w fun e w' => e = .returned (.bool ((strOf y).toList == (strOf z).toList)) ∧ w' = w := by
  have e1 := conv_row (cap := c1) r1 l1
  have e2 := conv_row (cap := c2) r2 l2
  go_enter Tryz.func39, Tryz.ntmps39
  go_wp2
  go_ret
  exact ⟨rfl, rfl⟩
theorem equal_post (b1 o1 n1 c1 b2 o2 n2 c2 : Nat) (y z : List Nat) (w : World) (r1 : Row w b1 o1 y) (r2 : Row w b2 o2 z) (l1 : y.length = n1) (l2 : z.length = n2) :
    Calls Tryz.prog 39 #[.slice (some ⟨b1, o1, none⟩) n1 c1, .slice (some ⟨b2, o2, none⟩) n2 c2] w fun e w' => ((e = .returned (.bool true) ∧ y = z) ∨ (e = .returned (.bool false) ∧ y ≠ z)) ∧ w' = w := by
  refine (equal_any b1 o1 n1 c1 b2 o2 n2 c2 y z w r1 r2 l1 l2).mono ?_
  rintro e w' ⟨rfl, h⟩
  refine ⟨?_, h⟩
  by_cases hyz : y = z
  · exact .inl ⟨by rw [hyz]; simp, hyz⟩
  · refine .inr ⟨?_, hyz⟩
    have : ((strOf y).toList == (strOf z).toList) = false := by
      rw [beq_eq_false_iff_ne]
      exact fun e => hyz (strOf_inj r1.small r2.small (bytes_inj e))
    rw [this]
set_option maxHeartbeats 800000 in
theorem eqf_any (FS : List Nat) (w : World) (g1 o1 g2 o2 n c1 c2 : Nat) (A B : Nat → List Nat) (h1 : LL FS w g1 o1 n fun i => some (A i)) (h2 : LL FS w g2 o2 n fun i => some (B i)) (hn : n ≤ 1000) :
    Calls Tryz.prog 38 #[.slice (some ⟨g1, o1, none⟩) n c1, .slice (some ⟨g2, o2, none⟩) n c2, .func (.func 39) #[] #[]] w
      fun e w' => ((e = .returned (.bool true) ∧ ∀ i, i < n → A i = B i) ∨ (e = .returned (.bool false) ∧ ∃ i, i < n ∧ A i ≠ B i)) ∧ w' = w := by
  have hnot : ∀ (x : Bool) (w : World), (Op.unary .not (.bool x)).run Tryz.prog w = .ok (.bool (!x)) w := fun _ _ => rfl
  have HL := hid (And.intro h1 h2)
  clear h1 h2
  go_enter Tryz.func38, Tryz.ntmps38
  go_wp2_with fail
  go_loopw [17] (fun i wr => ∃ k : Nat, k ≤ n ∧ i = .int .i64 k ∧ wr = w ∧ ∀ i, i < k → A i = B i) (fun i _ => n - (intOf i).toNat)
  case atStart => exact ⟨0, by omega, rfl, rfl, fun _ h => absurd h (Nat.not_lt_zero _)⟩
  case round =>
    obtain ⟨k, hk, rfl, rfl, hg⟩ := hrel
    have HG := hid hg
    clear hg
    by_cases hlt : k < n
    · obtain ⟨b1, s1, p1, x1, r1⟩ := HL.out.1.at hlt rfl
      obtain ⟨b2, s2, p2, x2, r2⟩ := HL.out.2.at hlt rfl
      have HE := hid (equal_post b1 s1 (A k).length p1 b2 s2 (B k).length p2 (A k) (B k) _ r1.row r2.row rfl rfl)
      have i1 : (0 : Int) ≤ (k : Int) := by omega
      have i2 : (k : Int) < (n : Int) := by omega
      clear r1 r2
      generalize (A k).length = la at x1 HE
      generalize (B k).length = lb at x2 HE
      go_wp2_with fail
      refine HE.out.mono ?_
      rintro e w1 ⟨⟨rfl, he⟩ | ⟨rfl, he⟩, rfl⟩
      · have HK := hid he
        clear he HE
        go_wp2
        go_roundw
        case rel => exact ⟨k + 1, by omega, by go_num, trivial, fun i hi => by
          by_cases e : i = k
          · rw [e]; exact HK.out
          · exact HG.out i (by omega)⟩
        case measure => simp [intOf]; omega
      · have HK := hid he
        clear he HE
        go_wp2
        go_ret
        exact ⟨.inr ⟨rfl, k, hlt, HK.out⟩, rfl⟩
    · obtain rfl : n = k := by omega
      go_wp2
      go_ret
      exact ⟨.inl ⟨rfl, HG.out⟩, rfl⟩
theorem Tl_all {S : Nat → Option (List Nat)} {n : Nat} (h : ∀ t, t < n → (S t).isSome = true) : Tl S n = List.range n := by
  unfold Tl
  rw [List.filter_eq_self]
  intro t ht
  exact h t (List.mem_range.1 ht)
theorem check_len (FS : List Nat) (w0 w : World) (c F k r pp pq sp sq : Nat) (Z : List Nat) (n cap : Nat) (a : Option Addr) (hs : LS w0 FS w) (hc : CD FS w c F k r pp pq sp sq Z) (hn : n ≠ k + r) :
    Calls Tryz.prog 16 #[.pointer (some ⟨c, 0, none⟩), .slice a n cap] w
      fun e w' => e = .returned (.tuple #[.bool false, .int .i64 1]) ∧ Up Nul w w' := by
  have H := hid (there_len FS w0 w c F k r pp pq sp sq Z n cap a hs hc hn)
  clear hs hc hn
  go_enter Tryz.func16, Tryz.ntmps16
  go_wp2_with fail
  refine H.out.mono ?_
  rintro e w1 ⟨rfl, u⟩
  have HU := hid u
  clear u H
  go_wp2
  go_ret2
  exact ⟨rfl, HU.out⟩
theorem check_odd (FS : List Nat) (w0 w : World) (c F k r pp pq sp sq : Nat) (Z : List Nat) (g o n cap : Nat) (S : Nat → Option (List Nat)) (hs : LS w0 FS w) (hc : CD FS w c F k r pp pq sp sq Z) (hS : LL FS w g o n S) (hn : n = k + r) (ho : ∃ i, i < (Tl S n).length ∧ UL (lenT S n) i) :
    Calls Tryz.prog 16 #[.pointer (some ⟨c, 0, none⟩), .slice (some ⟨g, o, none⟩) n cap] w
      fun e w' => e = .returned (.tuple #[.bool false, .int .i64 1]) ∧ Up Nul w w' := by
  have H := hid (there_odd FS w0 w c F k r pp pq sp sq Z g o n cap S hs hc hS hn ho)
  clear hs hc hn hS ho
  go_enter Tryz.func16, Tryz.ntmps16
  go_wp2_with fail
  refine H.out.mono ?_
  rintro e w1 ⟨rfl, u⟩
  have HU := hid u
  clear u H
  go_wp2
  go_ret2
  exact ⟨rfl, HU.out⟩
theorem check_lost (FS : List Nat) (w0 w : World) (c F k r pp pq sp sq : Nat) (Z : List Nat) (g o n cap L : Nat) (S : Nat → Option (List Nat)) (hs : LS w0 FS w) (hc : CD FS w c F k r pp pq sp sq Z) (hS : LL FS w g o n S) (hn : n = k + r) (hf : Fine S n L) (hL : L ≤ 64) (hT : (Tl S n).length < n) :
    Calls Tryz.prog 16 #[.pointer (some ⟨c, 0, none⟩), .slice (some ⟨g, o, none⟩) n cap] w
      fun e w' => e = .returned (.tuple #[.bool false, .int .i64 3]) ∧ Up Nul w w' := by
  have H := hid (there_fine FS w0 w c F k r pp pq sp sq Z g o n cap L S hs hc hS hn hf hL)
  have hlt : (((Tl S n).length : Nat) : Int) < (n : Int) := by omega
  clear hs hc hn hS hf hT
  go_enter Tryz.func16, Tryz.ntmps16
  go_wp2_with fail
  refine H.out.mono ?_
  rintro e w1 ⟨⟨a, capm, rfl, _⟩, u⟩
  have HU := hid u
  clear u H
  go_wp2
  go_ret2
  exact ⟨rfl, HU.out⟩
theorem ret_bi {a b : Bool} (h : a = b) : Ending.returned (.tuple #[.bool a, .int .i64 0]) = .returned (.tuple #[.bool b, .int .i64 0]) := by rw [h]
set_option maxRecDepth 100000 in
set_option maxHeartbeats 1600000 in
theorem check_good (FS : List Nat) (w0 w : World) (c F k r pp pq sp sq : Nat) (Z : List Nat) (g o n cap L : Nat) (R : Nat → List Nat) (hs : LS w0 FS w) (hc : CD FS w c F k r pp pq sp sq Z) (hS : LL FS w g o n fun t => some (R t)) (hn : n = k + r) (hl : ∀ t, t < n → (R t).length = L) (hL : L ≤ 64) (hcap : n ≤ cap) :
    Calls Tryz.prog 16 #[.pointer (some ⟨c, 0, none⟩), .slice (some ⟨g, o, none⟩) n cap] w
      fun e w' => ((e = .returned (.tuple #[.bool true, .int .i64 0]) ∧ ∀ j, j < r → acrZ k L Z R j = R (k + j)) ∨ (e = .returned (.tuple #[.bool false, .int .i64 0]) ∧ ∃ j, j < r ∧ acrZ k L Z R j ≠ R (k + j))) ∧ Up (One F) w w' ∧ Fld F w' := by
  have H := hid (there_fine FS w0 w c F k r pp pq sp sq Z g o n cap L _ hs hc hS hn (fun t ht z e => by cases e; exact hl t ht) hL)
  rw [Tl_all (S := fun t => some (R t)) (n := n) fun _ _ => rfl, List.length_range] at H
  have k14 := hc.k14
  have r4 := hc.r4
  have c1 := hc.par.mat.c1
  have r1 := hc.par.mat.r1
  have HS := hid (And.intro hs (And.intro hc hS))
  have HF := hid (And.intro hn hl)
  have HFM := hid hc.par.F
  have i0 : ¬ ((n : Int) < (n : Int)) := by omega
  have i1 : (k : Int) ≤ (cap : Int) := by omega
  have i2 : (0 : Int) ≤ (k : Int) := by omega
  have i3 : (k : Int) ≤ (n : Int) := by omega
  have i4 : (n : Int) ≤ (cap : Int) := by omega
  have i5 : ¬ cap = k := by omega
  have i6 : ¬ ((k : Int) < 0) := by omega
  have hnr : n - k = r := by omega
  have hn18 : n ≤ 18 := by omega
  clear hs hc hn hS hl
  go_enter Tryz.func16, Tryz.ntmps16
  go_wp2_with fail
  refine H.out.mono ?_
  rintro e w1 ⟨⟨a, capm, rfl, _⟩, u1⟩
  have HU1 := hid u1
  have HN1 := hid (HS.out.1.nul u1)
  have x1 := (HS.out.2.1.nxt HN1.out).k0
  have HLL := hid ((HS.out.2.2.nxt HN1.out).sub 0 k (by omega))
  have HEN := hid (enc_good FS w0 w1 c F k r pp pq sp sq Z g o cap L R (HS.out.1.nxt HN1.out) (HS.out.2.1.nxt HN1.out) ((HLL.out).congr fun i hi => by rw [Nat.zero_add]) (fun i hi => HF.out.2 i (by omega)) hL)
  clear u1 H HLL
  go_wp2_with fail
  refine HEN.out.mono ?_
  rintro e w2 ⟨gl, b, rfl, h1, h2⟩
  have HE := hid (And.intro h1 h2)
  have HN2 := hid (HN1.out.trans ((HS.out.1.nxt HN1.out).one HFM.out h1.up h2))
  have x2 := (HS.out.2.1.nxt HN2.out).k0
  have HEQ := hid (eqf_any FS w2 gl 0 g (o + k) r r (cap - k) (acrZ k L Z R) (fun j => R (k + j)) (h1.ll (HS.out.1.nxt HN1.out)) ((HS.out.2.2.nxt HN2.out).sub k r (by rw [HF.out.1]; exact Nat.le_refl _)) (by omega))
  clear h1 h2 HEN x1
  go_wp2_with fail
  refine HEQ.out.mono ?_
  rintro e w3 ⟨⟨rfl, he⟩ | ⟨rfl, he⟩, rfl⟩
  · have HK := hid he
    clear he HEQ
    go_wp2
    go_ret2
    exact ⟨.inl ⟨rfl, HK.out⟩, HU1.out.nul.trans HE.out.1.up, HE.out.2⟩
  · have HK := hid he
    clear he HEQ
    go_wp2
    go_ret2
    exact ⟨.inr ⟨rfl, HK.out⟩, HU1.out.nul.trans HE.out.1.up, HE.out.2⟩
theorem LL.list {FS : List Nat} {w : World} {g o n : Nat} {S : Nat → Option (List Nat)} (h : LL FS w g o n S) : ∃ ys : List Value, ys.length = n ∧ ∀ i, i < n → ∃ v, ys[i]? = some v ∧ w.cell? ⟨g, o + i, none⟩ = some v ∧ Shd FS w v (S i) := by
  have key : ∀ m, m ≤ n → ∃ ys : List Value, ys.length = m ∧ ∀ i, i < m → ∃ v, ys[i]? = some v ∧ w.cell? ⟨g, o + i, none⟩ = some v ∧ Shd FS w v (S i) := by
    intro m
    induction m with
    | zero => exact fun _ => ⟨[], rfl, fun _ h => absurd h (Nat.not_lt_zero _)⟩
    | succ m ih =>
      intro hm
      obtain ⟨ys, hl, hy⟩ := ih (by omega)
      obtain ⟨v, hv, hs⟩ := h.cells m (by omega)
      refine ⟨ys ++ [v], by simp [hl], fun i hi => ?_⟩
      by_cases e : i = m
      · subst e
        exact ⟨v, by rw [List.getElem?_append_right (by omega), hl]; simp, hv, hs⟩
      · obtain ⟨u, h1, h2⟩ := hy i (by omega)
        exact ⟨u, by rw [List.getElem?_append_left (by omega)]; exact h1, h2⟩
  exact key n (Nat.le_refl _)
set_option maxRecDepth 100000 in
set_option maxHeartbeats 800000 in
/-- A copy of a row of shards. -/
theorem clone_s (FS : List Nat) (w0 w : World) (g o n cap : Nat) (S : Nat → Option (List Nat)) (hs : LS w0 FS w) (hS : LL FS w g o n S) (h0 : 1 ≤ n) (hn : n ≤ 1000) :
    Calls Tryz.prog 40 #[.slice (some ⟨g, o, none⟩) n cap] w
      fun e w' => ∃ h cap', e = .returned (.slice (some ⟨h, 0, none⟩) n cap') ∧ LL FS w' h 0 n S ∧ (∀ i, w'.frozen? ⟨h, i, none⟩ = false) ∧ w.heap.size ≤ h ∧ Up Nul w w' ∧ ∀ i, i < n → w'.cell? ⟨h, i, none⟩ = w.cell? ⟨g, o + i, none⟩ := by
  obtain ⟨ys, hyl, hy⟩ := hS.list
  have HS := hid (And.intro hs hS)
  have HY := hid (And.intro hyl hy)
  have HU := hid ((Up.refl Nul w).alloc (.cells #[] 22))
  have HO : Hid (OwnV 22 w.heap.size (w.alloc (.cells #[] 22)) (.slice (some ⟨w.heap.size, 0, none⟩) 0 0) []) := World.ownsRow_made w #[] 0 (Nat.le_refl _) (by unfold maxLen; omega) rfl
  have HC : Hid (∀ j u, ys[j]? = some u → (w.alloc (.cells #[] 22)).cell? ((⟨g, o, none⟩ : Addr).add j) = some u) := fun j u hj => by
    have hlt : j < n := by
      rcases Nat.lt_or_ge j n with h | h
      · exact h
      · rw [List.getElem?_eq_none (by omega)] at hj; cases hj
    obtain ⟨v, h1, h2, _⟩ := hy j hlt
    rw [h1] at hj
    cases hj
    have ea : Addr.add ⟨g, o, none⟩ j = ⟨g, o + j, none⟩ := by
      by_cases h0 : j = 0
      · subst h0; simp [Addr.add]
      · simp [Addr.add, h0]
    rw [ea]
    exact (HU.out.cell (p := ⟨g, o + j, none⟩) hS.lt id).trans h2
  have H1 : Hid (∀ u ∈ ys, u.oneCell' = true) := fun u hu => by
    obtain ⟨i, hi, rfl⟩ := List.mem_iff_getElem.1 hu
    obtain ⟨v, h1, _, h3⟩ := hy i (by omega)
    rw [List.getElem?_eq_getElem hi] at h1
    cases h1
    obtain ⟨a, m, c, e⟩ := h3.slice
    rw [e]
    rfl
  have heq : ∀ w, (binOp BinOp.eql 34 (.slice (some ⟨g, o, none⟩) n cap) (.slice none 0 0)).run Tryz.prog w = .ok (.bool false) w := fun _ => by kernel_rfl
  clear hs hS hyl hy
  go_enter Tryz.func40, Tryz.ntmps40
  go_wp2_with (first
    | (at_builtin; refine wpList_append_vals Tryz.underlying34 info_sl rfl (by omega) rfl (.tmp 5) (.tmp 6) rfl w.heap.size (.slice (some ⟨w.heap.size, 0, none⟩) 0 0) [] rfl HO.out ⟨g, o, none⟩ n cap ys rfl HC.out H1.out HY.out.1 (by simp; omega) HU.out.size ?_; intro v2 w2 G1 G2)
    | go_in)
  go_ret
  have hl : ([] ++ ys : List Value).length = n := by simp [HY.out.1]
  obtain ⟨h, cap2, rfl, e2, e3, e4, e5, _⟩ := G1.out.row (by omega)
  rw [hl]
  have hu2 : Up Nul w w2 := HU.out.grown G2.out fun q hq => HO.out.base q hq
  have hn2 := HS.out.1.nul hu2
  refine ⟨h, cap2, rfl, ⟨fun i hi => ?_, e3, HS.out.1.lt e2⟩, e5, e2, hu2, fun i hi => ?_⟩
  · obtain ⟨v, h1, h2, h3⟩ := HY.out.2 i hi
    exact ⟨v, by rw [Nat.zero_add]; exact e4 i v (by simpa using h1), h3.nxt hn2⟩
  · obtain ⟨v, h1, h2, h3⟩ := HY.out.2 i hi
    rw [h2]
    exact e4 i v (by simpa using h1)
theorem reb_len (FS : List Nat) (w0 w : World) (c F k r pp pq sp sq : Nat) (Z : List Nat) (n cap : Nat) (a : Option Addr) (i : Int) (hs : LS w0 FS w) (hc : CD FS w c F k r pp pq sp sq Z) (hn : n ≠ k + r) :
    Calls Tryz.prog 18 #[.pointer (some ⟨c, 0, none⟩), .slice a n cap, .int .i64 i] w
      fun e w' => e = .returned (.tuple #[.slice none 0 0, .int .i64 1]) ∧ Up Nul w w' := by
  have H := hid (there_len FS w0 w c F k r pp pq sp sq Z n cap a hs hc hn)
  clear hs hc hn
  go_enter Tryz.func18, Tryz.ntmps18
  go_wp2_with fail
  refine H.out.mono ?_
  rintro e w1 ⟨rfl, u⟩
  have HU := hid u
  clear u H
  go_wp2
  go_ret2
  exact ⟨rfl, HU.out⟩
theorem reb_odd (FS : List Nat) (w0 w : World) (c F k r pp pq sp sq : Nat) (Z : List Nat) (g o n cap : Nat) (S : Nat → Option (List Nat)) (i : Int) (hs : LS w0 FS w) (hc : CD FS w c F k r pp pq sp sq Z) (hS : LL FS w g o n S) (hn : n = k + r) (ho : ∃ i, i < (Tl S n).length ∧ UL (lenT S n) i) :
    Calls Tryz.prog 18 #[.pointer (some ⟨c, 0, none⟩), .slice (some ⟨g, o, none⟩) n cap, .int .i64 i] w
      fun e w' => e = .returned (.tuple #[.slice none 0 0, .int .i64 1]) ∧ Up Nul w w' := by
  have H := hid (there_odd FS w0 w c F k r pp pq sp sq Z g o n cap S hs hc hS hn ho)
  clear hs hc hn hS ho
  go_enter Tryz.func18, Tryz.ntmps18
  go_wp2_with fail
  refine H.out.mono ?_
  rintro e w1 ⟨rfl, u⟩
  have HU := hid u
  clear u H
  go_wp2
  go_ret2
  exact ⟨rfl, HU.out⟩
theorem reb_arg (FS : List Nat) (w0 w : World) (c F k r pp pq sp sq : Nat) (Z : List Nat) (g o n cap L : Nat) (S : Nat → Option (List Nat)) (i : Int) (hs : LS w0 FS w) (hc : CD FS w c F k r pp pq sp sq Z) (hS : LL FS w g o n S) (hn : n = k + r) (hf : Fine S n L) (hL : L ≤ 64) (hi : i < 0 ∨ (n : Int) ≤ i) :
    Calls Tryz.prog 18 #[.pointer (some ⟨c, 0, none⟩), .slice (some ⟨g, o, none⟩) n cap, .int .i64 i] w
      fun e w' => e = .returned (.tuple #[.slice none 0 0, .int .i64 1]) ∧ Up Nul w w' := by
  have H := hid (there_fine FS w0 w c F k r pp pq sp sq Z g o n cap L S hs hc hS hn hf hL)
  clear hs hc hn hS hf
  by_cases h0 : i < 0
  · clear hi
    go_enter Tryz.func18, Tryz.ntmps18
    go_wp2_with fail
    refine H.out.mono ?_
    rintro e w1 ⟨⟨a, capm, rfl, _⟩, u⟩
    have HU := hid u
    clear u H
    go_wp2
    go_ret2
    exact ⟨rfl, HU.out⟩
  · have h1 : (n : Int) ≤ i := by omega
    clear hi
    go_enter Tryz.func18, Tryz.ntmps18
    go_wp2_with fail
    refine H.out.mono ?_
    rintro e w1 ⟨⟨a, capm, rfl, _⟩, u⟩
    have HU := hid u
    clear u H
    go_wp2
    go_ret2
    exact ⟨rfl, HU.out⟩
/-- Shards, one of them left out. -/
def out1 (S : Nat → Option (List Nat)) (i t : Nat) : Option (List Nat) := if t = i then none else S t
theorem LL.out1 {FS : List Nat} {w : World} {h n i : Nat} {S : Nat → Option (List Nat)} (hl : LL FS w h 0 n S) (hh : ∀ t, t < n → ∀ z, S t = some z → ∀ b o, (∃ cap, w.cell? ⟨h, t, none⟩ = some (.slice (some ⟨b, o, none⟩) z.length cap)) → b ≠ h) (hi : i < n) : LL FS (w.setCell ⟨h, i, none⟩ (.slice none 0 0)) h 0 n (out1 S i) := by
  have hc : ∀ t, t ≠ i → (w.setCell ⟨h, i, none⟩ (.slice none 0 0)).cell? ⟨h, t, none⟩ = w.cell? ⟨h, t, none⟩ := fun t ht => World.cell?_setCell_other _ _ _ _ (by intro e; have := congrArg Addr.off e; simp at this; omega)
  refine ⟨fun t ht => ?_, by simpa using hl.lt, hl.b⟩
  unfold Go.Proofs.YtkenfabnbmkhbaaGreat.out1
  obtain ⟨v0, h0, hs0⟩ := hl.cells t ht
  rw [Nat.zero_add] at h0
  rw [Nat.zero_add]
  by_cases e : t = i
  · subst e
    exact ⟨_, World.cell?_setCell_same _ _ _ h0, by rw [if_pos rfl]; exact rfl⟩
  · rw [if_neg e, hc t e]
    refine ⟨v0, h0, ?_⟩
    cases es : S t with
    | none => rw [es] at hs0; exact hs0
    | some z =>
      rw [es] at hs0
      obtain ⟨b, o, cap, rfl, r⟩ := hs0
      have hb := hh t ht z es b o ⟨cap, h0⟩
      exact ⟨b, o, cap, rfl, ⟨⟨fun u hu => (World.cell?_of_block (w := w) (a := ⟨b, o + u, none⟩) (Below.heap_setCell _ _ _ _ hb)).trans (r.row.cells u hu), r.row.small⟩, by simpa using r.lt, r.b⟩⟩
set_option maxRecDepth 100000 in
set_option maxHeartbeats 1600000 in
theorem reb_any (FS : List Nat) (w0 w : World) (c F k r pp pq sp sq : Nat) (Z : List Nat) (g o n cap L i : Nat) (S : Nat → Option (List Nat)) (hs : LS w0 FS w) (hc : CD FS w c F k r pp pq sp sq Z) (hS : LL FS w g o n S) (hn : n = k + r) (hf : Fine S n L) (hL : L ≤ 64) (hi : i < n)
    (hM : k ≤ (Tl (out1 S i) n).length → ∃ M, GfM.run k (GfM.beside k (cz k (pickZ k k (unitZ k ++ Z) fun j => (Tl (out1 S i) n).getD j 0))) k = some M) :
    Calls Tryz.prog 18 #[.pointer (some ⟨c, 0, none⟩), .slice (some ⟨g, o, none⟩) n cap, .int .i64 i] w
      fun e w' => (((Tl (out1 S i) n).length < k ∧ e = .returned (.tuple #[.slice none 0 0, .int .i64 3])) ∨
        ∃ M b, GfM.run k (GfM.beside k (cz k (pickZ k k (unitZ k ++ Z) fun j => (Tl (out1 S i) n).getD j 0))) k = some M ∧ e = .returned (.tuple #[.slice (some ⟨b, 0, none⟩) L L, .int .i64 0]) ∧ Blk w' b (decZ k r L Z (out1 S i) M i) ∧ (decZ k r L Z (out1 S i) M i).length = L ∧ w.heap.size ≤ b) ∧ Up (One F) w w' ∧ Fld F w' := by
  have H := hid (there_fine FS w0 w c F k r pp pq sp sq Z g o n cap L S hs hc hS hn hf hL)
  have k14 := hc.k14
  have r4 := hc.r4
  have HS := hid (And.intro hs (And.intro hc hS))
  have HF := hid (And.intro hf hn)
  have HFM := hid hc.par.F
  have HMM := hid hM
  have hn18 : n ≤ 18 := by omega
  have i1 : ¬ ((i : Int) < 0) := by omega
  have i2 : ¬ ((n : Int) ≤ (i : Int)) := by omega
  have i3 : (0 : Int) ≤ (i : Int) := by omega
  have i4 : (i : Int) < (n : Int) := by omega
  clear hs hc hn hS hf hM
  go_enter Tryz.func18, Tryz.ntmps18
  go_wp2_with fail
  refine H.out.mono ?_
  rintro e w1 ⟨⟨a, capm, rfl, _⟩, u1⟩
  have HU1 := hid u1
  have HN1 := hid (HS.out.1.nul u1)
  have HCL := hid (clone_s FS w0 w1 g o n cap S (HS.out.1.nxt HN1.out) (HS.out.2.2.nxt HN1.out) (by omega) (by omega))
  clear u1 H
  go_wp2_with fail
  refine HCL.out.mono ?_
  rintro e w2 ⟨h, cap', rfl, c1, c2, c3, u2, c4⟩
  have HU2 := hid (HU1.out.trans u2)
  have x1 : ∃ v, w2.cell? ⟨h, i, none⟩ = some v := by
    obtain ⟨v, hv, _⟩ := c1.cells i hi
    rw [Nat.zero_add] at hv
    exact ⟨v, hv⟩
  obtain ⟨v, x1⟩ := x1
  have x2 := c2 i
  have HNH : Hid (∀ t, t < n → ∀ z, S t = some z → ∀ b o, (∃ cap, w2.cell? ⟨h, t, none⟩ = some (.slice (some ⟨b, o, none⟩) z.length cap)) → b ≠ h) := by
    intro t ht z ez b o2 ⟨cp, hx⟩
    obtain ⟨b', so, cp', hv, lr⟩ := (HS.out.2.2.nxt HN1.out).at ht ez
    rw [c4 t ht, hv] at hx
    injection hx with hx
    injection hx with hx _ _
    injection hx with hx
    injection hx with hx _ _
    have := lr.lt
    omega
  have HLL := hid (c1.out1 HNH.out hi)
  have HU3 : Hid (Up Nul w (w2.setCell ⟨h, i, none⟩ (.slice none 0 0))) := HU2.out.setCell (p := ⟨h, i, none⟩) (.inl (by have := HU1.out.size; show _ ≤ h; omega)) _
  have HN3 := hid (HS.out.1.nul HU3.out)
  clear c1 c2 c3 c4 u2 HCL HNH
  go_wp2_with fail
  generalize w2.setCell ⟨h, i, none⟩ (.slice none 0 0) = w3 at *
  have HFI : Hid (Fine (out1 S i) n L) := fun t ht z e => by
    unfold out1 at e
    split at e
    · cases e
    · exact HF.out.1 t ht z e
  by_cases hT : (Tl (out1 S i) n).length < k
  · have HDL := hid (decode_lost FS w0 w3 c F k r pp pq sp sq Z h 0 n cap' L (out1 S i) (HS.out.1.nxt HN3.out) (HS.out.2.1.nxt HN3.out) HLL.out HF.out.2 HFI.out hL hT)
    have HTT := hid hT
    clear hT x1 x2
    go_wp2_with fail
    refine HDL.out.mono ?_
    rintro e w4 ⟨rfl, u4⟩
    have HU4 := hid (HU3.out.trans u4)
    clear u4 HDL
    go_wp2
    go_ret2
    exact ⟨.inl ⟨HTT.out, rfl⟩, HU4.out.nul, (HS.out.1.fld F HFM.out).up HU4.out id⟩
  · obtain ⟨M, hM⟩ := HMM.out (by omega)
    have HDG := hid (decode_good FS w0 w3 c F k r pp pq sp sq Z h 0 n cap' L (out1 S i) M (HS.out.1.nxt HN3.out) (HS.out.2.1.nxt HN3.out) HLL.out HF.out.2 HFI.out hL (by omega) hM)
    have HMO := hid hM
    clear hT hM x1 x2
    go_wp2_with fail
    refine HDG.out.mono ?_
    rintro e w4 ⟨hh, capw, b, rfl, h1, h2⟩
    have x3 := h1.lin i hi
    have HE := hid (And.intro h1 h2)
    clear h1 h2 HDG
    go_wp2
    go_ret2
    exact ⟨.inr ⟨M, b i, HMO.out, rfl, HE.out.1.rows i hi, HE.out.1.lens i hi, Nat.le_trans HU3.out.size (HE.out.1.own i hi).1⟩, HU3.out.nul.trans HE.out.1.up, HE.out.2⟩

/-- No two are the same. -/
def Dst (z : List Nat) : Prop := ∀ i j, i < z.length → j < z.length → z.getD i 0 = z.getD j 0 → i = j
theorem count_nodup : ∀ {l : List Nat}, l.Nodup → ∀ x, l.count x ≤ 1
  | [], _, x => by simp
  | a :: l, h, x => by
    obtain ⟨h1, h2⟩ := List.nodup_cons.1 h
    by_cases e : x = a
    · subst e
      rw [List.count_cons_self, List.count_eq_zero.2 h1]
      exact Nat.le_refl _
    · rw [List.count_cons_of_ne (fun h => e h.symm)]
      exact count_nodup h2 x
theorem Dst.nodup {z : List Nat} (h : Dst z) : z.Nodup := by
  unfold List.Nodup
  rw [List.pairwise_iff_getElem]
  intro i j hi hj hij e
  have := h i j hi hj (by simp only [List.getD_eq_getElem?_getD, List.getElem?_eq_getElem hi, List.getElem?_eq_getElem hj, Option.getD_some]; exact e)
  omega
theorem Dst.count {z : List Nat} (h : Dst z) (x : Nat) : ¬ 1 < z.count x := by
  have := count_nodup h.nodup x
  omega
theorem count_twice {z : List Nat} {i j : Nat} (hj : j < z.length) (hij : i < j) (e : z.getD i 0 = z.getD j 0) : 1 < z.count (z.getD i 0) := by
  have h := List.take_append_drop (i + 1) z
  have h1 : z.getD i 0 ∈ z.take (i + 1) := by
    have : (z.take (i + 1)).getD i 0 = z.getD i 0 := by simp [List.getD_eq_getElem?_getD]
    rw [← this]
    exact GfM.getD_mem (by simp; omega)
  have h2 : z.getD i 0 ∈ z.drop (i + 1) := by
    have : (z.drop (i + 1)).getD (j - (i + 1)) 0 = z.getD j 0 := by
      simp only [List.getD_eq_getElem?_getD, List.getElem?_drop]
      rw [show i + 1 + (j - (i + 1)) = j by omega]
    rw [e, ← this]
    exact GfM.getD_mem (by simp; omega)
  have c1 := List.count_pos_iff.2 h1
  have c2 := List.count_pos_iff.2 h2
  have : z.count (z.getD i 0) = (z.take (i + 1)).count (z.getD i 0) + (z.drop (i + 1)).count (z.getD i 0) := by
    rw [← List.count_append, h]
  omega
theorem not_dst {z : List Nat} (h : ¬ Dst z) : ∃ i, i < z.length ∧ 1 < z.count (z.getD i 0) := by
  refine Classical.byContradiction fun hno => h fun i j hi hj e => ?_
  refine Classical.byContradiction fun hne => ?_
  rcases Nat.lt_or_gt_of_ne hne with hlt | hlt
  · exact hno ⟨i, hi, count_twice hj hlt e⟩
  · exact hno ⟨j, hj, count_twice hi hlt e.symm⟩
theorem count_bytes {z : List Nat} {x : Nat} (hz : ∀ y ∈ z, y < 256) (hx : x < 256) : Lib.countByte (Lib.bytesOf (z.map fun (n : Nat) => (n : Int))) (x : Int).toNat.toUInt8 = z.count x := by
  unfold Lib.countByte Lib.bytesOf
  induction z with
  | nil => simp
  | cons a z ih =>
    have ha := hz a (List.mem_cons_self ..)
    have hi := ih fun y hy => hz y (List.mem_cons_of_mem _ hy)
    simp only [List.map_cons, List.count_cons, hi]
    congr 1
    have : (UInt8.ofNat ((a : Int)).toNat == (x : Int).toNat.toUInt8) = (a == x) := by
      rw [Bool.eq_iff_iff, beq_iff_eq, beq_iff_eq]
      constructor
      · intro h
        have := congrArg UInt8.toNat h
        simp at this
        omega
      · rintro rfl
        rfl
    rw [this]
set_option maxRecDepth 1000000 in
set_option maxHeartbeats 2000000 in
theorem count_any (b n c b2 d x : Nat) (z : List Nat) (w : World) (r : Row w b 0 z) (hl : z.length = n) (hz : ∀ y ∈ z, y < 256) (hx : x < 256) (hc2 : w.cell? ⟨b2, 0, none⟩ = some (.int .u8 x)) :
    Calls Tryz.prog 23 #[.slice (some ⟨b, 0, none⟩) n c, .slice (some ⟨b2, 0, none⟩) 1 d] w fun e w' => e = .returned (.int .i64 (z.count x : Nat)) ∧ w' = w := by
  have hc : ∀ i, i < n → w.cell? ⟨b, 0 + i, none⟩ = some (.int .u8 ((z.map fun (n : Nat) => (n : Int)).getD i 0)) := fun i hi => by
    have := r.cells i (by omega)
    rw [this]
    simp [List.getD_eq_getElem?_getD, List.getElem?_eq_getElem (show i < z.length by omega)]
  go_enter Tryz.func23, Tryz.ntmps23
  go_wp2
  rw [run_callFunc_extern Tryz.func44 (by kernel_rfl) (by kernel_rfl) (by kernel_rfl) (e := Extern.BytealgCount.count) (by kernel_rfl), Lib.run_countSlice w b 0 n c _ (by simp [hl]) hc x, count_bytes hz hx]
  simp only [Result.andThen]
  rw [Oper.upon_value]
  go_wp2
  go_ret
  exact ⟨rfl, rfl⟩
theorem out_yes (n cap m : Nat) (a : Option Addr) (w : World) (h : n < 1 ∨ m < n) :
    Calls Tryz.prog 20 #[.slice a n cap, .int .i64 m] w fun e w' => e = .returned (.bool true) ∧ w' = w := by
  by_cases h1 : n < 1
  · have e1 : (n : Int) < 1 := by omega
    clear h
    go_enter Tryz.func20, Tryz.ntmps20
    go_wp2
    go_ret
    exact ⟨rfl, rfl⟩
  · have e1 : ¬ (n : Int) < 1 := by omega
    have e2 : (m : Int) < (n : Int) := by omega
    clear h
    go_enter Tryz.func20, Tryz.ntmps20
    go_wp2
    go_ret
    exact ⟨rfl, rfl⟩
theorem out_no (n cap m : Nat) (a : Option Addr) (w : World) (h1 : 1 ≤ n) (h2 : n ≤ m) :
    Calls Tryz.prog 20 #[.slice a n cap, .int .i64 m] w fun e w' => e = .returned (.bool false) ∧ w' = w := by
  have e1 : ¬ (n : Int) < 1 := by omega
  have e2 : ¬ (m : Int) < (n : Int) := by omega
  go_enter Tryz.func20, Tryz.ntmps20
  go_wp2
  go_ret
  exact ⟨rfl, rfl⟩
theorem new_nil2 (xs ys : Value) (w : World) :
    Calls Tryz.prog 6 #[.pointer none, xs, ys] w fun e w' => e = .returned (.tuple #[.pointer none, .int .i64 1]) ∧ w' = w := by
  go_enter Tryz.func6, Tryz.ntmps6
  go_wp2
  go_ret2
  exact ⟨rfl, rfl⟩
theorem new_long (F n1 c1 n2 c2 : Nat) (a1 a2 : Option Addr) (w : World) (h : (n1 < 1 ∨ 14 < n1) ∨ (n2 < 1 ∨ 4 < n2)) :
    Calls Tryz.prog 6 #[.pointer (some ⟨F, 0, none⟩), .slice a1 n1 c1, .slice a2 n2 c2] w fun e w' => e = .returned (.tuple #[.pointer none, .int .i64 1]) ∧ w' = w := by
  by_cases h1 : n1 < 1 ∨ 14 < n1
  · have H := hid (out_yes n1 c1 14 a1 w h1)
    clear h h1
    go_enter Tryz.func6, Tryz.ntmps6
    go_wp2_with fail
    refine H.out.mono ?_
    rintro e w1 ⟨rfl, rfl⟩
    clear H
    go_wp2
    go_ret2
    exact ⟨rfl, rfl⟩
  · have h2 : n2 < 1 ∨ 4 < n2 := by omega
    have H := hid (out_no n1 c1 14 a1 w (by omega) (by omega))
    have H2 := hid (out_yes n2 c2 4 a2 w h2)
    clear h h1 h2
    go_enter Tryz.func6, Tryz.ntmps6
    go_wp2_with fail
    refine H.out.mono ?_
    rintro e w1 ⟨rfl, rfl⟩
    clear H
    go_wp2_with fail
    refine H2.out.mono ?_
    rintro e w1 ⟨rfl, rfl⟩
    clear H2
    go_wp2
    go_ret2
    exact ⟨rfl, rfl⟩
theorem twice_any (A g n cap x : Nat) (z : List Nat) (w : World) (hA : w.cell? ⟨A, 0, none⟩ = some (.slice (some ⟨g, 0, none⟩) n cap)) (r : Row w g 0 z) (hg : g < w.heap.size) (hl : z.length = n) (hz : ∀ y ∈ z, y < 256) (hx : x < 256) :
    Calls Tryz.prog 22 #[.int .u8 x, .pointer (some ⟨A, 0, none⟩)] w fun e w' => e = .returned (.bool (decide (1 < z.count x))) ∧ Up Nul w w' := by
  have HU := hid ((Up.refl Nul w).alloc (.cells #[.int .u8 x] 5))
  have HC := hid (count_any g n cap w.heap.size 1 x z _ (r.up HU.out hg id) hl hz hx (World.cell?_alloc_new w #[.int .u8 x] 5 0))
  clear r hl hz hg
  go_enter Tryz.func22, Tryz.ntmps22
  go_wp2_with fail
  refine HC.out.mono ?_
  rintro e w1 ⟨rfl, rfl⟩
  clear HC
  obtain ⟨m, HM⟩ : ∃ m, Hid (z.count x = m) := ⟨_, rfl⟩
  rw [HM.out]
  go_wp2
  go_ret
  exact ⟨by rw [HM.out]; simp; omega, HU.out⟩
set_option maxHeartbeats 400000 in
theorem indexT_any (A g n cap : Nat) (z : List Nat) (w : World) (hA : w.cell? ⟨A, 0, none⟩ = some (.slice (some ⟨g, 0, none⟩) n cap)) (hAl : A < w.heap.size) (r : Row w g 0 z) (hg : g < w.heap.size) (hl : z.length = n) (hz : ∀ y ∈ z, y < 256) (hn : n ≤ 1000) :
    Calls Tryz.prog 46 #[.slice (some ⟨g, 0, none⟩) n cap, .func (.func 22) #[] #[.pointer (some ⟨A, 0, none⟩)]] w
      fun e w' => (∃ x : Int, e = .returned (.int .i64 x) ∧ ((0 ≤ x ∧ ∃ i, i < n ∧ 1 < z.count (z.getD i 0)) ∨ (x < 0 ∧ ∀ i, i < n → ¬ 1 < z.count (z.getD i 0)))) ∧ Up Nul w w' := by
  have HR := hid (And.intro r (And.intro hg (And.intro hl (And.intro hz (And.intro hA hAl)))))
  clear r hg hl hz hA hAl
  go_enter Tryz.func46, Tryz.ntmps46
  go_wp2
  go_loopw [8] (fun i wr => ∃ k : Nat, k ≤ n ∧ i = .int .i64 k ∧ Up Nul w wr ∧ ∀ i, i < k → ¬ 1 < z.count (z.getD i 0)) (fun i _ => n - (intOf i).toNat)
  case atStart => exact ⟨0, by omega, rfl, Up.refl _ _, fun _ h => absurd h (Nat.not_lt_zero _)⟩
  case round =>
    obtain ⟨k, hk, rfl, hu, hg⟩ := hrel
    have HG := hid (And.intro hu hg)
    clear hu hg
    by_cases hlt : k < n
    · have hrow := HR.out.1.up HG.out.1 HR.out.2.1 id
      have hc := hrow.cells k (by rw [HR.out.2.2.1]; exact hlt)
      rw [Nat.zero_add] at hc
      have x8 := hrow.small k
      obtain ⟨x, X⟩ : ∃ x, Hid (z.getD k 0 = x) := ⟨_, rfl⟩
      rw [X.out] at hc x8
      have HT := hid (twice_any A g n cap x z wr ((HG.out.1.cell (p := ⟨A, 0, none⟩) HR.out.2.2.2.2.2 id).trans HR.out.2.2.2.2.1) hrow (Nat.lt_of_lt_of_le HR.out.2.1 HG.out.1.size) HR.out.2.2.1 HR.out.2.2.2.1 x8)
      have i1 : (0 : Int) ≤ (k : Int) := by omega
      have i2 : (k : Int) < (n : Int) := by omega
      clear hrow
      by_cases hb : 1 < z.count x
      · have HB := hid hb
        have ed : decide (1 < z.count x) = true := by simpa using hb
        rw [ed] at HT
        clear hb ed
        go_wp2_with fail
        refine HT.out.mono ?_
        rintro e w1 ⟨rfl, u1⟩
        have HU := hid (HG.out.1.trans u1)
        clear u1 HT
        go_wp2
        go_ret
        exact ⟨⟨_, rfl, .inl ⟨by omega, k, hlt, by rw [X.out]; exact HB.out⟩⟩, HU.out⟩
      · have HB := hid hb
        have ed : decide (1 < z.count x) = false := by simpa using hb
        rw [ed] at HT
        clear hb ed
        go_wp2_with fail
        refine HT.out.mono ?_
        rintro e w1 ⟨rfl, u1⟩
        have HU := hid (HG.out.1.trans u1)
        clear u1 HT
        go_wp2
        go_roundw
        case rel => exact ⟨k + 1, by omega, by go_num, HU.out, fun i hi => by
          by_cases e : i = k
          · rw [e, X.out]; exact HB.out
          · exact HG.out.2 i (by omega)⟩
        case measure => simp [intOf]; omega
    · obtain rfl : n = k := by omega
      go_wp2
      go_ret
      exact ⟨⟨_, rfl, .inr ⟨by omega, HG.out.2⟩⟩, HG.out.1⟩
theorem containsT_any (A g n cap : Nat) (z : List Nat) (w : World) (hA : w.cell? ⟨A, 0, none⟩ = some (.slice (some ⟨g, 0, none⟩) n cap)) (hAl : A < w.heap.size) (r : Row w g 0 z) (hg : g < w.heap.size) (hl : z.length = n) (hz : ∀ y ∈ z, y < 256) (hn : n ≤ 1000) :
    Calls Tryz.prog 24 #[.slice (some ⟨g, 0, none⟩) n cap, .func (.func 22) #[] #[.pointer (some ⟨A, 0, none⟩)]] w
      fun e w' => ((e = .returned (.bool true) ∧ ∃ i, i < n ∧ 1 < z.count (z.getD i 0)) ∨ (e = .returned (.bool false) ∧ ∀ i, i < n → ¬ 1 < z.count (z.getD i 0))) ∧ Up Nul w w' := by
  have H := hid (indexT_any A g n cap z w hA hAl r hg hl hz hn)
  clear hA hAl r hg hl hz hn
  go_enter Tryz.func24, Tryz.ntmps24
  go_wp2_with fail
  refine H.out.mono ?_
  rintro e w1 ⟨⟨x, rfl, ⟨h0, hb⟩ | ⟨h0, hb⟩⟩, hu⟩
  · have HB := hid (And.intro hb hu)
    clear hb hu
    go_wp2
    go_ret
    exact ⟨.inl ⟨by simp, HB.out.1⟩, HB.out.2⟩
  · have HB := hid (And.intro hb hu)
    have h1 : ¬ 0 ≤ x := by omega
    clear hb hu
    go_wp2
    go_ret
    exact ⟨.inr ⟨by simp [h1], HB.out.1⟩, HB.out.2⟩
/-- Inverses of the sums of Y and X, a row for each of Y. -/
def coefZ (k r : Nat) (X Y : List Nat) : List Nat := tab (r * k) fun t => GfM.inv (Y.getD (t / k) 0 ^^^ X.getD (t % k) 0)
theorem coefZ_at {k r i j : Nat} {X Y : List Nat} (hj : j < r) (hi : i < k) : (coefZ k r X Y).getD (j * k + i) 0 = GfM.inv (Y.getD j 0 ^^^ X.getD i 0) := by
  have hlt : j * k + i < r * k := by
    have := Nat.mul_le_mul_right k (show j + 1 ≤ r from hj)
    rw [Nat.add_mul] at this
    omega
  unfold coefZ
  rw [tab_at _ _ _ hlt, Nat.mul_comm j k, Nat.mul_add_mod, Nat.mod_eq_of_lt hi, Nat.mul_add_div (by omega), Nat.div_eq_of_lt hi, Nat.add_zero]
theorem Up.ofg {w w' : World} {row : Option Nat} (g : w.grownBy w' row) : Up (fun q => some q = row) w w' := ⟨g.os, g.tape, g.output, g.size, fun q hq hs => g.block q hq hs⟩
theorem tab_next (k : Nat) (f : Nat → Nat) : tab (k + 1) f = tab k f ++ [f k] := by simp [tab, List.range_succ]
set_option maxRecDepth 100000 in
set_option maxHeartbeats 800000 in
theorem inverses_any (FS : List Nat) (w0 w : World) (F bx ox by_ oy k r cx cy : Nat) (X Y : List Nat) (hs : LS w0 FS w) (hF : F ∈ FS) (hX : LR FS w bx ox X) (hY : LR FS w by_ oy Y) (lX : X.length = k) (lY : Y.length = r) (k14 : k ≤ 14) (r4 : r ≤ 4)
    (hne : ∀ i j, i < k → j < r → X.getD i 0 ≠ Y.getD j 0) :
    Calls Tryz.prog 26 #[.pointer (some ⟨F, 0, none⟩), .slice (some ⟨bx, ox, none⟩) k cx, .slice (some ⟨by_, oy, none⟩) r cy] w
      fun e w' => ∃ v, e = .returned v ∧ OwnB w.heap.size w' v (coefZ k r X Y) ∧ Up (One F) w w' ∧ Fld F w' := by
  have HS := hid (And.intro hs (And.intro hX hY))
  have HL := hid (And.intro lX (And.intro lY hne))
  have HFM := hid hF
  have HFW : Hid (F < w.heap.size) := (hs.fld F hF).lt
  have HF := hid (hs.fld F hF)
  clear hs hF hX hY lX lY hne
  go_enter Tryz.func26, Tryz.ntmps26
  go_wp2_with fail
  obtain ⟨G, HG⟩ : ∃ G : Nat → Nat, Hid (G = fun t => GfM.inv (Y.getD (t / k) 0 ^^^ X.getD (t % k) 0)) := ⟨_, rfl⟩
  go_loopw [7, 16] (fun v i wr => ∃ j : Nat, j ≤ r ∧ i = .int .i64 j ∧ OwnB w.heap.size wr v (tab (j * k) G) ∧ Up (One F) w wr ∧ Fld F wr) (fun _ i _ => r - (intOf i).toNat)
  case atStart => exact ⟨0, by omega, rfl, by rw [Nat.zero_mul]; exact OwnB.nil _ _, Up.refl _ _, HF.out⟩
  case round =>
    obtain ⟨j, hj, rfl, ho, hu, hf⟩ := hrel
    have HO := hid (And.intro ho (And.intro hu hf))
    clear ho hu hf
    by_cases hlt : j < r
    · have hrow := HS.out.2.2.row.up HO.out.2.1 HS.out.2.2.lt (fun e => HS.out.2.2.b (by unfold One at e; rw [e]; exact HFM.out))
      have hc := hrow.cells j (by rw [HL.out.2.1]; exact hlt)
      have y8 := hrow.small j
      obtain ⟨y, Y1⟩ : ∃ x, Hid (Y.getD j 0 = x) := ⟨_, rfl⟩
      rw [Y1.out] at hc y8
      have i1 : (0 : Int) ≤ (j : Int) := by omega
      have i2 : (j : Int) < (r : Int) := by omega
      clear hrow
      go_wp2_with fail
      clear hc
      go_loopw [7, 22] (fun v i wr => ∃ s : Nat, s ≤ k ∧ i = .int .i64 s ∧ OwnB w.heap.size wr v (tab (j * k + s) G) ∧ Up (One F) w wr ∧ Fld F wr) (fun _ i _ => k - (intOf i).toNat)
      case atStart => exact ⟨0, by omega, rfl, HO.out⟩
      case round =>
        clear HO
        obtain ⟨s, hs, rfl, ho, hu, hf⟩ := hrel
        have HO := hid (And.intro ho (And.intro hu hf))
        clear ho hu hf
        by_cases hlt2 : s < k
        · have hrow := HS.out.2.1.row.up HO.out.2.1 HS.out.2.1.lt (fun e => HS.out.2.1.b (by unfold One at e; rw [e]; exact HFM.out))
          have hc := hrow.cells s (by rw [HL.out.1]; exact hlt2)
          have x8 := hrow.small s
          have HNE := HL.out.2.2 s j hlt2 hlt
          rw [Y1.out] at HNE
          obtain ⟨x, X1⟩ : ∃ x, Hid (X.getD s 0 = x) := ⟨_, rfl⟩
          rw [X1.out] at hc x8 HNE
          have hxx := u8_xor_nat y x y8 x8
          have h0 : y ^^^ x ≠ 0 := fun e => HNE (GfM.xor_eq_zero e).symm
          have h8 : y ^^^ x < 256 := GfM.xor_lt y8 x8
          have HGV : Hid (G (j * k + s) = GfM.inv (y ^^^ x)) := by
            show _ = _
            rw [HG.out]
            show GfM.inv (Y.getD ((j * k + s) / k) 0 ^^^ X.getD ((j * k + s) % k) 0) = _
            rw [Nat.mul_comm j k, Nat.mul_add_mod, Nat.mod_eq_of_lt hlt2, Nat.mul_add_div (by omega), Nat.div_eq_of_lt hlt2, Nat.add_zero, Y1.out, X1.out]
          have HI := hid (inv_any F (y ^^^ x) wr HO.out.2.2 h0 h8)
          have v8 := GfM.inv_lt (y ^^^ x)
          generalize y ^^^ x = yx at *
          generalize GfM.inv yx = v at *
          have i3 : (0 : Int) ≤ (s : Int) := by omega
          have i4 : (s : Int) < (k : Int) := by omega
          clear hrow h0 h8 HNE
          go_wp2_with fail
          refine HI.out.mono ?_
          rintro e w1 ⟨rfl, k1⟩
          have HO1 : Hid (OwnB w.heap.size w1 u7 (tab (j * k + s) G) ∧ Up (One F) w w1 ∧ Fld F w1) := ⟨HO.out.1.up (Up.of_out k1.1) (fun q hq e => by have := HFW.out; unfold One at e; omega), HO.out.2.1.trans (Up.of_out k1.1), k1.2⟩
          clear k1 HI
          have HLN : Hid ((tab (j * k + s) G).length ≤ 1000000) := by
            show _ ≤ _
            rw [tab_length]
            have : j * k ≤ 4 * 14 := Nat.mul_le_mul (by omega) k14
            omega
          go_wp2_with (first
            | (at_builtin; refine wpList_append_byte rfl (.tmp 34) (.tmp 36) rfl w.heap.size _ (tab (j * k + s) G) rfl (HO1.out.1.alloc _) ⟨w1.heap.size, 0, none⟩ 1 v rfl (World.cell?_alloc_new w1 _ _ 0) v8 HLN.out (by have := HO1.out.2.1.size; simp; omega) ?_; intro v2 w2 H1 H2)
            | go_in)
          go_roundw
          case rel => exact ⟨s + 1, by omega, by go_num, by rw [← Nat.add_assoc, tab_next, HGV.out]; exact H1.out, (HO1.out.2.1.alloc _).grown H2.out (fun q hq => HO1.out.1.base q hq), (HO1.out.2.2.alloc _).up (Up.ofg H2.out) (fun e => by have := HO1.out.1.base F e.symm; have := HFW.out; omega)⟩
          case measure => simp [intOf]; omega
        · obtain rfl : k = s := by omega
          go_wp2
          go_roundw
          case rel => exact ⟨j + 1, by omega, by go_num, by rw [Nat.add_mul, Nat.one_mul]; exact HO.out.1, HO.out.2⟩
          case measure => simp [intOf]; omega
    · obtain rfl : r = j := by omega
      go_wp2
      go_ret
      have hg := HG.out
      subst hg
      exact ⟨_, rfl, HO.out.1, HO.out.2⟩

/-- Behind the rows laid one behind the other, in a cell of their own. -/
structure Boxd (FS : List Nat) (w : World) (A g n cap : Nat) (z : List Nat) : Prop where
  box : w.cell? ⟨A, 0, none⟩ = some (.slice (some ⟨g, 0, none⟩) n cap)
  lt : A < w.heap.size
  b : A ∉ FS
  row : Row w g 0 z
  gl : g < w.heap.size
  gb : g ∉ FS
theorem Boxd.nxt {FS : List Nat} {w w' : World} {A g n cap : Nat} {z : List Nat} (h : Boxd FS w A g n cap z) (m : Nxt FS w w') : Boxd FS w' A g n cap z :=
  ⟨(m.up.cell (p := ⟨A, 0, none⟩) h.lt h.b).trans h.box, Nat.lt_of_lt_of_le h.lt m.up.size, h.b, h.row.up m.up h.gl h.gb, Nat.lt_of_lt_of_le h.gl m.up.size, h.gb⟩
end Go.Proofs.YtkenfabnbmkhbaaGreat
