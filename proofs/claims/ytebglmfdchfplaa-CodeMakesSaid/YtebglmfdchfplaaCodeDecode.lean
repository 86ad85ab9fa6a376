/- 'Decode' of a Code. -/
import Derived.Test.YtebglmfdchfplaaCodeEncode
namespace Go.Proofs.Ytebglmfdchfplaa
open Go.RowKit
set_option linter.unusedVariables false

theorem Tl_iff {S : Nat → Option (List Nat)} {n t : Nat} : t ∈ Tl S n ↔ t < n ∧ (S t).isSome = true := by
  unfold Tl
  rw [List.mem_filter, List.mem_range]
/-- All that is there is L bytes long. -/
def Fine (S : Nat → Option (List Nat)) (n L : Nat) : Prop := ∀ t, t < n → ∀ z, S t = some z → z.length = L
theorem Fine.len {S : Nat → Option (List Nat)} {n L : Nat} (h : Fine S n L) {i : Nat} (hi : i < (Tl S n).length) : lenT S n i = L := by
  obtain ⟨h1, z, h2⟩ := Tl_mem hi
  unfold lenT
  rw [h2]
  exact h _ h1 z h2
theorem Fine.no {S : Nat → Option (List Nat)} {n L : Nat} (h : Fine S n L) (hL : L ≤ 64) {i : Nat} (hi : i < (Tl S n).length) : ¬ UL (lenT S n) i := not_ul hL (h.len hi) (h.len (by omega))
theorem there_fine (FS : List Nat) (w0 w : World) (c F k r pp pq sp sq : Nat) (Z : List Nat) (g o n cap L : Nat) (S : Nat → Option (List Nat)) (hs : LS w0 FS w) (hc : CD FS w c F k r pp pq sp sq Z) (hS : LL FS w g o n S) (hn : n = k + r) (hf : Fine S n L) (hL : L ≤ 64) :
    Calls Try.prog 37 #[.pointer (some ⟨c, 0, none⟩), .slice (some ⟨g, o, none⟩) n cap] w
      fun e w' => (∃ a capm, e = .returned (.tuple #[.slice a (Tl S n).length capm, .int .i64 0]) ∧ (Tl S n).length ≤ capm ∧ (Plc w' a (Tl S n).length fun i => (Tl S n).getD i 0) ∧ ∀ ad, a = some ad → w.heap.size ≤ ad.block) ∧ Up Nul w w' := by
  refine (there_any FS w0 w c F k r pp pq sp sq Z g o n cap S hs hc hS hn).mono ?_
  rintro e w' ⟨⟨_, h⟩ | ⟨⟨i, hi, h⟩, _⟩, u⟩
  · exact ⟨h, u⟩
  · exact absurd h (hf.no hL hi)
theorem there_odd (FS : List Nat) (w0 w : World) (c F k r pp pq sp sq : Nat) (Z : List Nat) (g o n cap : Nat) (S : Nat → Option (List Nat)) (hs : LS w0 FS w) (hc : CD FS w c F k r pp pq sp sq Z) (hS : LL FS w g o n S) (hn : n = k + r) (ho : ∃ i, i < (Tl S n).length ∧ UL (lenT S n) i) :
    Calls Try.prog 37 #[.pointer (some ⟨c, 0, none⟩), .slice (some ⟨g, o, none⟩) n cap] w
      fun e w' => e = .returned (.tuple #[.slice none 0 0, .int .i64 1]) ∧ Up Nul w w' := by
  refine (there_any FS w0 w c F k r pp pq sp sq Z g o n cap S hs hc hS hn).mono ?_
  rintro e w' ⟨⟨h, _⟩ | ⟨_, h⟩, u⟩
  · obtain ⟨i, hi, hu⟩ := ho
    exact absurd hu (h i hi)
  · exact ⟨h, u⟩

/-- What hands back ErrArg hands it back. -/
theorem decode_len (FS : List Nat) (w0 w : World) (c F k r pp pq sp sq : Nat) (Z : List Nat) (n cap : Nat) (a : Option Addr) (hs : LS w0 FS w) (hc : CD FS w c F k r pp pq sp sq Z) (hn : n ≠ k + r) :
    Calls Try.prog 16 #[.pointer (some ⟨c, 0, none⟩), .slice a n cap] w
      fun e w' => e = .returned (.tuple #[.slice none 0 0, .int .i64 1]) ∧ Up Nul w w' := by
  have H := hid (there_len FS w0 w c F k r pp pq sp sq Z n cap a hs hc hn)
  clear hs hc hn
  go_enter Try.func16, Try.ntmps16
  go_wp2_with fail
  refine H.out.mono ?_
  rintro e w1 ⟨rfl, u⟩
  have HU := hid u
  clear u H
  go_wp2
  go_ret2
  exact ⟨rfl, HU.out⟩
theorem decode_odd (FS : List Nat) (w0 w : World) (c F k r pp pq sp sq : Nat) (Z : List Nat) (g o n cap : Nat) (S : Nat → Option (List Nat)) (hs : LS w0 FS w) (hc : CD FS w c F k r pp pq sp sq Z) (hS : LL FS w g o n S) (hn : n = k + r) (ho : ∃ i, i < (Tl S n).length ∧ UL (lenT S n) i) :
    Calls Try.prog 16 #[.pointer (some ⟨c, 0, none⟩), .slice (some ⟨g, o, none⟩) n cap] w
      fun e w' => e = .returned (.tuple #[.slice none 0 0, .int .i64 1]) ∧ Up Nul w w' := by
  have H := hid (there_odd FS w0 w c F k r pp pq sp sq Z g o n cap S hs hc hS hn ho)
  clear hs hc hn hS ho
  go_enter Try.func16, Try.ntmps16
  go_wp2_with fail
  refine H.out.mono ?_
  rintro e w1 ⟨rfl, u⟩
  have HU := hid u
  clear u H
  go_wp2
  go_ret2
  exact ⟨rfl, HU.out⟩
theorem decode_lost (FS : List Nat) (w0 w : World) (c F k r pp pq sp sq : Nat) (Z : List Nat) (g o n cap L : Nat) (S : Nat → Option (List Nat)) (hs : LS w0 FS w) (hc : CD FS w c F k r pp pq sp sq Z) (hS : LL FS w g o n S) (hn : n = k + r) (hf : Fine S n L) (hL : L ≤ 64) (hT : (Tl S n).length < k) :
    Calls Try.prog 16 #[.pointer (some ⟨c, 0, none⟩), .slice (some ⟨g, o, none⟩) n cap] w
      fun e w' => e = .returned (.tuple #[.slice none 0 0, .int .i64 3]) ∧ Up Nul w w' := by
  have H := hid (there_fine FS w0 w c F k r pp pq sp sq Z g o n cap L S hs hc hS hn hf hL)
  have HC := hid (And.intro hs hc)
  have hlt : (((Tl S n).length : Nat) : Int) < (k : Int) := by omega
  clear hs hc hn hS hf hT
  go_enter Try.func16, Try.ntmps16
  go_wp2_with fail
  refine H.out.mono ?_
  rintro e w1 ⟨⟨a, capm, rfl, _⟩, u⟩
  have HU := hid u
  have x1 := (HC.out.2.nxt (HC.out.1.nul u)).k0
  clear u H
  go_wp2
  go_ret2
  exact ⟨rfl, HU.out⟩

/-- Lines as values. -/
def lnV (n L : Nat) (b : Nat → Nat) : List Value := (List.range n).map fun i => Value.slice (some ⟨b i, 0, none⟩) L L
theorem lnV_length (n L : Nat) (b : Nat → Nat) : (lnV n L b).length = n := by simp [lnV]
theorem lnV_at {n L i : Nat} {b : Nat → Nat} (h : i < n) : (lnV n L b)[i]? = some (.slice (some ⟨b i, 0, none⟩) L L) := by simp [lnV, h]
theorem lnV_one (n L : Nat) (b : Nat → Nat) : ∀ u ∈ lnV n L b, u.oneCell' = true := by
  intro u hu
  obtain ⟨i, _, rfl⟩ := List.mem_map.1 hu
  rfl
theorem add_zero_at (g j : Nat) : (⟨g, 0, none⟩ : Addr).add j = ⟨g, j, none⟩ := by
  by_cases h0 : j = 0
  · subst h0; simp [Addr.add]
  · simp [Addr.add, h0]
theorem Elim.vals {W w : World} {F gl n m : Nat} {b : Nat → Nat} {L : Nat → List Nat} (h : Elim W F gl n m b L w) : ∀ j u, (lnV n m b)[j]? = some u → w.cell? ((⟨gl, 0, none⟩ : Addr).add j) = some u := by
  intro j u hj
  have hlt : j < n := by
    rcases Nat.lt_or_ge j n with h | h
    · exact h
    · rw [List.getElem?_eq_none (by rw [lnV_length]; exact h)] at hj; cases hj
  rw [lnV_at hlt] at hj
  rw [add_zero_at, h.lin j hlt]
  exact hj
/-- Data and parities, one behind the other. -/
def two {A : Type} (k : Nat) (x y : Nat → A) (t : Nat) : A := if t < k then x t else y (t - k)
theorem whole_made {w w2 w3 w4 : World} {F gd gp k r L base : Nat} {bd bp : Nat → Nat} {D P : Nat → List Nat} {v : Value} {T : TypeId} (h1 : Elim w F gd k L bd D w3) (h2 : Elim w2 F gp r L bp P w3) (hlt : ∀ i, i < k → bd i < w2.heap.size) (u2 : Up (One F) w w2)
    (ho : OwnV T base w4 v (lnV k L bd ++ lnV r L bp)) (hb : w3.heap.size ≤ base) (u : Up Nul w3 w4) (hk : 1 ≤ k) :
    ∃ h cap, v = .slice (some ⟨h, 0, none⟩) (k + r) cap ∧ Elim w F h (k + r) L (two k bd bp) (two k D P) w4 := by
  have hl : (lnV k L bd ++ lnV r L bp).length = k + r := by rw [List.length_append, lnV_length, lnV_length]
  obtain ⟨h, cap, e, e2, e3, e4, e5, _⟩ := OwnV.row ho (by omega)
  have hw3 := h1.up.size
  have hw2 := u2.size
  refine ⟨h, cap, by rw [e, hl], { lin := fun i hi => e4 i _ ?_, frz := e5, gll := e3, glo := by omega, rows := fun i hi => ?_, lens := fun i hi => ?_, own := fun i hi => ?_, inj := fun i j hi hj => ?_, up := h1.up.trans u.nul }⟩
  · unfold two
    split
    · next hik => rw [List.getElem?_append_left (by rw [lnV_length]; exact hik)]; exact lnV_at hik
    · next hik => rw [List.getElem?_append_right (by rw [lnV_length]; omega), lnV_length]; exact lnV_at (by omega)
  · unfold two
    split
    · next hik => exact (h1.rows i hik).up u id
    · next hik => exact (h2.rows (i - k) (by omega)).up u id
  · unfold two
    split
    · next hik => exact h1.lens i hik
    · next hik => exact h2.lens (i - k) (by omega)
  · unfold two
    split
    · next hik =>
      have := h1.lt hik
      have := (h1.own i hik).1
      omega
    · next hik =>
      have := h2.lt (i := i - k) (by omega)
      have := (h2.own (i - k) (by omega)).1
      omega
  · unfold two
    intro he
    split at he
    · next hik =>
      split at he
      · next hjk => exact h1.inj i j hik hjk he
      · next hjk =>
        have := hlt i hik
        have := (h2.own (j - k) (by omega)).1
        omega
    · next hik =>
      split at he
      · next hjk =>
        have := hlt j hjk
        have := (h2.own (i - k) (by omega)).1
        omega
      · next hjk =>
        have := h2.inj (i - k) (j - k) (by omega) (by omega) he
        omega

/-- Lines, the first j that are there put back. -/
def cpy (T : List Nat) (S : Nat → Option (List Nat)) (R : Nat → List Nat) (j t : Nat) : List Nat := if t ∈ T.take j then (S t).getD [] else R t
theorem cpy_zero (T : List Nat) (S : Nat → Option (List Nat)) (R : Nat → List Nat) (t : Nat) : cpy T S R 0 t = R t := by simp [cpy]
theorem cpy_next {T : List Nat} {S : Nat → Option (List Nat)} {R : Nat → List Nat} {j : Nat} {z : List Nat} (hj : j < T.length) (e : S (T.getD j 0) = some z) (t : Nat) : updL (cpy T S R j) (T.getD j 0) z t = cpy T S R (j + 1) t := by
  have ht : T.take (j + 1) = T.take j ++ [T.getD j 0] := by
    rw [List.take_add_one, List.getElem?_eq_getElem hj]
    simp [List.getD_eq_getElem?_getD, List.getElem?_eq_getElem hj]
  unfold updL cpy
  rw [ht]
  by_cases h : t = T.getD j 0
  · rw [if_pos h, if_pos (List.mem_append.2 (.inr (by simp [h]))), h, e]
    rfl
  · rw [if_neg h]
    have : (t ∈ T.take j ++ [T.getD j 0]) ↔ t ∈ T.take j := by
      rw [List.mem_append]
      constructor
      · rintro (h1 | h1)
        · exact h1
        · exact absurd (List.mem_singleton.1 h1) h
      · exact Or.inl
    simp only [this]
/-- All shards, as those that are there say. -/
def decZ (k r L : Nat) (Z : List Nat) (S : Nat → Option (List Nat)) (M : GfM.Mx) : Nat → List Nat :=
  cpy (Tl S (k + r)) S (two k (acrZ k L (invZ k M) fun s => (S ((Tl S (k + r)).getD s 0)).getD []) (acrZ k L Z (acrZ k L (invZ k M) fun s => (S ((Tl S (k + r)).getD s 0)).getD []))) (Tl S (k + r)).length
theorem over_all {y z : List Nat} (h : y.length = z.length) : over y 0 z = z := by
  unfold over
  rw [List.take_zero, List.nil_append, Nat.zero_add, ← h, List.drop_length, List.append_nil]
theorem acrZ_length (k L : Nat) (z : List Nat) (R : Nat → List Nat) (j : Nat) : (acrZ k L z R j).length = L := tab_length _ _

set_option maxRecDepth 100000 in
set_option maxHeartbeats 3200000 in
theorem decode_good (FS : List Nat) (w0 w : World) (c F k r pp pq sp sq : Nat) (Z : List Nat) (g o n cap L : Nat) (S : Nat → Option (List Nat)) (M : GfM.Mx) (hs : LS w0 FS w) (hc : CD FS w c F k r pp pq sp sq Z) (hS : LL FS w g o n S)
    (hn : n = k + r) (hf : Fine S n L) (hL : L ≤ 64) (hT : k ≤ (Tl S n).length) (hM : GfM.run k (GfM.beside k (cz k (pickZ k k (unitZ k ++ Z) fun i => (Tl S n).getD i 0))) k = some M) :
    Calls Try.prog 16 #[.pointer (some ⟨c, 0, none⟩), .slice (some ⟨g, o, none⟩) n cap] w
      fun e w' => ∃ h capw b, e = .returned (.tuple #[.slice (some ⟨h, 0, none⟩) n capw, .int .i64 0]) ∧ Elim w F h n L b (decZ k r L Z S M) w' ∧ Fld F w' := by
  have H := hid (there_fine FS w0 w c F k r pp pq sp sq Z g o n cap L S hs hc hS hn hf hL)
  have k14 := hc.k14
  have r4 := hc.r4
  have c1 := hc.par.mat.c1
  have r1 := hc.par.mat.r1
  have HS := hid (And.intro hs (And.intro hc hS))
  have HF := hid (And.intro hf (And.intro hT (And.intro hM hn)))
  have HFM := hid hc.par.F
  have hge : ¬ ((((Tl S n).length : Nat) : Int) < (k : Int)) := by omega
  have HTN : Hid ((Tl S n).length ≤ n) := Tl_len S n
  obtain ⟨m, HM0⟩ : ∃ x, Hid ((Tl S n).length = x) := ⟨_, rfl⟩
  rw [HM0.out] at hge H
  have hmk : k ≤ m := by rw [← HM0.out]; exact hT
  have hn18 : n ≤ 18 := by omega
  have hm18 : m ≤ 18 := by have := HTN.out; rw [HM0.out] at this; omega
  clear hs hc hn hS hf hT hM
  go_enter Try.func16, Try.ntmps16
  go_wp2_with fail
  refine H.out.mono ?_
  rintro e w1 ⟨⟨a, capm, rfl, hcm, hplc, hbs⟩, u1⟩
  obtain ⟨gp, op, rfl, hgp, hrow⟩ : ∃ gp op, a = some ⟨gp, op, none⟩ ∧ gp < w1.heap.size ∧ RowI w1 gp op m fun i => ((Tl S n).getD i 0 : Nat) := by
    rcases hplc with e | e
    · omega
    · exact e
  have HU1 := hid u1
  have HN1 := hid (HS.out.1.nul u1)
  have x1 := (HS.out.2.1.nxt HN1.out).k0
  have HGF : Hid (gp ∉ FS ∧ gp ≠ F) := by
    have h1 : gp ∉ FS := HS.out.1.lt (hbs _ rfl)
    exact ⟨h1, fun e => h1 (by rw [e]; exact HFM.out)⟩
  have HRI := hid (And.intro hrow hgp)
  have HTS : Hid (∀ i, i < m → (Tl S n).getD i 0 < n ∧ S ((Tl S n).getD i 0) = some ((S ((Tl S n).getD i 0)).getD []) ∧ ((S ((Tl S n).getD i 0)).getD []).length = L) := fun i hi => by
    obtain ⟨h1, z, h2⟩ := Tl_mem (S := S) (n := n) (i := i) (by rw [HM0.out]; exact hi)
    exact ⟨h1, by rw [h2]; rfl, by rw [h2]; exact HF.out.1 _ h1 z h2⟩
  have HDA := hid (data_good FS w0 w1 c F k r pp pq sp sq Z g o n cap L gp op capm S (fun s => (S ((Tl S n).getD s 0)).getD []) (fun i => (Tl S n).getD i 0) M (HS.out.1.nxt HN1.out) (HS.out.2.1.nxt HN1.out) (HS.out.2.2.nxt HN1.out) HF.out.2.2.2 (fun i hi => HRI.out.1 i (by omega)) HRI.out.2 HGF.out.2
    (fun i hi => (HTS.out i (by omega)).1) (fun i hi => (HTS.out i (by omega)).2.1) (fun i hi => (HTS.out i (by omega)).2.2) hL HF.out.2.2.1)
  have i1 : (k : Int) ≤ (capm : Int) := by omega
  have i2 : (0 : Int) ≤ (k : Int) := by omega
  clear u1 hplc hbs hrow hgp H hcm
  go_wp2_with fail
  refine HDA.out.mono ?_
  rintro e w2 ⟨gd, bd, rfl, h1, h2⟩
  have HE1 := hid h1
  have HFL2 := hid h2
  have HN2 := hid (HN1.out.trans ((HS.out.1.nxt HN1.out).one HFM.out h1.up h2))
  have x2 := (HS.out.2.1.nxt HN2.out).p0
  obtain ⟨D, HD⟩ : ∃ D, Hid (D = acrZ k L (invZ k M) fun s => (S ((Tl S n).getD s 0)).getD []) := ⟨_, rfl⟩
  rw [← HD.out] at HE1
  have HAC := hid (across_any pp pq F r k gd 0 k L Z D FS w0 w2 (HS.out.1.nxt HN2.out) (HS.out.2.1.nxt HN2.out).par (HE1.out.ll (HS.out.1.nxt HN1.out)) (fun i hi => HE1.out.lens i hi) hL)
  clear h1 h2 HDA x1 i1
  go_wp2_with fail
  refine HAC.out.mono ?_
  rintro e w3 ⟨gq, bp, rfl, h1, h2⟩
  have HE2 := hid h1
  have HFL3 := hid h2
  have HE3 : Hid (Elim w1 F gd k L bd D w3) := HE1.out.step h1.up (fun e => by
      have := HE1.out.glo
      have := ((HS.out.1.nxt HN1.out).fld F HFM.out).lt
      unfold One at e
      omega) (fun i hi e => by
      have := (HE1.out.own i hi).1
      have := ((HS.out.1.nxt HN1.out).fld F HFM.out).lt
      unfold One at e
      omega) fun k hk e => e
  have HLT : Hid (∀ i, i < k → bd i < w2.heap.size) := fun i hi => HE1.out.lt hi
  obtain ⟨P, HP⟩ : ∃ P, Hid (P = acrZ k L Z D) := ⟨_, rfl⟩
  rw [← HP.out] at HE2
  clear h1 h2 HAC x2
  have q0 := World.cell?_alloc_new w3 #[.slice (some ⟨gd, 0, none⟩) k k, .slice (some ⟨gq, 0, none⟩) r r] 33 0
  have q1 := World.cell?_alloc_new w3 #[.slice (some ⟨gd, 0, none⟩) k k, .slice (some ⟨gq, 0, none⟩) r r] 33 1
  have HUA := hid ((Up.refl Nul w3).alloc (.cells #[.slice (some ⟨gd, 0, none⟩) k k, .slice (some ⟨gq, 0, none⟩) r r] 33))
  have HCT := hid (cat_s w3.heap.size gd gq 0 0 k r k r (lnV k L bd) (lnV r L bp) _ q0 q1 (fun j u hj => (HUA.out.cell (by rw [add_block]; exact HE3.out.gll) id).trans (HE3.out.vals j u hj)) (fun j u hj => (HUA.out.cell (by rw [add_block]; exact HE2.out.gll) id).trans (HE2.out.vals j u hj)) (lnV_one _ _ _) (lnV_one _ _ _) (lnV_length _ _ _) (lnV_length _ _ _)
    (Nat.lt_of_lt_of_le HE3.out.gll HUA.out.size) (Nat.lt_of_lt_of_le HE2.out.gll HUA.out.size) c1 (by omega) (by omega))
  clear q0 q1
  go_wp2_with fail
  refine HCT.out.mono ?_
  rintro e w4 ⟨v, rfl, hown, u4⟩
  obtain ⟨h, capw, rfl, hel⟩ := whole_made (HE3.out.back HU1.out.nul) HE2.out HLT.out (HU1.out.nul.trans HE1.out.up) hown HUA.out.size (HUA.out.trans u4) c1
  have hfl : Fld F w4 := HFL3.out.up (HUA.out.trans u4) id
  obtain ⟨Q, HQ⟩ : ∃ Q, Hid (Q = two k D P) := ⟨_, rfl⟩
  rw [← HQ.out] at hel
  have HW := hid (And.intro (hel.congr fun i _ => (cpy_zero (Tl S n) S Q i).symm) hfl)
  have HRI4 : Hid (∀ W, Up (One F) w W → Fld F W → LL FS W g o n S ∧ LS w0 FS W) := fun W u f => ⟨HS.out.2.2.nxt (HS.out.1.one HFM.out u f), HS.out.1.nxt (HS.out.1.one HFM.out u f)⟩
  have hn4 := HN2.out
  have HPL : Hid (Up (One F) w1 w4) := (HE1.out.up.trans HE2.out.up).trans (HUA.out.trans u4).nul
  have HGB : Hid (∀ i, i < n → two k bd bp i ≠ gp) := fun i hi => by
    unfold two
    have h1 := HRI.out.2
    split
    · next hik =>
      have := (HE1.out.own i hik).1
      omega
    · next hik =>
      have hik2 : i - k < r := by have := HF.out.2.2.2; omega
      have h2 := (HE2.out.own (i - k) hik2).1
      have h3 := HE1.out.up.size
      omega
  have HPI : Hid (RowI w4 gp op m (fun i => ((Tl S n).getD i 0 : Nat)) ∧ gp < w4.heap.size) := ⟨HRI.out.1.up HPL.out HRI.out.2 HGF.out.2, Nat.lt_of_lt_of_le HRI.out.2 HPL.out.size⟩
  clear hel hfl hown u4 hn4 HCT HPL HRI HE1 HE2 HE3 HUA HLT HFL2 HFL3 HN1 HN2 HU1
  rw [← HF.out.2.2.2] at HW ⊢
  go_wp2_with fail
  go_loopw [62] (fun i wr => ∃ j : Nat, j ≤ m ∧ i = .int .i64 j ∧ Elim w F h n L (two k bd bp) (cpy (Tl S n) S Q j) wr ∧ Fld F wr ∧ RowI wr gp op m (fun i => ((Tl S n).getD i 0 : Nat)) ∧ gp < wr.heap.size) (fun i _ => m - (intOf i).toNat)
  case atStart => exact ⟨0, by omega, rfl, HW.out.1, HW.out.2, HPI.out⟩
  case round =>
    clear HW HPI
    obtain ⟨j, hj, rfl, hel, hfl, hri, hgl⟩ := hrel
    have HEL := hid (And.intro hel hfl)
    have HRI := hid (And.intro hri hgl)
    clear hel hfl hri hgl
    by_cases hlt : j < m
    · obtain ⟨t1, t2, t3⟩ := HTS.out j hlt
      have HNX := hid (cpy_next (T := Tl S n) (S := S) (R := Q) (j := j) (by rw [HM0.out]; exact hlt) t2)
      have x1 : wr.cell? ⟨gp, op + j, none⟩ = some (.int .i64 ((Tl S n).getD j 0 : Nat)) := HRI.out.1 j hlt
      obtain ⟨t, ET⟩ : ∃ x, Hid ((Tl S n).getD j 0 = x) := ⟨_, rfl⟩
      rw [ET.out] at x1 t1 t2 t3 HNX
      obtain ⟨z, EZ⟩ : ∃ z, (S t).getD [] = z := ⟨_, rfl⟩
      rw [EZ] at t2 t3 HNX
      obtain ⟨bs, os, caps, x2, hr⟩ := (HRI4.out wr HEL.out.1.up HEL.out.2).1.at t1 t2
      rw [t3] at x2
      have x3 := HEL.out.1.lin t t1
      have HBL := hid (And.intro (HEL.out.1.rows t t1).drew (HEL.out.1.lens t t1))
      have HRR : Hid (Row wr.drew bs os z) := hr.row.up ((Up.refl Nul wr).drew) hr.lt id
      have HZL := hid t3
      have HTN1 := hid t1
      have HNE := hid (HGB.out t t1)
      obtain ⟨bt, BT⟩ : ∃ x, Hid (two k bd bp t = x) := ⟨_, rfl⟩
      rw [BT.out] at x3 HBL HNE
      have HG3 : Hid (g ≠ bt ∧ h ≠ bt) := by
        have h1 := (HEL.out.1.own t t1)
        rw [BT.out] at h1
        have h2 := HS.out.2.2.lt
        exact ⟨by omega, fun e => h1.2 e.symm⟩
      have j1 : (0 : Int) ≤ (j : Int) := by omega
      have j2 : (j : Int) < (m : Int) := by omega
      have j3 : (0 : Int) ≤ (t : Int) := by omega
      have j4 : (t : Int) < (n : Int) := by omega
      have y1 : wr.drew.cell? ⟨g, o + t, none⟩ = some (.slice (some ⟨bs, os, none⟩) L caps) := x2
      have y2 : wr.drew.cell? ⟨h, t, none⟩ = some (.slice (some ⟨bt, 0, none⟩) L L) := x3
      clear t1 t2 t3 EZ hr
      go_wp2_with fail
      go_region_held3 (fun w' => w'.cell? ⟨h, t, none⟩ = some (.slice (some ⟨bt, 0, none⟩) L L) ∧ w'.cell? ⟨g, o + t, none⟩ = some (.slice (some ⟨bs, os, none⟩) L caps)) (first | exact ⟨by assumption, by assumption⟩ | go_keep)
        (((with_reducible refine step_copy_bytes rfl (.tmp 69) (.tmp 73) rfl bt 0 L L L bs os caps (cpy (Tl S n) S Q j t) z HBL.out.1 HRR.out HZL.out (Nat.le_refl _) (by rw [HBL.out.2]; omega) rfl rfl ?_); intro wd H1 H2; have d1 := (H2.out.1.cell (p := ⟨h, t, none⟩) (lt_of_cell y2) HG3.out.2).trans y2; have d2 := (H2.out.1.cell (p := ⟨g, o + t, none⟩) (lt_of_cell y1) HG3.out.1).trans y1))
      have hup : Up (One (two k bd bp t)) wr wd := by rw [BT.out]; exact ((Up.refl _ wr).drew).trans H2.out.1
      have hb : Blk wd (two k bd bp t) z := by rw [BT.out, ← over_all (y := cpy (Tl S n) S Q j t) (z := z) (by rw [HBL.out.2, HZL.out])]; exact H1.out
      have hel := (HEL.out.1.turn HTN1.out hb HZL.out hup).congr fun i _ => HNX.out i
      have hfl : Fld F wd := HEL.out.2.up hup (by
        have := (HEL.out.1.own t HTN1.out).1
        have := (HS.out.1.fld F HFM.out).lt
        unfold One
        omega)
      have hri := HRI.out.1.up hup HRI.out.2 (by rw [BT.out]; exact fun e => HNE.out e.symm)
      have HFI := hid (And.intro hel (And.intro hfl (And.intro hri (Nat.lt_of_lt_of_le HRI.out.2 hup.size))))
      clear hup hb hel hfl hri
      go_wp2
      go_roundw
      case rel => exact ⟨j + 1, by omega, by go_num, HFI.out⟩
      case measure => simp [intOf]; omega
    · obtain rfl : m = j := by omega
      go_wp2
      go_ret2
      have e1 : ∀ i, i < n → cpy (Tl S n) S Q m i = decZ k r L Z S M i := fun i _ => by
        have hq := HQ.out
        have hd := HD.out
        have hp := HP.out
        subst hq hp hd
        unfold decZ
        rw [← HF.out.2.2.2, HM0.out]
      exact ⟨h, capw, two k bd bp, rfl, HEL.out.1.congr e1, HEL.out.2⟩
end Go.Proofs.Ytebglmfdchfplaa
