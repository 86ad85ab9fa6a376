/- Which answer a list of shards has, of the program and of the document. -/
import Derived.Test.YtkenfabnbmkhbaaGreatDecBytes
namespace Go.Proofs.YtkenfabnbmkhbaaGreat
open Go.RowKit
set_option linter.unusedVariables false

set_option maxRecDepth 100000 in
set_option maxHeartbeats 1600000 in
theorem reb_any2 (FS : List Nat) (w0 w : World) (c F k r pp pq sp sq : Nat) (Z : List Nat) (g o n cap L i : Nat) (S : Nat → Option (List Nat)) (hs : LS w0 FS w) (hc : CD FS w c F k r pp pq sp sq Z) (hS : LL FS w g o n S) (hn : n = k + r) (hf : Fine S n L) (hL : L ≤ 64) (hi : i < n)
    (hM : k ≤ (Tl (out1 S i) n).length → ∃ M, GfM.run k (GfM.beside k (cz k (pickZ k k (unitZ k ++ Z) fun j => (Tl (out1 S i) n).getD j 0))) k = some M) :
    Calls Tryz.prog 18 #[.pointer (some ⟨c, 0, none⟩), .slice (some ⟨g, o, none⟩) n cap, .int .i64 i] w
      fun e w' => (((Tl (out1 S i) n).length < k ∧ e = .returned (.tuple #[.slice none 0 0, .int .i64 3])) ∨
        k ≤ (Tl (out1 S i) n).length ∧ ∃ M b, GfM.run k (GfM.beside k (cz k (pickZ k k (unitZ k ++ Z) fun j => (Tl (out1 S i) n).getD j 0))) k = some M ∧ e = .returned (.tuple #[.slice (some ⟨b, 0, none⟩) L L, .int .i64 0]) ∧ Blk w' b (decZ k r L Z (out1 S i) M i) ∧ (decZ k r L Z (out1 S i) M i).length = L ∧ w.heap.size ≤ b) ∧ Up (One F) w w' ∧ Fld F w' := by
  have H := hid (there_fine FS w0 w c F k r pp pq sp sq Z g o n cap L S hs hc hS hn hf hL)
  have k14 := hc.k14
  have r4 := hc.r4
  have HS := hid (And.intro hs (And.intro hc hS))
  have HF := hid (And.intro hf hn)
  have HFM := hid hc.par.F
  have HMM := hid hM
  have hn18 : n ≤ 18 := by omega
  have i1 : ¬ ((i : Int) < 0) := by omega
  have i2 : ¬ ((n : Int) ≤ (i : Int)) := by omega
  have i3 : (0 : Int) ≤ (i : Int) := by omega
  have i4 : (i : Int) < (n : Int) := by omega
  clear hs hc hn hS hf hM
  go_enter Tryz.func18, Tryz.ntmps18
  go_wp2_with fail
  refine H.out.mono ?_
  rintro e w1 ⟨⟨a, capm, rfl, _⟩, u1⟩
  have HU1 := hid u1
  have HN1 := hid (HS.out.1.nul u1)
  have HCL := hid (clone_s FS w0 w1 g o n cap S (HS.out.1.nxt HN1.out) (HS.out.2.2.nxt HN1.out) (by omega) (by omega))
  clear u1 H
  go_wp2_with fail
  refine HCL.out.mono ?_
  rintro e w2 ⟨h, cap', rfl, c1, c2, c3, u2, c4⟩
  have HU2 := hid (HU1.out.trans u2)
  have x1 : ∃ v, w2.cell? ⟨h, i, none⟩ = some v := by
    obtain ⟨v, hv, _⟩ := c1.cells i hi
    rw [Nat.zero_add] at hv
    exact ⟨v, hv⟩
  obtain ⟨v, x1⟩ := x1
  have x2 := c2 i
  have HNH : Hid (∀ t, t < n → ∀ z, S t = some z → ∀ b o, (∃ cap, w2.cell? ⟨h, t, none⟩ = some (.slice (some ⟨b, o, none⟩) z.length cap)) → b ≠ h) := by
    intro t ht z ez b o2 ⟨cp, hx⟩
    obtain ⟨b', so, cp', hv, lr⟩ := (HS.out.2.2.nxt HN1.out).at ht ez
    rw [c4 t ht, hv] at hx
    injection hx with hx
    injection hx with hx _ _
    injection hx with hx
    injection hx with hx _ _
    have := lr.lt
    omega
  have HLL := hid (c1.out1 HNH.out hi)
  have HU3 : Hid (Up Nul w (w2.setCell ⟨h, i, none⟩ (.slice none 0 0))) := HU2.out.setCell (p := ⟨h, i, none⟩) (.inl (by have := HU1.out.size; show _ ≤ h; omega)) _
  have HN3 := hid (HS.out.1.nul HU3.out)
  clear c1 c2 c3 c4 u2 HCL HNH
  go_wp2_with fail
  generalize w2.setCell ⟨h, i, none⟩ (.slice none 0 0) = w3 at *
  have HFI : Hid (Fine (out1 S i) n L) := fun t ht z e => by
    unfold out1 at e
    split at e
    · cases e
    · exact HF.out.1 t ht z e
  by_cases hT : (Tl (out1 S i) n).length < k
  · have HDL := hid (decode_lost FS w0 w3 c F k r pp pq sp sq Z h 0 n cap' L (out1 S i) (HS.out.1.nxt HN3.out) (HS.out.2.1.nxt HN3.out) HLL.out HF.out.2 HFI.out hL hT)
    have HTT := hid hT
    clear hT x1 x2
    go_wp2_with fail
    refine HDL.out.mono ?_
    rintro e w4 ⟨rfl, u4⟩
    have HU4 := hid (HU3.out.trans u4)
    clear u4 HDL
    go_wp2
    go_ret2
    exact ⟨.inl ⟨HTT.out, rfl⟩, HU4.out.nul, (HS.out.1.fld F HFM.out).up HU4.out id⟩
  · obtain ⟨M, hM⟩ := HMM.out (by omega)
    have HDG := hid (decode_good FS w0 w3 c F k r pp pq sp sq Z h 0 n cap' L (out1 S i) M (HS.out.1.nxt HN3.out) (HS.out.2.1.nxt HN3.out) HLL.out HF.out.2 HFI.out hL (by omega) hM)
    have HMO := hid hM
    have HTK : Hid (k ≤ (Tl (out1 S i) n).length) := by show _ ≤ _; omega
    clear hT hM x1 x2
    go_wp2_with fail
    refine HDG.out.mono ?_
    rintro e w4 ⟨hh, capw, b, rfl, h1, h2⟩
    have x3 := h1.lin i hi
    have HE := hid (And.intro h1 h2)
    clear h1 h2 HDG
    go_wp2
    go_ret2
    exact ⟨.inr ⟨HTK.out, M, b i, HMO.out, rfl, HE.out.1.rows i hi, HE.out.1.lens i hi, Nat.le_trans HU3.out.size (HE.out.1.own i hi).1⟩, HU3.out.nul.trans HE.out.1.up, HE.out.2⟩
theorem Two.upS {P : Nat → Prop} {w w' : World} {g n : Nat} {S : Nat → Option (List Nat)} (h : Two w g n S) (u : Up P w w') (hg : ¬ P g) : Two w' g n S :=
  ⟨fun i hi => (u.cell (p := ⟨g, i * 2, none⟩) h.lt hg).trans (h.b i hi), fun i hi => (u.cell (p := ⟨g, i * 2 + 1, none⟩) h.lt hg).trans (h.is i hi), Nat.lt_of_lt_of_le h.lt u.size⟩
/-- Refused: a list of a wrong length, or odd. -/
def K1 (k r m : Nat) (S : Nat → Option (List Nat)) : Prop := m ≠ k + r ∨ (m = k + r ∧ ∃ i, i < m ∧ Odd1 S i)
/-- Of one length. -/
def KF (k r m : Nat) (S : Nat → Option (List Nat)) (L : Nat) : Prop := m = k + r ∧ L ≤ 64 ∧ Fine S m L
theorem kinds (k r m : Nat) (S : Nat → Option (List Nat)) : K1 k r m S ∨ ∃ L, KF k r m S L := by
  by_cases hm : m = k + r
  · by_cases ho : ∃ i, i < m ∧ Odd1 S i
    · exact .inl (.inr ⟨hm, ho⟩)
    · obtain ⟨L, hL, hf, _⟩ := fine_of m fun i hi h => ho ⟨i, hi, h⟩
      exact .inr ⟨L, hm, hL, hf⟩
  · exact .inl (.inl hm)
abbrev mdZ (at_ : Int) (k r : Nat) : List Nat := coefZ k r (mdX at_ k) (mdY at_ k r)
/-- Where the law stands: the code, the shards, the document's. -/
structure DB (w0 : World) (w : World) (V gx cx gy cy c F k r pp pq sp sq : Nat) (at_ : Int) (h m : Nat) (S : Nat → Option (List Nat)) (g2 : Nat) : Prop where
  cs : CS w0 [F] w V gx cx gy cy c F k r pp pq sp sq at_
  ll : LL [F] w h 0 m S
  two : Two w g2 m S
  fr : ∀ j, w.frozen? ⟨g2, j, none⟩ = false
  b : g2 ∉ [F]
section
variable {w0 w w' : World} {V gx cx gy cy c F k r pp pq sp sq h m g2 : Nat} {at_ : Int} {S : Nat → Option (List Nat)}
theorem DB.nxt (d : DB w0 w V gx cx gy cy c F k r pp pq sp sq at_ h m S g2) (n : Nxt [F] w w') : DB w0 w' V gx cx gy cy c F k r pp pq sp sq at_ h m S g2 :=
  ⟨d.cs.nxt n, d.ll.nxt n, d.two.upS n.up d.b, fun j => (n.up.froz (p := ⟨g2, j, none⟩) d.two.lt d.b).trans (d.fr j), d.b⟩
theorem DB.nul (d : DB w0 w V gx cx gy cy c F k r pp pq sp sq at_ h m S g2) (u : Up Nul w w') : DB w0 w' V gx cx gy cy c F k r pp pq sp sq at_ h m S g2 := d.nxt (d.cs.ls.nul u)
theorem dec_1 (d : DB w0 w V gx cx gy cy c F k r pp pq sp sq at_ h m S g2) (hk : K1 k r m S) (cap : Nat) :
    Calls Tryz.prog 13 #[.pointer (some ⟨c, 0, none⟩), .slice (some ⟨h, 0, none⟩) m cap] w fun e w' => e = .returned (.tuple #[.slice none 0 0, .int .i64 1]) ∧ Up Nul w w' := by
  rcases hk with hm | ⟨hm, ho⟩
  · exact decode_len [F] w0 w c F k r pp pq sp sq _ m cap _ d.cs.ls d.cs.cd hm
  · exact decode_odd [F] w0 w c F k r pp pq sp sq _ h 0 m cap S d.cs.ls d.cs.cd d.ll hm (odd_ul ho)
theorem dec_3 {L : Nat} (d : DB w0 w V gx cx gy cy c F k r pp pq sp sq at_ h m S g2) (hk : KF k r m S L) (hT : (Tl S m).length < k) (cap : Nat) :
    Calls Tryz.prog 13 #[.pointer (some ⟨c, 0, none⟩), .slice (some ⟨h, 0, none⟩) m cap] w fun e w' => e = .returned (.tuple #[.slice none 0 0, .int .i64 3]) ∧ Up Nul w w' :=
  decode_lost [F] w0 w c F k r pp pq sp sq _ h 0 m cap L S d.cs.ls d.cs.cd d.ll hk.1 hk.2.2 hk.2.1 hT
theorem dec_0 {L : Nat} {M : GfM.Mx} (d : DB w0 w V gx cx gy cy c F k r pp pq sp sq at_ h m S g2) (hk : KF k r m S L) (hT : k ≤ (Tl S m).length) (hM : GfM.run k (GfM.beside k (cz k (pickZ k k (unitZ k ++ mdZ at_ k r) fun i => (Tl S m).getD i 0))) k = some M) (cap : Nat) :
    Calls Tryz.prog 13 #[.pointer (some ⟨c, 0, none⟩), .slice (some ⟨h, 0, none⟩) m cap] w
      fun e w' => ∃ g cg, e = .returned (.tuple #[.slice (some ⟨g, 0, none⟩) m cg, .int .i64 0]) ∧ (LL [F] w' g 0 m fun t => some (decZ k r L (mdZ at_ k r) S M t)) ∧ Nxt [F] w w' := by
  refine (decode_good [F] w0 w c F k r pp pq sp sq _ h 0 m cap L S M d.cs.ls d.cs.cd d.ll hk.1 hk.2.2 hk.2.1 hT hM).mono ?_
  rintro e w' ⟨g, cg, b, rfl, le, lf⟩
  exact ⟨g, cg, rfl, le.ll d.cs.ls, d.cs.ls.one (List.mem_cons_self ..) le.up lf⟩
theorem rdec_1 (d : DB w0 w V gx cx gy cy c F k r pp pq sp sq at_ h m S g2) (hk : K1 k r m S) (k1 : 1 ≤ k) (k14 : k ≤ 14) (r4 : r ≤ 4) (hm : m ≤ 18) (hl : ∀ i z, S i = some z → z.length ≤ 1000) (cap : Nat) :
    Calls Tryz.prog 14 #[.agg #[.slice (some ⟨gx, 0, none⟩) k cx, .slice (some ⟨gy, 0, none⟩) r cy], .slice (some ⟨g2, 0, none⟩) m cap] w fun e w' => e = .returned (.tuple #[.slice none 0 0, .int .i64 1]) ∧ Up Nul w w' := by
  rcases hk with h1 | ⟨h1, h2⟩
  · exact refDec_off _ cap gx cx gy cy k r m w (by omega) k14 r4 (by omega)
  · exact refDec_bad g2 cap gx cx gy cy k r m 1 S w d.two h1 k1 k14 r4 hl (.inl ⟨h2, rfl⟩)
theorem rdec_3 {L : Nat} (d : DB w0 w V gx cx gy cy c F k r pp pq sp sq at_ h m S g2) (hk : KF k r m S L) (hT : (Tl S m).length < k) (k1 : 1 ≤ k) (k14 : k ≤ 14) (r4 : r ≤ 4) (hl : ∀ i z, S i = some z → z.length ≤ 1000) (cap : Nat) :
    Calls Tryz.prog 14 #[.agg #[.slice (some ⟨gx, 0, none⟩) k cx, .slice (some ⟨gy, 0, none⟩) r cy], .slice (some ⟨g2, 0, none⟩) m cap] w fun e w' => e = .returned (.tuple #[.slice none 0 0, .int .i64 3]) ∧ Up Nul w w' :=
  refDec_bad g2 cap gx cx gy cy k r m 3 S w d.two hk.1 k1 k14 r4 hl (.inr ⟨fine_not_odd hk.2.2 hk.2.1, hT, rfl⟩)
theorem rdec_0 {L : Nat} {M : GfM.Mx} (d : DB w0 w V gx cx gy cy c F k r pp pq sp sq at_ h m S g2) (hk : KF k r m S L) (hT : k ≤ (Tl S m).length) (hM : GfM.run k (GfM.beside k (cz k (pickZ k k (unitZ k ++ mdZ at_ k r) fun i => (Tl S m).getD i 0))) k = some M) (k1 : 1 ≤ k) (k14 : k ≤ 14) (r1 : 1 ≤ r) (r4 : r ≤ 4) (hl : ∀ i z, S i = some z → z.length ≤ 1000) (sS : ∀ t z, S t = some z → ∀ u, z.getD u 0 < 256) (cap : Nat) :
    Calls Tryz.prog 14 #[.agg #[.slice (some ⟨gx, 0, none⟩) k cx, .slice (some ⟨gy, 0, none⟩) r cy], .slice (some ⟨g2, 0, none⟩) m cap] w
      fun e w' => ∃ g cg, e = .returned (.tuple #[.slice (some ⟨g, 0, none⟩) m cg, .int .i64 0]) ∧ St2 w' g m (decZ k r L (mdZ at_ k r) S M) ∧ Up Nul w w' := by
  refine (refDec_good [F] w0 w g2 cap gx cx gy cy k r m L (mdX at_ k) (mdY at_ k r) S M d.cs.ls d.cs.lc.x d.cs.lc.y (mdX_length _ _) (mdY_length _ _ _) d.two hk.1 k1 k14 r1 r4 hk.2.2 hk.2.1 sS hl hT hM).mono ?_
  rintro e w' ⟨v, rfl, ho, u⟩
  obtain ⟨g, cg, e, e1, e2, e3, _, _⟩ := OwnV.row ho (by rw [strV_length]; have := hk.1; omega)
  rw [strV_length] at e
  exact ⟨g, cg, by rw [e], ⟨fun i hi => e3 i _ (strV_at hi), e2⟩, u⟩
theorem chk_1 (d : DB w0 w V gx cx gy cy c F k r pp pq sp sq at_ h m S g2) (hk : K1 k r m S) (cap : Nat) :
    Calls Tryz.prog 16 #[.pointer (some ⟨c, 0, none⟩), .slice (some ⟨h, 0, none⟩) m cap] w fun e w' => e = .returned (.tuple #[.bool false, .int .i64 1]) ∧ Up Nul w w' := by
  rcases hk with hm | ⟨hm, ho⟩
  · exact check_len [F] w0 w c F k r pp pq sp sq _ m cap _ d.cs.ls d.cs.cd hm
  · exact check_odd [F] w0 w c F k r pp pq sp sq _ h 0 m cap S d.cs.ls d.cs.cd d.ll hm (odd_ul ho)
theorem rchk_1 (d : DB w0 w V gx cx gy cy c F k r pp pq sp sq at_ h m S g2) (hk : K1 k r m S) (k1 : 1 ≤ k) (k14 : k ≤ 14) (r4 : r ≤ 4) (hm : m ≤ 18) (hl : ∀ i z, S i = some z → z.length ≤ 1000) (cap : Nat) :
    Calls Tryz.prog 17 #[.agg #[.slice (some ⟨gx, 0, none⟩) k cx, .slice (some ⟨gy, 0, none⟩) r cy], .slice (some ⟨g2, 0, none⟩) m cap] w fun e w' => e = .returned (.tuple #[.bool false, .int .i64 1]) ∧ Up Nul w w' := by
  rcases hk with h1 | ⟨h1, h2⟩
  · exact refChk_off _ cap gx cx gy cy k r m w (by omega) k14 r4 (by omega)
  · exact refChk_bad g2 cap gx cx gy cy k r m 1 S w d.two h1 k1 k14 r4 hl (.inl ⟨h2, rfl⟩)
/-- What is told of shards of one length: the same by both. -/
def ChkB (k r m : Nat) (S : Nat → Option (List Nat)) (L : Nat) (Z : List Nat) (b : Bool) (q : Nat) : Prop :=
  ((Tl S m).length < m ∧ b = false ∧ q = 3) ∨ ((∀ t, t < m → (S t).isSome = true) ∧ q = 0 ∧ (b = true ↔ ∀ j, j < r → acrZ k L Z (fun t => (S t).getD []) j = (S (k + j)).getD []))
theorem ChkB.same {k r m L : Nat} {S : Nat → Option (List Nat)} {Z : List Nat} {b b' : Bool} {q q' : Nat} (h : ChkB k r m S L Z b q) (h' : ChkB k r m S L Z b' q') : b = b' ∧ q = q' := by
  rcases h with ⟨h1, h2, h3⟩ | ⟨h1, h2, h3⟩
  · rcases h' with ⟨_, g2, g3⟩ | ⟨g1, _, _⟩
    · exact ⟨h2.trans g2.symm, h3.trans g3.symm⟩
    · rw [Tl_all g1, List.length_range] at h1; omega
  · rcases h' with ⟨g1, _, _⟩ | ⟨_, g2, g3⟩
    · rw [Tl_all h1, List.length_range] at g1; omega
    · refine ⟨?_, h2.trans g2.symm⟩
      cases b with
      | true =>
        cases b' with
        | true => rfl
        | false => exact absurd (g3.2 (h3.1 rfl)) Bool.false_ne_true
      | false =>
        cases b' with
        | true => exact absurd (h3.2 (g3.1 rfl)) Bool.false_ne_true
        | false => rfl
theorem ChkB.not1 {k r m L : Nat} {S : Nat → Option (List Nat)} {Z : List Nat} {b : Bool} {q : Nat} (h : ChkB k r m S L Z b q) : q ≠ 1 := by
  rcases h with ⟨_, _, h⟩ | ⟨_, h, _⟩ <;> omega
theorem all_or (S : Nat → Option (List Nat)) (m : Nat) : (Tl S m).length < m ∨ ∀ t, t < m → (S t).isSome = true := by
  by_cases h : ∀ t, t < m → (S t).isSome = true
  · exact .inr h
  · left
    have hle := Tl_len S m
    by_cases e : (Tl S m).length = m
    · exfalso
      apply h
      intro t ht
      have hs : Tl S m = List.range m := by
        have : ((List.range m).filter fun i => (S i).isSome).length = (List.range m).length := by rw [List.length_range]; exact e
        exact List.filter_eq_self.2 (fun a ha => by
          have := List.length_filter_eq_length_iff.1 this a ha
          simpa using this)
      have : t ∈ Tl S m := by rw [hs]; exact List.mem_range.2 ht
      exact (Tl_iff.1 this).2
    · omega
theorem chk_f {L : Nat} (d : DB w0 w V gx cx gy cy c F k r pp pq sp sq at_ h m S g2) (hk : KF k r m S L) (cap : Nat) (hcap : m ≤ cap) :
    Calls Tryz.prog 16 #[.pointer (some ⟨c, 0, none⟩), .slice (some ⟨h, 0, none⟩) m cap] w fun e w' => ∃ (b : Bool) (q : Nat), e = .returned (.tuple #[.bool b, .int .i64 q]) ∧ ChkB k r m S L (mdZ at_ k r) b q ∧ Nxt [F] w w' := by
  rcases all_or S m with hT | hA
  · refine (check_lost [F] w0 w c F k r pp pq sp sq _ h 0 m cap L S d.cs.ls d.cs.cd d.ll hk.1 hk.2.2 hk.2.1 hT).mono ?_
    rintro e w' ⟨rfl, u⟩
    exact ⟨false, 3, rfl, .inl ⟨hT, rfl, rfl⟩, d.cs.ls.nul u⟩
  · have hS : ∀ t, t < m → S t = some ((S t).getD []) := fun t ht => by
      obtain ⟨z, hz⟩ := Option.isSome_iff_exists.1 (hA t ht)
      rw [hz]; rfl
    refine (check_good [F] w0 w c F k r pp pq sp sq _ h 0 m cap L (fun t => (S t).getD []) d.cs.ls d.cs.cd (d.ll.congr hS) hk.1 (fun t ht => hk.2.2 t ht _ (hS t ht)) hk.2.1 hcap).mono ?_
    rintro e w' ⟨⟨rfl, he⟩ | ⟨rfl, j, hj, he⟩, u, f⟩
    · exact ⟨true, 0, rfl, .inr ⟨hA, rfl, fun _ => he, fun _ => rfl⟩, d.cs.ls.one (List.mem_cons_self ..) u f⟩
    · exact ⟨false, 0, rfl, .inr ⟨hA, rfl, (fun h => by cases h), fun h => absurd (h j hj) he⟩, d.cs.ls.one (List.mem_cons_self ..) u f⟩
theorem rchk_f {L : Nat} (d : DB w0 w V gx cx gy cy c F k r pp pq sp sq at_ h m S g2) (hk : KF k r m S L) (k1 : 1 ≤ k) (k14 : k ≤ 14) (r1 : 1 ≤ r) (r4 : r ≤ 4) (hl : ∀ i z, S i = some z → z.length ≤ 1000) (sS : ∀ t z, S t = some z → ∀ u, z.getD u 0 < 256) (cap : Nat) :
    Calls Tryz.prog 17 #[.agg #[.slice (some ⟨gx, 0, none⟩) k cx, .slice (some ⟨gy, 0, none⟩) r cy], .slice (some ⟨g2, 0, none⟩) m cap] w fun e w' => ∃ (b : Bool) (q : Nat), e = .returned (.tuple #[.bool b, .int .i64 q]) ∧ ChkB k r m S L (mdZ at_ k r) b q ∧ Up Nul w w' := by
  rcases all_or S m with hT | hA
  · refine (refChk_bad g2 cap gx cx gy cy k r m 3 S w d.two hk.1 k1 k14 r4 hl (.inr ⟨fine_not_odd hk.2.2 hk.2.1, hT, rfl⟩)).mono ?_
    rintro e w' ⟨rfl, u⟩
    exact ⟨false, 3, rfl, .inl ⟨hT, rfl, rfl⟩, u⟩
  · have hS : ∀ t, t < m → S t = some ((S t).getD []) := fun t ht => by
      obtain ⟨z, hz⟩ := Option.isSome_iff_exists.1 (hA t ht)
      rw [hz]; rfl
    refine (refChk_good [F] w0 w g2 cap gx cx gy cy k r m L (mdX at_ k) (mdY at_ k r) S (fun t => (S t).getD []) d.cs.ls d.cs.lc.x d.cs.lc.y (mdX_length _ _) (mdY_length _ _ _) d.two hk.1 k1 k14 r1 r4 hk.2.2 hk.2.1 (fun t u => by
      rcases e : S t with _ | z
      · simp
      · exact sS t z e u) hl hS).mono ?_
    rintro e w' ⟨⟨rfl, he⟩ | ⟨rfl, j, hj, he⟩, u⟩
    · exact ⟨true, 0, rfl, .inr ⟨hA, rfl, fun _ => he, fun _ => rfl⟩, u⟩
    · exact ⟨false, 0, rfl, .inr ⟨hA, rfl, (fun h => by cases h), fun h => absurd (h j hj) he⟩, u⟩
/-- Refused by 'Rebuild'. -/
theorem rebL_1 (d : DB w0 w V gx cx gy cy c F k r pp pq sp sq at_ h m S g2) (i : Int) (hk : K1 k r m S ∨ ((i < 0 ∨ (m : Int) ≤ i) ∧ ∃ L, KF k r m S L)) (cap : Nat) :
    Calls Tryz.prog 18 #[.pointer (some ⟨c, 0, none⟩), .slice (some ⟨h, 0, none⟩) m cap, .int .i64 i] w fun e w' => e = .returned (.tuple #[.slice none 0 0, .int .i64 1]) ∧ Up Nul w w' := by
  rcases hk with (hm | ⟨hm, ho⟩) | ⟨hi, L, h1, h2, h3⟩
  · exact reb_len [F] w0 w c F k r pp pq sp sq _ m cap _ i d.cs.ls d.cs.cd hm
  · exact reb_odd [F] w0 w c F k r pp pq sp sq _ h 0 m cap S i d.cs.ls d.cs.cd d.ll hm (odd_ul ho)
  · exact reb_arg [F] w0 w c F k r pp pq sp sq _ h 0 m cap L S i d.cs.ls d.cs.cd d.ll h1 h3 h2 hi
def RebP (w0 : World) (at_ : Int) (F k r m L i : Nat) (S : Nat → Option (List Nat)) (w : World) (e : Ending) (w' : World) : Prop :=
  (((Tl (out1 S i) m).length < k ∧ e = .returned (.tuple #[.slice none 0 0, .int .i64 3])) ∨
    (k ≤ (Tl (out1 S i) m).length ∧ ∃ M b, GfM.run k (GfM.beside k (cz k (pickZ k k (unitZ k ++ mdZ at_ k r) fun j => (Tl (out1 S i) m).getD j 0))) k = some M ∧ e = .returned (.tuple #[.slice (some ⟨b, 0, none⟩) L L, .int .i64 0]) ∧ Blk w' b (decZ k r L (mdZ at_ k r) (out1 S i) M i) ∧ (decZ k r L (mdZ at_ k r) (out1 S i) M i).length = L ∧ b ∉ [F])) ∧ Nxt [F] w w'
theorem rebL_0 {L : Nat} (d : DB w0 w V gx cx gy cy c F k r pp pq sp sq at_ h m S g2) (i : Nat) (hk : KF k r m S L) (hi : i < m) (h18 : k + r ≤ 18) (cap : Nat) :
    Calls Tryz.prog 18 #[.pointer (some ⟨c, 0, none⟩), .slice (some ⟨h, 0, none⟩) m cap, .int .i64 i] w (RebP w0 at_ F k r m L i S w) := by
  refine (reb_any2 [F] w0 w c F k r pp pq sp sq _ h 0 m cap L i S d.cs.ls d.cs.cd d.ll hk.1 hk.2.2 hk.2.1 hi (fun hS => by
    have hm := hk.1
    subst hm
    exact md_regular _ h18 hS)).mono ?_
  rintro e w' ⟨hp, u, f⟩
  refine ⟨?_, d.cs.ls.one (List.mem_cons_self ..) u f⟩
  rcases hp with hp | ⟨hT, M, b, hM, he, hb, hl, hbw⟩
  · exact .inl hp
  · exact .inr ⟨hT, M, b, hM, he, hb, hl, d.cs.ls.lt hbw⟩
end
end Go.Proofs.YtkenfabnbmkhbaaGreat
