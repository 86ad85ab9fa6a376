/- 'Encode', 'data' of a Code. -/
import Derived.Test.YtebglmfdchfplaaCodeConcat
namespace Go.Proofs.Ytebglmfdchfplaa
open Go.RowKit
set_option linter.unusedVariables false

/-- All that is there is alike. -/
theorem not_ul {l : Nat → Nat} {L i : Nat} (hL : L ≤ 64) (h : l i = L) (h0 : l 0 = L) : ¬ UL l i := by
  unfold UL
  omega
theorem Elim.back {W V w : World} {F gl n m : Nat} {b : Nat → Nat} {L : Nat → List Nat} (h : Elim V F gl n m b L w) (u : Up (One F) W V) : Elim W F gl n m b L w :=
  { h with glo := Nat.le_trans u.size h.glo, own := fun i hi => ⟨Nat.le_trans u.size (h.own i hi).1, (h.own i hi).2⟩, up := u.trans h.up }

set_option maxHeartbeats 800000 in
theorem enc_len (FS : List Nat) (w0 w : World) (c F k r pp pq sp sq : Nat) (Z : List Nat) (n cap : Nat) (a : Option Addr) (hs : LS w0 FS w) (hc : CD FS w c F k r pp pq sp sq Z) (hn : n ≠ k) :
    Calls Try.prog 13 #[.pointer (some ⟨c, 0, none⟩), .slice a n cap] w
      fun e w' => e = .returned (.tuple #[.slice none 0 0, .int .i64 1]) ∧ Up Nul w w' := by
  have x1 := hc.k0
  have e1 : ((n : Int) == (k : Int)) = false := by simp; omega
  have e2 : ((n : Int) != (k : Int)) = true := by simp; omega
  clear hc hs hn
  go_enter Try.func13, Try.ntmps13
  go_wp2
  go_ret2
  exact ⟨rfl, Up.refl _ _⟩
set_option maxHeartbeats 800000 in
theorem enc_bad (FS : List Nat) (w0 w : World) (c F k r pp pq sp sq : Nat) (Z : List Nat) (g o cap : Nat) (l : Nat → Nat) (hs : LS w0 FS w) (hc : CD FS w c F k r pp pq sp sq Z) (hl : RowL w g o k l) (hg : g < w.heap.size) (hb : ∃ i, i < k ∧ UL l i) :
    Calls Try.prog 13 #[.pointer (some ⟨c, 0, none⟩), .slice (some ⟨g, o, none⟩) k cap] w
      fun e w' => e = .returned (.tuple #[.slice none 0 0, .int .i64 1]) ∧ Up Nul w w' := by
  have hnot : ∀ (x : Bool) (w : World), (Op.unary .not (.bool x)).run Try.prog w = .ok (.bool (!x)) w := fun _ _ => rfl
  have x1 := hc.k0
  have k14 := hc.k14
  have HA := hid (alike_any g o k cap l w hl hg (by omega))
  have HB := hid hb
  clear hc hs hl hg hb
  go_enter Try.func13, Try.ntmps13
  go_wp2_with fail
  refine HA.out.mono ?_
  rintro e w1 ⟨⟨rfl, hb⟩ | ⟨rfl, hb⟩, u1⟩
  · obtain ⟨i, hi, h⟩ := HB.out
    exact absurd h (hb i hi)
  · have HU := hid u1
    clear u1 hb HA
    go_wp2
    go_ret2
    exact ⟨rfl, HU.out⟩
set_option maxHeartbeats 800000 in
theorem enc_good (FS : List Nat) (w0 w : World) (c F k r pp pq sp sq : Nat) (Z : List Nat) (g o cap L : Nat) (R : Nat → List Nat) (hs : LS w0 FS w) (hc : CD FS w c F k r pp pq sp sq Z) (hR : LL FS w g o k fun i => some (R i)) (hl : ∀ i, i < k → (R i).length = L) (hL : L ≤ 64) :
    Calls Try.prog 13 #[.pointer (some ⟨c, 0, none⟩), .slice (some ⟨g, o, none⟩) k cap] w
      fun e w' => ∃ gl b, e = .returned (.tuple #[.slice (some ⟨gl, 0, none⟩) r r, .int .i64 0]) ∧ Elim w F gl r L b (acrZ k L Z R) w' ∧ Fld F w' := by
  have hnot : ∀ (x : Bool) (w : World), (Op.unary .not (.bool x)).run Try.prog w = .ok (.bool (!x)) w := fun _ _ => rfl
  have x1 := hc.k0
  have k14 := hc.k14
  have c1 := hc.par.mat.c1
  have HA := hid (alike_any g o k cap _ w hR.lens hR.lt (by omega))
  have HS := hid (And.intro hs (And.intro hc hR))
  have HL := hid hl
  clear hc hs hl hR
  go_enter Try.func13, Try.ntmps13
  go_wp2_with fail
  refine HA.out.mono ?_
  rintro e w1 ⟨⟨rfl, hb⟩ | ⟨rfl, hb⟩, u1⟩
  · have HU := hid u1
    have HN := hid (HS.out.1.nul u1)
    have x2 := (HS.out.2.1.nxt HN.out).p0
    have HAC := hid (across_any pp pq F r k g o cap L Z R FS w0 w1 (HS.out.1.nxt HN.out) (HS.out.2.1.nxt HN.out).par (HS.out.2.2.nxt HN.out) HL.out hL)
    clear u1 hb HA
    go_wp2_with fail
    refine HAC.out.mono ?_
    rintro e w2 ⟨gl, b, rfl, h1, h2⟩
    have HE := hid (And.intro h1 h2)
    clear h1 h2 HAC
    go_wp2
    go_ret2
    exact ⟨gl, b, rfl, HE.out.1.back HU.out.nul, HE.out.2⟩
  · obtain ⟨i, hi, h⟩ := hb
    exact absurd h (not_ul hL (HL.out i hi) (HL.out 0 c1))

set_option maxHeartbeats 1600000 in
theorem data_good (FS : List Nat) (w0 w : World) (c F k r pp pq sp sq : Nat) (Z : List Nat) (g o n cap L gp op capm : Nat) (S : Nat → Option (List Nat)) (R : Nat → List Nat) (T : Nat → Nat) (M : GfM.Mx) (hs : LS w0 FS w) (hc : CD FS w c F k r pp pq sp sq Z) (hS : LL FS w g o n S)
    (hn : n = k + r) (hT : RowI w gp op k fun i => (T i : Int)) (hgp : gp < w.heap.size) (hgF : gp ≠ F) (hlt : ∀ i, i < k → T i < n) (hR : ∀ i, i < k → S (T i) = some (R i)) (hl : ∀ i, i < k → (R i).length = L) (hL : L ≤ 64)
    (hM : GfM.run k (GfM.beside k (cz k (pickZ k k (unitZ k ++ Z) T))) k = some M) :
    Calls Try.prog 41 #[.pointer (some ⟨c, 0, none⟩), .slice (some ⟨g, o, none⟩) n cap, .slice (some ⟨gp, op, none⟩) k capm] w
      fun e w' => ∃ gl b, e = .returned (.tuple #[.slice (some ⟨gl, 0, none⟩) k k, .int .i64 0]) ∧ Elim w F gl k L b (acrZ k L (invZ k M) R) w' ∧ Fld F w' := by
  have x1 := hc.s0
  have k14 := hc.k14
  have c1 := hc.par.mat.c1
  have HS := hid (And.intro hs (And.intro hc hS))
  have HT := hid (And.intro hT (And.intro hgp hlt))
  have HR := hid (And.intro hR hl)
  have HP := hid (pick_good sp sq F (k + r) k gp op k capm (unitZ k ++ Z) T w hc.shd.mat (hs.fld F hc.shd.F).lt hT hgp (fun i hi => by have := hlt i hi; omega) c1 (by omega))
  have HM := hid hM
  clear hc hs hl hR hS hn hT hgp hlt hM
  go_enter Try.func41, Try.ntmps41
  go_wp2_with fail
  refine HP.out.mono ?_
  rintro e w1 ⟨p3, q3, rfl, m3, u3, f3, g3⟩
  have HN := hid (HS.out.1.nul u3)
  have HU := hid u3
  have HI := hid (invert_any p3 q3 F k _ w1 m3 ((HS.out.1.nxt HN.out).fld F HS.out.2.1.shd.F))
  clear m3 u3 f3 g3 HP
  go_wp2_with fail
  refine HI.out.mono ?_
  rintro e w2 ⟨u4, f4, ⟨hno, _⟩ | ⟨M2, hM2, rfl, m4⟩⟩
  · rw [HM.out] at hno
    cases hno
  · have eM : M2 = M := by
      rw [HM.out] at hM2
      exact (Option.some.inj hM2).symm
    subst eM
    have hz : w1.heap.size + 1 ∉ FS ∧ w1.heap.size ∉ FS := ⟨(HS.out.1.nxt HN.out).lt (by omega), (HS.out.1.nxt HN.out).lt (by omega)⟩
    have HN2 := hid (HN.out.trans ((HS.out.1.nxt HN.out).one HS.out.2.1.shd.F u4 f4))
    have HU2 := hid (HU.out.nul.trans u4)
    have HLM : Hid (LM FS w2 (w1.heap.size + 1) w1.heap.size F k k (invZ k M2)) := ⟨m4, HS.out.2.1.shd.F, hz.1, hz.2⟩
    have HCH := hid (chosen_any FS w0 w2 g o n cap k capm (some ⟨gp, op, none⟩) S T (HS.out.1.nxt HN2.out) (HS.out.2.2.nxt HN2.out) (.inr ⟨gp, op, rfl, Nat.lt_of_lt_of_le HT.out.2.1 HN2.out.up.size, fun i hi => by
      exact (HU2.out.cell (p := ⟨gp, op + i, none⟩) HT.out.2.1 hgF).trans (HT.out.1 i hi)⟩) HT.out.2.2 (by omega))
    clear u4 f4 hM2 m4 hz HI
    go_wp2_with fail
    refine HCH.out.mono ?_
    rintro e w3 ⟨h, rfl, c3, u5, g5⟩
    have HN3 := hid (HN2.out.trans ((HS.out.1.nxt HN2.out).nul u5))
    have HU3 := hid (HU2.out.trans u5.nul)
    have HAC := hid (across_any (w1.heap.size + 1) w1.heap.size F k k h 0 k L (invZ k M2) R FS w0 w3 (HS.out.1.nxt HN3.out) (HLM.out.nxt ((HS.out.1.nxt HN2.out).nul u5)) (c3.congr HR.out.1) HR.out.2 hL)
    clear c3 u5 g5 HCH
    go_wp2_with fail
    refine HAC.out.mono ?_
    rintro e w4 ⟨gl, b, rfl, h1, h2⟩
    have HE := hid (And.intro h1 h2)
    clear h1 h2 HAC
    go_wp2
    go_ret2
    exact ⟨gl, b, rfl, HE.out.1.back HU3.out, HE.out.2⟩
end Go.Proofs.Ytebglmfdchfplaa
