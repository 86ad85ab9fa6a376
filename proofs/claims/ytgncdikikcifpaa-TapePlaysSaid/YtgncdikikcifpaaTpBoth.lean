/- Both Tapes, the program's and the document's, side by side: each call on both sides (TapePlays). -/
import Derived.Test.YtgncdikikcifpaaTpAwake
namespace Go.Proofs.Ytgncdikikcifpaa
open Go.RowKit
set_option linter.unusedVariables false

/-- The law's blocks: the document's Tape and Fuse, and others. -/
def Tm (m v : Nat) (Q : Nat → Prop) (x : Nat) : Prop := x = m ∨ x = v ∨ Q x
structure TX (O : TapeOps) (Q : Nat → Prop) (w0 w : World) (t f m v : Nat) : Prop where
  ex : ∃ k S S2, TH O (Tm m v Q) w0 w t (some f) k S ∧ RTp w m v S2 ∧ RFz w v k ∧ S2.live = S.live ∧ (S.live = true → S2 = S)
  mn : w0.heap.size ≤ m
  vn : w0.heap.size ≤ v
  qm : ¬ Q m
  qv : ¬ Q v
def Mv (m v : Nat) (x : Nat) : Prop := x = m ∨ x = v
section
variable {O : TapeOps} {Q : Nat → Prop} {w0 w w1 w2 : World} {t f m v : Nat} {k k2 : Option Nat} {S S2 : TS}
theorem Tp.q (h : Tp (Tm m v Q) w w1) : Tp Q w w1 := ⟨h.1, fun x hx => h.2 x (.inr (.inr hx))⟩
theorem Tp.then (h : Tp Q w w1) (h2 : Tp Q w1 w2) : Tp Q w w2 := ⟨Nat.le_trans h.1 h2.1, fun x hx => (h2.2 x hx).trans (h.2 x hx)⟩
theorem RTp.tp (h : RTp w m v S) (u : Tp (Tm m v Q) w w1) : RTp w1 m v S := ⟨(u.2 m (.inl rfl)).trans h.heap, h.le, h.lo⟩
theorem RFz.tp (h : RFz w v k) (u : Tp (Tm m v Q) w w1) : RFz w1 v k := ⟨(u.2 v (.inr (.inl rfl))).trans h.heap, h.le⟩
theorem TX.up (h : TX O Q w0 w t f m v) : Up Nul w0 w := by
  obtain ⟨k, S, S2, h1, _⟩ := h.ex
  exact h1.up
theorem TX.nxt (h : TX O Q w0 w t f m v) (u : Up Nul w w1) : TX O Q w0 w1 t f m v := by
  obtain ⟨k, S, S2, h1, h2, h3, h4, h5⟩ := h.ex
  exact ⟨⟨k, S, S2, h1.nxt u, h2.up u fun h => h, h3.up u fun h => h, h4, h5⟩, h.mn, h.vn, h.qm, h.qv⟩
/-- The program has stepped, and then the document. -/
theorem TX.step (h : TX O Q w0 w t f m v) (own : ∀ x, Q x → x < w.heap.size) (tp : Tp (Tm m v Q) w w1) (d : TH O (Tm m v Q) w0 w1 t (some f) k S) (u : Up (Mv m v) w1 w2) (r : RTp w2 m v S2) (z : RFz w2 v k) (hl : S2.live = S.live) (hs : S.live = true → S2 = S) :
    TX O Q w0 w2 t f m v ∧ Tp Q w w2 := by
  refine ⟨⟨⟨k, S, S2, d.mine u (fun x hx => hx.imp (fun e => e) .inl) (fun x hx => ?_), r, z, hl, hs⟩, h.mn, h.vn, h.qm, h.qv⟩, Nat.le_trans tp.1 u.size, fun x hx => (u.block x (Nat.lt_of_lt_of_le (own x hx) tp.1) ?_).trans (tp.2 x (.inr (.inr hx)))⟩
  · rcases hx with e | e
    · rw [e]; exact h.mn
    · rw [e]; exact h.vn
  · rintro (e | e)
    · rw [e] at hx; exact h.qm hx
    · rw [e] at hx; exact h.qv hx
theorem TX.owns (h : TX O Q w0 w t f m v) : ∀ x, Q x → x < w.heap.size := by
  obtain ⟨k, S, S2, h1, _⟩ := h.ex
  exact fun x hx => h1.own x (.inr (.inr hx))
theorem off_q {a : Option Addr} {l : Nat} (h : Off Q w0 a l) : Off (Tm m v Q) w0 a l := h.imp (fun e => e) fun h x hx => (h x hx).imp (fun e => .inr (.inr e)) fun e => e
theorem tx_append (h : TX O Q w0 w t f m v) {a : Option Addr} {l : Nat} (c : Nat) {z : List Nat} (hz : SlN w a l z) (hc : l ≤ c) (hl : l ≤ 100000) (ha : Off Q w0 a l) :
    ∃ r : Int, Calls Try.prog 9 #[.pointer (some ⟨t, 0, none⟩), .slice a l c] w fun e w1 => e = .returned (.int .i64 r) ∧ Tp Q w w1 ∧ Up Nul w0 w1 ∧
      Calls Try.prog 17 #[.pointer (some ⟨m, 0, none⟩), .string (strOf z)] w1 fun e w2 => e = .returned (.int .i64 r) ∧ TX O Q w0 w2 t f m v ∧ Tp Q w w2 := by
  obtain ⟨k, S, S2, h1, h2, h3, h4, h5⟩ := h.ex
  have hzl := hz.len
  have ow := h.owns
  have key := fun (w1 : World) (tp : Tp (Tm m v Q) w w1) => rt_append (h2.tp tp) (h3.tp tp) z (by rw [hzl]; exact hl)
  rw [hzl, h4] at key
  by_cases hv : S.live = true
  · obtain rfl := h5 hv
    by_cases hf : 65536 < S2.B.length + l
    · refine ⟨7, (th_append h1 c hz hc hl (off_q ha)).mono ?_⟩
      rintro e w1 (⟨q1, _⟩ | ⟨_, _, rfl, d, tp⟩ | ⟨_, q2, _⟩ | ⟨_, q2, _⟩)
      · rw [hv] at q1; cases q1
      · refine ⟨rfl, tp.q, d.up, (key w1 tp).mono ?_⟩
        rintro e w2 (⟨q1, _⟩ | ⟨_, _, rfl, rfl⟩ | ⟨_, q2, _⟩ | ⟨_, q2, _⟩)
        · rw [hv] at q1; cases q1
        · exact ⟨rfl, h.step ow tp d (Up.refl _ _) (h2.tp tp) (h3.tp tp) rfl fun _ => rfl⟩
        · omega
        · omega
      · omega
      · omega
    · by_cases hk : k = some 0
      · refine ⟨4, (th_append h1 c hz hc hl (off_q ha)).mono ?_⟩
        rintro e w1 (⟨q1, _⟩ | ⟨_, q2, _⟩ | ⟨_, _, _, rfl, d, tp⟩ | ⟨_, _, q3, _⟩)
        · rw [hv] at q1; cases q1
        · omega
        · refine ⟨rfl, tp.q, d.up, (key w1 tp).mono ?_⟩
          rintro e w2 (⟨q1, _⟩ | ⟨_, q2, _⟩ | ⟨_, _, _, rfl, rfl⟩ | ⟨_, _, q3, _⟩)
          · rw [hv] at q1; cases q1
          · omega
          · exact ⟨rfl, h.step ow tp d (Up.refl _ _) (h2.tp tp) (h3.tp tp) rfl fun _ => rfl⟩
          · exact absurd hk q3
        · exact absurd hk q3
      · refine ⟨0, (th_append h1 c hz hc hl (off_q ha)).mono ?_⟩
        rintro e w1 (⟨q1, _⟩ | ⟨_, q2, _⟩ | ⟨_, _, q3, _⟩ | ⟨_, _, _, rfl, d, tp⟩)
        · rw [hv] at q1; cases q1
        · omega
        · exact absurd q3 hk
        · refine ⟨rfl, tp.q, d.up, (key w1 tp).mono ?_⟩
          rintro e w2 (⟨q1, _⟩ | ⟨_, q2, _⟩ | ⟨_, _, q3, _⟩ | ⟨_, _, _, rfl, r, z2, u⟩)
          · rw [hv] at q1; cases q1
          · omega
          · exact absurd q3 hk
          · exact ⟨rfl, h.step ow tp d u r z2 rfl fun _ => rfl⟩
  · have hv : S.live = false := by cases e : S.live with | true => exact absurd e hv | false => rfl
    refine ⟨5, (th_append h1 c hz hc hl (off_q ha)).mono ?_⟩
    rintro e w1 (⟨_, rfl, d, tp⟩ | ⟨q1, _⟩ | ⟨q1, _⟩ | ⟨q1, _⟩)
    · refine ⟨rfl, tp.q, d.up, (key w1 tp).mono ?_⟩
      rintro e w2 (⟨_, rfl, rfl⟩ | ⟨q1, _⟩ | ⟨q1, _⟩ | ⟨q1, _⟩)
      · exact ⟨rfl, h.step ow tp d (Up.refl _ _) (h2.tp tp) (h3.tp tp) h4 h5⟩
      · rw [hv] at q1; cases q1
      · rw [hv] at q1; cases q1
      · rw [hv] at q1; cases q1
    · rw [hv] at q1; cases q1
    · rw [hv] at q1; cases q1
    · rw [hv] at q1; cases q1
theorem tx_sync (h : TX O Q w0 w t f m v) : ∃ r : Int, Calls Try.prog 18 #[.pointer (some ⟨t, 0, none⟩)] w fun e w1 => e = .returned (.int .i64 r) ∧ Tp Q w w1 ∧
      Calls Try.prog 19 #[.pointer (some ⟨m, 0, none⟩)] w1 fun e w2 => e = .returned (.int .i64 r) ∧ TX O Q w0 w2 t f m v ∧ Tp Q w w2 := by
  obtain ⟨k, S, S2, h1, h2, h3, h4, h5⟩ := h.ex
  have ow := h.owns
  have key := fun (w1 : World) (tp : Tp (Tm m v Q) w w1) => rt_sync (h2.tp tp) (h3.tp tp)
  rw [h4] at key
  by_cases hv : S.live = true
  · obtain rfl := h5 hv
    by_cases hk : k = some 0
    · refine ⟨4, (th_sync h1).mono ?_⟩
      rintro e w1 (⟨q1, _⟩ | ⟨_, _, rfl, d, tp⟩ | ⟨_, q3, _⟩)
      · rw [hv] at q1; cases q1
      · refine ⟨rfl, tp.q, (key w1 tp).mono ?_⟩
        rintro e w2 (⟨q1, _⟩ | ⟨_, _, rfl, rfl⟩ | ⟨_, q3, _⟩)
        · rw [hv] at q1; cases q1
        · exact ⟨rfl, h.step ow tp d (Up.refl _ _) (h2.tp tp) (h3.tp tp) rfl fun _ => rfl⟩
        · exact absurd hk q3
      · exact absurd hk q3
    · refine ⟨0, (th_sync h1).mono ?_⟩
      rintro e w1 (⟨q1, _⟩ | ⟨_, q3, _⟩ | ⟨_, _, rfl, d, tp⟩)
      · rw [hv] at q1; cases q1
      · exact absurd q3 hk
      · refine ⟨rfl, tp.q, (key w1 tp).mono ?_⟩
        rintro e w2 (⟨q1, _⟩ | ⟨_, q3, _⟩ | ⟨_, _, rfl, r, z2, u⟩)
        · rw [hv] at q1; cases q1
        · exact absurd q3 hk
        · exact ⟨rfl, h.step ow tp d u r z2 rfl fun _ => rfl⟩
  · have hv : S.live = false := by cases e : S.live with | true => exact absurd e hv | false => rfl
    refine ⟨5, (th_sync h1).mono ?_⟩
    rintro e w1 (⟨_, rfl, d, tp⟩ | ⟨q1, _⟩ | ⟨q1, _⟩)
    · refine ⟨rfl, tp.q, (key w1 tp).mono ?_⟩
      rintro e w2 (⟨_, rfl, rfl⟩ | ⟨q1, _⟩ | ⟨q1, _⟩)
      · exact ⟨rfl, h.step ow tp d (Up.refl _ _) (h2.tp tp) (h3.tp tp) h4 h5⟩
      · rw [hv] at q1; cases q1
      · rw [hv] at q1; cases q1
    · rw [hv] at q1; cases q1
    · rw [hv] at q1; cases q1
theorem tx_cut (h : TX O Q w0 w t f m v) (x : Int) : ∃ r : Int, Calls Try.prog 10 #[.pointer (some ⟨t, 0, none⟩), .int .i64 x] w fun e w1 => e = .returned (.int .i64 r) ∧ Tp Q w w1 ∧
      Calls Try.prog 20 #[.pointer (some ⟨m, 0, none⟩), .int .i64 x] w1 fun e w2 => e = .returned (.int .i64 r) ∧ TX O Q w0 w2 t f m v ∧ Tp Q w w2 := by
  obtain ⟨k, S, S2, h1, h2, h3, h4, h5⟩ := h.ex
  have ow := h.owns
  have key := fun (w1 : World) (tp : Tp (Tm m v Q) w w1) => rt_cut (h2.tp tp) (h3.tp tp) x
  unfold RCutP at key
  rw [h4] at key
  by_cases hv : S.live = true
  · obtain rfl := h5 hv
    by_cases hf : x < 0 ∨ (S2.B.length : Int) < x
    · refine ⟨1, (th_cut h1 x).mono ?_⟩
      rintro e w1 (⟨q1, _⟩ | ⟨_, _, rfl, d, tp⟩ | ⟨_, q2, _⟩ | ⟨_, q2, _⟩)
      · rw [hv] at q1; cases q1
      · refine ⟨rfl, tp.q, (key w1 tp).mono ?_⟩
        rintro e w2 (⟨q1, _⟩ | ⟨_, _, rfl, rfl⟩ | ⟨_, q2, _⟩ | ⟨_, q2, _⟩)
        · rw [hv] at q1; cases q1
        · exact ⟨rfl, h.step ow tp d (Up.refl _ _) (h2.tp tp) (h3.tp tp) rfl fun _ => rfl⟩
        · omega
        · omega
      · omega
      · omega
    · by_cases hk : k = some 0
      · refine ⟨4, (th_cut h1 x).mono ?_⟩
        rintro e w1 (⟨q1, _⟩ | ⟨_, q2, _⟩ | ⟨_, _, _, rfl, d, tp⟩ | ⟨_, _, q3, _⟩)
        · rw [hv] at q1; cases q1
        · omega
        · refine ⟨rfl, tp.q, (key w1 tp).mono ?_⟩
          rintro e w2 (⟨q1, _⟩ | ⟨_, q2, _⟩ | ⟨_, _, _, rfl, rfl⟩ | ⟨_, _, q3, _⟩)
          · rw [hv] at q1; cases q1
          · omega
          · exact ⟨rfl, h.step ow tp d (Up.refl _ _) (h2.tp tp) (h3.tp tp) rfl fun _ => rfl⟩
          · exact absurd hk q3
        · exact absurd hk q3
      · refine ⟨0, (th_cut h1 x).mono ?_⟩
        rintro e w1 (⟨q1, _⟩ | ⟨_, q2, _⟩ | ⟨_, _, q3, _⟩ | ⟨_, _, _, rfl, d, tp⟩)
        · rw [hv] at q1; cases q1
        · omega
        · exact absurd q3 hk
        · refine ⟨rfl, tp.q, (key w1 tp).mono ?_⟩
          rintro e w2 (⟨q1, _⟩ | ⟨_, q2, _⟩ | ⟨_, _, q3, _⟩ | ⟨_, _, _, rfl, r, z2, u⟩)
          · rw [hv] at q1; cases q1
          · omega
          · exact absurd q3 hk
          · exact ⟨rfl, h.step ow tp d u r z2 rfl fun _ => rfl⟩
  · have hv : S.live = false := by cases e : S.live with | true => exact absurd e hv | false => rfl
    refine ⟨5, (th_cut h1 x).mono ?_⟩
    rintro e w1 (⟨_, rfl, d, tp⟩ | ⟨q1, _⟩ | ⟨q1, _⟩ | ⟨q1, _⟩)
    · refine ⟨rfl, tp.q, (key w1 tp).mono ?_⟩
      rintro e w2 (⟨_, rfl, rfl⟩ | ⟨q1, _⟩ | ⟨q1, _⟩ | ⟨q1, _⟩)
      · exact ⟨rfl, h.step ow tp d (Up.refl _ _) (h2.tp tp) (h3.tp tp) h4 h5⟩
      · rw [hv] at q1; cases q1
      · rw [hv] at q1; cases q1
      · rw [hv] at q1; cases q1
    · rw [hv] at q1; cases q1
    · rw [hv] at q1; cases q1
    · rw [hv] at q1; cases q1
/-- The document's Tape is gone. -/
theorem RTp.gone (h : RTp w m v S) : RTp (w.setCell ⟨m, 2, none⟩ (.bool false)) m v ⟨S.B, S.loose, false⟩ := ⟨heap_setCell_same w m 2 _ _ _ h.heap, h.le, h.lo⟩
theorem tx_fail (h : TX O Q w0 w t f m v) : Calls Try.prog 21 #[.pointer (some ⟨t, 0, none⟩)] w fun e w1 => e = .returned (.tuple #[]) ∧ Tp Q w w1 ∧
      (∃ l, w1.cell? ⟨m, 2, none⟩ = some (.bool l)) ∧ w1.frozen? ⟨m, 2, none⟩ = false ∧ TX O Q w0 (w1.setCell ⟨m, 2, none⟩ (.bool false)) t f m v ∧ Tp Q w (w1.setCell ⟨m, 2, none⟩ (.bool false)) := by
  obtain ⟨k, S, S2, h1, h2, h3, h4, h5⟩ := h.ex
  have ow := h.owns
  obtain ⟨T, k1, k2, k3⟩ := h1.ex
  refine (O.fail k1 h1.fz).mono ?_
  rintro e w1 ⟨rfl, S', hd, d⟩
  obtain ⟨d', tp⟩ := h1.did k1 k2 k3 d
  have r := h2.tp tp
  have z := h3.tp tp
  have u : Up (Mv m v) w1 (w1.setCell ⟨m, 2, none⟩ (.bool false)) := (Up.refl _ _).setCell (.inr (.inl rfl)) _
  have un : Up (One m) w1 (w1.setCell ⟨m, 2, none⟩ (.bool false)) := (Up.refl (One m) w1).setCell (.inr (show One m m from rfl)) _
  have z2 : RFz (w1.setCell ⟨m, 2, none⟩ (.bool false)) v k := z.up un fun e => r.ne z (Eq.symm e)
  exact ⟨rfl, tp.q, ⟨_, r.c2⟩, r.fr 2, h.step ow tp d' u r.gone z2 hd.symm fun e => by rw [hd] at e; cases e⟩
theorem th_replace (h : TH O Q w0 w t (some f) k S) : Calls Try.prog 22 #[.pointer (some ⟨t, 0, none⟩)] w fun e w1 => e = .returned (.tuple #[]) ∧ TH O Q w0 w1 t (some f) k ⟨[], 0, true⟩ ∧ Tp Q w w1 := by
  obtain ⟨T, k1, k2, k3⟩ := h.ex
  refine (O.replace k1 h.fz).mono ?_
  rintro e w1 ⟨rfl, d⟩
  exact ⟨rfl, h.did k1 k2 k3 d⟩
theorem tx_replace (h : TX O Q w0 w t f m v) : Calls Try.prog 22 #[.pointer (some ⟨t, 0, none⟩)] w fun e w1 => e = .returned (.tuple #[]) ∧ Tp Q w w1 ∧
      Calls Try.prog 23 #[.pointer (some ⟨m, 0, none⟩)] w1 fun e w2 => e = .returned (.tuple #[]) ∧ TX O Q w0 w2 t f m v ∧ Tp Q w w2 := by
  obtain ⟨k, S, S2, h1, h2, h3, h4, h5⟩ := h.ex
  have ow := h.owns
  refine (th_replace h1).mono ?_
  rintro e w1 ⟨rfl, d, tp⟩
  refine ⟨rfl, tp.q, (rt_replace (h2.tp tp)).mono ?_⟩
  rintro e w2 ⟨rfl, r, u⟩
  exact ⟨rfl, h.step ow tp d (u.mono fun _ _ e => .inl e) r ((h3.tp tp).up u fun e => (h2.tp tp).ne (h3.tp tp) (Eq.symm e)) rfl fun _ => rfl⟩
theorem tx_crash (h : TX O Q w0 w t f m v) (x : Int) : Calls Try.prog 12 #[.pointer (some ⟨t, 0, none⟩), .int .i64 x] w fun e w1 => e = .returned (.tuple #[]) ∧ Tp Q w w1 ∧
      Calls Try.prog 24 #[.pointer (some ⟨m, 0, none⟩), .int .i64 x] w1 fun e w2 => e = .returned (.tuple #[]) ∧ TX O Q w0 w2 t f m v ∧ Tp Q w w2 := by
  obtain ⟨k, S, S2, h1, h2, h3, h4, h5⟩ := h.ex
  have ow := h.owns
  obtain ⟨T, k1, k2, k3⟩ := h1.ex
  refine (O.crash k1 h1.fz x).mono ?_
  rintro e w1 ⟨rfl, S', hl, hs, d0⟩
  obtain ⟨d, tp⟩ := h1.did k1 k2 k3 d0
  refine ⟨rfl, tp.q, (rt_crash (h2.tp tp) x).mono ?_⟩
  rintro e w2 ⟨rfl, r, u⟩
  refine ⟨rfl, h.step ow tp d (u.mono fun _ _ e => .inl e) r ((h3.tp tp).up u fun e => (h2.tp tp).ne (h3.tp tp) (Eq.symm e)) ?_ fun e => ?_⟩
  · exact h4.trans hl.symm
  · rw [hl] at e
    rw [hs e, h5 e]
/-! ### The Fuse is set; the Tapes are made -/
theorem tx_set (h : TX O Q w0 w t f m v) (x : Int) (hx : x ≤ 9223372036854775807) : Calls Try.prog 25 #[.pointer (some ⟨f, 0, none⟩), .int .i64 x] w fun e w1 => e = .returned (.tuple #[]) ∧ Tp Q w w1 ∧
    Calls Try.prog 15 #[.int .i64 x] w1 fun e w2 => ∃ q b0 z1, e = .returned (.pointer (some ⟨q, 0, none⟩)) ∧ w2.cell? ⟨q, 0, none⟩ = some (.bool b0) ∧ w2.cell? ⟨q, 1, none⟩ = some (.int .i64 z1) ∧
      (∃ y, w2.cell? ⟨v, 0, none⟩ = some y) ∧ (∃ y, w2.cell? ⟨v, 1, none⟩ = some y) ∧ (∀ j, w2.frozen? ⟨v, j, none⟩ = false) ∧ Tp Q w w2 ∧
      TX O Q w0 ((w2.setCell ⟨v, 0, none⟩ (.bool b0)).setCell ⟨v, 1, none⟩ (.int .i64 z1)) t f m v ∧ Tp Q w ((w2.setCell ⟨v, 0, none⟩ (.bool b0)).setCell ⟨v, 1, none⟩ (.int .i64 z1)) := by
  obtain ⟨k, S, S2, h1, h2, h3, h4, h5⟩ := h.ex
  have ow := h.owns
  have hz : Fz w f k := h1.fz
  have hfn := h1.fnew f rfl
  refine (set_any f k x w hz hx).mono ?_
  rintro e w1 ⟨rfl, g1, g2, _⟩
  have d := h1.fuse g2 g1
  have tp : Tp (Tm m v Q) w w1 := ⟨g2.size, fun y hy => g2.block y (h1.own y hy) fun e => hfn.2 (by rw [show y = f from e] at hy; exact hy)⟩
  refine ⟨rfl, tp.q, (rnewFuse_any x w1 hx).mono ?_⟩
  rintro e w2 ⟨q, rfl, d1, d2, _⟩
  have z2 : RFz w2 v k := (h3.tp tp).up d2 fun h => h
  have r2 : RTp w2 m v S2 := (h2.tp tp).up d2 fun h => h
  have tp2 : Tp (Tm m v Q) w w2 := tp.then (d.tp d2)
  have u : Up (One v) w2 ((w2.setCell ⟨v, 0, none⟩ (.bool (ofk x).isNone)).setCell ⟨v, 1, none⟩ (.int .i64 (((ofk x).getD 0 : Nat) : Int))) := ((Up.refl (One v) w2).put rfl 0 _).put rfl 1 _
  have z3 : RFz ((w2.setCell ⟨v, 0, none⟩ (.bool (ofk x).isNone)).setCell ⟨v, 1, none⟩ (.int .i64 (((ofk x).getD 0 : Nat) : Int))) v (ofk x) := by
    refine ⟨?_, d1.le⟩
    rw [heap_setCell_same _ v 1 _ _ _ (heap_setCell_same w2 v 0 _ _ _ z2.heap)]
    simp
  obtain ⟨k1, k2⟩ := h.step ow tp2 (d.nxt d2) (u.mono fun _ _ e => .inr e) (r2.up u fun e => r2.ne z2 e) z3 h4 h5
  exact ⟨q, _, _, rfl, d1.c0, d1.c1, ⟨_, z2.c0⟩, ⟨_, z2.c1⟩, fun j => z2.fr j, tp2.q, k1, k2⟩
theorem tx_begin (O : TapeOps) (h0 : Up Nul w0 w) (hf : Fz w f k) (hv : RFz w v k) (hfn : w0.heap.size ≤ f) (hvn : w0.heap.size ≤ v) (hne : f ≠ v) :
    Calls Try.prog 7 #[.pointer (some ⟨f, 0, none⟩)] w fun e w1 => ∃ t, e = .returned (.pointer (some ⟨t, 0, none⟩)) ∧ Up Nul w w1 ∧
      Calls Try.prog 16 #[.pointer (some ⟨v, 0, none⟩)] w1 fun e w2 => ∃ m, e = .returned (.pointer (some ⟨m, 0, none⟩)) ∧ TX O Nul w0 w2 t f m v := by
  refine (O.new (fu := some f) (k := k) hf).mono ?_
  rintro e w1 ⟨t, T, rfl, p1, p2, p3⟩
  refine ⟨t, rfl, p2, (rt_new v w1).mono ?_⟩
  rintro e w2 ⟨m, rfl, r, u, hm⟩
  have hvl := hv.lt
  have hfl := Fz.lt hf
  have hml := r.lt
  have s1 := p2.size
  have s2 := u.size
  have s0 := h0.size
  refine ⟨m, rfl, ⟨k, ⟨[], 0, true⟩, ⟨[], 0, true⟩, ⟨⟨T, O.keep p1 u fun _ _ h => h, fun g hg => Nat.le_trans s0 (p3 g hg), ?_⟩, ?_, ?_, ?_, (h0.trans p2).trans u⟩, r, (hv.up p2 fun h => h).up u fun h => h, rfl, fun _ => rfl⟩, by omega, hvn, fun h => h, fun h => h⟩
  · rintro x (hx | hx | hx) e
    · have := O.lt p1 x e; omega
    · have := p3 x e; omega
    · exact hx
  · exact (Fz.up hf (p2.trans u) fun h => h)
  · rintro g hg
    cases hg
    refine ⟨hfn, ?_⟩
    rintro (hx | hx | hx)
    · omega
    · exact hne hx
    · exact hx
  · rintro x (hx | hx | hx)
    · omega
    · omega
    · exact hx.elim
/-! ### A look at both -/
/-- What a look finds behind 'Bytes': w1 the world then. -/
structure Look (w1 : World) (t m : Nat) (live : Bool) (z : List Nat) (lo : Nat) (r : Int) (a : Option Addr) (l c : Nat) : Prop where
  lives : ∀ W, Up Nul w1 W → Calls Try.prog 26 #[.pointer (some ⟨t, 0, none⟩)] W fun e W' => e = .returned (.bool live) ∧ Up Nul W W'
  c0 : ∀ W, Up Nul w1 W → live = true → W.cell? ⟨m, 0, none⟩ = some (.string (strOf z))
  c1 : ∀ W, Up Nul w1 W → live = true → W.cell? ⟨m, 1, none⟩ = some (.int .i64 (lo : Nat))
  c2 : ∀ W, Up Nul w1 W → W.cell? ⟨m, 2, none⟩ = some (.bool live)
  code : r = if live then 0 else 5
  conv : ∀ W, Up Nul w1 W → live = true → (convert 22 9 (.slice a l c)).run Try.prog W = .ok (.string (strOf z)) W
  gone : live = false → l = 0
  loose : ∀ W, Up Nul w1 W → live = true → Calls Try.prog 11 #[.pointer (some ⟨t, 0, none⟩)] W fun e W' => e = .returned (.int .i64 (lo : Nat)) ∧ Up Nul W W'
theorem tx_look (h : TX O Q w0 w t f m v) : ∃ (live : Bool) (z : List Nat) (lo : Nat), Calls Try.prog 13 #[.pointer (some ⟨t, 0, none⟩)] w fun e w1 =>
    ∃ a l c r, e = .returned (.tuple #[.slice a l c, .int .i64 r]) ∧ Up Nul w w1 ∧ TX O Q w0 w1 t f m v ∧ Look w1 t m live z lo r a l c := by
  obtain ⟨k, S, S2, h1, h2, h3, h4, h5⟩ := h.ex
  have hlv : ∀ w1 W, Up Nul w w1 → Up Nul w1 W → Calls Try.prog 26 #[.pointer (some ⟨t, 0, none⟩)] W fun e W' => e = .returned (.bool S.live) ∧ Up Nul W W' := fun w1 W u k => (th_live (h1.nxt (u.trans k))).mono fun e W' ⟨e1, _, e2⟩ => ⟨e1, e2⟩
  have hr : ∀ w1 W, Up Nul w w1 → Up Nul w1 W → RTp W m v S2 := fun w1 W u k => h2.up (u.trans k) fun h => h
  by_cases hv : S.live = true
  · obtain rfl := h5 hv
    have hlo : ∀ w1 W, Up Nul w w1 → Up Nul w1 W → Calls Try.prog 11 #[.pointer (some ⟨t, 0, none⟩)] W fun e W' => e = .returned (.int .i64 (S2.loose : Nat)) ∧ Up Nul W W' := fun w1 W u k => (th_loose (h1.nxt (u.trans k)) hv).mono fun e W' ⟨e1, _, e2⟩ => ⟨e1, e2⟩
    refine ⟨true, S2.B, S2.loose, (th_bytes h1 hv).mono ?_⟩
    rintro e w1 ⟨a, l, c, rfl, hs, d, u⟩
    refine ⟨a, l, c, 0, rfl, u, h.nxt u, ⟨fun W k => by have := hlv w1 W u k; rw [hv] at this; exact this, fun W k _ => (hr w1 W u k).c0, fun W k _ => (hr w1 W u k).c1, fun W k => by have := (hr w1 W u k).c2; rw [hv] at this; exact this, rfl, fun W k _ => (hs.nxt k).conv c, (fun e => by cases e), fun W k _ => hlo w1 W u k⟩⟩
  · have hv : S.live = false := by cases e : S.live with | true => exact absurd e hv | false => rfl
    refine ⟨false, [], 0, (th_bytesGone h1 hv).mono ?_⟩
    rintro e w1 ⟨a, c, rfl, d, u⟩
    refine ⟨a, 0, c, 5, rfl, u, h.nxt u, ⟨fun W k => by have := hlv w1 W u k; rw [hv] at this; exact this, (fun _ _ e => by cases e), (fun _ _ e => by cases e), fun W k => by have := (hr w1 W u k).c2; rw [h4, hv] at this; exact this, rfl, (fun _ _ e => by cases e), fun _ => rfl, (fun _ _ e => by cases e)⟩⟩
/-! ### A block of the law's own, for a round -/
theorem TX.lay (h : TX O Nul w0 w t f m v) (c : Obj) : TX O (One w.heap.size) w0 (w.alloc c) t f m v := by
  obtain ⟨k, S, S2, h1, h2, h3, h4, h5⟩ := h.ex
  have u : Up Nul w (w.alloc c) := (Up.refl _ _).alloc _
  refine ⟨⟨k, S, S2, h1.owns u fun x hx => ?_, h2.up u fun h => h, h3.up u fun h => h, h4, h5⟩, h.mn, h.vn, fun e => ?_, fun e => ?_⟩
  · rcases hx with e | e | e
    · exact .inl (.inl e)
    · exact .inl (.inr (.inl e))
    · exact .inr ⟨by rw [show x = w.heap.size from e]; exact Nat.le_refl _, by rw [show x = w.heap.size from e]; simp⟩
  · have := h2.lt; rw [show m = w.heap.size from e] at this; exact absurd this (Nat.lt_irrefl _)
  · have := h3.lt; rw [show v = w.heap.size from e] at this; exact absurd this (Nat.lt_irrefl _)
theorem TX.less (h : TX O Q w0 w t f m v) : TX O Nul w0 w t f m v := by
  obtain ⟨k, S, S2, h1, h2, h3, h4, h5⟩ := h.ex
  exact ⟨⟨k, S, S2, h1.less fun x hx => hx.imp (fun e => e) fun hx => hx.imp (fun e => e) fun e => e.elim, h2, h3, h4, h5⟩, h.mn, h.vn, fun h => h, fun h => h⟩
end
end Go.Proofs.Ytgncdikikcifpaa
