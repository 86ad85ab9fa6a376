/- One disk of many, with its Bay; many disks, with one Fuse: what each call of one does to all. -/
import Derived.Test.YtcejdobmgbielaaRB
namespace Go.Proofs.Ytcejdobmgbielaa
open Go.RowKit
set_option linter.unusedVariables false

/-- One disk of a rack: where its Bay and its Disk lie, which slots are used, whether it is live, what is in its slots, what is pending. -/
structure DS where
  q : Nat
  b : Nat
  U : Nat → Bool
  live : Bool
  R : Nat → List Nat
  ps : List (Nat × List Nat)
/-- One disk and its Bay in memory, in the blocks F. -/
structure Dk (w : World) (m : Nat) (fu : Option Nat) (s : DS) (F : Nat → Prop) : Prop where
  ex : ∃ d G, Dsk w d ∧ PBs w s.q s.b m s.U G ∧ d.b = s.b ∧ d.n = m ∧ d.fu = fu ∧ d.live = s.live ∧ d.ps = s.ps ∧ (∀ i, i < m → d.slot i = s.R i) ∧ (∀ g, F g ↔ d.foot g ∨ G g)
  le : m ≤ 64
theorem bay_dd : ¬ DD 75 := by unfold DD; decide
theorem bool_dd : ¬ DD 4 := by unfold DD; decide
theorem PBs.tyd {w : World} {q b n : Nat} {U : Nat → Bool} {F : Nat → Prop} (h : PBs w q b n U F) (g : Nat) (hg : F g) : ∃ (A : Array Value) (T : TypeId), w.heap[g]? = some (Obj.cells A T (0, 0)) ∧ ¬ DD T := by
  obtain ⟨ub, h1, h2⟩ := h
  rcases (h2 g).1 hg with rfl | rfl
  · exact ⟨_, _, h1.head, bay_dd⟩
  · exact ⟨_, _, h1.row.heap, bool_dd⟩
theorem PBs.up {w w' : World} {q b n : Nat} {U : Nat → Bool} {F S : Nat → Prop} (h : PBs w q b n U F) (u : Up S w w') (hs : ∀ g, F g → ¬ S g) : PBs w' q b n U F := h.keep fun g hg => u.block g (h.lt g hg) (hs g hg)
/-- The blocks of a Bay are none of a Disk's, nor its Fuse. -/
theorem PBs.off {w : World} {q b n : Nat} {U : Nat → Bool} {G : Nat → Prop} {d : DK} {k : Option Nat} (h : PBs w q b n U G) (hd : Dsk w d) (hf : FzO w d.fu k) {g : Nat} (hg : G g) : ¬ d.foot g ∧ d.fu ≠ some g := by
  obtain ⟨A, T, e, hT⟩ := h.tyd g hg
  refine ⟨fun hk => ?_, fun hk => ?_⟩
  · obtain ⟨A', T', e', hT', _⟩ := hd.ty hk
    rw [e] at e'
    injection e' with e'
    injection e' with _ e' _
    exact hT (e' ▸ hT')
  · have hz := hf
    rw [hk] at hz
    have e' := Fz.heap hz
    rw [e] at e'
    injection e' with e'
    injection e' with _ e' _
    exact hT (e' ▸ .inr (.inr (.inr rfl)))
section
variable {w w' : World} {m : Nat} {fu k : Option Nat} {s : DS} {F : Nat → Prop}
theorem Dk.lt (h : Dk w m fu s F) {g : Nat} (hg : F g) : g < w.heap.size := by
  obtain ⟨d, G, h1, h2, _, _, _, _, _, _, h3⟩ := h.ex
  rcases (h3 g).1 hg with e | e
  · exact h1.foot_lt e
  · exact h2.lt g e
theorem Dk.up {S : Nat → Prop} (h : Dk w m fu s F) (u : Up S w w') (hs : ∀ g, F g → ¬ S g) : Dk w' m fu s F := by
  obtain ⟨d, G, h1, h2, h4, h5, h6, h7, h8, h9, h3⟩ := h.ex
  exact ⟨⟨d, G, h1.up u fun g hg => hs g ((h3 g).2 (.inl hg)), h2.up u fun g hg => hs g ((h3 g).2 (.inr hg)), h4, h5, h6, h7, h8, h9, h3⟩, h.le⟩
theorem Dk.nf (h : Dk w m fu s F) (hf : FzO w fu k) : ∀ f, fu = some f → ¬ F f := by
  obtain ⟨d, G, h1, h2, h4, h5, rfl, h7, h8, h9, h3⟩ := h.ex
  intro f e hF
  rcases (h3 f).1 hF with g | g
  · exact foot_fuse h1 hf f g e
  · exact (h2.off h1 hf g).2 e
/-- What a call of one disk leaves: it turns none but the disk's blocks and the Fuse. -/
structure Dn (w w' : World) (m : Nat) (fu k' : Option Nat) (F : Nat → Prop) (s' : DS) : Prop where
  ex : ∃ F', Dk w' m fu s' F' ∧ ∀ g, F' g → F g ∨ w.heap.size ≤ g
  up : Up (fun g => F g ∨ fu = some g) w w'
  fz : FzO w' fu k'
theorem Dn.nul (h : Dk w m fu s F) (hf : FzO w fu k) (u : Up Nul w w') : Dn w w' m fu k F s :=
  ⟨⟨F, h.up u fun _ _ => id, fun g hg => .inl hg⟩, u.mono fun _ _ h => h.elim, hf.up u fun _ _ h => h⟩
/-- Its Bay has changed. -/
theorem Dn.did {U' : Nat → Bool} {d : DK} {G : Nat → Prop} (h1 : Dsk w d) (h2 : PBs w s.q s.b m s.U G) (h4 : d.b = s.b) (h5 : d.n = m) (h6 : d.fu = fu) (h7 : d.live = s.live) (h8 : d.ps = s.ps) (h9 : ∀ i, i < m → d.slot i = s.R i) (h3 : ∀ g, F g ↔ d.foot g ∨ G g) (le : m ≤ 64) (hf : FzO w fu k)
    (did : Did PBs w s.q s.b m U' G w') : Dn w w' m fu k F { s with U := U' } := by
  subst h6
  obtain ⟨G', g1, g2, g3⟩ := did
  refine ⟨⟨fun g => d.foot g ∨ G' g, ⟨⟨d, G', h1.up g2 fun g hg e => (h2.off h1 hf e).1 hg, g1, h4, h5, rfl, h7, h8, h9, fun _ => Iff.rfl⟩, le⟩, fun g hg => ?_⟩, g2.mono fun g _ hg => .inl ((h3 g).2 (.inr hg)), hf.up g2 fun f e hg => (h2.off h1 hf hg).2 e⟩
  rcases hg with e | e
  · exact .inl ((h3 g).2 (.inl e))
  · rcases g3 g e with e | e
    · exact .inl ((h3 g).2 (.inr e))
    · exact .inr e
/-- Its Disk has changed. -/
theorem Dn.disk {s' : DS} {d d' : DK} {G S : Nat → Prop} {k' : Option Nat} (h1 : Dsk w d) (h2 : PBs w s.q s.b m s.U G) (h6 : d.fu = fu) (h3 : ∀ g, F g ↔ d.foot g ∨ G g) (le : m ≤ 64) (hf : FzO w fu k) (g1 : Dsk w' d') (u : Up S w w') (hS : ∀ g, S g → d.foot g ∨ d.fu = some g) (hft : ∀ g, d'.foot g → d.foot g ∨ w.heap.size ≤ g)
    (e4 : d'.b = s'.b) (e5 : d'.n = m) (e6 : d'.fu = fu) (e7 : d'.live = s'.live) (e8 : d'.ps = s'.ps) (e9 : ∀ i, i < m → d'.slot i = s'.R i) (q0 : s'.q = s.q) (b0 : s'.b = s.b) (U0 : s'.U = s.U) (fz : FzO w' fu k') : Dn w w' m fu k' F s' := by
  subst h6
  have g2 : PBs w' s'.q s'.b m s'.U G := by
    rw [q0, b0, U0]
    exact h2.up u fun g hg e => by
      rcases hS g e with e | e
      · exact (h2.off h1 hf hg).1 e
      · exact (h2.off h1 hf hg).2 e
  refine ⟨⟨fun g => d'.foot g ∨ G g, ⟨⟨d', G, g1, g2, e4, e5, e6, e7, e8, e9, fun _ => Iff.rfl⟩, le⟩, fun g hg => ?_⟩, u.mono fun g _ hg => ?_, fz⟩
  · rcases hg with e | e
    · rcases hft g e with e | e
      · exact .inl ((h3 g).2 (.inl e))
      · exact .inr e
    · exact .inl ((h3 g).2 (.inr e))
  · rcases hS g hg with e | e
    · exact .inl ((h3 g).2 (.inl e))
    · exact .inr e
/-! ### The Bay's calls -/
theorem dk_take (h : Dk w m fu s F) (hf : FzO w fu k) : Calls Try.prog 35 #[.pointer (some ⟨s.q, 0, none⟩)] w fun e w' =>
    (∃ i, fst0 s.U m 0 = some i ∧ e = .returned (.tuple #[.int .i64 (i : Nat), .bool true]) ∧ Dn w w' m fu k F { s with U := updB s.U i true }) ∨
    (fst0 s.U m 0 = none ∧ e = .returned (.tuple #[.int .i64 0, .bool false]) ∧ Up Nul w w') := by
  obtain ⟨d, G, h1, h2, h4, h5, h6, h7, h8, h9, h3⟩ := h.ex
  refine (ptake_any h2 h.le).mono ?_
  rintro e w' (⟨i, hi, rfl, did⟩ | ⟨hn, rfl, u⟩)
  · exact .inl ⟨i, hi, rfl, Dn.did h1 h2 h4 h5 h6 h7 h8 h9 h3 h.le hf did⟩
  · exact .inr ⟨hn, rfl, u⟩
theorem dk_hold (h : Dk w m fu s F) (hf : FzO w fu k) (x : Int) : Calls Try.prog 38 #[.pointer (some ⟨s.q, 0, none⟩), .int .i64 x] w fun e w' =>
    ((0 ≤ x ∧ x < (m : Int) ∧ s.U x.toNat = false) ∧ e = .returned (.bool true) ∧ Dn w w' m fu k F { s with U := updB s.U x.toNat true }) ∨
    (¬ (0 ≤ x ∧ x < (m : Int) ∧ s.U x.toNat = false) ∧ e = .returned (.bool false) ∧ Up Nul w w') := by
  obtain ⟨d, G, h1, h2, h4, h5, h6, h7, h8, h9, h3⟩ := h.ex
  refine (phold_any h2 x).mono ?_
  rintro e w' (⟨hi, rfl, did⟩ | ⟨hn, rfl, u⟩)
  · exact .inl ⟨hi, rfl, Dn.did h1 h2 h4 h5 h6 h7 h8 h9 h3 h.le hf did⟩
  · exact .inr ⟨hn, rfl, u⟩
theorem dk_give (h : Dk w m fu s F) (hf : FzO w fu k) (x : Int) : Calls Try.prog 37 #[.pointer (some ⟨s.q, 0, none⟩), .int .i64 x] w fun e w' =>
    ((0 ≤ x ∧ x < (m : Int) ∧ s.U x.toNat = true) ∧ e = .returned (.bool true) ∧ Dn w w' m fu k F { s with U := updB s.U x.toNat false }) ∨
    (¬ (0 ≤ x ∧ x < (m : Int) ∧ s.U x.toNat = true) ∧ e = .returned (.bool false) ∧ Up Nul w w') := by
  obtain ⟨d, G, h1, h2, h4, h5, h6, h7, h8, h9, h3⟩ := h.ex
  refine (pgive_any h2 x).mono ?_
  rintro e w' (⟨hi, rfl, did⟩ | ⟨hn, rfl, u⟩)
  · exact .inl ⟨hi, rfl, Dn.did h1 h2 h4 h5 h6 h7 h8 h9 h3 h.le hf did⟩
  · exact .inr ⟨hn, rfl, u⟩
theorem dk_free (h : Dk w m fu s F) : Calls Try.prog 21 #[.pointer (some ⟨s.q, 0, none⟩)] w fun e w' => e = .returned (.int .i64 ((m : Int) - ((us s.U m).length : Nat))) ∧ Up Nul w w' := by
  obtain ⟨d, G, h1, h2, _⟩ := h.ex
  exact pfree_any h2 h.le
theorem dk_used (h : Dk w m fu s F) : Calls Try.prog 14 #[.pointer (some ⟨s.q, 0, none⟩)] w fun e w' => ∃ v, e = .returned v ∧ OwnV 3 w.heap.size w' v (usV s.U m) ∧ Up Nul w w' := by
  obtain ⟨d, G, h1, h2, _⟩ := h.ex
  exact pused_any h2 h.le
theorem dk_disk (h : Dk w m fu s F) : Calls Try.prog 19 #[.pointer (some ⟨s.q, 0, none⟩)] w fun e w' => e = .returned (.pointer (some ⟨s.b, 0, none⟩)) ∧ Up Nul w w' := by
  obtain ⟨d, G, h1, h2, _⟩ := h.ex
  exact pdisk_any h2
/-! ### The Disk's calls -/
theorem dk_live (h : Dk w m fu s F) : Calls Try.prog 47 #[.pointer (some ⟨s.b, 0, none⟩)] w fun e w' => e = .returned (.bool s.live) ∧ w' = w := by
  obtain ⟨d, G, h1, h2, h4, h5, h6, h7, h8, h9, h3⟩ := h.ex
  rw [← h4, ← h7]
  exact live_any d w h1
theorem dk_fail (h : Dk w m fu s F) (hf : FzO w fu k) : Calls Try.prog 20 #[.pointer (some ⟨s.b, 0, none⟩)] w fun e w' => e = .returned (.tuple #[]) ∧ Dn w w' m fu k F { s with live := false } := by
  obtain ⟨d, G, h1, h2, h4, h5, h6, h7, h8, h9, h3⟩ := h.ex
  obtain ⟨s', hs⟩ : ∃ s' : DS, s' = { s with live := false } := ⟨_, rfl⟩
  rw [← hs, ← h4]
  refine (fail_any d w h1).mono ?_
  rintro e w' ⟨rfl, g1, g2⟩
  subst hs
  have fz : FzO w' fu k := hf.up g2 fun f e1 e2 => by subst h6; exact foot_fuse h1 hf f (.inl e2) e1
  exact ⟨rfl, Dn.disk h1 h2 h6 h3 h.le hf g1 g2 (fun g hg => .inl (.inl hg)) (fun g hg => .inl hg) h4 h5 h6 rfl h8 h9 rfl rfl rfl fz⟩
theorem dk_sync (h : Dk w m fu s F) (hf : FzO w fu k) : Calls Try.prog 45 #[.pointer (some ⟨s.b, 0, none⟩)] w fun e w' =>
    (s.live = false ∧ e = .returned (.int .i64 5) ∧ w' = w) ∨ (s.live = true ∧ k = some 0 ∧ e = .returned (.int .i64 4) ∧ w' = w) ∨ (s.live = true ∧ k ≠ some 0 ∧ e = .returned (.int .i64 0) ∧ Dn w w' m fu k F { s with ps := [] }) := by
  obtain ⟨d, G, h1, h2, h4, h5, rfl, h7, h8, h9, h3⟩ := h.ex
  obtain ⟨s', hs⟩ : ∃ s' : DS, s' = { s with ps := [] } := ⟨_, rfl⟩
  rw [← hs, ← h4]
  cases hl : s.live with
  | false =>
    refine (sync_gone d w h1 (h7.trans hl)).mono ?_
    rintro e w' ⟨rfl, rfl⟩
    exact .inl ⟨rfl, rfl, rfl⟩
  | true =>
    by_cases hk : k = some 0
    · subst hk
      refine (sync_dead d w h1 (h7.trans hl) hf).mono ?_
      rintro e w' ⟨rfl, rfl⟩
      exact .inr (.inl ⟨rfl, rfl, rfl, rfl⟩)
    · refine (sync_good d k w h1 (h7.trans hl) hf hk).mono ?_
      rintro e w' ⟨rfl, g1, g2⟩
      subst hs
      have fz : FzO w' d.fu k := hf.up g2 fun f e1 e2 => foot_fuse h1 hf f (.inl e2) e1
      refine .inr (.inr ⟨rfl, hk, rfl, Dn.disk h1 h2 rfl h3 h.le hf g1 g2 (fun g hg => .inl (.inl hg)) (fun g hg => ?_) h4 h5 rfl h7 rfl h9 rfl rfl rfl fz⟩)
      rcases hg with e | e | e
      · exact .inl (.inl e)
      · exact .inl (.inr (.inl e))
      · cases e
/-! ### Chunks -/
/-- A chunk that may be written. -/
theorem dk_write (h : Dk w m fu s F) (hf : FzO w fu k) (hp : s.ps.length < 1000) {i id : Nat} {a : Option Addr} {l c : Nat} {z : List Nat} (hz : SlN w a l z) (hc : l ≤ c) (hi : i < m) (hu : s.U i = true) (hid1 : id < 4294967296) (hl : l ≤ 64) :
    Calls Try.prog 41 #[.pointer (some ⟨s.q, 0, none⟩), .int .i64 (i : Nat), .int .i64 (id : Nat), .slice a l c] w fun e w' =>
      (s.live = false ∧ e = .returned (.int .i64 5) ∧ Up Nul w w') ∨ (s.live = true ∧ k = some 0 ∧ e = .returned (.int .i64 4) ∧ Up Nul w w') ∨
      (s.live = true ∧ k ≠ some 0 ∧ e = .returned (.int .i64 0) ∧ Dn w w' m fu (less k) F { s with R := upd s.R i (FrM.fr id z), ps := s.ps ++ [(i, s.R i)] }) := by
  obtain ⟨d, G, h1, h2, h4, h5, rfl, h7, h8, h9, h3⟩ := h.ex
  refine (pwrite_good h2 h.le i id a l c z (fun code w' => (s.live = false ∧ code = 5 ∧ Up Nul w w') ∨ (s.live = true ∧ k = some 0 ∧ code = 4 ∧ Up Nul w w') ∨
      (s.live = true ∧ k ≠ some 0 ∧ code = 0 ∧ Dn w w' m d.fu (less k) F { s with R := upd s.R i (FrM.fr id z), ps := s.ps ++ [(i, s.R i)] })) hz hc hi hu hid1 hl fun w1 a1 c1 u hz1 ha => ?_).mono ?_
  · have k1 : Dsk w1 d := h1.nxt u
    have hf1 : FzO w1 d.fu k := hf.up u fun _ _ h => h
    have hi5 : i < d.n := by rw [h5]; exact hi
    rw [← h4]
    cases hlv : s.live with
    | false =>
      refine (write_gone d i a1 c1 w1 k1 hi5 (h7.trans hlv)).mono ?_
      rintro e w' ⟨rfl, rfl⟩
      exact ⟨_, rfl, .inl ⟨rfl, rfl, u⟩⟩
    | true =>
      by_cases hk : k = some 0
      · subst hk
        refine (write_dead d i a1 c1 w1 k1 hi5 (h7.trans hlv) hf1).mono ?_
        rintro e w' ⟨rfl, rfl⟩
        exact ⟨_, rfl, .inr (.inl ⟨rfl, rfl, rfl, u⟩)⟩
      · refine (write_good d i k a1 c1 (FrM.fr id z) w1 k1 hi5 (h7.trans hlv) hf1 hk (by rw [h8]; exact hp) hz1 fun x hx => ?_).mono ?_
        · obtain ⟨A, eA⟩ := ha x hx
          refine ⟨fun e => ?_, fun e => ?_⟩
          · obtain ⟨A', T', e1, e2, _⟩ := k1.ty e
            rw [eA] at e1
            injection e1 with e1
            injection e1 with _ e1 _
            exact dd_byte (e1 ▸ e2)
          · have hz := hf1
            rw [e] at hz
            have e1 := Fz.heap hz
            rw [eA] at e1
            injection e1 with e1
            injection e1 with _ e1 _
            exact absurd e1 (by decide)
        · rintro e w' ⟨rfl, g1, d', g2⟩
          obtain ⟨pa, pc, e⟩ := g2.at_
          refine ⟨_, rfl, .inr (.inr ⟨rfl, hk, rfl, ?_⟩)⟩
          have h2' : PBs w1 s.q s.b m s.U G := h2.up u fun _ _ h => h
          have hl96 : (FrM.fr id z).length = 96 := hz1.len
          have dn := Dn.disk (s := s) (s' := { s with R := upd s.R i (FrM.fr id z), ps := s.ps ++ [(i, s.R i)] }) (k' := less k) k1 h2' rfl h3 h.le hf1 g2.dsk g2.up (fun g hg => hg) g2.foot
            (by rw [e]; exact h4) (by rw [e]; exact h5) (by rw [e]) (by rw [e]; exact h7) (by rw [e, h8, h9 i hi]) (fun t ht => by rw [e, slot_put k1 _ pa pc _ hi5 (by rw [h5]; exact ht) hl96, h9 t ht]; rfl) rfl rfl rfl g1
          obtain ⟨F', x1, x2⟩ := dn.ex
          refine ⟨⟨F', ?_, fun g hg => ?_⟩, (u.mono fun _ _ h => h.elim).trans dn.up, dn.fz⟩
          · rw [h4]; rw [hlv] at x1; exact x1
          · rcases x2 g hg with e | e
            · exact .inl e
            · exact .inr (Nat.le_trans u.size e)
  · rintro e w' ⟨code, rfl, ⟨e1, rfl, u⟩ | ⟨e1, e2, rfl, u⟩ | ⟨e1, e2, rfl, dn⟩⟩
    · exact .inl ⟨e1, rfl, u⟩
    · exact .inr (.inl ⟨e1, e2, rfl, u⟩)
    · exact .inr (.inr ⟨e1, e2, rfl, dn⟩)
theorem dk_read (h : Dk w m fu s F) {i : Nat} (id : Int) (hi : i < m) (hlv : s.live = true) :
    Calls Try.prog 42 #[.pointer (some ⟨s.q, 0, none⟩), .int .i64 (i : Nat), .int .i64 id] w fun e w' =>
      ((∃ a l c, FrM.tk (s.R i) = some (FrM.idOf (s.R i), FrM.datOf (s.R i)) ∧ (FrM.idOf (s.R i) : Int) = id ∧ e = .returned (.tuple #[.slice a l c, .int .i64 0]) ∧ SlN w' a l (FrM.datOf (s.R i))) ∨
       (∃ a c, (FrM.tk (s.R i) = none ∨ ¬ (FrM.idOf (s.R i) : Int) = id) ∧ e = .returned (.tuple #[.slice a 0 c, .int .i64 6]))) ∧ Up Nul w w' := by
  obtain ⟨d, G, h1, h2, h4, h5, h6, h7, h8, h9, h3⟩ := h.ex
  refine pread_ok h2 (i : Nat) id (s.R i) ?_
  rw [← h4, ← h9 i hi]
  exact read_good d i w h1 (by rw [h5]; exact hi) (h7.trans hlv)
end
end Go.Proofs.Ytcejdobmgbielaa
