/- What a law asks of the program's Bay; both Bays over both Disks, as a law holds them. -/
import Derived.Test.YtfmgbmpdifjliaaSameInts
namespace Go.Proofs.Ytfmgbmpdifjliaa
open Go.RowKit
set_option linter.unusedVariables false

/-- A call that changes what is used. -/
def Did (PB : World → Nat → Nat → Nat → (Nat → Bool) → (Nat → Prop) → Prop) (w : World) (q b n : Nat) (U' : Nat → Bool) (F : Nat → Prop) (w' : World) : Prop :=
  ∃ F', PB w' q b n U' F' ∧ Up F w w' ∧ ∀ g, F' g → F g ∨ w.heap.size ≤ g
/-- The program's Bay: where it lies, and what its calls do. -/
structure BayOps : Type where
  PB : World → Nat → Nat → Nat → (Nat → Bool) → (Nat → Prop) → Prop
  ty : ∀ {w q b n U F}, PB w q b n U F → ∀ g, F g → ∃ (A : Array Value) (T : TypeId), w.heap[g]? = some (Obj.cells A T (0, 0)) ∧ ¬ DR T
  keep : ∀ {w w' q b n U F}, PB w q b n U F → (∀ g, F g → w'.heap[g]? = w.heap[g]?) → PB w' q b n U F
  new : ∀ {w0 w b n fu k live R ps}, H w0 w b n fu k live R ps → n ≤ 64 → Calls Try.prog 9 #[.pointer (some ⟨b, 0, none⟩)] w fun e w' => ∃ q F, e = .returned (.pointer (some ⟨q, 0, none⟩)) ∧ PB w' q b n (fun _ => false) F ∧ Up Nul w w' ∧ ∀ g, F g → w.heap.size ≤ g
  take : ∀ {w q b n U F}, PB w q b n U F → n ≤ 64 → Calls Try.prog 10 #[.pointer (some ⟨q, 0, none⟩)] w fun e w' =>
    (∃ i, fst0 U n 0 = some i ∧ e = .returned (.tuple #[.int .i64 (i : Nat), .bool true]) ∧ Did PB w q b n (updB U i true) F w') ∨
    (fst0 U n 0 = none ∧ e = .returned (.tuple #[.int .i64 0, .bool false]) ∧ Up Nul w w')
  hold : ∀ {w q b n U F}, PB w q b n U F → n ≤ 64 → ∀ x : Int, Calls Try.prog 16 #[.pointer (some ⟨q, 0, none⟩), .int .i64 x] w fun e w' =>
    ((0 ≤ x ∧ x < (n : Int) ∧ U x.toNat = false) ∧ e = .returned (.bool true) ∧ Did PB w q b n (updB U x.toNat true) F w') ∨
    (¬ (0 ≤ x ∧ x < (n : Int) ∧ U x.toNat = false) ∧ e = .returned (.bool false) ∧ Up Nul w w')
  give : ∀ {w q b n U F}, PB w q b n U F → n ≤ 64 → ∀ x : Int, Calls Try.prog 12 #[.pointer (some ⟨q, 0, none⟩), .int .i64 x] w fun e w' =>
    ((0 ≤ x ∧ x < (n : Int) ∧ U x.toNat = true) ∧ e = .returned (.bool true) ∧ Did PB w q b n (updB U x.toNat false) F w') ∨
    (¬ (0 ≤ x ∧ x < (n : Int) ∧ U x.toNat = true) ∧ e = .returned (.bool false) ∧ Up Nul w w')
  free : ∀ {w q b n U F}, PB w q b n U F → n ≤ 64 → Calls Try.prog 17 #[.pointer (some ⟨q, 0, none⟩)] w fun e w' => e = .returned (.int .i64 ((n : Int) - ((us U n).length : Nat))) ∧ Up Nul w w'
  used : ∀ {w q b n U F}, PB w q b n U F → n ≤ 64 → Calls Try.prog 18 #[.pointer (some ⟨q, 0, none⟩)] w fun e w' => ∃ v, e = .returned v ∧ OwnV 3 w.heap.size w' v (usV U n) ∧ Up Nul w w'
  disk : ∀ {w q b n U F}, PB w q b n U F → Calls Try.prog 21 #[.pointer (some ⟨q, 0, none⟩)] w fun e w' => e = .returned (.pointer (some ⟨b, 0, none⟩)) ∧ Up Nul w w'
  writeBad : ∀ {w q b n U F}, PB w q b n U F → n ≤ 64 → ∀ (x id : Int) (a : Option Addr) (l c : Nat) (z : List Nat), SlN w a l z → l ≤ c → (-9223372036854775808 ≤ id ∧ id ≤ 9223372036854775807) → (x < 0 ∨ (n : Int) ≤ x ∨ U x.toNat = false ∨ id < 0 ∨ 4294967295 < id ∨ 64 < l) →
    Calls Try.prog 11 #[.pointer (some ⟨q, 0, none⟩), .int .i64 x, .int .i64 id, .slice a l c] w fun e w' => e = .returned (.int .i64 1) ∧ Up Nul w w'
  writeGood : ∀ {w q b n U F}, PB w q b n U F → n ≤ 64 → ∀ (i id : Nat) (a : Option Addr) (l c : Nat) (z : List Nat) (P : Int → World → Prop), SlN w a l z → l ≤ c → i < n → U i = true → id < 4294967296 → l ≤ 64 →
    (∀ w1 a1 c1, Up Nul w w1 → SlN w1 a1 96 (FrM.fr id z) → (∀ y, a1 = some y → ∃ A, w1.heap[y.block]? = some (Obj.cells A 5 (0, 0))) → Calls Try.prog 44 #[.pointer (some ⟨b, 0, none⟩), .int .i64 (i : Nat), .slice a1 96 c1] w1 fun e w2 => ∃ code, e = .returned (.int .i64 code) ∧ P code w2) →
    Calls Try.prog 11 #[.pointer (some ⟨q, 0, none⟩), .int .i64 (i : Nat), .int .i64 (id : Nat), .slice a l c] w fun e w2 => ∃ code, e = .returned (.int .i64 code) ∧ P code w2
  readErr : ∀ {w q b n U F}, PB w q b n U F → ∀ (x id code : Int), ¬ code = 0 →
    Calls Try.prog 46 #[.pointer (some ⟨b, 0, none⟩), .int .i64 x] w (fun e w2 => ∃ a l c, e = .returned (.tuple #[.slice a l c, .int .i64 code]) ∧ Up Nul w w2) →
    Calls Try.prog 25 #[.pointer (some ⟨q, 0, none⟩), .int .i64 x, .int .i64 id] w fun e w2 => ∃ a c, e = .returned (.tuple #[.slice a 0 c, .int .i64 code]) ∧ Up Nul w w2
  readOk : ∀ {w q b n U F}, PB w q b n U F → ∀ (x id : Int) (z : List Nat),
    Calls Try.prog 46 #[.pointer (some ⟨b, 0, none⟩), .int .i64 x] w (fun e w2 => ∃ a c, e = .returned (.tuple #[.slice a 96 c, .int .i64 0]) ∧ Got w w2 a 96 c z) →
    Calls Try.prog 25 #[.pointer (some ⟨q, 0, none⟩), .int .i64 x, .int .i64 id] w fun e w2 =>
      ((∃ a l c, FrM.tk z = some (FrM.idOf z, FrM.datOf z) ∧ (FrM.idOf z : Int) = id ∧ e = .returned (.tuple #[.slice a l c, .int .i64 0]) ∧ SlN w2 a l (FrM.datOf z)) ∨
       (∃ a c, (FrM.tk z = none ∨ ¬ (FrM.idOf z : Int) = id) ∧ e = .returned (.tuple #[.slice a 0 c, .int .i64 6]))) ∧ Up Nul w w2
  scan : ∀ {w0 w q b n U F k live R ps fu}, PB w q b n U F → H w0 w b n fu k live R ps → n ≤ 64 → (∀ s, s < n → ∀ v ∈ R s, v < 256) →
    Calls Try.prog 14 #[.pointer (some ⟨q, 0, none⟩)] w fun e w' => ∃ v, e = .returned v ∧ OwnK w.heap.size w' v (if live then scn R n else []) ∧ Up Nul w w'
theorem scn_congr {R S : Nat → List Nat} {n : Nat} (h : ∀ i, i < n → R i = S i) : scn R n = scn S n := by
  induction n with
  | zero => rfl
  | succ n ih =>
    rw [scn, scn, h n (Nat.lt_succ_self n), ih fun i hi => h i (Nat.lt_succ_of_lt hi)]
/-- The document's Scan, whether its Disk is live or not. -/
theorem rscan_any {bb ub : Nat} {U : Nat → Bool} (r : RK) (w : World) (h : RB w bb r.m ub r.n U) (hr : RD w r) (h8 : ∀ s, s < r.n → ∀ v ∈ r.R s, v < 256) :
    Calls Try.prog 35 #[.pointer (some ⟨bb, 0, none⟩)] w fun e w' => ∃ v, e = .returned v ∧ OwnK w.heap.size w' v (if r.live then scn r.R r.n else []) ∧ Up Nul w w' := by
  cases e : r.live with
  | false =>
    refine (rscan_gone r w h hr e).mono ?_
    rintro e w' ⟨rfl, rfl⟩
    exact ⟨_, rfl, OwnK.nil _ _, Up.refl _ _⟩
  | true => exact rscan_live r w h hr e h8

/-- Both Bays. -/
structure BX (O : BayOps) (w0 w : World) (q bb b mm ub n : Nat) (U : Nat → Bool) (F : Nat → Prop) (i : Nat) : Prop where
  px : PX w w0 w b n none mm none i
  rb : RB w bb mm ub n U
  pb : O.PB w q b n U F
  nbb : ¬ F bb
  nub : ¬ F ub
  new : w0.heap.size ≤ bb ∧ w0.heap.size ≤ ub ∧ ∀ g, F g → w0.heap.size ≤ g
section
variable {O : BayOps} {v w0 w w1 w' : World} {q bb b mm ub n i : Nat} {U U' : Nat → Bool} {F : Nat → Prop} {f g : Option Nat}
theorem PX.side (h : PX v w0 w b n f mm g i) (k : Ks (fun t => ¬ DR t) w w') (u : Up Nul w0 w') : PX w' w0 w' b n f mm g i := by
  obtain ⟨k1, live, R, ps, r, h1, h2⟩ := h
  exact ⟨k1, live, R, ps, r, ⟨⟨h1.pm.hd.ks k fun t d e => e (.inl d), h1.pm.rd.ks k fun t d e => e (.inr d), h1.pm.rf.ks k fun t d e => e (.inr d), h1.pm.rnew, h1.pm.fnew, u, Ks.refl _ _⟩, h1.rn, h1.rl, h1.inv, h1.sm⟩, h2⟩
theorem BX.lt (h : BX O w0 w q bb b mm ub n U F i) {x : Nat} (hx : F x) : x < w.heap.size := by
  obtain ⟨A, T, e, _⟩ := O.ty h.pb x hx
  exact (Array.getElem?_eq_some_iff.1 e).1
theorem BX.nxt (h : BX O w0 w q bb b mm ub n U F i) (u : Up Nul w w') : BX O w0 w' q bb b mm ub n U F i :=
  ⟨(h.px.nxt u).now, h.rb.nxt u, O.keep h.pb fun x hx => u.block x (h.lt hx) id, h.nbb, h.nub, h.new⟩
theorem BX.more (h : BX O w0 w q bb b mm ub n U F i) {j : Nat} (hj : i ≤ j) : BX O w0 w q bb b mm ub n U F j := ⟨h.px.more hj, h.rb, h.pb, h.nbb, h.nub, h.new⟩
theorem row_dr : ¬ DR 4 := by unfold DR DD RT; decide
theorem bay_dr : ¬ DR 89 := by unfold DR DD RT; decide
theorem RB.ks (h : RB w bb mm ub n U) (k : Ks DR w w') : RB w' bb mm ub n U := ⟨k.kept _ _ _ _ h.head bay_dr, ⟨k.kept _ _ _ _ h.row.heap row_dr⟩, h.le⟩
/-- A call of the Disks. -/
theorem BX.disk (h : BX O w0 w q bb b mm ub n U F i) {j : Nat} (p : PX w w0 w' b n none mm none j) : BX O w0 w' q bb b mm ub n U F j :=
  ⟨p.now, h.rb.ks p.ks, O.keep h.pb fun x hx => by
    obtain ⟨A, T, e, d⟩ := O.ty h.pb x hx
    rw [e]
    exact p.ks.kept _ _ _ _ e d, h.nbb, h.nub, h.new⟩
/-- What the program's Bay turns is of no Disk. -/
theorem BX.ksF (h : BX O w0 w q bb b mm ub n U F i) (u : Up F w w') : Ks (fun t => ¬ DR t) w w' := ⟨u.size, fun x A T fr e d => by
  by_cases hx : F x
  · obtain ⟨A', T', e', d'⟩ := O.ty h.pb x hx
    rw [e] at e'
    injection e' with e'
    injection e' with _ e' _
    exact absurd (fun k => d' (e' ▸ k)) d
  · exact (u.block x (Array.getElem?_eq_some_iff.1 e).1 hx).trans e⟩
theorem RB.ksU (h : RB w bb mm ub n U) (u : Up (One ub) w w') : Ks (fun t => ¬ DR t) w w' := ⟨u.size, fun x A T fr e d => by
  by_cases hx : x = ub
  · subst hx
    rw [h.row.heap] at e
    injection e with e
    injection e with _ e _
    exact absurd (e ▸ row_dr) d
  · exact (u.block x (Array.getElem?_eq_some_iff.1 e).1 (fun k => hx k)).trans e⟩
/-- Both have changed what is used. -/
theorem BX.both (h : BX O w0 w q bb b mm ub n U F i) (d : Did O.PB w q b n U' F w1) (r : RB w' bb mm ub n U') (u : Up (One ub) w1 w') : ∃ F', BX O w0 w' q bb b mm ub n U' F' i := by
  obtain ⟨F', h1, h2, h3⟩ := d
  have r1 : RB w1 bb mm ub n U := h.rb.up h2 h.nbb h.nub
  have u1 : Up Nul w0 w1 := At.foot h.px.up h2 h.new.2.2
  have u2 : Up Nul w0 w' := At.foot u1 u fun x hx => by unfold One at hx; rw [hx]; exact h.new.2.1
  have n1 : ¬ F' bb := fun e => by
    rcases h3 bb e with e | e
    · exact h.nbb e
    · have := h.rb.lt; omega
  have n2 : ¬ F' ub := fun e => by
    rcases h3 ub e with e | e
    · exact h.nub e
    · have := h.rb.row.lt; omega
  refine ⟨F', ((h.px.side (h.ksF h2) u1).side (r1.ksU u) u2), r, O.keep h1 fun x hx => u.block x ?_ (fun e => n2 (by unfold One at e; rw [← e]; exact hx)), n1, n2, h.new.1, h.new.2.1, fun x hx => ?_⟩
  · obtain ⟨A, T, e, _⟩ := O.ty h1 x hx
    exact (Array.getElem?_eq_some_iff.1 e).1
  · rcases h3 x hx with e | e
    · exact h.new.2.2 x e
    · exact Nat.le_trans h.px.up.size e
/-- A block of no Bay and no Disk's type stays. -/
theorem BX.other (h : BX O w0 w q bb b mm ub n U F i) (u1 : Up F w w1) (u2 : Up (One ub) w1 w') {x : Nat} (hx : x < w.heap.size) (h1 : ¬ F x) (h2 : ¬ x = ub) : w'.heap[x]? = w.heap[x]? :=
  (u2.block x (Nat.lt_of_lt_of_le hx u1.size) h2).trans (u1.block x hx h1)
end
end Go.Proofs.Ytfmgbmpdifjliaa
