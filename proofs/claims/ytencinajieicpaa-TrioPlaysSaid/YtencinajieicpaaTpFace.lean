/- What a law asks of the program's Tape; a Tape as a law holds it; 'awake' of stage 11. -/
import Derived.Test.YtencinajieicpaaTpRef
namespace Go.Proofs.Ytencinajieicpaa
open Go.RowKit
set_option linter.unusedVariables false

structure Td (PT : World → Nat → Option Nat → TS → (Nat → Prop) → Prop) (w w' : World) (t : Nat) (fu k' : Option Nat) (T : Nat → Prop) (S' : TS) : Prop where
  ex : ∃ T', PT w' t fu S' T' ∧ ∀ g, T' g → T g ∨ w.heap.size ≤ g
  up : Up (fun g => T g ∨ fu = some g) w w'
  fz : FzO w' fu k'
structure TapeOps : Type where
  PT : World → Nat → Option Nat → TS → (Nat → Prop) → Prop
  lt : ∀ {w t fu S T}, PT w t fu S T → ∀ g, T g → g < w.heap.size
  le : ∀ {w t fu S T}, PT w t fu S T → S.B.length ≤ 65536 ∧ S.loose ≤ S.B.length ∧ ∀ v ∈ S.B, v < 256
  nf : ∀ {w t fu k S T}, PT w t fu S T → FzO w fu k → ∀ f, fu = some f → ¬ T f
  keep : ∀ {w w' t fu S T} {X : Nat → Prop}, PT w t fu S T → Up X w w' → (∀ g, T g → ¬ X g) → PT w' t fu S T
  new : ∀ {w : World} {fu k : Option Nat}, FzO w fu k → Calls Try.prog 39 #[.pointer (fp fu)] w fun e w' => ∃ t T, e = .returned (.pointer (some ⟨t, 0, none⟩)) ∧ PT w' t fu ⟨[], 0, true⟩ T ∧ Up Nul w w' ∧ ∀ g, T g → w.heap.size ≤ g
  append : ∀ {w t fu k S T}, PT w t fu S T → FzO w fu k → ∀ (a : Option Addr) (l c : Nat) (z : List Nat), SlN w a l z → l ≤ c → l ≤ 100000 → (l = 0 ∨ ∀ x, a = some x → ¬ T x.block ∧ fu ≠ some x.block) →
    Calls Try.prog 37 #[.pointer (some ⟨t, 0, none⟩), .slice a l c] w fun e w' =>
      (S.live = false ∧ e = .returned (.int .i64 5) ∧ Up Nul w w') ∨ (S.live = true ∧ 65536 < S.B.length + l ∧ e = .returned (.int .i64 7) ∧ Up Nul w w') ∨ (S.live = true ∧ S.B.length + l ≤ 65536 ∧ k = some 0 ∧ e = .returned (.int .i64 4) ∧ Up Nul w w') ∨
      (S.live = true ∧ S.B.length + l ≤ 65536 ∧ k ≠ some 0 ∧ e = .returned (.int .i64 0) ∧ Td PT w w' t fu (less k) T ⟨S.B ++ z, S.loose + l, true⟩)
  sync : ∀ {w t fu k S T}, PT w t fu S T → FzO w fu k → Calls Try.prog 38 #[.pointer (some ⟨t, 0, none⟩)] w fun e w' =>
      (S.live = false ∧ e = .returned (.int .i64 5) ∧ Up Nul w w') ∨ (S.live = true ∧ k = some 0 ∧ e = .returned (.int .i64 4) ∧ Up Nul w w') ∨ (S.live = true ∧ k ≠ some 0 ∧ e = .returned (.int .i64 0) ∧ Td PT w w' t fu k T ⟨S.B, 0, true⟩)
  cut : ∀ {w t fu k S T}, PT w t fu S T → FzO w fu k → ∀ x : Int, Calls Try.prog 62 #[.pointer (some ⟨t, 0, none⟩), .int .i64 x] w fun e w' =>
      (S.live = false ∧ e = .returned (.int .i64 5) ∧ Up Nul w w') ∨ (S.live = true ∧ (x < 0 ∨ (S.B.length : Int) < x) ∧ e = .returned (.int .i64 1) ∧ Up Nul w w') ∨ (S.live = true ∧ (0 ≤ x ∧ x ≤ (S.B.length : Int)) ∧ k = some 0 ∧ e = .returned (.int .i64 4) ∧ Up Nul w w') ∨
      (S.live = true ∧ (0 ≤ x ∧ x ≤ (S.B.length : Int)) ∧ k ≠ some 0 ∧ e = .returned (.int .i64 0) ∧ Td PT w w' t fu (less k) T ⟨S.B.take x.toNat, 0, true⟩)
  bytes : ∀ {w t fu S T}, PT w t fu S T → Calls Try.prog 36 #[.pointer (some ⟨t, 0, none⟩)] w fun e w' =>
      ((S.live = false ∧ ∃ a c, e = .returned (.tuple #[.slice a 0 c, .int .i64 5])) ∨ (S.live = true ∧ ∃ a l c, e = .returned (.tuple #[.slice a l c, .int .i64 0]) ∧ SlN w' a l S.B)) ∧ Up Nul w w'
  live : ∀ {w t fu S T}, PT w t fu S T → Calls Try.prog 35 #[.pointer (some ⟨t, 0, none⟩)] w fun e w' => e = .returned (.bool S.live) ∧ Up Nul w w'
  loose : ∀ {w t fu S T}, PT w t fu S T → Calls Try.prog 55 #[.pointer (some ⟨t, 0, none⟩)] w fun e w' => (∃ n : Int, e = .returned (.int .i64 n) ∧ (S.live = true → n = (S.loose : Nat))) ∧ Up Nul w w'
  fail : ∀ {w t fu k S T}, PT w t fu S T → FzO w fu k → Calls Try.prog 15 #[.pointer (some ⟨t, 0, none⟩)] w fun e w' => e = .returned (.tuple #[]) ∧ ∃ S' : TS, S'.live = false ∧ Td PT w w' t fu k T S'
  replace : ∀ {w t fu k S T}, PT w t fu S T → FzO w fu k → Calls Try.prog 16 #[.pointer (some ⟨t, 0, none⟩)] w fun e w' => e = .returned (.tuple #[]) ∧ Td PT w w' t fu k T ⟨[], 0, true⟩
  crash : ∀ {w t fu k S T}, PT w t fu S T → FzO w fu k → ∀ x : Int, Calls Try.prog 31 #[.pointer (some ⟨t, 0, none⟩), .int .i64 x] w fun e w' => e = .returned (.tuple #[]) ∧ ∃ S' : TS, S'.live = S.live ∧ (S.live = true → S' = S.crash x) ∧ Td PT w w' t fu k T S'
/-- A Tape as a law holds it, all new since w0; P: the law's own blocks. -/
structure TH (O : TapeOps) (P : Nat → Prop) (w0 w : World) (t : Nat) (fu k : Option Nat) (S : TS) : Prop where
  ex : ∃ T, O.PT w t fu S T ∧ (∀ g, T g → w0.heap.size ≤ g) ∧ ∀ x, P x → ¬ T x
  fz : FzO w fu k
  fnew : ∀ f, fu = some f → w0.heap.size ≤ f ∧ ¬ P f
  own : ∀ x, P x → x < w.heap.size
  up : Up Nul w0 w
def Tp (P : Nat → Prop) (w w' : World) : Prop := w.heap.size ≤ w'.heap.size ∧ ∀ x, P x → w'.heap[x]? = w.heap[x]?
section
variable {O : TapeOps} {P : Nat → Prop} {w0 w w' : World} {t : Nat} {fu k : Option Nat} {S : TS}
theorem TH.le (h : TH O P w0 w t fu k S) : S.B.length ≤ 65536 ∧ S.loose ≤ S.B.length ∧ ∀ v ∈ S.B, v < 256 := by
  obtain ⟨T, h1, _⟩ := h.ex
  exact O.le h1
theorem TH.nxt (h : TH O P w0 w t fu k S) (u : Up Nul w w') : TH O P w0 w' t fu k S := by
  obtain ⟨T, h1, h2, h3⟩ := h.ex
  exact ⟨⟨T, O.keep h1 u fun _ _ h => h, h2, h3⟩, h.fz.up u fun _ _ h => h, h.fnew, fun x hx => Nat.lt_of_lt_of_le (h.own x hx) u.size, h.up.trans u⟩
theorem TH.tp (h : TH O P w0 w t fu k S) (u : Up Nul w w') : Tp P w w' := ⟨u.size, fun x hx => u.block x (h.own x hx) fun h => h⟩
theorem TH.owns {Q : Nat → Prop} (h : TH O P w0 w t fu k S) (u : Up Nul w w') (h1 : ∀ x, Q x → P x ∨ (w.heap.size ≤ x ∧ x < w'.heap.size)) : TH O Q w0 w' t fu k S := by
  obtain ⟨T, k1, k2, k3⟩ := h.ex
  refine ⟨⟨T, O.keep k1 u fun _ _ h => h, k2, fun y hy e => ?_⟩, h.fz.up u fun _ _ h => h, fun f e => ⟨(h.fnew f e).1, fun hy => ?_⟩, fun y hy => ?_, h.up.trans u⟩
  · rcases h1 y hy with hy | ⟨hy, _⟩
    · exact k3 y hy e
    · have := O.lt k1 y e; omega
  · rcases h1 f hy with hy | ⟨hy, _⟩
    · exact (h.fnew f e).2 hy
    · have hz := h.fz
      rw [e] at hz
      have := Fz.lt hz
      omega
  · rcases h1 y hy with hy | ⟨_, hy⟩
    · exact Nat.lt_of_lt_of_le (h.own y hy) u.size
    · exact hy
theorem TH.less {Q : Nat → Prop} (h : TH O P w0 w t fu k S) (h1 : ∀ x, Q x → P x) : TH O Q w0 w t fu k S := h.owns (Up.refl _ _) fun x hx => .inl (h1 x hx)
/-- The law turns blocks of its own. -/
theorem TH.mine (h : TH O P w0 w t fu k S) {X : Nat → Prop} (u : Up X w w') (hs : ∀ x, X x → P x) (hn : ∀ x, X x → w0.heap.size ≤ x) : TH O P w0 w' t fu k S := by
  obtain ⟨T, k1, k2, k3⟩ := h.ex
  exact ⟨⟨T, O.keep k1 u fun g hg e => k3 g (hs g e) hg, k2, k3⟩, h.fz.up u fun f e hf => (h.fnew f e).2 (hs f hf), h.fnew, fun x hx => Nat.lt_of_lt_of_le (h.own x hx) u.size, h.up.past u hn⟩
/-- The Fuse alone turns. -/
theorem TH.fuse {f : Nat} {k' : Option Nat} (h : TH O P w0 w t (some f) k S) (u : Up (One f) w w') (hz : Fz w' f k') : TH O P w0 w' t (some f) k' S := by
  obtain ⟨T, k1, k2, k3⟩ := h.ex
  exact ⟨⟨T, O.keep k1 u fun g hg e => O.nf k1 h.fz f rfl (by rw [← show g = f from e]; exact hg), k2, k3⟩, hz, h.fnew, fun x hx => Nat.lt_of_lt_of_le (h.own x hx) u.size, h.up.past u fun g hg => by rw [show g = f from hg]; exact (h.fnew f rfl).1⟩
/-- The Tape has changed. -/
theorem TH.did {T : Nat → Prop} {k' : Option Nat} {S' : TS} (h : TH O P w0 w t fu k S) (h1 : O.PT w t fu S T) (h2 : ∀ g, T g → w0.heap.size ≤ g) (h3 : ∀ x, P x → ¬ T x) (d : Td O.PT w w' t fu k' T S') : TH O P w0 w' t fu k' S' ∧ Tp P w w' := by
  obtain ⟨T', d1, d2⟩ := d.ex
  refine ⟨⟨⟨T', d1, fun g hg => ?_, fun x hx e => ?_⟩, d.fz, h.fnew, fun x hx => Nat.lt_of_lt_of_le (h.own x hx) d.up.size, h.up.past d.up fun g hg => ?_⟩, d.up.size, fun x hx => d.up.block x (h.own x hx) fun e => ?_⟩
  · rcases d2 g hg with e | e
    · exact h2 g e
    · exact Nat.le_trans h.up.size e
  · rcases d2 x e with e | e
    · exact h3 x hx e
    · have := h.own x hx; omega
  · rcases hg with e | e
    · exact h2 g e
    · exact (h.fnew g e).1
  · rcases e with e | e
    · exact h3 x hx e
    · exact (h.fnew x e).2 hx
/-! ### The calls, as a law meets them -/
theorem th_new (O : TapeOps) (h0 : Up Nul w0 w) (hf : FzO w fu k) (hn : ∀ f, fu = some f → w0.heap.size ≤ f) :
    Calls Try.prog 39 #[.pointer (fp fu)] w fun e w' => ∃ t, e = .returned (.pointer (some ⟨t, 0, none⟩)) ∧ TH O Nul w0 w' t fu k ⟨[], 0, true⟩ ∧ Up Nul w w' := by
  refine (O.new hf).mono ?_
  rintro e w' ⟨t, T, rfl, h1, h2, h3⟩
  exact ⟨t, rfl, ⟨⟨T, h1, fun g hg => Nat.le_trans h0.size (h3 g hg), fun _ h => h.elim⟩, hf.up h2 fun _ _ h => h, fun f e => ⟨hn f e, fun h => h⟩, fun _ h => h.elim, h0.trans h2⟩, h2⟩
/-- A slice that is none of the Tape's: of the law's, or there ahead of it. -/
def Off (P : Nat → Prop) (w0 : World) (a : Option Addr) (l : Nat) : Prop := l = 0 ∨ ∀ x, a = some x → P x.block ∨ x.block < w0.heap.size
theorem th_append (h : TH O P w0 w t fu k S) {a : Option Addr} {l : Nat} (c : Nat) {z : List Nat} (hz : SlN w a l z) (hc : l ≤ c) (hl : l ≤ 100000) (ha : Off P w0 a l) :
    Calls Try.prog 37 #[.pointer (some ⟨t, 0, none⟩), .slice a l c] w fun e w' =>
      (S.live = false ∧ e = .returned (.int .i64 5) ∧ TH O P w0 w' t fu k S ∧ Tp P w w') ∨ (S.live = true ∧ 65536 < S.B.length + l ∧ e = .returned (.int .i64 7) ∧ TH O P w0 w' t fu k S ∧ Tp P w w') ∨ (S.live = true ∧ S.B.length + l ≤ 65536 ∧ k = some 0 ∧ e = .returned (.int .i64 4) ∧ TH O P w0 w' t fu k S ∧ Tp P w w') ∨
      (S.live = true ∧ S.B.length + l ≤ 65536 ∧ k ≠ some 0 ∧ e = .returned (.int .i64 0) ∧ TH O P w0 w' t fu (less k) ⟨S.B ++ z, S.loose + l, true⟩ ∧ Tp P w w') := by
  obtain ⟨T, h1, h2, h3⟩ := h.ex
  refine (O.append h1 h.fz a l c z hz hc hl (ha.imp (fun e => e) fun ha x hx => ?_)).mono ?_
  · rcases ha x hx with e | e
    · exact ⟨h3 _ e, fun g => (h.fnew _ g).2 e⟩
    · exact ⟨fun g => by have := h2 _ g; omega, fun g => by have := (h.fnew _ g).1; omega⟩
  · rintro e w' (⟨q1, rfl, u⟩ | ⟨q1, q2, rfl, u⟩ | ⟨q1, q2, q3, rfl, u⟩ | ⟨q1, q2, q3, rfl, d⟩)
    · exact .inl ⟨q1, rfl, h.nxt u, h.tp u⟩
    · exact .inr (.inl ⟨q1, q2, rfl, h.nxt u, h.tp u⟩)
    · exact .inr (.inr (.inl ⟨q1, q2, q3, rfl, h.nxt u, h.tp u⟩))
    · exact .inr (.inr (.inr ⟨q1, q2, q3, rfl, h.did h1 h2 h3 d⟩))
/-- .. that fits, with no Fuse. -/
theorem th_put (h : TH O P w0 w t none none S) {a : Option Addr} {l : Nat} (c : Nat) {z : List Nat} (hz : SlN w a l z) (hc : l ≤ c) (hl : S.B.length + l ≤ 65536) (ha : Off P w0 a l) (hv : S.live = true) :
    Calls Try.prog 37 #[.pointer (some ⟨t, 0, none⟩), .slice a l c] w fun e w' => e = .returned (.int .i64 0) ∧ TH O P w0 w' t none none ⟨S.B ++ z, S.loose + l, true⟩ ∧ Tp P w w' := by
  refine (th_append h c hz hc (by omega) ha).mono ?_
  rintro e w' (⟨q1, _⟩ | ⟨_, q2, _⟩ | ⟨_, _, q3, _⟩ | ⟨_, _, _, rfl, d⟩)
  · rw [hv] at q1; cases q1
  · omega
  · cases q3
  · exact ⟨rfl, d⟩
theorem th_sync (h : TH O P w0 w t fu k S) : Calls Try.prog 38 #[.pointer (some ⟨t, 0, none⟩)] w fun e w' =>
      (S.live = false ∧ e = .returned (.int .i64 5) ∧ TH O P w0 w' t fu k S ∧ Tp P w w') ∨ (S.live = true ∧ k = some 0 ∧ e = .returned (.int .i64 4) ∧ TH O P w0 w' t fu k S ∧ Tp P w w') ∨ (S.live = true ∧ k ≠ some 0 ∧ e = .returned (.int .i64 0) ∧ TH O P w0 w' t fu k ⟨S.B, 0, true⟩ ∧ Tp P w w') := by
  obtain ⟨T, h1, h2, h3⟩ := h.ex
  refine (O.sync h1 h.fz).mono ?_
  rintro e w' (⟨q1, rfl, u⟩ | ⟨q1, q3, rfl, u⟩ | ⟨q1, q3, rfl, d⟩)
  · exact .inl ⟨q1, rfl, h.nxt u, h.tp u⟩
  · exact .inr (.inl ⟨q1, q3, rfl, h.nxt u, h.tp u⟩)
  · exact .inr (.inr ⟨q1, q3, rfl, h.did h1 h2 h3 d⟩)
theorem th_cut (h : TH O P w0 w t fu k S) (x : Int) : Calls Try.prog 62 #[.pointer (some ⟨t, 0, none⟩), .int .i64 x] w fun e w' =>
      (S.live = false ∧ e = .returned (.int .i64 5) ∧ TH O P w0 w' t fu k S ∧ Tp P w w') ∨ (S.live = true ∧ (x < 0 ∨ (S.B.length : Int) < x) ∧ e = .returned (.int .i64 1) ∧ TH O P w0 w' t fu k S ∧ Tp P w w') ∨ (S.live = true ∧ (0 ≤ x ∧ x ≤ (S.B.length : Int)) ∧ k = some 0 ∧ e = .returned (.int .i64 4) ∧ TH O P w0 w' t fu k S ∧ Tp P w w') ∨
      (S.live = true ∧ (0 ≤ x ∧ x ≤ (S.B.length : Int)) ∧ k ≠ some 0 ∧ e = .returned (.int .i64 0) ∧ TH O P w0 w' t fu (less k) ⟨S.B.take x.toNat, 0, true⟩ ∧ Tp P w w') := by
  obtain ⟨T, h1, h2, h3⟩ := h.ex
  refine (O.cut h1 h.fz x).mono ?_
  rintro e w' (⟨q1, rfl, u⟩ | ⟨q1, q2, rfl, u⟩ | ⟨q1, q2, q3, rfl, u⟩ | ⟨q1, q2, q3, rfl, d⟩)
  · exact .inl ⟨q1, rfl, h.nxt u, h.tp u⟩
  · exact .inr (.inl ⟨q1, q2, rfl, h.nxt u, h.tp u⟩)
  · exact .inr (.inr (.inl ⟨q1, q2, q3, rfl, h.nxt u, h.tp u⟩))
  · exact .inr (.inr (.inr ⟨q1, q2, q3, rfl, h.did h1 h2 h3 d⟩))
theorem th_bytes (h : TH O P w0 w t fu k S) (hv : S.live = true) : Calls Try.prog 36 #[.pointer (some ⟨t, 0, none⟩)] w fun e w' => ∃ a l c, e = .returned (.tuple #[.slice a l c, .int .i64 0]) ∧ SlN w' a l S.B ∧ TH O P w0 w' t fu k S ∧ Up Nul w w' := by
  obtain ⟨T, h1, h2, h3⟩ := h.ex
  refine (O.bytes h1).mono ?_
  rintro e w' ⟨⟨q1, _⟩ | ⟨_, a, l, c, rfl, hs⟩, u⟩
  · rw [hv] at q1; cases q1
  · exact ⟨a, l, c, rfl, hs, h.nxt u, u⟩
theorem th_bytesGone (h : TH O P w0 w t fu k S) (hv : S.live = false) : Calls Try.prog 36 #[.pointer (some ⟨t, 0, none⟩)] w fun e w' => ∃ a c, e = .returned (.tuple #[.slice a 0 c, .int .i64 5]) ∧ TH O P w0 w' t fu k S ∧ Up Nul w w' := by
  obtain ⟨T, h1, h2, h3⟩ := h.ex
  refine (O.bytes h1).mono ?_
  rintro e w' ⟨⟨_, a, c, rfl⟩ | ⟨q1, _⟩, u⟩
  · exact ⟨a, c, rfl, h.nxt u, u⟩
  · rw [hv] at q1; cases q1
theorem th_live (h : TH O P w0 w t fu k S) : Calls Try.prog 35 #[.pointer (some ⟨t, 0, none⟩)] w fun e w' => e = .returned (.bool S.live) ∧ TH O P w0 w' t fu k S ∧ Up Nul w w' := by
  obtain ⟨T, h1, h2, h3⟩ := h.ex
  refine (O.live h1).mono ?_
  rintro e w' ⟨rfl, u⟩
  exact ⟨rfl, h.nxt u, u⟩
theorem th_loose (h : TH O P w0 w t fu k S) (hv : S.live = true) : Calls Try.prog 55 #[.pointer (some ⟨t, 0, none⟩)] w fun e w' => e = .returned (.int .i64 (S.loose : Nat)) ∧ TH O P w0 w' t fu k S ∧ Up Nul w w' := by
  obtain ⟨T, h1, h2, h3⟩ := h.ex
  refine (O.loose h1).mono ?_
  rintro e w' ⟨⟨n, rfl, hn⟩, u⟩
  exact ⟨by rw [hn hv], h.nxt u, u⟩
theorem th_crash (h : TH O P w0 w t fu k S) (x : Int) (hv : S.live = true) : Calls Try.prog 31 #[.pointer (some ⟨t, 0, none⟩), .int .i64 x] w fun e w' => e = .returned (.tuple #[]) ∧ TH O P w0 w' t fu k (S.crash x) ∧ Tp P w w' := by
  obtain ⟨T, h1, h2, h3⟩ := h.ex
  refine (O.crash h1 h.fz x).mono ?_
  rintro e w' ⟨rfl, S', _, hs, d⟩
  rw [hs hv] at d
  exact ⟨rfl, h.did h1 h2 h3 d⟩
end
end Go.Proofs.Ytencinajieicpaa
