/- A slice that came in, appended to a row of the call's own; a byte of such a row turned. -/
import Derived.Test.YtdkncehgaollcaaCrcTellsWalk
import Derived.Laws.AppendOwnNone
namespace Go.Proofs.Ytdkncehgaollcaa
open Go.RowKit
set_option linter.unusedVariables false

theorem OwnB.blk {base : Nat} {w : World} {q : Nat} {z : List Nat} (h : Blk w q z) (hb : base ≤ q) (hl : z.length ≤ 1000000) : OwnB base w (.slice (some ⟨q, 0, none⟩) z.length z.length) z :=
  ⟨⟨by simp, .inr ⟨q, z.length, bys z, rfl, hb, h.heap, Nat.le_refl _, by unfold maxLen; omega, by simp [bys], by simp only [bys, Nat.mul_one]; exact List.take_of_length_le (by simp)⟩⟩, h.small⟩
theorem came_nil {w : World} {a : Option Addr} {n cap : Nat} {zs : List Int} (h : CameIn w a n cap zs) : a = none → n = 0 ∧ cap = 0 := by
  rintro rfl
  rcases h with ⟨_, h1, h2, _⟩ | ⟨_, e, _⟩
  · exact ⟨h1, h2⟩
  · cases e
/-- append(v, y...), y whatever came in. -/
theorem wpList_append_sl {w : World} {ops : Array Oper} {rest : List Oper} {o : Oper} {a : Act} {Q : Exit → Act → World → Prop} (hgd : o.guard = none) (s x : Operand)
    (ho : o.op = .call { callee := .builtin .append, args := #[s, x], argTypes := #[22, 22] }) (base : Nat) (v : Value) (z : List Nat) (hs : a.eval s = v) (hown : OwnB base w v z)
    (ad : Option Addr) (n cap : Nat) (y : List Nat) (hx : a.eval x = .slice ad n cap) (hr : SlN w ad n y) (hn : ad = none → n = 0 ∧ cap = 0) (hl : z.length + n ≤ 1000000) (hbase : base ≤ w.heap.size)
    (h : ∀ v' w', Hid (OwnB base w' v' (z ++ y)) → Hid (w.grownBy w' v.ownBlock) → wpList Try.prog ops Q rest (a.put o.dst v') w') : wpList Try.prog ops Q (o :: rest) a w := by
  obtain ⟨i0, hi, hz0, hz1, hz2⟩ := info_parts info_u8
  cases ad with
  | none =>
    obtain ⟨rfl, rfl⟩ := hn rfl
    have e : y = [] := List.eq_nil_of_length_eq_zero hr.len
    subst e
    refine wpList_append_own_none hgd s x 22 ho base 5 i0 1 Try.underlying22 hi v z.length _ hs hown.own hx (h v w (by rw [List.append_nil]; exact hown) ⟨rfl, rfl, rfl, Nat.le_refl _, fun _ _ _ => rfl⟩)
  | some x0 =>
    rcases hr.row with e | ⟨b, so, ea, hb, r⟩
    · subst e
      have e : y = [] := List.eq_nil_of_length_eq_zero hr.len
      subst e
      refine wpList_append_own w hgd s x 22 ho base 5 i0 (.int .u8 0) 1 1 Try.underlying22 hi hz0 hz1 hz2 rfl (by decide) v z.length _ hs hown.own x0 0 cap [] hx rfl ?_ ?_ (by unfold maxLen; omega) (by omega) hbase
        fun v' w' h1 h2 _ => h v' w' ⟨by simpa using h1, fun x hx => hown.small x (by simpa using hx)⟩ h2
      · intro j v hv
        simp at hv
      · intro u hu
        simp at hu
    · obtain rfl : x0 = ⟨b, so, none⟩ := by injection ea
      exact wpList_append_bytes hgd s x ho base v z hs hown b so n cap y hx r hr.len hl hbase h
/-- A row of the call's own. -/
structure Mine (w : World) (g : Nat) (z : List Nat) : Prop where
  row : Row w g 0 z
  fr : ∀ i, w.frozen? ⟨g, i, none⟩ = false
  lt : g < w.heap.size
theorem Mine.of {base : Nat} {w : World} {v : Value} {z : List Nat} (h : OwnB base w v z) (h0 : 0 < z.length) : ∃ g cap, v = .slice (some ⟨g, 0, none⟩) z.length cap ∧ base ≤ g ∧ z.length ≤ cap ∧ Mine w g z := by
  obtain ⟨g, cap, e, h1, h2, h3, h4, h5⟩ := h.row h0
  exact ⟨g, cap, e, h1, h5, h3, h4, h2⟩
theorem Mine.sl {w : World} {g : Nat} {z : List Nat} (h : Mine w g z) (hl : z.length ≤ 9223372036854775807) : SlN w (some ⟨g, 0, none⟩) z.length z := ⟨rfl, .inr ⟨g, 0, rfl, h.lt, h.row⟩, hl⟩
theorem Mine.up {S : Nat → Prop} {w w' : World} {g : Nat} {z : List Nat} (h : Mine w g z) (u : Up S w w') (hs : ¬ S g) : Mine w' g z :=
  ⟨h.row.up u h.lt hs, fun i => by rw [u.froz (p := ⟨g, i, none⟩) h.lt hs]; exact h.fr i, Nat.lt_of_lt_of_le h.lt u.size⟩
theorem Mine.drewN {w : World} {g : Nat} {z : List Nat} (h : Mine w g z) (n : Nat) : Mine (w.drewN n) g z := h.up ((Up.refl Nul w).drewN n) id
theorem Mine.set {w : World} {g : Nat} {z : List Nat} (h : Mine w g z) (i v : Nat) (hi : i < z.length) (hv : v < 256) : Mine (w.setCell ⟨g, i, none⟩ (.int .u8 v)) g (z.set i v) := by
  refine ⟨⟨fun j hj => ?_, fun j => ?_⟩, fun j => by rw [World.frozen?_setCell]; exact h.fr j, by simpa using h.lt⟩
  · rw [List.length_set] at hj
    have hc := h.row.cells j hj
    rw [Nat.zero_add] at hc ⊢
    rw [getD_set _ _ _ _ hi]
    by_cases e : j = i
    · subst e
      rw [if_pos rfl, World.cell?_setCell_same _ _ _ hc]
    · rw [if_neg e, World.cell?_setCell_other _ _ _ _ (by intro e2; injection e2 with _ e3; exact e e3.symm)]
      exact hc
  · rw [getD_set _ _ _ _ hi]
    split
    · exact hv
    · exact h.row.small j
theorem many_two_at {w : World} (g : Nat) (hg : g = w.heap.size) (a1 a2 : Option Addr) (n1 n2 c1 c2 : Nat) (z1 z2 : List Nat) (t : TypeId) (h1 : SlN w a1 n1 z1) (h2 : SlN w a2 n2 z2) :
    Calls Try.prog 11 #[.slice (some ⟨g, 0, none⟩) 2 2] (w.alloc (.cells #[.slice a1 n1 c1, .slice a2 n2 c2] t)) fun e w' => e = .returned (.int .u32 (CrcM.sum (z1 ++ z2))) ∧ Up Nul w w' := by
  subst hg
  exact many_two a1 a2 n1 n2 c1 c2 z1 z2 t h1 h2
end Go.Proofs.Ytdkncehgaollcaa
