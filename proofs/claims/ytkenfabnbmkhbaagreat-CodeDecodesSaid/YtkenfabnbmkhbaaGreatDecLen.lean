/- The document's 'Length'. -/
import Derived.Test.YtkenfabnbmkhbaaGreatDecInv
namespace Go.Proofs.YtkenfabnbmkhbaaGreat
open Go.RowKit
set_option linter.unusedVariables false

/-- n of the document's shards lie in block g: two cells each. -/
structure Two (w : World) (g n : Nat) (S : Nat → Option (List Nat)) : Prop where
  b : ∀ i, i < n → w.cell? ⟨g, i * 2, none⟩ = some (.string (strOf ((S i).getD [])))
  is : ∀ i, i < n → w.cell? ⟨g, i * 2 + 1, none⟩ = some (.bool (S i).isSome)
  lt : g < w.heap.size
theorem Two.up {w w' : World} {g n : Nat} {S : Nat → Option (List Nat)} (h : Two w g n S) (u : Up Nul w w') : Two w' g n S :=
  ⟨fun i hi => (u.cell (p := ⟨g, i * 2, none⟩) h.lt id).trans (h.b i hi), fun i hi => (u.cell (p := ⟨g, i * 2 + 1, none⟩) h.lt id).trans (h.is i hi), Nat.lt_of_lt_of_le h.lt u.size⟩
/-- The length seen last, of the first t; -1 where none is there. -/
def seen (S : Nat → Option (List Nat)) : Nat → Int
  | 0 => -1
  | t + 1 => match S t with
    | none => seen S t
    | some z => z.length
/-- Shard t does not fit those before it. -/
def Odd1 (S : Nat → Option (List Nat)) (t : Nat) : Prop := ∃ z, S t = some z ∧ ((0 ≤ seen S t ∧ seen S t ≠ z.length) ∨ 64 < z.length)
/-- What 'Length' answers. -/
def LenP (S : Nat → Option (List Nat)) (n : Nat) (m : Int) (ok : Bool) : Prop :=
  (∃ i, i < n ∧ Odd1 S i ∧ m = 0 ∧ ok = false) ∨ (∀ i, i < n → ¬ Odd1 S i) ∧ m = seen S n ∧ ok = decide (0 ≤ seen S n)
def LenE (S : Nat → Option (List Nat)) (n : Nat) (w : World) (e : Ending) (w' : World) : Prop := ∃ m ok, e = .returned (.tuple #[.int .i64 m, .bool ok]) ∧ Up Nul w w' ∧ LenP S n m ok
theorem LenE.mk {S : Nat → Option (List Nat)} {n : Nat} {w w' : World} {m : Int} {ok : Bool} (h : Up Nul w w') (h2 : LenP S n m ok) : LenE S n w (.returned (.tuple #[.int .i64 m, .bool ok])) w' := ⟨m, ok, rfl, h, h2⟩
set_option maxRecDepth 100000 in
theorem refLen_any (g n cap : Nat) (S : Nat → Option (List Nat)) (w : World) (hS : Two w g n S) (hn : n ≤ 60) (hl : ∀ i z, S i = some z → z.length ≤ 1000) :
    Calls Tryz.prog 35 #[.slice (some ⟨g, 0, none⟩) n cap] w
      fun e w' => LenE S n w e w' := by
  have HS := hid (And.intro hS hl)
  clear hS hl
  go_enter Tryz.func35, Tryz.ntmps35
  go_wp2_with fail
  go_loopw [4, 5] (fun m i wr => ∃ t : Nat, t ≤ n ∧ i = .int .i64 t ∧ m = .int .i64 (seen S t) ∧ Up Nul w wr ∧ ∀ j, j < t → ¬ Odd1 S j) (fun _ i _ => n - (intOf i).toNat)
  case atStart => exact ⟨0, by omega, rfl, rfl, Up.refl _ _, fun _ h => absurd h (Nat.not_lt_zero _)⟩
  case round =>
    obtain ⟨t, ht, rfl, rfl, hu, ho⟩ := hrel
    have HU := hid (And.intro hu ho)
    clear hu ho
    by_cases hlt : t < n
    · have i0 : (0 : Int) ≤ (t : Int) := by omega
      have i1 : (t : Int) < (n : Int) := by omega
      have hb := (HS.out.1.up HU.out.1).b t hlt
      have hi := (HS.out.1.up HU.out.1).is t hlt
      rcases hz : S t with _ | z
      · rw [hz] at hb hi
        have HN : Hid (seen S (t + 1) = seen S t ∧ ¬ Odd1 S t) := ⟨by rw [seen, hz], fun ⟨z, h, _⟩ => by rw [hz] at h; cases h⟩
        clear hb
        simp only [Option.isSome_none] at hi
        clear hz
        go_wp2
        go_roundw
        case rel => exact ⟨t + 1, by omega, by go_num, by rw [HN.out.1], HU.out.1, fun j hj => by
          by_cases e : j = t
          · subst e; exact HN.out.2
          · exact HU.out.2 j (by omega)⟩
        case measure => simp [intOf]; omega
      · rw [hz] at hb hi
        have hl := HS.out.2 t z hz
        have HN : Hid (seen S (t + 1) = z.length ∧ (Odd1 S t ↔ (0 ≤ seen S t ∧ seen S t ≠ z.length) ∨ 64 < z.length)) := ⟨by rw [seen, hz], ⟨fun ⟨z', h, h2⟩ => by rw [hz] at h; cases h; exact h2, fun h => ⟨z, hz, h⟩⟩⟩
        simp only [Option.isSome_some, Option.getD_some] at hi hb
        have z1 : (strOf z).size = z.length := strOf_size z
        generalize strOf z = str at hb z1
        clear hz
        generalize z.length = L at *
        obtain ⟨m, HM⟩ : ∃ m, Hid (seen S t = m) := ⟨_, rfl⟩
        rw [HM.out] at HN ⊢
        go_wp2
        all_goals first
          | (go_ret2; exact LenE.mk HU.out.1 (.inl ⟨t, hlt, HN.out.2.2 (by omega), rfl, rfl⟩))
          | (go_roundw
             case rel => exact ⟨t + 1, by omega, by go_num, by rw [HN.out.1], HU.out.1, fun j hj => by
               by_cases e : j = t
               · subst e; exact fun h => absurd (HN.out.2.1 h) (by omega)
               · exact HU.out.2 j (by omega)⟩
             case measure => simp [intOf]; omega)
    · obtain rfl : n = t := by omega
      go_wp2
      all_goals
        go_ret2
        exact LenE.mk HU.out.1 (.inr ⟨HU.out.2, rfl, by simp⟩)
end Go.Proofs.YtkenfabnbmkhbaaGreat
