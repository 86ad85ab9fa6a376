/- What the laws ask at their end: three records on a new Meta. -/
import Derived.Test.YtmhmlfgikmeejaaDoorMtKeyP
import Derived.Test.YtmhmlfgikmeejaaDoorMtBlob
namespace Go.Proofs.YtmhmlfgikmeejaaDoor
open Go.RowKit Go.Maps
set_option linter.unusedVariables false

def locs3 : List Lo := [⟨0, 0, 1⟩, ⟨0, 0, 2⟩, ⟨0, 0, 3⟩]
def ra1 : Rc := ⟨1, ⟨#[98]⟩, 5, 1, [], 0, locs3, tb0⟩
def ra2 : Rc := ⟨1, ⟨#[97]⟩, 0, 1, [], 0, locs3, tb0⟩
def ra3 : Rc := ⟨2, ⟨#[99]⟩, 0, 0, [], 0, [], tb0⟩
def ma1 : MM := (MM.new.step ra1).2
theorem ok_ra1 : okR ra1 = true := by decide
theorem ok_ra2 : okR ra2 = true := by decide
theorem ok_ra3 : okR ra3 = true := by decide
theorem ma1_is : MM.new.step ra1 = (0, ma1) ∧ ma1.last = 1 ∧ ma1.b = upd (fun _ => none) ⟨#[98]⟩ (some ⟨5, 1, 0⟩) := by
  have e1 : MM.new.step ra1 = (0, { (MM.new.put ra1).2 with last := 1 }) := by
    unfold MM.step MM.app
    rw [ok_ra1]
    rfl
  refine ⟨?_, ?_, ?_⟩
  · unfold ma1; rw [e1]
  · unfold ma1; rw [e1]
  · unfold ma1
    rw [e1]
    have h1 : (MM.new.put ra1).2.b = layT (upd (fun _ => none) ⟨#[98]⟩ (some ⟨5, 0, 0⟩)) ⟨1, 0, ⟨#[98]⟩, noK, noK, locs3⟩ 1 3 := rfl
    show (MM.new.put ra1).2.b = _
    rw [h1]
    funext k
    obtain ⟨i1, i2, i3, i4⟩ := layT_b (upd (fun _ => none) (⟨#[98]⟩ : ByteArray) (some (⟨5, 0, 0⟩ : Bl))) ⟨1, 0, ⟨#[98]⟩, noK, noK, locs3⟩ 1 3 (by omega) k
    by_cases hk : k = ⟨#[98]⟩
    · subst hk
      rw [upd_same]
      exact i4 0 (by omega) rfl (fun u hu hne => by
        have : u = 1 ∨ u = 2 := by omega
        rcases this with rfl | rfl
        · exact (by decide : (noK : ByteArray) ≠ ⟨#[98]⟩)
        · exact (by decide : (noK : ByteArray) ≠ ⟨#[98]⟩)) ⟨5, 0, 0⟩ (upd_same _ _ _)
    · rw [upd_ne _ _ hk]
      exact i3 (upd_ne _ _ hk)
theorem ma1_two : ma1.step ra2 = (11, ma1) := by
  unfold MM.step MM.app
  rw [ok_ra2, ma1_is.2.1]
  rfl
theorem ma1_three : ma1.step ra3 = (9, ma1) := by
  have hb : ma1.b ⟨#[99]⟩ = none := by rw [ma1_is.2.2]; exact upd_ne _ _ (by decide)
  have hd : ma1.drop ⟨#[99]⟩ = (9, ma1) := by unfold MM.drop; rw [hb]
  unfold MM.step MM.app
  have hc : ma1.chg ra3 = (9, ma1) := by
    have : ma1.chg ra3 = ma1.drop ⟨#[99]⟩ := rfl
    rw [this, hd]
  rw [ok_ra3, hc]
  rfl
theorem ma1_keys {l : List ByteArray} (h : KS ma1 l) : l.length = 1 := by
  have hm : ∀ k, k.size ≤ maxLen → (k ∈ l ↔ k = ⟨#[98]⟩) := fun k hk => by
    rw [h.mem k hk, ma1_is.2.2]
    by_cases e : k = ⟨#[98]⟩
    · subst e; rw [upd_same]; simp
    · rw [upd_ne _ _ e]; simp [e]
  have h1 : (⟨#[98]⟩ : ByteArray) ∈ l := (hm _ (by unfold maxLen; decide)).2 rfl
  match l, h, h1, hm with
  | [a], _, _, _ => rfl
  | a :: b :: t, h, _, hm =>
    have ha := (hm a (h.sz a (by simp))).1 (by simp)
    have hb := (hm b (h.sz b (by simp))).1 (by simp)
    have := h.nd
    rw [ha, hb] at this
    simp at this
end Go.Proofs.YtmhmlfgikmeejaaDoor
