/- Which records may be. -/
import Derived.Test.YtmhmlfgikmeejaaDoorRcOk2
namespace Go.Proofs.YtmhmlfgikmeejaaDoor
open Go.RowKit
set_option linter.unusedVariables false

def kn (r : Rc) : Nat := r.kind.toNat
/-- Which records may be. -/
def okR (r : Rc) : Bool :=
  spn 1 8 r.kind && ([((r.key.size : Nat) : Int)].all (spn (sh (kn r) 0) (sh (kn r) 1)) && (nums r.key).all pch && [r.n].all (spn (sh (kn r) 2) (sh (kn r) 3)) && [r.sid].all (spn (sh (kn r) 4) (sh (kn r) 5)) && [r.colour].all (spn (sh (kn r) 6) (sh (kn r) 7)) &&
    (((r.sids.length : Nat) : Int) == sh (kn r) 8) && r.sids.all (spn (sh (kn r) 9) (sh (kn r) 10)) && (((r.locs.length : Nat) : Int) == sh (kn r) 11 + sh (kn r) 12 * ((nz r.sids : Nat) : Int)) && r.locs.all lok && r.t.l.all (spn (sh (kn r) 13) (sh (kn r) 14)))
theorem spn_iff {lo hi x : Int} : spn lo hi x = true ↔ lo ≤ x ∧ x ≤ hi := by simp [spn]
/-- What is known of a record that may be. -/
structure OkF (r : Rc) : Prop where
  k1 : 1 ≤ kn r
  k8 : kn r ≤ 8
  kk : r.kind = (kn r : Int)
  key : sh (kn r) 0 ≤ (r.key.size : Nat) ∧ ((r.key.size : Nat) : Int) ≤ sh (kn r) 1
  pl : ∀ c ∈ nums r.key, 33 ≤ c ∧ c ≤ 126
  n : sh (kn r) 2 ≤ r.n ∧ r.n ≤ sh (kn r) 3
  sid : sh (kn r) 4 ≤ r.sid ∧ r.sid ≤ sh (kn r) 5
  co : sh (kn r) 6 ≤ r.colour ∧ r.colour ≤ sh (kn r) 7
  ns : ((r.sids.length : Nat) : Int) = sh (kn r) 8
  sids : ∀ x ∈ r.sids, sh (kn r) 9 ≤ x ∧ x ≤ sh (kn r) 10
  nl : ((r.locs.length : Nat) : Int) = sh (kn r) 11 + sh (kn r) 12 * ((nz r.sids : Nat) : Int)
  locs : ∀ l ∈ r.locs, (0 ≤ l.d ∧ l.d ≤ 23) ∧ (0 ≤ l.s ∧ l.s ≤ 63) ∧ 1 ≤ l.i ∧ l.i ≤ 2147483647
  t : ∀ x ∈ r.t.l, sh (kn r) 13 ≤ x ∧ x ≤ sh (kn r) 14
theorem okR_iff {r : Rc} : okR r = true ↔ OkF r := by
  constructor
  · intro h
    unfold okR at h
    simp only [Bool.and_eq_true, spn_iff, List.all_cons, List.all_nil, Bool.and_true, List.all_eq_true, beq_iff_eq, pch, decide_eq_true_eq, lok] at h
    obtain ⟨⟨h1, h2⟩, ⟨⟨⟨⟨⟨⟨⟨⟨⟨a1, a2⟩, a3⟩, a4⟩, a5⟩, a6⟩, a7⟩, a8⟩, a9⟩, a10⟩⟩ := h
    have hk : r.kind = (kn r : Int) := by unfold kn; omega
    exact ⟨by omega, by omega, hk, a1, a2, a3, a4, a5, a6, a7, a8, fun l hl => ⟨(a9 l hl).1.1, (a9 l hl).1.2, (a9 l hl).2⟩, a10⟩
  · intro h
    unfold okR
    simp only [Bool.and_eq_true, spn_iff, List.all_cons, List.all_nil, Bool.and_true, List.all_eq_true, beq_iff_eq, pch, decide_eq_true_eq, lok]
    have := h.kk
    have := h.k1
    have := h.k8
    exact ⟨⟨by omega, by omega⟩, ⟨⟨⟨⟨⟨⟨⟨⟨⟨h.key, h.pl⟩, h.n⟩, h.sid⟩, h.co⟩, h.ns⟩, h.sids⟩, h.nl⟩, fun l hl => ⟨⟨(h.locs l hl).1, (h.locs l hl).2.1⟩, (h.locs l hl).2.2⟩⟩, h.t⟩⟩
theorem sh_bounds : ∀ k, k < 9 → (0 ≤ sh k 8 ∧ sh k 8 ≤ 3) ∧ (0 ≤ sh k 11 ∧ sh k 11 ≤ 6) ∧ (0 ≤ sh k 12 ∧ sh k 12 ≤ 2) ∧ (0 ≤ sh k 0 ∧ sh k 1 ≤ 16) ∧ (0 ≤ sh k 2 ∧ sh k 3 ≤ 64) ∧ (0 ≤ sh k 4 ∧ sh k 5 ≤ 2147483647) ∧ (0 ≤ sh k 6 ∧ sh k 7 ≤ 2) ∧ (0 ≤ sh k 9 ∧ sh k 10 ≤ 2147483647) ∧ (0 ≤ sh k 13 ∧ sh k 14 ≤ 1000000) := by
  intro k hk
  match k, hk with
  | 0, _ => decide
  | 1, _ => decide
  | 2, _ => decide
  | 3, _ => decide
  | 4, _ => decide
  | 5, _ => decide
  | 6, _ => decide
  | 7, _ => decide
  | 8, _ => decide
section
variable {r : Rc}
theorem OkF.nsl (h : OkF r) : r.sids.length ≤ 3 := by have := (sh_bounds (kn r) (by have := h.k8; omega)).1.2; have := h.ns; omega
theorem OkF.nll (h : OkF r) : r.locs.length ≤ 12 := by
  obtain ⟨_, ⟨_, b2⟩, ⟨b3, b4⟩, _⟩ := sh_bounds (kn r) (by have := h.k8; omega)
  have h1 := h.nl
  have h2 : nz r.sids ≤ 3 := Nat.le_trans (nz_le _) h.nsl
  obtain ⟨l, hl⟩ := Int.eq_ofNat_of_zero_le b3
  rw [hl] at h1 b4
  have : l * nz r.sids ≤ 2 * 3 := Nat.mul_le_mul (by omega) h2
  have e : ((l : Nat) : Int) * ((nz r.sids : Nat) : Int) = ((l * nz r.sids : Nat) : Int) := by simp
  rw [e] at h1
  omega
theorem OkF.keyl (h : OkF r) : r.key.size ≤ 16 := by have := h.key.2; have := (sh_bounds (kn r) (by have := h.k8; omega)).2.2.2.1.2; omega
end
end Go.Proofs.YtmhmlfgikmeejaaDoor
