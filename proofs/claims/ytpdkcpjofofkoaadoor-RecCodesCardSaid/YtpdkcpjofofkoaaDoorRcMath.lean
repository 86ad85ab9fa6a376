/- Which records may be; their bytes. -/
import Derived.Test.YtpdkcpjofofkoaaDoorRcOk2
import Derived.Test.YtpdkcpjofofkoaaDoorRcWords
namespace Go.Proofs.YtpdkcpjofofkoaaDoor
open Go.RowKit
set_option linter.unusedVariables false

def kn (r : Rc) : Nat := r.kind.toNat
/-- Which records may be. -/
def okR (r : Rc) : Bool :=
  spn 1 8 r.kind && ([((r.key.size : Nat) : Int)].all (spn (sh (kn r) 0) (sh (kn r) 1)) && (nums r.key).all pch && [r.n].all (spn (sh (kn r) 2) (sh (kn r) 3)) && [r.sid].all (spn (sh (kn r) 4) (sh (kn r) 5)) && [r.colour].all (spn (sh (kn r) 6) (sh (kn r) 7)) &&
    (((r.sids.length : Nat) : Int) == sh (kn r) 8) && r.sids.all (spn (sh (kn r) 9) (sh (kn r) 10)) && (((r.locs.length : Nat) : Int) == sh (kn r) 11 + sh (kn r) 12 * ((nz r.sids : Nat) : Int)) && r.locs.all lok && r.t.l.all (spn (sh (kn r) 13) (sh (kn r) 14)))
theorem spn_iff {lo hi x : Int} : spn lo hi x = true ↔ lo ≤ x ∧ x ≤ hi := by simp [spn]
/-- What is known of a record that may be. -/
structure OkF (r : Rc) : Prop where
  k1 : 1 ≤ kn r
  k8 : kn r ≤ 8
  kk : r.kind = (kn r : Int)
  key : sh (kn r) 0 ≤ (r.key.size : Nat) ∧ ((r.key.size : Nat) : Int) ≤ sh (kn r) 1
  pl : ∀ c ∈ nums r.key, 33 ≤ c ∧ c ≤ 126
  n : sh (kn r) 2 ≤ r.n ∧ r.n ≤ sh (kn r) 3
  sid : sh (kn r) 4 ≤ r.sid ∧ r.sid ≤ sh (kn r) 5
  co : sh (kn r) 6 ≤ r.colour ∧ r.colour ≤ sh (kn r) 7
  ns : ((r.sids.length : Nat) : Int) = sh (kn r) 8
  sids : ∀ x ∈ r.sids, sh (kn r) 9 ≤ x ∧ x ≤ sh (kn r) 10
  nl : ((r.locs.length : Nat) : Int) = sh (kn r) 11 + sh (kn r) 12 * ((nz r.sids : Nat) : Int)
  locs : ∀ l ∈ r.locs, (0 ≤ l.d ∧ l.d ≤ 23) ∧ (0 ≤ l.s ∧ l.s ≤ 63) ∧ 1 ≤ l.i ∧ l.i ≤ 2147483647
  t : ∀ x ∈ r.t.l, sh (kn r) 13 ≤ x ∧ x ≤ sh (kn r) 14
theorem okR_iff {r : Rc} : okR r = true ↔ OkF r := by
  constructor
  · intro h
    unfold okR at h
    simp only [Bool.and_eq_true, spn_iff, List.all_cons, List.all_nil, Bool.and_true, List.all_eq_true, beq_iff_eq, pch, decide_eq_true_eq, lok] at h
    obtain ⟨⟨h1, h2⟩, ⟨⟨⟨⟨⟨⟨⟨⟨⟨a1, a2⟩, a3⟩, a4⟩, a5⟩, a6⟩, a7⟩, a8⟩, a9⟩, a10⟩⟩ := h
    have hk : r.kind = (kn r : Int) := by unfold kn; omega
    exact ⟨by omega, by omega, hk, a1, a2, a3, a4, a5, a6, a7, a8, fun l hl => ⟨(a9 l hl).1.1, (a9 l hl).1.2, (a9 l hl).2⟩, a10⟩
  · intro h
    unfold okR
    simp only [Bool.and_eq_true, spn_iff, List.all_cons, List.all_nil, Bool.and_true, List.all_eq_true, beq_iff_eq, pch, decide_eq_true_eq, lok]
    have := h.kk
    have := h.k1
    have := h.k8
    exact ⟨⟨by omega, by omega⟩, ⟨⟨⟨⟨⟨⟨⟨⟨⟨h.key, h.pl⟩, h.n⟩, h.sid⟩, h.co⟩, h.ns⟩, h.sids⟩, h.nl⟩, fun l hl => ⟨⟨(h.locs l hl).1, (h.locs l hl).2.1⟩, (h.locs l hl).2.2⟩⟩, h.t⟩⟩
theorem sh_bounds : ∀ k, k < 9 → (0 ≤ sh k 8 ∧ sh k 8 ≤ 3) ∧ (0 ≤ sh k 11 ∧ sh k 11 ≤ 6) ∧ (0 ≤ sh k 12 ∧ sh k 12 ≤ 2) ∧ (0 ≤ sh k 0 ∧ sh k 1 ≤ 16) ∧ (0 ≤ sh k 2 ∧ sh k 3 ≤ 64) ∧ (0 ≤ sh k 4 ∧ sh k 5 ≤ 2147483647) ∧ (0 ≤ sh k 6 ∧ sh k 7 ≤ 2) ∧ (0 ≤ sh k 9 ∧ sh k 10 ≤ 2147483647) ∧ (0 ≤ sh k 13 ∧ sh k 14 ≤ 1000000) := by
  intro k hk
  match k, hk with
  | 0, _ => decide
  | 1, _ => decide
  | 2, _ => decide
  | 3, _ => decide
  | 4, _ => decide
  | 5, _ => decide
  | 6, _ => decide
  | 7, _ => decide
  | 8, _ => decide
/-- The bytes of a record. -/
def opt (h : Int) (l : List Nat) : List Nat := if 0 < h then l else []
def loB (l : Lo) : List Nat := [l.d.toNat, l.s.toNat] ++ w4 l.i.toNat
def los (ls : List Lo) : List Nat := ls.flatMap loB
def encR (r : Rc) : List Nat := [r.kind.toNat] ++ opt (sh (kn r) 1) (r.key.size :: nums r.key) ++ opt (sh (kn r) 3) [r.n.toNat] ++ opt (sh (kn r) 5) (wds [r.sid]) ++ opt (sh (kn r) 7) [r.colour.toNat] ++ wds r.sids ++ opt (sh (kn r) 12) [r.locs.length] ++ los r.locs ++ opt (sh (kn r) 14) (wds r.t.l)
theorem los_next {ls : List Lo} {t : Nat} (h : t < ls.length) : los (ls.take (t + 1)) = los (ls.take t) ++ loB ls[t] := by
  unfold los
  rw [List.take_succ_eq_append_getElem h, List.flatMap_append]
  simp
theorem los_length (ls : List Lo) : (los ls).length = 6 * ls.length := by
  induction ls with
  | nil => rfl
  | cons x l ih => simp only [los, List.flatMap_cons, List.length_append, List.length_cons] at ih ⊢; rw [ih]; simp [loB, w4]; omega
theorem opt_le (h : Int) (l : List Nat) : (opt h l).length ≤ l.length := by unfold opt; split <;> simp
theorem wds_small (zs : List Int) : ∀ x ∈ wds zs, x < 256 := by
  intro x hx
  unfold wds at hx
  obtain ⟨y, _, hy⟩ := List.mem_flatMap.1 hx
  exact w4_small _ x hy
theorem opt_small {h : Int} {l : List Nat} (hl : ∀ x ∈ l, x < 256) : ∀ x ∈ opt h l, x < 256 := by
  intro x hx
  unfold opt at hx
  split at hx
  · exact hl x hx
  · cases hx
section
variable {r : Rc}
theorem OkF.nsl (h : OkF r) : r.sids.length ≤ 3 := by have := (sh_bounds (kn r) (by have := h.k8; omega)).1.2; have := h.ns; omega
theorem OkF.nll (h : OkF r) : r.locs.length ≤ 12 := by
  obtain ⟨_, ⟨_, b2⟩, ⟨b3, b4⟩, _⟩ := sh_bounds (kn r) (by have := h.k8; omega)
  have h1 := h.nl
  have h2 : nz r.sids ≤ 3 := Nat.le_trans (nz_le _) h.nsl
  obtain ⟨l, hl⟩ := Int.eq_ofNat_of_zero_le b3
  rw [hl] at h1 b4
  have : l * nz r.sids ≤ 2 * 3 := Nat.mul_le_mul (by omega) h2
  have e : ((l : Nat) : Int) * ((nz r.sids : Nat) : Int) = ((l * nz r.sids : Nat) : Int) := by simp
  rw [e] at h1
  omega
theorem OkF.keyl (h : OkF r) : r.key.size ≤ 16 := by have := h.key.2; have := (sh_bounds (kn r) (by have := h.k8; omega)).2.2.2.1.2; omega
theorem OkF.len (h : OkF r) : (encR r).length ≤ 250 := by
  have h1 := opt_le (sh (kn r) 1) (r.key.size :: nums r.key)
  have h2 := opt_le (sh (kn r) 3) [r.n.toNat]
  have h3 := opt_le (sh (kn r) 5) (wds [r.sid])
  have h4 := opt_le (sh (kn r) 7) [r.colour.toNat]
  have h5 := opt_le (sh (kn r) 12) [r.locs.length]
  have h6 := opt_le (sh (kn r) 14) (wds r.t.l)
  have h7 := wds_length r.sids
  have h8 := los_length r.locs
  have h9 : (wds r.t.l).length = 24 := wds_length _
  have h10 : (wds [r.sid]).length = 4 := wds_length _
  have := h.keyl
  have := h.nsl
  have := h.nll
  unfold encR
  simp only [List.length_append, List.length_cons, List.length_nil, nums_length] at *
  omega
theorem OkF.small (h : OkF r) : ∀ x ∈ encR r, x < 256 := by
  have b := sh_bounds (kn r) (by have := h.k8; omega)
  have hk := h.kk
  have hk8 := h.k8
  have hn := h.n
  have hc := h.co
  intro x hx
  unfold encR at hx
  simp only [List.mem_append] at hx
  rcases hx with (((((((hx | hx) | hx) | hx) | hx) | hx) | hx) | hx) | hx
  · simp only [List.mem_cons, List.not_mem_nil, or_false] at hx; omega
  · refine opt_small ?_ x hx
    intro y hy
    rcases List.mem_cons.1 hy with rfl | hy
    · have := h.keyl; omega
    · have := h.pl y hy; omega
  · refine opt_small ?_ x hx
    intro y hy
    simp only [List.mem_cons, List.not_mem_nil, or_false] at hy; omega
  · exact opt_small (wds_small _) x hx
  · refine opt_small ?_ x hx
    intro y hy
    simp only [List.mem_cons, List.not_mem_nil, or_false] at hy; omega
  · exact wds_small _ x hx
  · refine opt_small ?_ x hx
    intro y hy
    simp only [List.mem_cons, List.not_mem_nil, or_false] at hy; have := h.nll; omega
  · unfold los at hx
    obtain ⟨l, hl, hx⟩ := List.mem_flatMap.1 hx
    have := h.locs l hl
    unfold loB at hx
    rcases List.mem_append.1 hx with hx | hx
    · simp only [List.mem_cons, List.not_mem_nil, or_false] at hx; omega
    · exact w4_small _ x hx
  · exact opt_small (wds_small _) x hx
end
end Go.Proofs.YtpdkcpjofofkoaaDoor
