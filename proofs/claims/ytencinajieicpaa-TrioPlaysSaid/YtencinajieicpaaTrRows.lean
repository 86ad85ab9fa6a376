/- Rows of records: alike, pack, Split. -/
import Derived.Test.YtencinajieicpaaTrReal
namespace Go.Proofs.Ytencinajieicpaa
open Go.RowKit
set_option linter.unusedVariables false

theorem com_at : ∀ (a b : List (List Nat)) (i : Nat), i < (com a b).length → ∃ z, a[i]? = some z ∧ b[i]? = some z := by
  intro a
  induction a with
  | nil => intro b i h; cases b <;> exact absurd h (Nat.not_lt_zero i)
  | cons x l ih =>
    intro b i h
    cases b with
    | nil => exact absurd h (Nat.not_lt_zero i)
    | cons y m =>
      by_cases e : x = y
      · rw [com, if_pos e, List.length_cons] at h
        cases i with
        | zero => exact ⟨x, rfl, by rw [e]; rfl⟩
        | succ i =>
          obtain ⟨z, h1, h2⟩ := ih m i (by omega)
          exact ⟨z, by simpa using h1, by simpa using h2⟩
      · rw [com, if_neg e] at h
        exact absurd h (Nat.not_lt_zero i)
theorem com_end : ∀ (a b : List (List Nat)), (com a b).length = a.length ∨ (com a b).length = b.length ∨ ∃ x y, a[(com a b).length]? = some x ∧ b[(com a b).length]? = some y ∧ ¬ x = y := by
  intro a
  induction a with
  | nil => intro b; cases b <;> exact .inl rfl
  | cons x l ih =>
    intro b
    cases b with
    | nil => exact .inr (.inl rfl)
    | cons y m =>
      by_cases e : x = y
      · rw [com, if_pos e]
        rcases ih m with h | h | ⟨p, q, h1, h2, h3⟩
        · exact .inl (by simp [h])
        · exact .inr (.inl (by simp [h]))
        · exact .inr (.inr ⟨p, q, by simpa using h1, by simpa using h2, h3⟩)
      · rw [com, if_neg e]
        exact .inr (.inr ⟨x, y, rfl, rfl, e⟩)
theorem com_le (a b : List (List Nat)) : (com a b).length ≤ a.length ∧ (com a b).length ≤ b.length := by
  obtain ⟨t, h⟩ := com_left a b
  obtain ⟨s, h2⟩ := com_right a b
  have h := congrArg List.length h
  have h2 := congrArg List.length h2
  rw [List.length_append] at h h2
  omega
theorem com_take (a b : List (List Nat)) : a.take (com a b).length = com a b := by
  obtain ⟨t, h⟩ := com_left a b
  generalize com a b = c at h ⊢
  subst h
  exact List.take_left' rfl
theorem com_take2 (a b : List (List Nat)) : b.take (com a b).length = com a b := by rw [com_comm]; exact com_take b a
/-! ### 'alike' -/
set_option maxRecDepth 100000 in
set_option maxHeartbeats 1600000 in
theorem alike_any {w : World} {v1 v2 : Value} {l1 l2 : List (List Nat)} (h1 : RRs w v1 l1) (h2 : RRs w v2 l2) (hn : l1.length ≤ 1000000 ∧ l2.length ≤ 1000000) :
    Calls Try.prog 63 #[v1, v2] w fun e w' => e = .returned (.int .i64 ((com l1 l2).length : Nat)) ∧ Up Nul w w' := by
  obtain ⟨a1, c1, rfl, r1⟩ := h1
  obtain ⟨a2, c2, rfl, r2⟩ := h2
  have HA := hid fun i => com_at l1 l2 i
  have HE := hid (com_end l1 l2)
  have hle := com_le l1 l2
  obtain ⟨m, hm⟩ : ∃ m, m = (com l1 l2).length := ⟨_, rfl⟩
  rw [← hm] at HA HE hle ⊢
  obtain ⟨n1, hn1⟩ : ∃ n, n = l1.length := ⟨_, rfl⟩
  obtain ⟨n2, hn2⟩ : ∃ n, n = l2.length := ⟨_, rfl⟩
  rw [← hn1] at HE r1 hle hn ⊢
  rw [← hn2] at HE r2 hle hn ⊢
  have HR1 := hid r1
  have HR2 := hid r2
  have HLE := hid (And.intro hle hn)
  have HL := hid (And.intro hn1 hn2)
  obtain ⟨mm, hmin, hmm⟩ : ∃ mm : Nat, min (n1 : Int) (n2 : Int) = (mm : Int) ∧ mm = min n1 n2 := ⟨min n1 n2, by omega, rfl⟩
  have HMM := hid hmm
  clear hmm
  clear r1 r2 hle hn hn1 hn2 hm
  go_enter Try.func63, Try.ntmps63
  go_wp2_with fail
  go_loopw [5] (fun i wr => ∃ t : Nat, t ≤ m ∧ i = .int .i64 (t : Nat) ∧ Up Nul w wr) (fun i _ => m - (intOf i).toNat)
  case atStart => exact ⟨0, Nat.zero_le _, rfl, Up.refl _ _⟩
  case round =>
    obtain ⟨t, ht, rfl, hu⟩ := hrel
    have HU := hid hu
    have i0 : (0 : Int) ≤ (t : Int) := by omega
    have i9 : (t : Int) ≤ 1000000 := by have := HLE.out; omega
    by_cases hend : t = n1 ∨ t = n2
    · have hmt : m = t := by have := HLE.out; omega
      have i1 : ¬ t < mm := by have := HLE.out; have := HMM.out; omega
      subst hmt
      clear hend hu ht
      go_wp2_with fail
      go_quiet (fail)
      have UQ : Hid (Up Nul w (wr.drewN nq)) := HU.out.drewN nq
      generalize wr.drewN nq = w2 at UQ ⊢
      go_wp2_with fail
      go_ret
      exact ⟨rfl, UQ.out⟩
    · have i1 : (t : Int) < (mm : Int) := by have := HLE.out; have := HMM.out; omega
      have i2 : (t : Int) < (n1 : Int) := by omega
      have i3 : (t : Int) < (n2 : Int) := by omega
      obtain ⟨g1, o1, rfl, hg1, hc1⟩ := HR1.out.resolve_left (by omega)
      obtain ⟨g2, o2, rfl, hg2, hc2⟩ := HR2.out.resolve_left (by omega)
      obtain ⟨x, hx⟩ : ∃ x, l1[t]? = some x := ⟨_, List.getElem?_eq_getElem (by have := HL.out; omega)⟩
      obtain ⟨y, hy⟩ : ∃ y, l2[t]? = some y := ⟨_, List.getElem?_eq_getElem (by have := HL.out; omega)⟩
      obtain ⟨e1, k1, x1, s1⟩ := hc1 t x hx
      obtain ⟨e2, k2, x2, s2⟩ := hc2 t y hy
      have x1 := (HU.out.cell (p := ⟨g1, o1 + t, none⟩) hg1 id).trans x1
      have x2 := (HU.out.cell (p := ⟨g2, o2 + t, none⟩) hg2 id).trans x2
      have HB := hid (fun (W : World) (u : Up Nul w W) => beq_any (w := W) k1 k2 (s1.nxt u) (s2.nxt u))
      have HX := hid hx
      have HY := hid hy
      have HT := hid ht
      generalize x.length = lx at x1 HB
      generalize y.length = ly at x2 HB
      by_cases hxy : x = y
      · rw [decide_eq_true hxy] at HB
        have HLT : Hid (t < m) := by
          show _ < _
          rcases Nat.lt_or_ge t m with h | h
          · exact h
          · exfalso
            obtain rfl : t = m := by omega
            rcases HE.out with h | h | ⟨p, q, h1, h2, h3⟩
            · exact hend (.inl h)
            · exact hend (.inr h)
            · rw [hx] at h1; rw [hy] at h2
              injection h1 with h1; injection h2 with h2
              exact h3 (by rw [← h1, ← h2, hxy])
        clear hx hy hxy hg1 hg2 hc1 hc2 hend ht s1 s2 hu
        go_wp2_with fail
        go_quiet ((go_at_call 64; refine Calls.quiet_of_same (HB.out _ (HU.out.drewN _))))
        have UQ : Hid (Up Nul w (wr.drewN nq)) := HU.out.drewN nq
        generalize wr.drewN nq = w2 at UQ ⊢
        go_wp2_with fail
        go_roundw
        case rel => exact ⟨t + 1, HLT.out, by go_num, UQ.out⟩
        case measure => have := HLT.out; simp [intOf]; omega
      · rw [decide_eq_false hxy] at HB
        have HLT : Hid (t = m) := by
          show _ = _
          rcases Nat.lt_or_ge t m with h | h
          · obtain ⟨z, h1, h2⟩ := HA.out t h
            rw [hx] at h1; rw [hy] at h2
            injection h1 with h1; injection h2 with h2
            exact absurd (h1.trans h2.symm) hxy
          · omega
        clear hx hy hxy hg1 hg2 hc1 hc2 hend ht s1 s2 hu
        go_wp2_with fail
        go_quiet ((go_at_call 64; refine Calls.quiet_of_same (HB.out _ (HU.out.drewN _))))
        have UQ : Hid (Up Nul w (wr.drewN nq)) := HU.out.drewN nq
        generalize wr.drewN nq = w2 at UQ ⊢
        go_wp2_with fail
        go_ret
        exact ⟨by rw [HLT.out]; rfl, UQ.out⟩
end Go.Proofs.Ytencinajieicpaa
