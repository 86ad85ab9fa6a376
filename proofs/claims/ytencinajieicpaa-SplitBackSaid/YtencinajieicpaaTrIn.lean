/- Rows of bytes that come in; append of one string, and where the row lies. -/
import Derived.Test.YtencinajieicpaaTrAwake
import Derived.Test.YtencinajieicpaaWhere
import Derived.Deep.CutBlock
import Derived.Deep.DeepCutAuto
namespace Go.Proofs.Ytencinajieicpaa
open Go.RowKit
set_option linter.unusedVariables false

structure RIn (w : World) (a : Option Addr) (l : Nat) (R : List (List Nat)) : Prop where
  len : R.length = l
  row : l = 0 ∨ ∃ g o, a = some ⟨g, o, none⟩ ∧ g < w.heap.size ∧ ∀ i z, R[i]? = some z → ∃ ea ec, w.cell? ⟨g, o + i, none⟩ = some (.slice ea z.length ec) ∧ SlN w ea z.length z ∧ z.length ≤ ec
  le : l ≤ 9223372036854775807
theorem RIn.nxt {w w' : World} {a : Option Addr} {l : Nat} {R : List (List Nat)} (h : RIn w a l R) (u : Up Nul w w') : RIn w' a l R := by
  refine ⟨h.len, h.row.imp id ?_, h.le⟩
  rintro ⟨g, o, e1, hg, hc⟩
  refine ⟨g, o, e1, Nat.lt_of_lt_of_le hg u.size, fun i z hi => ?_⟩
  obtain ⟨ea, ec, h1, h2, h3⟩ := hc i z hi
  exact ⟨ea, ec, (u.cell (p := ⟨g, o + i, none⟩) hg id).trans h1, h2.nxt u, h3⟩
/-- One of the rows. -/
theorem RIn.at {w : World} {a : Option Addr} {l : Nat} {R : List (List Nat)} (h : RIn w a l R) {i : Nat} (hi : i < l) : ∃ g o z ea ec, a = some ⟨g, o, none⟩ ∧ R[i]? = some z ∧ SlN w ea z.length z ∧ z.length ≤ ec ∧ ∀ W, Up Nul w W → W.cell? ⟨g, o + i, none⟩ = some (.slice ea z.length ec) := by
  obtain ⟨g, o, e1, hg, hc⟩ := h.row.resolve_left (by omega)
  obtain ⟨z, hz⟩ : ∃ z, R[i]? = some z := ⟨_, List.getElem?_eq_getElem (by rw [h.len]; exact hi)⟩
  obtain ⟨ea, ec, h1, h2, h3⟩ := hc i z hz
  exact ⟨g, o, z, ea, ec, e1, hz, h2, h3, fun W u => (u.cell (p := ⟨g, o + i, none⟩) hg id).trans h1⟩
/-- What the row's step knows of a slice of slices of bytes. -/
def CamS (w : World) (a : Option Addr) (n cap : Nat) : Prop :=
  (a = none ∧ n = 0 ∧ cap = 0) ∨ ∃ x, a = some x ∧ ∃ (A : Nat → Option Addr) (L C : Nat → Nat) (Z : Nat → List Int), n ≤ cap ∧ cap ≤ maxLen ∧ ∀ r, r < cap → w.cell? (x.add r) = some (.slice (A r) (L r) (C r)) ∧ CameIn w (A r) (L r) (C r) (Z r)
theorem CamS.rin {w : World} {a : Option Addr} {n cap : Nat} (h : CamS w a n cap) : ∃ R, RIn w a n R := by
  rcases h with ⟨_, h, _⟩ | ⟨x, rfl, A, L, C, Z, hl, hm, hr⟩
  · exact ⟨[], h.symm, .inl h, by omega⟩
  · have hmx : n ≤ 9223372036854775807 := by unfold maxLen at hm; omega
    rcases Nat.eq_zero_or_pos n with e | e
    · exact ⟨[], e.symm, .inl e, by omega⟩
    · have hz : ∀ r, ∃ z, r < cap → SlN w (A r) (L r) z := fun r => by
        by_cases hr' : r < cap
        · obtain ⟨z, hz⟩ := SlN.of (hr r hr').2
          exact ⟨z, fun _ => hz⟩
        · exact ⟨[], fun h => absurd h hr'⟩
      have hch : ∀ r, r < cap → SlN w (A r) (L r) ((hz r).choose) := fun r h => (hz r).choose_spec h
      obtain ⟨g, o, spot⟩ := x
      have h0 := (hr 0 (by omega)).1
      have hs : spot = none := by simpa [Addr.add] using World.cell?_spot h0
      subst hs
      refine ⟨(List.range n).map fun r => (hz r).choose, by simp, .inr ⟨g, o, rfl, lt_of_cell h0, fun i z hi => ?_⟩, hmx⟩
      have hin : i < n := by
        rcases Nat.lt_or_ge i n with h | h
        · exact h
        · rw [List.getElem?_eq_none (by simpa using h)] at hi; cases hi
      have hzz : (hz i).choose = z := by simpa [hin] using hi
      have hs := hch i (by omega)
      obtain ⟨h1, h2⟩ := hr i (by omega)
      rw [add_off] at h1
      rw [← hzz, hs.len]
      exact ⟨_, _, h1, hs, came_cap h2⟩
/-- append(v, one string). -/
theorem wpList_append_str {w : World} {ops : Array Oper} {rest : List Oper} {o : Oper} {a : Act} {Q : Exit → Act → World → Prop} (hgd : o.guard = none) (s x : Operand)
    (ho : o.op = .call { callee := .builtin .append, args := #[s, x], argTypes := #[29, 29] }) (base : Nat) (v : Value) (l : List (List Nat)) (hs : a.eval s = v) (hown : OwnV 9 base w v (SrV l))
    (ad : Addr) (cap : Nat) (z : List Nat) (sz : ByteArray) (hsz : strOf z = sz) (hx : a.eval x = .slice (some ad) 1 cap) (hc : w.cell? ad = some (.string sz)) (hl : l.length + 1 ≤ 1000000) (hbase : base ≤ w.heap.size)
    (h : ∀ v' w', Hid (OwnV 9 base w' v' (SrV (l ++ [z]))) → Hid (w.grownBy w' v.ownBlock) → Hid (v'.ownBlock = v.ownBlock ∨ v'.ownBlock = some w.heap.size) → wpList Try.prog ops Q rest (a.put o.dst v') w') : wpList Try.prog ops Q (o :: rest) a w := by
  subst hsz
  obtain ⟨i0, hi, hz, hz1, hz2⟩ := info_parts info_strT
  have hnews : ∀ (j : Nat) (u : Value), [Value.string (strOf z)][j]? = some u → w.cell? (ad.add j) = some u := fun j u hj => by
    match j, hj with
    | 0, hj => simp at hj; subst hj; simpa [Addr.add] using hc
  have h1 : ∀ u ∈ [Value.string (strOf z)], u.oneCell' = true := fun u hu => by
    obtain rfl : u = .string (strOf z) := by simpa using hu
    rfl
  have hl2 : (SrV l).length + 1 ≤ 1000000 := by rw [SrV_length]; exact hl
  obtain ⟨v', w', hrun, g1, g2, _⟩ := run_append_own (P := Try.prog) w base 29 o.type 9 i0 _ 1 16 Try.underlying29 hi hz hz1 hz2 rfl (by decide) v (SrV l).length (SrV l) hown ad 1 cap [.string (strOf z)] rfl hnews h1 (by unfold maxLen; omega) (by omega) hbase
  have hw := append_where_m w w' v v' _ _ _ i0 _ base (SrV l).length 1 (SrV l) Try.underlying29 hi hz (by rw [hz1]; exact hown) ad cap [.string (strOf z)] (by decide) (by rw [hz1]; rfl) hnews h1 hl2 (by rw [hz2]; omega) hrun
  refine wpList_plain hgd fun _ hK => ?_
  unfold Oper.wp
  simp [execOp, ho, resolve, invoke, builtin, hs, hx, hrun, Result.andThen]
  refine hK _ _ (h v' w' ?_ g2 hw)
  show w'.ownsRow base _ 1 v' (SrV (l ++ [z])).length (SrV (l ++ [z]))
  rw [SrV_append, List.length_append]
  exact g1
/-- .. at a step of a region that draws. -/
theorem step_append_eqv {w w' : World} {ops : Array Oper} {o : Oper} {a : Act} {K : Act → World → Prop} {Q : Exit → Act → World → Prop} {E : Prop} (hgd : o.guard = none) (s x : Operand) (t : TypeId)
    (ho : o.op = .call { callee := .builtin .append, args := #[s, x], argTypes := #[t, t] }) (v y v' : Value) (hs : a.eval s = v) (hx : a.eval x = y) (hrun : (Builtin.append_ #[t, t] o.type #[v, y]).run Try.prog w = .ok v' w') (h : K (a.put o.dst v') w') : if Region.wanted o (yielded ops a.tmps) = true then Oper.wp Try.prog o a w K Q else E := by
  rw [if_pos (by simp [Region.wanted, hgd])]
  exact wp_append_eqv s x t ho v y v' hs hx hrun h
/-- append([]string{}, row...), run. -/
theorem run_append_strs {W : World} {b2 base x : Nat} {s : Value} {xs : List Value} (hx : OwnV 9 b2 W (.slice (some ⟨x, 0, none⟩) 0 0) []) (hs : OwnV 9 base W s xs) (hl : xs.length ≤ 1000) (h1 : ∀ u ∈ xs, u.oneCell' = true) (hb : b2 ≤ W.heap.size) (ty : TypeId) :
    ∃ v' W', (Builtin.append_ #[29, 29] ty #[.slice (some ⟨x, 0, none⟩) 0 0, s]).run Try.prog W = .ok v' W' ∧ OwnV 9 b2 W' v' xs ∧ W.grownBy W' (some x) := by
  obtain ⟨i0, hi, hz, hz1, hz2⟩ := info_parts info_strT
  have hs' := hs
  rcases hs'.2 with ⟨e, e0⟩ | ⟨g, cap, cur, e, _, hh, hle, hmx, hcs, htk⟩
  · have hx0 : xs = [] := List.eq_nil_of_length_eq_zero e0
    subst e
    rw [hx0]
    exact ⟨_, W, run_append_owned_none (P := Try.prog) (w := W) b2 29 ty 9 i0 1 Try.underlying29 hi _ 0 [] hx, hx, ⟨rfl, rfl, rfl, Nat.le_refl _, fun _ _ _ => rfl⟩⟩
  · subst e
    have hc : ∀ (j : Nat) (u : Value), xs[j]? = some u → W.cell? ((⟨g, 0, none⟩ : Addr).add j) = some u := fun j u hj => by
      rw [add_off, Nat.zero_add]
      have hjl : j < xs.length := (List.getElem?_eq_some_iff.1 hj).1
      have e : (cur.toList.take (xs.length * 1))[j]? = some u := by rw [htk]; exact hj
      rw [List.getElem?_take, if_pos (by omega)] at e
      simp only [World.cell?, hh]
      simpa using e
    obtain ⟨v', w', hrun, g1, g2, _⟩ := run_append_own (P := Try.prog) W b2 29 ty 9 i0 _ 1 16 Try.underlying29 hi hz hz1 hz2 rfl (by decide) (.slice (some ⟨x, 0, none⟩) 0 0) 0 [] hx ⟨g, 0, none⟩ xs.length cap xs (by omega) hc h1 (by unfold maxLen; omega) (by omega) hb
    refine ⟨v', w', hrun, ?_, g2⟩
    show w'.ownsRow b2 _ 1 v' xs.length xs
    simpa using g1
/-- append(row, one string), run. -/
theorem run_append_str1 {W : World} {b2 : Nat} {v : Value} {l : List (List Nat)} (hv : OwnV 9 b2 W v (SrV l)) {ad : Addr} {cap : Nat} {z : List Nat} {sz : ByteArray} (hsz : strOf z = sz) (hc : W.cell? ad = some (.string sz)) (hl : l.length ≤ 1000) (hb : b2 ≤ W.heap.size) (ty : TypeId) :
    ∃ v' W', (Builtin.append_ #[29, 29] ty #[v, .slice (some ad) 1 cap]).run Try.prog W = .ok v' W' ∧ OwnV 9 b2 W' v' (SrV (l ++ [z])) ∧ W.grownBy W' v.ownBlock ∧ (v'.ownBlock = v.ownBlock ∨ v'.ownBlock = some W.heap.size) := by
  subst hsz
  obtain ⟨i0, hi, hz, hz1, hz2⟩ := info_parts info_strT
  have hnews : ∀ (j : Nat) (u : Value), [Value.string (strOf z)][j]? = some u → W.cell? (ad.add j) = some u := fun j u hj => by
    match j, hj with
    | 0, hj => simp at hj; subst hj; simpa [Addr.add] using hc
  have h1 : ∀ u ∈ [Value.string (strOf z)], u.oneCell' = true := fun u hu => by
    obtain rfl : u = .string (strOf z) := by simpa using hu
    rfl
  have hl2 := SrV_length l
  obtain ⟨v', w', hrun, g1, g2, _⟩ := run_append_own (P := Try.prog) W b2 29 ty 9 i0 _ 1 16 Try.underlying29 hi hz hz1 hz2 rfl (by decide) v (SrV l).length (SrV l) hv ad 1 cap [.string (strOf z)] rfl hnews h1 (by unfold maxLen; omega) (by omega) hb
  refine ⟨v', w', hrun, ?_, g2, append_where_m W w' v v' _ _ _ i0 _ b2 (SrV l).length 1 (SrV l) Try.underlying29 hi hz (by rw [hz1]; exact hv) ad cap [.string (strOf z)] (by decide) (by rw [hz1]; rfl) hnews h1 (by omega) (by rw [hz2]; omega) hrun⟩
  show w'.ownsRow b2 _ 1 v' (SrV (l ++ [z])).length (SrV (l ++ [z]))
  rw [SrV_append, List.length_append]
  exact g1
end Go.Proofs.Ytencinajieicpaa
