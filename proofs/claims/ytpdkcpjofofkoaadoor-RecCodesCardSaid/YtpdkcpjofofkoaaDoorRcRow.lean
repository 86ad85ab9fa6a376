/- append of a row that can be read onto a row of one's own: ints, Locs. -/
import Derived.Test.YtpdkcpjofofkoaaDoorRcRead1
set_option maxRecDepth 100000
namespace Go.Proofs.YtpdkcpjofofkoaaDoor
open Go.RowKit
theorem append_zero {t T : TypeId} (ht : Tryd.prog.underlying t = some (.slice T)) {i : TypeInfo} (hi : Tryd.prog.info? T = some i) (base : Option Addr) (n cap : Nat) (h : n ≤ cap) (a : Option Addr) (c : Nat) (ty : TypeId) (w : World) :
    (Builtin.append_ #[t, t] ty #[.slice base n cap, .slice a 0 c]).run Tryd.prog w = .ok (.slice base n cap) w := by
  cases a with
  | none => exact run_append_nothing w t t ty T i ht hi base n cap h _ (Src.ofNil w ht c)
  | some a => exact run_append_nothing w t t ty T i ht hi base n cap h _ (Src.ofSlice w ht a 0 c [] (by simp) (fun _ _ h => by simp at h) (fun _ h => by cases h))
theorem ownsRow_cap {w : World} {base n size : Nat} {T : TypeId} {v : Value} {xs : List Value} (h : w.ownsRow base T size v n xs) : ∃ a c, v = .slice a n c ∧ n ≤ c := by
  rcases h.2 with ⟨rfl, rfl⟩ | ⟨g, cap, cur, rfl, _, _, hc, _⟩
  · exact ⟨none, 0, rfl, Nat.le_refl _⟩
  · exact ⟨_, cap, rfl, hc⟩
section
variable {w : World} {base : Nat} {v : Value}
/-- append(v, a row of ints ...). -/
theorem OwnI.appR {zs : List Int} (h : OwnI base w v zs) (a : Option Addr) (c : Nat) (ys : List Int) (hr : RowI w a ys) (hl : zs.length + ys.length ≤ 1000000) (hb : base ≤ w.heap.size) :
    ∃ v' w', (Builtin.append_ #[22, 22] 22 #[v, .slice a ys.length c]).run Tryd.prog w = .ok v' w' ∧ OwnI base w' v' (zs ++ ys) ∧ w.grownBy w' v.ownBlock ∧ (v'.ownBlock = v.ownBlock ∨ v'.ownBlock = some w.heap.size) := by
  obtain ⟨i0, hi, hz, hz1, hz2⟩ := info_parts info_int
  rcases hr with rfl | ⟨g, o, rfl, hg, hr⟩
  · obtain ⟨b, c2, rfl, hc⟩ := ownsRow_cap h
    exact ⟨_, _, append_zero Tryd.underlying22 hi _ _ _ hc _ _ _ _, by rw [List.append_nil]; exact h, World.grownBy.refl _ _, .inl rfl⟩
  · have hnews : ∀ j u, (intV ys)[j]? = some u → w.cell? ((⟨g, o, none⟩ : Addr).add j) = some u := fun j u hj => by
      simp only [intV, List.getElem?_map, Option.map_eq_some_iff] at hj
      obtain ⟨x, hx, rfl⟩ := hj
      rw [add_off]
      exact hr j x hx
    have h1 : ∀ u ∈ intV ys, u.oneCell' = true := fun u hu => by
      obtain ⟨x, _, rfl⟩ := List.mem_map.1 hu
      rfl
    have hil : ∀ l : List Int, (intV l).length = l.length := fun l => by simp [intV]
    obtain ⟨v', w', hrun, g1, g2, _⟩ := run_append_own (P := Tryd.prog) w base 22 22 3 i0 _ 1 8 Tryd.underlying22 hi hz hz1 hz2 rfl (by decide) v (intV zs).length (intV zs) h ⟨g, o, none⟩ ys.length c (intV ys) (by rw [hil]; omega) hnews h1
      (by unfold maxLen; rw [hil]; omega) (by rw [hil]; omega) hb
    refine ⟨v', w', hrun, ?_, g2, ?_⟩
    · show w'.ownsRow base _ 1 v' (intV (zs ++ ys)).length (intV (zs ++ ys))
      rw [show intV (zs ++ ys) = intV zs ++ intV ys by simp [intV], List.length_append, hil ys]
      exact g1
    · by_cases h0 : 0 < ys.length
      · exact append_where_m w w' v v' 22 22 3 i0 _ base (intV zs).length ys.length (intV zs) Tryd.underlying22 hi hz (by rw [hz1]; exact h) ⟨g, o, none⟩ c (intV ys) h0 (by rw [hz1, hil]; omega) hnews h1 (by rw [hil]; omega) (by rw [hz2]; omega) hrun
      · have e : ys = [] := List.eq_nil_of_length_eq_zero (by omega)
        subst e
        obtain ⟨b, c2, rfl, hc⟩ := ownsRow_cap h
        have hrun : (Builtin.append_ #[22, 22] 22 #[.slice b (intV zs).length c2, .slice (some ⟨g, o, none⟩) 0 c]).run Tryd.prog w = .ok v' w' := hrun
        rw [append_zero Tryd.underlying22 hi _ _ _ hc] at hrun
        cases hrun
        exact .inl rfl
/-- append(v, a row of Locs ...). -/
theorem OwnLo.appR {ls : List Lo} (h : OwnLo base w v ls) (a : Option Addr) (c : Nat) (ys : List Lo) (hr : RowL w a ys) (hl : ls.length + ys.length ≤ 1000000) (hb : base ≤ w.heap.size) :
    ∃ v' w', (Builtin.append_ #[23, 23] 23 #[v, .slice a ys.length c]).run Tryd.prog w = .ok v' w' ∧ OwnLo base w' v' (ls ++ ys) ∧ w.grownBy w' v.ownBlock ∧ (v'.ownBlock = v.ownBlock ∨ v'.ownBlock = some w.heap.size) := by
  obtain ⟨i0, z0, hi, hz, hz1, hz2, hz3⟩ := info_lo
  rcases hr with rfl | ⟨g, o, rfl, hg, hr⟩
  · obtain ⟨b, c2, rfl, hc⟩ := ownsRow_cap h
    exact ⟨_, _, append_zero Tryd.underlying23 hi _ _ _ hc _ _ _ _, by rw [List.append_nil]; exact h, World.grownBy.refl _ _, .inl rfl⟩
  · have hnews : ∀ j u, (loV ys)[j]? = some u → w.cell? ((⟨g, o, none⟩ : Addr).add j) = some u := fun j u hj => by
      have hlt := (List.getElem?_eq_some_iff.1 hj).1
      rw [loV_length] at hlt
      have hs : j / 3 < ys.length := by omega
      have e : j / 3 * 3 + j % 3 = j := Nat.div_add_mod' j 3
      have := loV_at ys (j / 3) (j % 3) (Nat.mod_lt _ (by omega)) ys[j / 3] (List.getElem?_eq_getElem hs)
      rw [e] at this
      rw [this] at hj
      have := hr (j / 3) ys[j / 3] (List.getElem?_eq_getElem hs) (j % 3) u hj
      rw [Nat.add_assoc, e] at this
      rw [add_off]
      exact this
    have h1 := loV_one ys
    obtain ⟨v', w', hrun, g1, g2, _⟩ := run_append_own (P := Tryd.prog) w base 23 23 31 i0 z0 3 24 Tryd.underlying23 hi hz hz1 hz2 hz3 (by decide) v ls.length (loV ls) h ⟨g, o, none⟩ ys.length c (loV ys) (loV_length ys) hnews h1
      (by unfold maxLen; omega) (by omega) hb
    refine ⟨v', w', hrun, ?_, g2, ?_⟩
    · show w'.ownsRow base _ 3 v' (ls ++ ys).length (loV (ls ++ ys))
      rw [show loV (ls ++ ys) = loV ls ++ loV ys by simp [loV], List.length_append]
      exact g1
    · by_cases h0 : 0 < ys.length
      · exact append_where_m w w' v v' 23 23 31 i0 z0 base ls.length ys.length (loV ls) Tryd.underlying23 hi hz (by rw [hz1]; exact h) ⟨g, o, none⟩ c (loV ys) h0 (by rw [hz1]; exact loV_length ys) hnews h1 (by omega) (by rw [hz2]; omega) hrun
      · have e : ys = [] := List.eq_nil_of_length_eq_zero (by omega)
        subst e
        obtain ⟨b, c2, rfl, hc⟩ := ownsRow_cap h
        have hrun : (Builtin.append_ #[23, 23] 23 #[.slice b ls.length c2, .slice (some ⟨g, o, none⟩) 0 c]).run Tryd.prog w = .ok v' w' := hrun
        rw [append_zero Tryd.underlying23 hi _ _ _ hc] at hrun
        cases hrun
        exact .inl rfl
end
/-- A row is as it was where a cell of another block is set. -/
theorem RowI.far {w : World} {a : Option Addr} {zs : List Int} {p : Nat} (h : RowI w a zs) (i : Nat) (v : Value) (hp : ∀ g o, zs ≠ [] → a = some ⟨g, o, none⟩ → g ≠ p) : RowI (w.setCell ⟨p, i, none⟩ v) a zs := by
  rcases h with e | ⟨g, o, e, hg, h⟩
  · exact .inl e
  · by_cases hz : zs = []
    · exact .inl hz
    · have u : Up (One p) w (w.setCell ⟨p, i, none⟩ v) := (Up.refl (One p) w).put rfl i v
      exact .inr ⟨g, o, e, Nat.lt_of_lt_of_le hg u.size, fun j x hj => (u.cell (p := ⟨g, o + j, none⟩) hg (hp g o hz e)).trans (h j x hj)⟩
theorem RowL.far {w : World} {a : Option Addr} {ls : List Lo} {p : Nat} (h : RowL w a ls) (i : Nat) (v : Value) (hp : ∀ g o, ls ≠ [] → a = some ⟨g, o, none⟩ → g ≠ p) : RowL (w.setCell ⟨p, i, none⟩ v) a ls := by
  rcases h with e | ⟨g, o, e, hg, h⟩
  · exact .inl e
  · by_cases hz : ls = []
    · exact .inl hz
    · have u : Up (One p) w (w.setCell ⟨p, i, none⟩ v) := (Up.refl (One p) w).put rfl i v
      exact .inr ⟨g, o, e, Nat.lt_of_lt_of_le hg u.size, fun j l hj k x hk => (u.cell (p := ⟨g, o + j * 3 + k, none⟩) hg (hp g o hz e)).trans (h j l hj k x hk)⟩
end Go.Proofs.YtpdkcpjofofkoaaDoor
