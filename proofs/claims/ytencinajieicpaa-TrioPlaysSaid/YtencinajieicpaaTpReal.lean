/- The program's Tape in memory. -/
import Derived.Test.YtencinajieicpaaTpFace
import Derived.Test.YtencinajieicpaaWhere
namespace Go.Proofs.Ytencinajieicpaa
open Go.RowKit
set_option linter.unusedVariables false

theorem OwnB.off {S : Nat → Prop} {base : Nat} {w w' : World} {v : Value} {z : List Nat} (h : OwnB base w v z) (u : Up S w w') (hs : ∀ g, v.ownBlock = some g → ¬ S g) : OwnB base w' v z := by
  refine ⟨⟨h.own.1, ?_⟩, h.small⟩
  rcases h.own.2 with hn | ⟨g, cap, cur, h1, h2, h3, h4⟩
  · exact .inl hn
  · exact .inr ⟨g, cap, cur, h1, h2, (u.block g (Array.getElem?_eq_some_iff.1 h3).1 (hs g (by rw [h1]; rfl))).trans h3, h4⟩
/-- The block of a row of bytes. -/
theorem OwnB.bk {base : Nat} {w : World} {v : Value} {z : List Nat} (h : OwnB base w v z) : ∀ g, v.ownBlock = some g → ∃ cur, w.heap[g]? = some (.cells cur 5 (0, 0)) := by
  intro g hg
  rcases h.own.2 with ⟨e, _⟩ | ⟨g', cap, cur, e, _, h3, _⟩
  · subst e; cases hg
  · subst e
    obtain rfl : g' = g := by simpa [Value.ownBlock] using hg
    exact ⟨cur, h3⟩
theorem ownBlock_sl (a : Option Addr) (l n c : Nat) : (Value.slice a l c).ownBlock = (Value.slice a n c).ownBlock := by cases a <;> rfl
/-- A row's beginning. -/
theorem OwnB.cutV {base : Nat} {w : World} {a : Option Addr} {l cap : Nat} {z : List Nat} (h : OwnB base w (.slice a l cap) z) (n : Nat) (hn : n ≤ z.length) : OwnB base w (.slice a n cap) (z.take n) := by
  have hl : (z.take n).length = n := by rw [List.length_take]; omega
  refine ⟨⟨by simp, ?_⟩, fun x hx => h.small x (List.mem_of_mem_take hx)⟩
  rw [hl]
  rcases h.own.2 with ⟨e, e0⟩ | ⟨g, c, cur, e, h1, h2, h3, h4, h5, h6⟩
  · injection e with e1 e2 e3
    subst e1; subst e3
    obtain rfl : n = 0 := by omega
    exact .inl ⟨rfl, rfl⟩
  · injection e with e1 e2 e3
    subst e1; subst e3
    refine .inr ⟨g, cap, cur, rfl, h1, h2, by omega, h4, h5, ?_⟩
    have : (cur.toList.take (z.length * 1)).take (n * 1) = cur.toList.take (n * 1) := by rw [List.take_take, Nat.min_eq_left (by omega)]
    rw [← this, h6, List.map_take, Nat.mul_one]
theorem SlN.nil0 {w : World} {a : Option Addr} {n : Nat} {z : List Nat} (h : SlN w a n z) : a = none → n = 0 := fun e => by
  rcases h.row with h | ⟨b, o, e2, _⟩
  · exact h
  · rw [e] at e2; cases e2
/-- append(v, x...), and where the row lies. -/
theorem run_append_slw (w : World) (ty : TypeId) (base : Nat) (v : Value) (z : List Nat) (hown : OwnB base w v z) (ad : Option Addr) (n cap : Nat) (y : List Nat) (hr : SlN w ad n y) (hl : z.length + n ≤ 1000000) (hbase : base ≤ w.heap.size) :
    ∃ v' w', (Builtin.append_ #[30, 30] ty #[v, .slice ad n cap]).run Try.prog w = .ok v' w' ∧ OwnB base w' v' (z ++ y) ∧ w.grownBy w' v.ownBlock ∧ (v'.ownBlock = v.ownBlock ∨ v'.ownBlock = some w.heap.size) := by
  obtain ⟨i0, hi, hz0, hz1, hz2⟩ := info_parts info_u8
  rcases hr.row with rfl | ⟨b, so, rfl, hb, r⟩
  · obtain rfl : y = [] := List.eq_nil_of_length_eq_zero hr.len
    obtain ⟨a, k, c, rfl, hkc⟩ : ∃ a k c, v = .slice a k c ∧ k ≤ c := by
      rcases hown.own.2 with ⟨e, _⟩ | ⟨g, cap, cur, e, _, _, h4, _⟩
      · exact ⟨_, _, _, e, Nat.le_refl _⟩
      · exact ⟨_, _, _, e, h4⟩
    have hs : Src Try.prog i0.size 30 (.slice ad 0 cap) 0 [] w := by
      cases ad with
      | none => exact Src.ofNil w Try.underlying30 cap
      | some x => exact Src.ofSlice w Try.underlying30 x 0 cap [] (by simp) (fun j u h => by cases h) fun _ h => by cases h
    exact ⟨_, _, run_append_nothing w 30 30 ty 5 i0 Try.underlying30 hi a k c hkc _ hs, by rw [List.append_nil]; exact hown, World.grownBy.refl _ _, .inl rfl⟩
  · obtain ⟨v', w', hrun, h1, h2⟩ := run_append_sl w ty base v z hown (some ⟨b, so, none⟩) n cap y hr (fun e => by cases e) hl hbase
    rcases Nat.eq_zero_or_pos n with rfl | hn
    · obtain rfl : y = [] := List.eq_nil_of_length_eq_zero hr.len
      obtain ⟨a, k, c, rfl, hkc⟩ : ∃ a k c, v = .slice a k c ∧ k ≤ c := by
        rcases hown.own.2 with ⟨e, _⟩ | ⟨g, cap, cur, e, _, _, h4, _⟩
        · exact ⟨_, _, _, e, Nat.le_refl _⟩
        · exact ⟨_, _, _, e, h4⟩
      have hs : Src Try.prog i0.size 30 (.slice (some ⟨b, so, none⟩) 0 cap) 0 [] w := Src.ofSlice w Try.underlying30 ⟨b, so, none⟩ 0 cap [] (by simp) (fun j u h => by cases h) fun _ h => by cases h
      have hr0 := run_append_nothing w 30 30 ty 5 i0 Try.underlying30 hi a k c hkc _ hs
      rw [hrun] at hr0
      injection hr0 with e1 e2
      exact ⟨v', w', hrun, h1, h2, .inl (by rw [e1])⟩
    · refine ⟨v', w', hrun, h1, h2, ?_⟩
      refine append_where_m w w' v v' 30 ty 5 i0 (.int .u8 0) base z.length n _ Try.underlying30 hi hz0 (by rw [hz1]; exact hown.own) ⟨b, so, none⟩ cap (y.map fun (n : Nat) => Value.int .u8 (n : Int)) hn (by simp [hr.len, hz1]) (fun j u hu => ?_) (fun u hu => ?_) hl (by rw [hz2]; omega) hrun
      · rw [List.getElem?_map] at hu
        have hj : j < y.length := by
          rcases Nat.lt_or_ge j y.length with h | h
          · exact h
          · rw [List.getElem?_eq_none h] at hu; cases hu
        rw [List.getElem?_eq_getElem hj] at hu
        have hc := r.cells j hj
        rw [List.getD_eq_getElem?_getD, List.getElem?_eq_getElem hj] at hc
        rw [add_off, hc]
        exact hu
      · obtain ⟨k, _, rfl⟩ := List.mem_map.1 hu
        rfl
/-- The program's Tape: its head t, its bytes in the slice v. -/
structure TpW (w : World) (t : Nat) (fu : Option Nat) (S : TS) (v : Value) : Prop where
  heap : w.heap[t]? = some (.cells #[.pointer (fp fu), .bool S.live, v, .int .i64 ((S.B.length - S.loose : Nat) : Int)] 90 (0, 0))
  own : OwnB 0 w v S.B
  le : S.B.length ≤ 65536
  lo : S.loose ≤ S.B.length
def PTp (w : World) (t : Nat) (fu : Option Nat) (S : TS) (T : Nat → Prop) : Prop := ∃ v, TpW w t fu S v ∧ ∀ g, T g ↔ g = t ∨ v.ownBlock = some g
section
variable {w w' : World} {t : Nat} {fu k : Option Nat} {S : TS} {v : Value} {T : Nat → Prop}
theorem TpW.lt (h : TpW w t fu S v) : t < w.heap.size := (Array.getElem?_eq_some_iff.1 h.heap).1
theorem TpW.c0 (h : TpW w t fu S v) : w.cell? ⟨t, 0, none⟩ = some (.pointer (fp fu)) := by simp [World.cell?, h.heap]
theorem TpW.c1 (h : TpW w t fu S v) : w.cell? ⟨t, 1, none⟩ = some (.bool S.live) := by simp [World.cell?, h.heap]
theorem TpW.c2 (h : TpW w t fu S v) : w.cell? ⟨t, 2, none⟩ = some v := by simp [World.cell?, h.heap]
theorem TpW.c3 (h : TpW w t fu S v) : w.cell? ⟨t, 3, none⟩ = some (.int .i64 ((S.B.length - S.loose : Nat) : Int)) := by simp [World.cell?, h.heap]
theorem TpW.fr (h : TpW w t fu S v) (i : Nat) : w.frozen? ⟨t, i, none⟩ = false := by simp [World.frozen?, h.heap]
theorem TpW.ne (h : TpW w t fu S v) : ∀ g, v.ownBlock = some g → g ≠ t := fun g hg e => by
  obtain ⟨cur, hc⟩ := h.own.bk g hg
  exact ne_type hc h.heap (by decide) e
theorem TpW.bk (h : TpW w t fu S v) : ∀ g, v.ownBlock = some g → g < w.heap.size := fun g hg => by
  obtain ⟨cur, hc⟩ := h.own.bk g hg
  exact (Array.getElem?_eq_some_iff.1 hc).1
theorem TpW.nf (h : TpW w t fu S v) (hf : FzO w fu k) : ∀ f, fu = some f → f ≠ t ∧ v.ownBlock ≠ some f := fun f e => by
  subst e
  have hz : Fz w f k := hf
  refine ⟨ne_type hz.heap h.heap (by decide), fun e => ?_⟩
  obtain ⟨cur, hc⟩ := h.own.bk f e
  exact ne_type hc hz.heap (by decide) rfl
theorem TpW.up {X : Nat → Prop} (h : TpW w t fu S v) (u : Up X w w') (h1 : ¬ X t) (h2 : ∀ g, v.ownBlock = some g → ¬ X g) : TpW w' t fu S v :=
  ⟨(u.block t h.lt h1).trans h.heap, h.own.off u h2, h.le, h.lo⟩
/-- What the slice is. -/
theorem TpW.shp (h : TpW w t fu S v) : ∃ a c, v = .slice a S.B.length c ∧ S.B.length ≤ c ∧ SlN w a S.B.length S.B := by
  obtain ⟨a, c, e, h1, h2, _⟩ := h.own.sln (by have := h.le; omega)
  exact ⟨a, c, e, h1, h2⟩
/-- Bytes and what is safe are others. -/
theorem TpW.put {a : Option Addr} {l c : Nat} (h : TpW w t fu S (.slice a l c)) (n : Nat) (hn : n ≤ S.B.length) : TpW ((w.setCell ⟨t, 2, none⟩ (.slice a n c)).setCell ⟨t, 3, none⟩ (.int .i64 (n : Nat))) t fu ⟨S.B.take n, 0, S.live⟩ (.slice a n c) := by
  have hl : (S.B.take n).length = n := by rw [List.length_take]; omega
  refine ⟨?_, (h.own.cutV n hn).off (((Up.refl (One t) w).put rfl 2 _).put rfl 3 _) fun g hg e => h.ne g (by rw [ownBlock_sl a l n c]; exact hg) e, by have := h.le; show (S.B.take n).length ≤ 65536; omega, Nat.zero_le _⟩
  rw [heap_setCell_same _ t 3 _ _ _ (heap_setCell_same w t 2 _ _ _ h.heap)]
  show some (Obj.cells #[_, _, _, .int .i64 (n : Nat)] _ _) = some (.cells #[_, _, _, .int .i64 (((S.B.take n).length - 0 : Nat) : Int)] _ _)
  rw [hl, Nat.sub_zero]
end
end Go.Proofs.Ytencinajieicpaa
