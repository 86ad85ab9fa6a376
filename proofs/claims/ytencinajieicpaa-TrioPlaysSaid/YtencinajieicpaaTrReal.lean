/- Rows of records in memory; the small calls of the program's Trio: Split, pack, alike, fits, isLive. -/
import Derived.Test.YtencinajieicpaaTrFace
import Derived.Test.YtencinajieicpaaTpOps
import Derived.BigQuiet
import Derived.Deep.QuietTactic
namespace Go.Proofs.Ytencinajieicpaa
open Go.RowKit
set_option linter.unusedVariables false

theorem SlN.off {X : Nat → Prop} {w w' : World} {a : Option Addr} {n : Nat} {z : List Nat} (h : SlN w a n z) (u : Up X w w') (hx : n = 0 ∨ ∀ x, a = some x → ¬ X x.block) : SlN w' a n z := by
  refine ⟨h.len, ?_, h.le⟩
  rcases h.row with e | ⟨b, o, e, hb, r⟩
  · exact .inl e
  · rcases hx with e2 | hx
    · exact .inl e2
    · exact .inr ⟨b, o, e, Nat.lt_of_lt_of_le hb u.size, r.up u hb (hx _ e)⟩
theorem SlN.lt {w : World} {a : Option Addr} {n : Nat} {z : List Nat} (h : SlN w a n z) (hn : ¬ n = 0) : ∀ x, a = some x → x.block < w.heap.size := fun x e => by
  rcases h.row with e2 | ⟨b, o, e2, hb, _⟩
  · exact absurd e2 hn
  · rw [e] at e2; cases e2; exact hb
theorem SlN.byt {w : World} {a : Option Addr} {n : Nat} {z : List Nat} (h : SlN w a n z) : ∀ i, z.getD i 0 < 256 := by
  rcases h.row with e | ⟨b, o, _, _, r⟩
  · obtain rfl : z = [] := List.eq_nil_of_length_eq_zero (by rw [h.len, e])
    intro i; simp
  · exact r.small
/-- The slice v has the rows l of bytes, in blocks that P speaks of. -/
def RRp (P : Nat → Prop) (w : World) (v : Value) (l : List (List Nat)) : Prop :=
  ∃ a c, v = .slice a l.length c ∧ l.length ≤ c ∧ (l.length = 0 ∨ ∃ g o, a = some ⟨g, o, none⟩ ∧ g < w.heap.size ∧ P g ∧ ∀ i z, l[i]? = some z → ∃ ea ec, w.cell? ⟨g, o + i, none⟩ = some (.slice ea z.length ec) ∧ SlN w ea z.length z ∧ (z.length = 0 ∨ ∀ x, ea = some x → P x.block))
theorem RRp.nil (P : Nat → Prop) (w : World) : RRp P w (.slice none 0 0) [] := ⟨none, 0, rfl, Nat.le_refl _, .inl rfl⟩
theorem RRp.up {P X : Nat → Prop} {w w' : World} {v : Value} {l : List (List Nat)} (h : RRp P w v l) (u : Up X w w') (hx : ∀ g, g < w.heap.size → P g → ¬ X g) : RRp P w' v l := by
  obtain ⟨a, c, e, hc, h⟩ := h
  refine ⟨a, c, e, hc, h.imp id ?_⟩
  rintro ⟨g, o, e1, hg, hp, hc⟩
  refine ⟨g, o, e1, Nat.lt_of_lt_of_le hg u.size, hp, fun i z hi => ?_⟩
  obtain ⟨ea, ec, h1, h2, h3⟩ := hc i z hi
  refine ⟨ea, ec, (u.cell (p := ⟨g, o + i, none⟩) hg (hx g hg hp)).trans h1, h2.off u ?_, h3⟩
  by_cases hz : z.length = 0
  · exact .inl hz
  · exact .inr fun x ex => hx _ (h2.lt hz x ex) (h3.resolve_left hz x ex)
theorem RRp.nxt {P : Nat → Prop} {w w' : World} {v : Value} {l : List (List Nat)} (h : RRp P w v l) (u : Up Nul w w') : RRp P w' v l := h.up u fun _ _ _ h => h
theorem RRp.mono {P Q : Nat → Prop} {w : World} {v : Value} {l : List (List Nat)} (h : RRp P w v l) (hq : ∀ g, g < w.heap.size → P g → Q g) : RRp Q w v l := by
  obtain ⟨a, c, e, hc, h⟩ := h
  refine ⟨a, c, e, hc, h.imp id ?_⟩
  rintro ⟨g, o, e1, hg, hp, hc⟩
  refine ⟨g, o, e1, hg, hq g hg hp, fun i z hi => ?_⟩
  obtain ⟨ea, ec, h1, h2, h3⟩ := hc i z hi
  refine ⟨ea, ec, h1, h2, ?_⟩
  by_cases hz : z.length = 0
  · exact .inl hz
  · exact .inr fun x ex => hq _ (h2.lt hz x ex) (h3.resolve_left hz x ex)
theorem RRp.rr {P : Nat → Prop} {w : World} {v : Value} {l : List (List Nat)} (h : RRp P w v l) : RRs w v l := by
  obtain ⟨a, c, e, _, h⟩ := h
  refine ⟨a, c, e, h.imp id ?_⟩
  rintro ⟨g, o, e1, hg, _, hc⟩
  refine ⟨g, o, e1, hg, fun i z hi => ?_⟩
  obtain ⟨ea, ec, h1, h2, _⟩ := hc i z hi
  exact ⟨ea, ec, h1, h2⟩
theorem RRp.take {P : Nat → Prop} {w : World} {a : Option Addr} {m c : Nat} {l : List (List Nat)} (h : RRp P w (.slice a m c) l) (n : Nat) (hn : n ≤ l.length) : RRp P w (.slice a n c) (l.take n) := by
  obtain ⟨a', c', e, hc, h⟩ := h
  injection e with e1 e2 e3
  subst e1; subst e3
  have hl : (l.take n).length = n := by rw [List.length_take]; omega
  refine ⟨a, c, by rw [hl], by omega, ?_⟩
  rcases h with h | ⟨g, o, e1, hg, hp, h⟩
  · exact .inl (by omega)
  · refine .inr ⟨g, o, e1, hg, hp, fun i z hi => h i z ?_⟩
    have hin : i < n := by
      rcases Nat.lt_or_ge i n with h | h
      · exact h
      · rw [List.getElem?_eq_none (by omega)] at hi; cases hi
    rw [List.getElem?_take, if_pos hin] at hi
    exact hi
theorem RRp.drop {P : Nat → Prop} {w : World} {a : Option Addr} {m c : Nat} {l : List (List Nat)} (h : RRp P w (.slice a m c) l) (n : Nat) (hn : n ≤ l.length) : RRp P w (.slice (atOff a n c) (m - n) (c - n)) (l.drop n) := by
  obtain ⟨a', c', e, hc, h⟩ := h
  injection e with e1 e2 e3
  subst e1; subst e3
  have hl : (l.drop n).length = m - n := by rw [List.length_drop]; omega
  refine ⟨_, _, by rw [hl], by omega, ?_⟩
  rcases h with h | ⟨g, o, e1, hg, hp, h⟩
  · exact .inl (by omega)
  · by_cases h0 : m - n = 0
    · exact .inl (by omega)
    · subst e1
      refine .inr ⟨g, o + n, by rw [atOff, if_neg (by omega)]; exact congrArg some (add_off g o n), hg, hp, fun i z hi => ?_⟩
      rw [List.getElem?_drop] at hi
      rw [Nat.add_assoc]
      exact h _ z hi
theorem size_row (w : World) : (sizeOf (Try.prog.elem 22)).run Try.prog w = .ok 1 w := by
  have h : (Try.prog.info? (Try.prog.elem 22)).map (·.size) = some 1 := by kernel_rfl
  obtain ⟨i, hi, hs⟩ := Option.map_eq_some_iff.1 h
  simp [sizeOf, typeInfo, hi, hs]
theorem rows_upto (a : Option Addr) (n cap k : Nat) (hk : k ≤ cap) (w : World) :
    (Instr.slice 22 (.slice a n cap) none (some (.int .i64 k)) none).run Try.prog w = .ok (.slice a k cap) w := by
  rw [run_slice_h (P := Try.prog) (w := w) 22 a n cap (by kernel_rfl) .i64 k (by omega) (by omega), size_row]
  have e : ∀ x : Addr, x.add 0 = x := fun x => by simp [Addr.add]
  cases a <;> simp [Result.andThen, sliced, e]
theorem rows_from (a : Option Addr) (n cap k : Nat) (hk : k ≤ n) (w : World) :
    (Instr.slice 22 (.slice a n cap) (some (.int .i64 k)) none none).run Try.prog w = .ok (.slice (atOff a k cap) (n - k) (cap - k)) w := by
  rw [run_slice_l (P := Try.prog) (w := w) 22 a n cap (by kernel_rfl) .i64 k (by omega) (by omega), size_row]
  simp only [Result.andThen, sliced, Int.toNat_natCast, Nat.mul_one, atOff]
theorem run_from_any (a : Option Addr) (n cap k : Nat) (hk : k ≤ n) (w : World) :
    (Instr.slice 30 (.slice a n cap) (some (.int .i64 k)) none none).run Try.prog w = .ok (.slice (atOff a k cap) (n - k) (cap - k)) w := by
  rw [run_slice_l (P := Try.prog) (w := w) 30 a n cap (by kernel_rfl) .i64 k (by omega) (by omega), size_byte]
  simp only [Result.andThen, sliced, Int.toNat_natCast, Nat.mul_one, atOff]
/-! ### 'bytes.Equal', 'fits', 'isLive' -/
theorem beq_any {w : World} {a1 : Option Addr} {n1 : Nat} {z1 : List Nat} {a2 : Option Addr} {n2 : Nat} {z2 : List Nat} (c1 c2 : Nat) (h1 : SlN w a1 n1 z1) (h2 : SlN w a2 n2 z2) :
    Calls Try.prog 64 #[.slice a1 n1 c1, .slice a2 n2 c2] w fun e w' => e = .returned (.bool (decide (z1 = z2))) ∧ w' = w := by
  have k1 := h1.conv c1
  have k2 := h2.conv c2
  have hq := str_beq h1.byt h2.byt
  generalize strOf z1 = s1 at k1 hq
  generalize strOf z2 = s2 at k2 hq
  generalize decide (z1 = z2) = b at hq ⊢
  clear h1 h2
  go_enter Try.func64, Try.ntmps64
  go_wp2
  go_ret
  exact ⟨rfl, rfl⟩
theorem fits_any (n : Int) (w : World) : Calls Try.prog 40 #[.int .i64 n] w fun e w' => e = .returned (.bool (decide (1 ≤ n ∧ n ≤ 250))) ∧ w' = w := by
  by_cases h1 : 1 ≤ n
  · by_cases h2 : n ≤ 250
    · rw [decide_eq_true (And.intro h1 h2)]
      go_enter Try.func40, Try.ntmps40
      go_wp2
      go_ret
      exact ⟨rfl, rfl⟩
    · rw [decide_eq_false fun h : 1 ≤ n ∧ n ≤ 250 => h2 h.2]
      go_enter Try.func40, Try.ntmps40
      go_wp2
      go_ret
      exact ⟨rfl, rfl⟩
  · rw [decide_eq_false fun h : 1 ≤ n ∧ n ≤ 250 => h1 h.1]
    go_enter Try.func40, Try.ntmps40
    go_wp2
    go_ret
    exact ⟨rfl, rfl⟩
theorem islive_nil (w : World) : Calls Try.prog 46 #[.pointer none] w fun e w' => e = .returned (.bool false) ∧ w' = w := by
  go_enter Try.func46, Try.ntmps46
  go_wp2
  go_ret
  exact ⟨rfl, rfl⟩
theorem islive_any {w : World} {t : Nat} {fu : Option Nat} {S : TS} {T : Nat → Prop} (h : tapeOps.PT w t fu S T) : Calls Try.prog 46 #[.pointer (some ⟨t, 0, none⟩)] w fun e w' => e = .returned (.bool S.live) ∧ Up Nul w w' := by
  have HL := hid (tapeOps.live h)
  clear h
  generalize S.live = b at HL ⊢
  go_enter Try.func46, Try.ntmps46
  go_wp2_with fail
  refine HL.out.mono ?_
  rintro e w' ⟨rfl, u⟩
  have HU := hid u
  clear u
  go_wp2
  go_ret
  exact ⟨rfl, HU.out⟩
end Go.Proofs.Ytencinajieicpaa
