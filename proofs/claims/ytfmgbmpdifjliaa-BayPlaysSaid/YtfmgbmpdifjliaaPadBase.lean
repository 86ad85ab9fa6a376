/- Slices of bytes that came in, or were told: parts, copies, strings. -/
import Derived.Test.YtfmgbmpdifjliaaBase
import Derived.Lib.AppendZeros
import Derived.Deep.Upon
import Derived.LoopTactic
import Derived.Deep.RegionHeld3
namespace Go.Proofs.Ytfmgbmpdifjliaa
open Go.RowKit
set_option linter.unusedVariables false

theorem add_block (a : Addr) (j : Nat) : (a.add j).block = a.block := by unfold Addr.add; split <;> rfl
theorem add_off (b o k : Nat) : Addr.add ⟨b, o, none⟩ k = ⟨b, o + k, none⟩ := by
  by_cases h0 : k = 0
  · subst h0; simp [Addr.add]
  · simp [Addr.add, h0]
/-- The address behind k elements. -/
def atOff (a : Option Addr) (k cap : Nat) : Option Addr := if cap = k then a else a.map (fun x => x.add k)
theorem SlN.nxt {w w' : World} {a : Option Addr} {n : Nat} {z : List Nat} (h : SlN w a n z) (u : Up Nul w w') : SlN w' a n z := h.up u fun _ _ => id
theorem SlN.mid {w : World} {a : Option Addr} {n : Nat} {z : List Nat} (h : SlN w a n z) (l m cap : Nat) (hm : l + m ≤ n) (hc : n ≤ cap) : SlN w (atOff a l cap) m ((z.drop l).take m) := by
  refine ⟨by rw [List.length_take, List.length_drop, h.len]; omega, ?_, by have := h.le; omega⟩
  rcases Nat.eq_zero_or_pos m with e | e
  · exact .inl e
  · rcases h.row with e2 | ⟨b, o, ea, hb, r⟩
    · omega
    · refine .inr ⟨b, o + l, by rw [atOff, if_neg (by omega), ea]; exact congrArg some (add_off b o l), hb, fun i hi => ?_, fun i => ?_⟩
      · have hi' : i < m := by rw [List.length_take] at hi; omega
        rw [Nat.add_assoc, r.cells (l + i) (by rw [h.len]; omega)]
        simp [List.getD_eq_getElem?_getD, hi', List.getElem?_drop]
      · have := r.small (l + i)
        simp only [List.getD_eq_getElem?_getD, List.getElem?_take, List.getElem?_drop] at this ⊢
        split
        · exact this
        · simp
theorem size_byte (w : World) : (sizeOf (Try.prog.elem 32)).run Try.prog w = .ok 1 w := by
  have h : (Try.prog.info? (Try.prog.elem 32)).map (·.size) = some 1 := by kernel_rfl
  obtain ⟨i, hi, hs⟩ := Option.map_eq_some_iff.1 h
  simp [sizeOf, typeInfo, hi, hs]
theorem run_part (a : Option Addr) (n cap l h m : Nat) (hl : l + m = h) (hh : h ≤ cap) (w : World) :
    (Instr.slice 32 (.slice a n cap) (some (.int .i64 l)) (some (.int .i64 h)) none).run Try.prog w = .ok (.slice (atOff a l cap) m (cap - l)) w := by
  rw [run_slice_lh (P := Try.prog) (w := w) 32 a n cap (by kernel_rfl) .i64 .i64 l h (by omega) (by omega) (by omega), size_byte]
  simp only [Result.andThen, sliced, Int.toNat_natCast, Nat.mul_one, atOff]
  rw [show h - l = m by omega]
theorem run_upto (a : Option Addr) (n cap k : Nat) (hk : k ≤ cap) (w : World) :
    (Instr.slice 32 (.slice a n cap) none (some (.int .i64 k)) none).run Try.prog w = .ok (.slice a k cap) w := by
  rw [run_slice_h (P := Try.prog) (w := w) 32 a n cap (by kernel_rfl) .i64 k (by omega) (by omega), size_byte]
  have e : ∀ x : Addr, x.add 0 = x := fun x => by simp [Addr.add]
  cases a <;> simp [Result.andThen, sliced, e]
/-- A slice of bytes as a string. -/
theorem SlN.conv {w : World} {a : Option Addr} {n : Nat} {z : List Nat} (h : SlN w a n z) (cap : Nat) : (convert 32 9 (.slice a n cap)).run Try.prog w = .ok (.string (strOf z)) w := by
  rcases h.row with rfl | ⟨b, o, rfl, _, r⟩
  · obtain rfl : z = [] := List.eq_nil_of_length_eq_zero h.len
    exact conv_zero a cap w
  · exact conv_row r h.len
theorem came_cap {w : World} {a : Option Addr} {n cap : Nat} {zs : List Int} (h : CameIn w a n cap zs) : n ≤ cap := by
  rcases h with ⟨_, h1, h2, _⟩ | ⟨_, _, h, _⟩
  · omega
  · exact h
theorem strOf_append (a b : List Nat) : strOf a ++ strOf b = strOf (a ++ b) := by
  apply ByteArray.ext
  simp [strOf]
theorem strOf_extract (z : List Nat) (l h : Nat) : (strOf z).extract l h = strOf ((z.drop l).take (h - l)) := by
  apply ByteArray.ext
  simp [strOf, List.map_drop, List.map_take]
/-- append(v, x...), x any slice of bytes. -/
theorem run_append_sl (w : World) (ty : TypeId) (base : Nat) (v : Value) (z : List Nat) (hown : OwnB base w v z) (ad : Option Addr) (n cap : Nat) (y : List Nat) (hr : SlN w ad n y) (hn : ad = none → n = 0) (hl : z.length + n ≤ 1000000) (hbase : base ≤ w.heap.size) :
    ∃ v' w', (Builtin.append_ #[32, 32] ty #[v, .slice ad n cap]).run Try.prog w = .ok v' w' ∧ OwnB base w' v' (z ++ y) ∧ w.grownBy w' v.ownBlock := by
  obtain ⟨i0, hi, hz0, hz1, hz2⟩ := info_parts info_u8
  rcases hr.row with rfl | ⟨b, so, rfl, hb, r⟩
  · obtain rfl : y = [] := List.eq_nil_of_length_eq_zero hr.len
    obtain ⟨a, k, c, rfl, hkc⟩ : ∃ a k c, v = .slice a k c ∧ k ≤ c := by
      rcases hown.own.2 with ⟨e, _⟩ | ⟨g, cap, cur, e, _, _, h4, _⟩
      · exact ⟨_, _, _, e, Nat.le_refl _⟩
      · exact ⟨_, _, _, e, h4⟩
    have hs : Src Try.prog i0.size 32 (.slice ad 0 cap) 0 [] w := by
      cases ad with
      | none => exact Src.ofNil w Try.underlying32 cap
      | some x => exact Src.ofSlice w Try.underlying32 x 0 cap [] (by simp) (fun j u h => by cases h) fun _ h => by cases h
    exact ⟨_, _, run_append_nothing w 32 32 ty 5 i0 Try.underlying32 hi a k c hkc _ hs, by rw [List.append_nil]; exact hown, World.grownBy.refl _ _⟩
  · obtain ⟨v', w', hrun, h1, h2, _⟩ := run_append_own (P := Try.prog) w base 32 ty 5 i0 (.int .u8 0) 1 1 Try.underlying32 hi hz0 hz1 hz2 rfl (by decide) v z.length _ hown.own ⟨b, so, none⟩ n cap (y.map fun (n : Nat) => Value.int .u8 (n : Int)) (by simp [hr.len])
      (by
        intro j u hu
        rw [List.getElem?_map] at hu
        have hj : j < y.length := by
          rcases Nat.lt_or_ge j y.length with h | h
          · exact h
          · rw [List.getElem?_eq_none h] at hu; cases hu
        rw [List.getElem?_eq_getElem hj] at hu
        have hc := r.cells j hj
        rw [List.getD_eq_getElem?_getD, List.getElem?_eq_getElem hj] at hc
        rw [add_off, hc]
        exact hu)
      (by
        intro u hu
        obtain ⟨k, _, rfl⟩ := List.mem_map.1 hu
        rfl) (by unfold maxLen; omega) (by omega) hbase
    refine ⟨v', w', hrun, ⟨by rw [List.length_append, List.map_append, hr.len]; exact h1, fun x hx => ?_⟩, h2⟩
    rcases List.mem_append.1 hx with hx | hx
    · exact hown.small x hx
    · obtain ⟨i, hi, rfl⟩ := List.mem_iff_getElem.1 hx
      have := r.small i
      rwa [List.getD_eq_getElem?_getD, List.getElem?_eq_getElem hi] at this
theorem wpList_append_sl {w : World} {ops : Array Oper} {rest : List Oper} {o : Oper} {a : Act} {Q : Exit → Act → World → Prop} (hgd : o.guard = none) (s x : Operand)
    (ho : o.op = .call { callee := .builtin .append, args := #[s, x], argTypes := #[32, 32] }) (base : Nat) (v : Value) (z : List Nat) (hs : a.eval s = v) (hown : OwnB base w v z)
    (ad : Option Addr) (n cap : Nat) (y : List Nat) (hx : a.eval x = .slice ad n cap) (hr : SlN w ad n y) (hn : ad = none → n = 0) (hl : z.length + n ≤ 1000000) (hbase : base ≤ w.heap.size)
    (h : ∀ v' w', Hid (OwnB base w' v' (z ++ y)) → Hid (w.grownBy w' v.ownBlock) → wpList Try.prog ops Q rest (a.put o.dst v') w') : wpList Try.prog ops Q (o :: rest) a w := by
  refine wpList_plain hgd fun K hK => ?_
  obtain ⟨v', w', hrun, h1, h2⟩ := run_append_sl w o.type base v z hown ad n cap y hr hn hl hbase
  unfold Oper.wp
  simp [execOp, ho, resolve, invoke, builtin, hs, hx, hrun, Result.andThen]
  exact hK _ _ (h v' w' h1 h2)
/-- What is the call's own is a slice. -/
theorem OwnB.sln {base : Nat} {w : World} {v : Value} {z : List Nat} (h : OwnB base w v z) (hl : z.length ≤ 1000000) : ∃ a c, v = .slice a z.length c ∧ z.length ≤ c ∧ SlN w a z.length z ∧ (0 < z.length → ∃ g o, a = some ⟨g, o, none⟩ ∧ base ≤ g) ∧ (a = none → z.length = 0) := by
  rcases Nat.eq_zero_or_pos z.length with e | e
  · obtain rfl : z = [] := List.eq_nil_of_length_eq_zero e
    rcases h.own.2 with ⟨e, _⟩ | ⟨g, cap, cur, e, _, _, h4, _⟩
    · exact ⟨_, _, e, Nat.le_refl _, ⟨rfl, .inl rfl, by simp⟩, (fun h => absurd h (Nat.lt_irrefl 0)), fun _ => rfl⟩
    · exact ⟨_, _, e, h4, ⟨rfl, .inl rfl, by simp⟩, (fun h => absurd h (Nat.lt_irrefl 0)), fun _ => rfl⟩
  · obtain ⟨g, cap, e, hb, hg, r, _, hc⟩ := h.row e
    exact ⟨_, _, e, hc, ⟨rfl, .inr ⟨g, 0, rfl, hg, r⟩, by omega⟩, fun _ => ⟨g, 0, rfl, hb⟩, fun h => by cases h⟩

/-! ### 'Clone' -/
/-- A slice that was told: its bytes, its room, and that its block is new. -/
structure Got (W w : World) (a : Option Addr) (n c : Nat) (z : List Nat) : Prop where
  sl : SlN w a n z
  cap : n ≤ c
  nil : a = none → n = 0
  new : 0 < n → ∃ g o, a = some ⟨g, o, none⟩ ∧ W.heap.size ≤ g
  up : Up Nul W w
set_option maxRecDepth 100000 in
theorem bclone_some (ad : Addr) (n cap : Nat) (z : List Nat) (w : World) (h : SlN w (some ad) n z) (hn : n ≤ 1000) :
    Calls Try.prog 60 #[.slice (some ad) n cap] w fun e w' => ∃ a c, e = .returned (.slice a n c) ∧ Got w w' a n c z := by
  have HA : Hid (OwnB w.heap.size (w.alloc (.cells #[] 5)) (.slice (some ⟨w.heap.size, 0, none⟩) 0 0) []) := ⟨World.ownsRow_made w #[] 0 (Nat.le_refl _) (by unfold maxLen; omega) rfl, fun _ h => by cases h⟩
  have UA := hid ((Up.refl Nul w).alloc (.cells #[] 5))
  have HR := hid (h.nxt UA.out)
  have heq : ∀ w : World, (binOp .eql 32 (.slice (some ad) n cap) (.slice none 0 0)).run Try.prog w = .ok (.bool false) w := fun _ => by kernel_rfl
  have HL := hid h.len
  clear h
  go_enter Try.func60, Try.ntmps60
  go_wp2_with (first
    | (at_builtin; refine wpList_append_sl rfl (.tmp 5) (.tmp 6) rfl w.heap.size _ [] rfl HA.out (some ad) n cap z rfl HR.out (fun e => by cases e) (by show 0 + n ≤ _; omega) UA.out.size ?_; intro v2 w2 H1 H2)
    | go_in)
  rw [List.nil_append] at H1
  obtain ⟨a, c, rfl, h1, h2, h3, h4⟩ := H1.out.sln (by rw [HL.out]; omega)
  rw [HL.out] at h1 h2 h3 h4 ⊢
  have HP : Hid (Got w w2 a n c z) := ⟨h2, h1, h4, h3, UA.out.grown H2.out fun q hq => HA.out.base q hq⟩
  clear h1 h2 h3 h4 H1 H2
  go_wp2
  go_ret
  exact ⟨a, c, rfl, HP.out⟩
theorem bclone_none (w : World) (cap : Nat) (z : List Nat) (h : SlN w none 0 z) :
    Calls Try.prog 60 #[.slice none 0 cap] w fun e w' => ∃ a c, e = .returned (.slice a 0 c) ∧ Got w w' a 0 c z := by
  have heq : ∀ w : World, (binOp .eql 32 (.slice none 0 cap) (.slice none 0 0)).run Try.prog w = .ok (.bool true) w := fun _ => by kernel_rfl
  have H := hid h
  clear h
  go_enter Try.func60, Try.ntmps60
  go_wp2
  go_ret
  exact ⟨none, 0, rfl, H.out, Nat.le_refl _, fun _ => rfl, fun h => absurd h (Nat.lt_irrefl 0), Up.refl _ _⟩
theorem bclone_any (a : Option Addr) (n cap : Nat) (z : List Nat) (w : World) (h : SlN w a n z) (ha : a = none → n = 0) (hn : n ≤ 1000) :
    Calls Try.prog 60 #[.slice a n cap] w fun e w' => ∃ a' c, e = .returned (.slice a' n c) ∧ Got w w' a' n c z := by
  cases a with
  | none =>
    obtain rfl := ha rfl
    exact bclone_none w cap z h
  | some ad => exact bclone_some ad n cap z w h hn
end Go.Proofs.Ytfmgbmpdifjliaa
