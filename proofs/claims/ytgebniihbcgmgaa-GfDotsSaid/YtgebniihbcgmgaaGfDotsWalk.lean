/- The law GfDots, walked. -/
import Derived.Test.YtgebniihbcgmgaaGfRefDot
import Derived.Test.YtgebniihbcgmgaaGfOnceLaw
namespace Go.Proofs.Ytgebniihbcgmgaa
open Go.RowKit
set_option linter.unusedVariables false

/-- A slice of bytes that came in, and the string that its bytes are. -/
structure Sl (w : World) (a : Option Addr) (len cap : Nat) (s : ByteArray) : Prop where
  size : s.size = len
  conv : ∀ w', Below w.heap.size w w' → (convert 34 9 (.slice a len cap)).run Try.prog w' = .ok (.string s) w'
  row : len = 0 ∨ ∃ b o, a = some ⟨b, o, none⟩ ∧ b < w.heap.size ∧ Row w b o (nums s)
  le : len ≤ 9223372036854775807

theorem conv_zero (a : Option Addr) (cap : Nat) (w : World) : (convert 34 9 (.slice a 0 cap)).run Try.prog w = .ok (.string ByteArray.empty) w := by
  cases a with
  | none => exact run_convert_bytes_nil (P := Try.prog) w 34 5 Try.underlying34 Try.underlying5 0 cap 9 Try.underlying9
  | some x =>
    rw [run_convert_bytes_string (P := Try.prog) w 34 9 5 _ _ _ Try.underlying34 Try.underlying5 Try.underlying9]
    exact run_bytesToString w x 0 cap [] (by rfl)

theorem Sl.of {w : World} {a : Option Addr} {len cap : Nat} {zs : List Int} (h : CameIn w a len cap zs) : ∃ s, Sl w a len cap s := by
  rcases came_in h with rfl | ⟨b, o, z, rfl, rfl, r, hb, hm⟩
  · exact ⟨ByteArray.empty, rfl, fun w' _ => conv_zero a cap w', .inl rfl, by omega⟩
  · have hsz : (⟨(z.map UInt8.ofNat).toArray⟩ : ByteArray).size = z.length := by
      show (z.map UInt8.ofNat).toArray.size = _
      simp
    have hn : nums ⟨(z.map UInt8.ofNat).toArray⟩ = z := by
      apply List.ext_getElem
      · simp [nums]
      · intro i h1 h2
        have := r.small i
        simp [List.getD_eq_getElem?_getD, List.getElem?_eq_getElem h2] at this
        simp [nums]
        omega
    refine ⟨⟨(z.map UInt8.ofNat).toArray⟩, hsz, fun w' hw' => ?_, .inr ⟨b, o, rfl, hb, by rw [hn]; exact r⟩, hm⟩
    rw [← hsz]
    refine Lib.run_convert_whole (P := Try.prog) w' 34 5 9 Try.underlying34 Try.underlying5 Try.underlying9 b o _ (fun i hi => ?_) cap
    rw [hw'.cell (p := ⟨b, o + i, none⟩) hb, r.cells i (by rw [← hsz]; exact hi)]
    have e := nums_at ⟨(z.map UInt8.ofNat).toArray⟩ i hi
    rw [hn] at e
    rw [e]

/-- One Field at the first block of the call's own. -/
structure OneFld (w wr : World) : Prop where
  below : Below w.heap.size w wr
  f : Fld w.heap.size wr
theorem OneFld.keep {w w1 w2 : World} (h : OneFld w w1) (k : Kept w.heap.size w1 w2) : OneFld w w2 := ⟨h.below.trans (k.below (Nat.le_refl _)), k.2⟩
theorem OneFld.drew {w w1 : World} (h : OneFld w w1) : OneFld w w1.drew := ⟨h.below.drew, h.f.drew⟩
theorem Fld.drewN {b : Nat} {w : World} (h : Fld b w) (n : Nat) : Fld b (w.drewN n) := by
  have e : ∀ j, (w.drewN n).cell? ⟨b, j, none⟩ = w.cell? ⟨b, j, none⟩ := fun _ => rfl
  rcases h with h | h
  · exact .inl ⟨⟨h.raw.lt, h.raw.cells, h.raw.fr⟩, h.lock, h.done, h.made⟩
  · exact .inr ⟨⟨h.raw.lt, h.raw.cells, h.raw.fr⟩, h.lock, h.done, h.made, ⟨h.tabs.ex, h.tabs.lg⟩⟩
theorem below_drewN {B : Nat} {w w1 : World} (h : Below B w w1) (n : Nat) : Below B w (w1.drewN n) := ⟨h.os, h.tape, h.output, h.size, h.block⟩
theorem OneFld.drewN {w w1 w2 : World} (h : OneFld w w1) {n : Nat} (e : w2 = w1.drewN n) : OneFld w w2 := by
  rw [e]
  exact ⟨below_drewN h.below n, h.f.drewN n⟩
theorem Fld.of_below {b B : Nat} {w w' : World} (h : Fld b w) (k : Below B w w') (hb : b < B) : Fld b w' := by
  have hc : ∀ j, w'.cell? ⟨b, j, none⟩ = w.cell? ⟨b, j, none⟩ := fun j => k.cell (p := ⟨b, j, none⟩) hb
  rcases h with h | h
  · exact .inl (h.of_below k hb)
  · exact .inr ⟨⟨Nat.lt_of_lt_of_le h.raw.lt k.size, fun j hj => by rw [hc]; exact h.raw.cells j hj, fun j => by rw [k.frozen (p := ⟨b, j, none⟩) hb]; exact h.raw.fr j⟩,
      by rw [hc]; exact h.lock, by rw [hc]; exact h.done, by rw [hc]; exact h.made, ⟨fun j hj => by rw [hc]; exact h.tabs.ex j hj, fun j hj => by rw [hc]; exact h.tabs.lg j hj⟩⟩
theorem OneFld.more {w w1 w2 : World} (h : OneFld w w1) (k : Below w1.heap.size w1 w2) : OneFld w w2 :=
  ⟨h.below.trans (k.mono h.below.size), h.f.of_below k h.f.lt⟩

/-- Dot, over whatever came in. -/
theorem dot_sl {w : World} {a1 a2 : Option Addr} {n1 c1 n2 c2 : Nat} {s1 s2 : ByteArray} (h1 : Sl w a1 n1 c1 s1) (h2 : Sl w a2 n2 c2 s2) (W : World) (hf : OneFld w W) :
    Calls Try.prog 18 #[.pointer (some ⟨w.heap.size, 0, none⟩), .slice a1 n1 c1, .slice a2 n2 c2] W
      fun e w' => e = .returned (.int .u8 (dotk (nums s1) (nums s2) (min s1.size s2.size))) ∧ Kept w.heap.size W w' := by
  have r1 := h1.row
  have r2 := h2.row
  rw [h1.size, h2.size]
  rcases r1 with r1 | ⟨b1, o1, e1, l1, r1⟩
  · subst r1
    have : min 0 n2 = 0 := by omega
    rw [this]
    exact dot_none_l _ _ _ _ _ hf.f h2.le _ _
  rcases r2 with r2 | ⟨b2, o2, e2, l2, r2⟩
  · subst r2
    have : min n1 0 = 0 := by omega
    rw [this]
    exact dot_none_r _ _ _ _ _ hf.f h1.le _ _
  subst e1 e2
  have g1 : Row W b1 o1 (nums s1) := ⟨fun i hi => by rw [hf.below.cell (p := ⟨b1, o1 + i, none⟩) l1]; exact r1.cells i hi, r1.small⟩
  have g2 : Row W b2 o2 (nums s2) := ⟨fun i hi => by rw [hf.below.cell (p := ⟨b2, o2 + i, none⟩) l2]; exact r2.cells i hi, r2.small⟩
  have := dot_rows w.heap.size b1 o1 c1 b2 o2 c2 (nums s1) (nums s2) W hf.f g1 g2 (by omega) (by omega) (by rw [nums_length, h1.size]; exact h1.le) (by rw [nums_length, h2.size]; exact h2.le)
  simp only [nums_length, h1.size, h2.size] at this
  exact this
theorem dot_sl_back {w : World} {a1 a2 : Option Addr} {n1 c1 n2 c2 : Nat} {s1 s2 : ByteArray} (h1 : Sl w a1 n1 c1 s1) (h2 : Sl w a2 n2 c2 s2) (W : World) (hf : OneFld w W) :
    Calls Try.prog 18 #[.pointer (some ⟨w.heap.size, 0, none⟩), .slice a2 n2 c2, .slice a1 n1 c1] W
      fun e w' => e = .returned (.int .u8 (dotk (nums s1) (nums s2) (min s1.size s2.size))) ∧ Kept w.heap.size W w' := by
  have := dot_sl h2 h1 W hf
  rw [dotk_comm, Nat.min_comm] at this
  exact this
theorem dot_sl_nil {w : World} {a1 : Option Addr} {n1 c1 : Nat} {s1 : ByteArray} (h1 : Sl w a1 n1 c1 s1) (W : World) (hf : OneFld w W) :
    Calls Try.prog 18 #[.pointer (some ⟨w.heap.size, 0, none⟩), .slice a1 n1 c1, .slice none 0 0] W
      fun e w' => e = .returned (.int .u8 0) ∧ Kept w.heap.size W w' := dot_none_r _ _ _ _ _ hf.f h1.le _ _

set_option maxRecDepth 100000 in
set_option maxHeartbeats 800000 in
attribute [local go_sem ↓] Go.wp_at_zero Go.wp_at_succ in
theorem dots_short {w : World} {a1 a2 : Option Addr} {n1 c1 n2 c2 : Nat} {s1 s2 : ByteArray} (h1 : Sl w a1 n1 c1 s1) (h2 : Sl w a2 n2 c2 s2) (l1 : n1 ≤ 200) (l2 : n2 ≤ 200) :
    Calls Try.prog 5 #[.slice a1 n1 c1, .slice a2 n2 c2] w fun e w' => e = .returned (.bool true) ∧ Below w.heap.size w w' := by
  have H1 : Hid _ := h1
  have H2 : Hid _ := h2
  have z1 := h1.size
  have z2 := h2.size
  have Z1 : Hid (s1.size ≤ 9223372036854775807) := by show _ ≤ _; omega
  have Z2 : Hid (s2.size ≤ 9223372036854775807) := by show _ ≤ _; omega
  have C1 : Hid (∀ w', OneFld w w' → (convert 34 9 (.slice a1 n1 c1)).run Try.prog w' = .ok (.string s1) w') := fun w' o => h1.conv w' o.below
  have C2 : Hid (∀ w', OneFld w w' → (convert 34 9 (.slice a2 n2 c2)).run Try.prog w' = .ok (.string s2) w') := fun w' o => h2.conv w' o.below
  clear z1 z2 h1 h2
  go_enter Try.func5, Try.ntmps5
  go_wp2_with fail
  refine (new_any _).mono ?_
  rintro e w1 ⟨rfl, k1⟩
  have HI : Hid (OneFld w w1) := ⟨k1.below, k1.fld⟩
  clear k1
  go_wp2_with fail
  go_region_held3 (fun w' => OneFld w w' ∧ (convert 34 9 (.slice a1 n1 c1)).run Try.prog w' = .ok (.string s1) w' ∧ (convert 34 9 (.slice a2 n2 c2)).run Try.prog w' = .ok (.string s2) w')
    (first | exact ⟨by assumption, C1.out _ (by assumption), C2.out _ (by assumption)⟩ | exact ⟨HI.out.drew, C1.out _ HI.out.drew, C2.out _ HI.out.drew⟩)
    ((first
      | (go_at_call 18; (with_reducible refine (dot_sl H1.out H2.out _ ?_).mono ?_); (focus (first | exact HI.out.drew | assumption)); rintro e w4 ⟨rfl, k4⟩; have oi : OneFld w w4 := (by first | exact OneFld.keep HI.out.drew k4 | exact OneFld.keep (by assumption) k4); clear k4)
      | (go_at_call 18; (with_reducible refine (dot_sl_back H1.out H2.out _ ?_).mono ?_); (focus (first | exact HI.out.drew | assumption)); rintro e w4 ⟨rfl, k4⟩; have oi : OneFld w w4 := (by first | exact OneFld.keep HI.out.drew k4 | exact OneFld.keep (by assumption) k4); clear k4)
      | (go_at_call 18; (with_reducible refine (dot_sl_nil H1.out _ ?_).mono ?_); (focus (first | exact HI.out.drew | assumption)); rintro e w4 ⟨rfl, k4⟩; have oi : OneFld w w4 := (by first | exact OneFld.keep HI.out.drew k4 | exact OneFld.keep (by assumption) k4); clear k4)
      | (go_at_call 19; (with_reducible refine (refDot_any s1 s2 _ Z1.out Z2.out).mono ?_); rintro e w4 ⟨rfl, m4, k4⟩; have oi : OneFld w w4 := (by first | exact OneFld.drewN HI.out.drew k4 | exact OneFld.drewN (by assumption) k4); clear k4)
      | (go_at_call 13; (with_reducible refine (awake_any _).mono ?_); rintro e w4 ⟨rfl, k4⟩; have oi : OneFld w w4 := (by first | exact OneFld.more HI.out.drew k4 | exact OneFld.more (by assumption) k4); clear k4)))
  go_wp2
  go_ret
  exact ⟨rfl, oi.below⟩

theorem dots_long (a1 a2 : Option Addr) (n1 c1 n2 c2 : Nat) (w : World) (h : 200 < n1 ∨ 200 < n2) :
    Calls Try.prog 5 #[.slice a1 n1 c1, .slice a2 n2 c2] w fun e w' => e = .returned (.bool true) ∧ Below w.heap.size w w' := by
  by_cases h1 : 200 < n1
  · clear h
    go_enter Try.func5, Try.ntmps5
    go_wp2_with fail
    refine (new_any _).mono ?_
    rintro e w1 ⟨rfl, k1⟩
    go_wp2_with fail
    refine (awake_any _).mono ?_
    rintro e w2 ⟨rfl, k2⟩
    go_wp2
    go_ret
    exact ⟨rfl, k1.below.trans (k2.mono k1.below.size)⟩
  · have h2 : 200 < n2 := by omega
    clear h
    go_enter Try.func5, Try.ntmps5
    go_wp2_with fail
    refine (new_any _).mono ?_
    rintro e w1 ⟨rfl, k1⟩
    go_wp2_with fail
    refine (awake_any _).mono ?_
    rintro e w2 ⟨rfl, k2⟩
    go_wp2
    go_ret
    exact ⟨rfl, k1.below.trans (k2.mono k1.below.size)⟩

theorem dots_walk (a0 : Option Addr) (len0 cap0 : Nat) (z0 : List Int) (a1 : Option Addr) (len1 cap1 : Nat) (z1 : List Int) (w : World) (w0 : CameIn w a0 len0 cap0 z0) (w1 : CameIn w a1 len1 cap1 z1) :
    Calls Try.prog 5 #[.slice a0 len0 cap0, .slice a1 len1 cap1] w fun e w' => e = .returned (.bool true) ∧ Below w.heap.size w w' := by
  by_cases h : 200 < len0 ∨ 200 < len1
  · exact dots_long a0 a1 len0 cap0 len1 cap1 w h
  · obtain ⟨s0, h0⟩ := Sl.of w0
    obtain ⟨s1, h1⟩ := Sl.of w1
    exact dots_short h0 h1 (by omega) (by omega)
end Go.Proofs.Ytgebniihbcgmgaa
