/- Sum, Many, the document's own Sum, 'awake'. -/
import Derived.Test.YtfmgbmpdifjliaaCrc
import Derived.Deep.QuietTactic
import Derived.BigQuiet
namespace Go.Proofs.Ytfmgbmpdifjliaa
open Go.RowKit
set_option linter.unusedVariables false

/-- A slice of bytes as a value, with its bytes. -/
structure Seg where
  a : Option Addr
  n : Nat
  cap : Nat
  z : List Nat
def Seg.val (s : Seg) : Value := .slice s.a s.n s.cap
/-- The registers behind the first k segments. -/
def regsN (l : List Seg) (k : Nat) : Nat := CrcM.regs 4294967295 ((l.take k).flatMap Seg.z)
theorem regsN_next {l : List Seg} {k : Nat} (h : k < l.length) : regsN l (k + 1) = CrcM.regs (regsN l k) l[k].z := by
  unfold regsN
  rw [List.take_succ_eq_append_getElem h, List.flatMap_append, CrcM.regs_app]
  simp
theorem SlN.small {w : World} {a : Option Addr} {n : Nat} {z : List Nat} (h : SlN w a n z) : ∀ x ∈ z, x < 256 := by
  intro x hx
  rcases h.row with e | ⟨b, o, _, _, r⟩
  · have := h.len
    rw [e] at this
    rw [List.eq_nil_of_length_eq_zero this] at hx
    cases hx
  · obtain ⟨i, hi, rfl⟩ := List.mem_iff_getElem.1 hx
    have := r.small i
    rwa [List.getD_eq_getElem?_getD, List.getElem?_eq_getElem hi] at this
theorem regsN_lt {l : List Seg} (h : ∀ s ∈ l, ∀ x ∈ s.z, x < 256) (k : Nat) : regsN l k < 4294967296 :=
  CrcM.regs_lt (by omega) fun x hx => by
    obtain ⟨s, hs, hx⟩ := List.mem_flatMap.1 hx
    exact h s (List.mem_of_mem_take hs) x hx

set_option maxHeartbeats 800000 in
theorem many_any (B : Nat) (l : List Seg) (cap : Nat) (w : World) (hl : l.length ≤ 1000) (hc : ∀ i (h : i < l.length), w.cell? ⟨B, i, none⟩ = some l[i].val ∧ SlN w l[i].a l[i].n l[i].z) :
    Calls Try.prog 58 #[.slice (some ⟨B, 0, none⟩) l.length cap] w fun e w' => e = .returned (.int .u32 (CrcM.sum (l.flatMap Seg.z))) ∧ w = w' := by
  have HC := hid hc
  have HS : Hid (∀ s ∈ l, ∀ x ∈ s.z, x < 256) := by
    intro s hs
    obtain ⟨i, hi, rfl⟩ := List.mem_iff_getElem.1 hs
    exact (hc i hi).2.small
  obtain ⟨K, HK⟩ : ∃ k, Hid (l.length = k) := ⟨_, rfl⟩
  rw [HK.out] at hl ⊢
  clear hc
  go_enter Try.func58, Try.ntmps58
  go_wp2
  go_loop [3, 10] (fun s i => ∃ k y : Nat, k ≤ K ∧ i = .int .i64 k ∧ s = .int .u32 y ∧ Hid (regsN l k = y)) (fun _ i => K - (intOf i).toNat)
  case atStart => exact ⟨0, 4294967295, by omega, rfl, rfl, rfl⟩
  case round =>
    obtain ⟨k, y, hk, rfl, rfl, HY⟩ := hrel
    by_cases hlt : k < K
    · have hkl : Hid (k < l.length) := by show k < _; rw [HK.out]; exact hlt
      obtain ⟨hcell, hsl⟩ := HC.out k hkl.out
      have HN := hid (regsN_next hkl.out)
      obtain ⟨⟨a, n, cp, z⟩, S⟩ : ∃ s, Hid (l[k]'hkl.out = s) := ⟨_, rfl⟩
      rw [S.out] at hcell hsl HN
      have HZ := hid hsl
      have hle := hsl.le
      have y8 : y < 4294967296 := by rw [← HY.out]; exact regsN_lt HS.out k
      clear hsl
      unfold Seg.val at hcell
      have i1 : (0 : Int) ≤ (k : Int) := by omega
      have i2 : (k : Int) < (K : Int) := by omega
      go_wp2
      go_loop [3, 16] (fun s i => ∃ j x : Nat, j ≤ n ∧ i = .int .i64 j ∧ s = .int .u32 x ∧ x < 4294967296 ∧ Hid (CrcM.regs y (z.take j) = x)) (fun _ i => n - (intOf i).toNat)
      case atStart => exact ⟨0, y, by omega, rfl, rfl, y8, rfl⟩
      case round =>
        obtain ⟨j, x, hj, rfl, rfl, x8, HX⟩ := hrel
        by_cases hjn : j < n
        · obtain ⟨b, o, rfl, hb, hrow⟩ : ∃ b o, a = some ⟨b, o, none⟩ ∧ b < w.heap.size ∧ Row w b o z := by
            rcases HZ.out.row with e | h
            · have e : n = 0 := e
              omega
            · exact h
          have hjz : Hid (j < z.length) := by show j < _; rw [HZ.out.len]; exact hjn
          have hcj := hrow.cells j hjz.out
          have cj8 := hrow.small j
          have HT := hid (CrcM.regs_take (r := y) hjz.out)
          obtain ⟨c, C⟩ : ∃ c, Hid (z.getD j 0 = c) := ⟨_, rfl⟩
          rw [C.out] at hcj cj8 HT
          clear hrow
          have j1 : (0 : Int) ≤ (j : Int) := by omega
          have j2 : (j : Int) < (n : Int) := by omega
          go_wp2_with (go_at_call 66; refine (step_any x c _ x8 cj8).mono ?_; rintro e w' ⟨rfl, rfl⟩)
          go_round
          case rel => exact ⟨j + 1, CrcM.stp x c, by omega, by go_num, rfl, CrcM.stp_lt x8 cj8, by show _ = _; rw [HT.out, HX.out]⟩
          case measure => simp [intOf]; omega
        · obtain rfl : j = n := by omega
          go_wp2
          go_round
          case rel => exact ⟨k + 1, x, by omega, by go_num, rfl, by
            show _ = _
            rw [HN.out, HY.out, ← HX.out, List.take_of_length_le (by rw [HZ.out.len]; exact Nat.le_refl _)]⟩
          case measure => simp [intOf]; omega
    · obtain rfl : k = K := by omega
      have y8 : y < 4294967296 := by rw [← HY.out]; exact regsN_lt HS.out k
      have hn := not_u32 y8
      obtain ⟨x, X⟩ : ∃ x, Hid (y ^^^ 4294967295 = x) := ⟨_, rfl⟩
      rw [X.out] at hn
      go_wp2
      go_ret
      exact ⟨ret_u32 (by rw [← X.out, ← HY.out]; unfold regsN; rw [List.take_of_length_le (by rw [HK.out]; exact Nat.le_refl _)]; rfl), rfl⟩


set_option maxHeartbeats 400000 in
theorem refSum_any (s : ByteArray) (w : World) (hs : s.size ≤ 9223372036854775807) :
    Calls Try.prog 64 #[.string s] w fun e w' => e = .returned (.int .u32 (CrcM.sum (nums s))) ∧ w = w' := by
  go_enter Try.func64, Try.ntmps64
  go_wp2
  go_loop [3, 4] (fun s' i => ∃ j x : Nat, j ≤ s.size ∧ i = .int .i64 j ∧ s' = .int .u32 x ∧ x < 4294967296 ∧ Hid (CrcM.regs 4294967295 ((nums s).take j) = x)) (fun _ i => s.size - (intOf i).toNat)
  case atStart => exact ⟨0, 4294967295, by omega, rfl, rfl, by omega, rfl⟩
  case round =>
    obtain ⟨j, x, hj, rfl, rfl, x8, HX⟩ := hrel
    by_cases hjn : j < s.size
    · have hjz : Hid (j < (nums s).length) := by show j < _; rw [nums_length]; exact hjn
      have HT := hid (CrcM.regs_take (r := 4294967295) hjz.out)
      have c8 := nums_small s j
      have hq := nums_at s j hjn
      obtain ⟨c, C⟩ : ∃ c, Hid ((nums s).getD j 0 = c) := ⟨_, rfl⟩
      rw [C.out] at HT c8 hq
      have hq' : s[j].toNat = c := hq.symm
      clear hq
      have j1 : (0 : Int) ≤ (j : Int) := by omega
      have j2 : (j : Int) < (s.size : Int) := by omega
      go_wp2_with (go_at_call 67; refine (refStep_any x c _ x8 c8).mono ?_; rintro e w' ⟨rfl, rfl⟩)
      go_round
      case rel => exact ⟨j + 1, CrcM.stp x c, by omega, by go_num, rfl, CrcM.stp_lt x8 c8, by show _ = _; rw [HT.out, HX.out]⟩
      case measure => simp [intOf]; omega
    · obtain rfl : j = s.size := by omega
      have hn := not_u32 x8
      obtain ⟨y, Y⟩ : ∃ y, Hid (x ^^^ 4294967295 = y) := ⟨_, rfl⟩
      rw [Y.out] at hn
      go_wp2
      go_ret
      exact ⟨ret_u32 (by rw [← Y.out, ← HX.out, List.take_of_length_le (by rw [nums_length]; exact Nat.le_refl _)]; rfl), rfl⟩
end Go.Proofs.Ytfmgbmpdifjliaa
