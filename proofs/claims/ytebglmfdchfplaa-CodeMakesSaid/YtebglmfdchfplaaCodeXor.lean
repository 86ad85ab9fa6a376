/- The document's own sum of two strings. -/
import Derived.Test.YtebglmfdchfplaaCodeData
import Derived.Lib.ConvBytes
namespace Go.Proofs.Ytebglmfdchfplaa
open Go.RowKit
set_option linter.unusedVariables false

theorem bytes_below (w : World) (e : TypeId) (s : ByteArray) : Up Nul w (Lib.bytesWorld w e s) :=
  ⟨rfl, rfl, rfl, by rw [Lib.bytesWorld_size]; omega, fun k hk _ => Lib.bytesWorld_at_old w e s k hk⟩
theorem bytes_frozen (w : World) (e : TypeId) (s : ByteArray) (j : Nat) (hj : j < s.size) : (Lib.bytesWorld w e s).frozen? ⟨w.heap.size, j, none⟩ = false := by
  have hsz : s.size ≤ (Lib.bytesCells w e s).size := by
    unfold Lib.bytesCells
    rw [Array.size_append, Array.size_map]
    have : s.data.size = s.size := rfl
    omega
  simp only [World.frozen?, Lib.bytesWorld_at_new]
  simp
  omega
/-- A row that is turned byte by byte. -/
structure Trn (w : World) (q n : Nat) (y : List Nat) (wr : World) : Prop where
  row : Row wr q 0 y
  len : y.length = n
  frz : ∀ j, j < n → wr.frozen? ⟨q, j, none⟩ = false
  qw : w.heap.size ≤ q
  up : Up Nul w wr
theorem Trn.set {w wr : World} {q n : Nat} {y : List Nat} (h : Trn w q n y wr) {j v : Nat} (hj : j < n) (hv : v < 256) : Trn w q n (y.set j v) (wr.setCell ⟨q, j, none⟩ (.int .u8 v)) := by
  have hc := h.row.cells j (by rw [h.len]; exact hj)
  rw [Nat.zero_add] at hc
  refine ⟨⟨fun i hi => ?_, fun i => ?_⟩, by rw [List.length_set]; exact h.len, fun i hi => by rw [World.frozen?_setCell]; exact h.frz i hi, h.qw, h.up.setCell (p := ⟨q, j, none⟩) (.inl h.qw) _⟩
  · rw [List.length_set] at hi
    rw [Nat.zero_add, getD_set _ _ _ _ (by rw [h.len]; exact hj)]
    by_cases e : i = j
    · subst e
      rw [if_pos rfl]
      exact World.cell?_setCell_same _ _ _ hc
    · rw [if_neg e, World.cell?_setCell_other _ _ _ _ (by intro e2; have := congrArg Addr.off e2; simp at this; omega)]
      have := h.row.cells i hi
      rw [Nat.zero_add] at this
      exact this
  · rw [getD_set _ _ _ _ (by rw [h.len]; exact hj)]
    split
    · exact hv
    · exact h.row.small i
theorem Trn.drew {w wr : World} {q n : Nat} {y : List Nat} (h : Trn w q n y wr) : Trn w q n y wr.drew := ⟨⟨h.row.cells, h.row.small⟩, h.len, h.frz, h.qw, h.up.drew⟩
theorem Trn.start (w : World) (s : ByteArray) : Trn w w.heap.size s.size (nums s) (Lib.bytesWorld w 5 s) :=
  ⟨⟨fun i hi => by
    rw [nums_length] at hi
    rw [Nat.zero_add, Lib.bytesWorld_cell w _ s i hi]
    have hd : i < s.data.toList.length := by simpa using hi
    simp [nums, List.getD_eq_getElem?_getD, List.getElem?_map, List.getElem?_eq_getElem hd], nums_small s⟩, nums_length s, fun j hj => bytes_frozen w _ s j hj, Nat.le_refl _, bytes_below w _ s⟩

set_option maxRecDepth 100000 in
set_option maxHeartbeats 800000 in
theorem xor_any (s1 s2 : ByteArray) (n : Nat) (w : World) (h1 : s1.size = n) (h2 : s2.size = n) (hn : n ≤ 64) :
    Calls Try.prog 25 #[.string s1, .string s2] w fun e w' => e = .returned (.string (strOf (tab n fun j => (nums s1).getD j 0 ^^^ (nums s2).getD j 0))) ∧ Up Nul w w' := by
  have hcv := Lib.run_convert_string_bytes (P := Try.prog) w 9 22 5 s1 Try.underlying9 Try.underlying22 Try.underlying5
  have HT := hid (Trn.start w s1)
  obtain ⟨cap, HCP⟩ : ∃ x, Hid (grownCap w s1.size 0 5 = x) := ⟨_, rfl⟩
  rw [HCP.out, h1] at hcv
  rw [h1] at HT
  obtain ⟨N1, HN1⟩ : ∃ x, Hid (nums s1 = x) := ⟨_, rfl⟩
  obtain ⟨N2, HN2⟩ : ∃ x, Hid (nums s2 = x) := ⟨_, rfl⟩
  have HNA : Hid (∀ k (h : k < s2.size), s2[k].toNat = N2.getD k 0) := fun k h => by rw [← HN2.out, nums_at s2 k h]
  have HSM : Hid (∀ k, N2.getD k 0 < 256) := fun k => by rw [← HN2.out]; exact nums_small s2 k
  rw [HN1.out] at HT ⊢
  rw [HN2.out]
  go_enter Try.func25, Try.ntmps25
  go_wp2_with fail
  generalize Lib.bytesWorld w 5 s1 = wa at *
  generalize HQ : w.heap.size = q at *
  go_loopw [6] (fun i wr => ∃ t : Nat, t ≤ n ∧ i = .int .i64 t ∧ ∃ y, Trn w q n y wr ∧ (∀ u, u < n → y.getD u 0 = if u < t then N1.getD u 0 ^^^ N2.getD u 0 else N1.getD u 0)) (fun i _ => n - (intOf i).toNat)
  case atStart => exact ⟨0, by omega, rfl, _, HT.out, fun u _ => by rw [if_neg (Nat.not_lt_zero _)]⟩
  case round =>
    clear HT
    obtain ⟨t, ht, rfl, y, hy, hv⟩ := hrel
    have HY := hid (And.intro hy hv)
    clear hy hv
    by_cases hlt : t < n
    · have x0 := HY.out.1.row.cells t (by rw [HY.out.1.len]; exact hlt)
      rw [Nat.zero_add] at x0
      have f0 := HY.out.1.frz t hlt
      have x8 := HY.out.1.row.small t
      have HV := hid (HY.out.2 t hlt)
      rw [if_neg (Nat.lt_irrefl _)] at HV
      obtain ⟨x, X⟩ : ∃ x, Hid (y.getD t 0 = x) := ⟨_, rfl⟩
      rw [X.out] at x0 x8 HV
      have hlt2 : t < s2.size := by omega
      have q2 := HNA.out t hlt2
      have p8 := HSM.out t
      obtain ⟨p, PP⟩ : ∃ x, Hid (N2.getD t 0 = x) := ⟨_, rfl⟩
      rw [PP.out] at q2 p8
      have hxx := u8_xor_nat x p x8 p8
      have i1 : (0 : Int) ≤ (t : Int) := by omega
      have i2 : (t : Int) < (n : Int) := by omega
      have i3 : (t : Int) < (s2.size : Int) := by omega
      go_wp2_with fail
      go_region
      go_wp2
      go_roundw
      case rel => exact ⟨t + 1, by omega, by go_num, _, (HY.out.1.set hlt (GfM.xor_lt x8 p8)).drew, fun u hu => by
        rw [getD_set _ _ _ _ (by rw [HY.out.1.len]; exact hlt)]
        by_cases e : u = t
        · subst e
          rw [if_pos rfl, if_pos (Nat.lt_succ_self _), ← HV.out, PP.out]
        · rw [if_neg e, HY.out.2 u hu]
          by_cases e2 : u < t
          · rw [if_pos e2, if_pos (by omega)]
          · rw [if_neg e2, if_neg (by omega)]⟩
      case measure => simp [intOf]; omega
    · obtain rfl : n = t := by omega
      have hyd : y = tab n fun j => N1.getD j 0 ^^^ N2.getD j 0 := eq_tab HY.out.1.len fun u hu => by rw [HY.out.2 u hu, if_pos hu]
      have hcb := conv_row (cap := cap) HY.out.1.row HY.out.1.len
      rw [hyd] at hcb
      have HU := hid HY.out.1.up
      clear HY hyd
      go_wp2
      go_ret
      exact ⟨rfl, HU.out⟩
end Go.Proofs.Ytebglmfdchfplaa
