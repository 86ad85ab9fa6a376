/- The codes of narrow and of wide stripes. -/
import Derived.Test.YtmaffnadmfphpaaGreatCB
namespace Go.Proofs.YtmaffnadmfphpaaGreat
open Go.RowKit
set_option linter.unusedVariables false

/-- n numbers, from a on. -/
def ris (a n : Nat) : List Nat := tab n fun i => a + i
theorem ris_length (a n : Nat) : (ris a n).length = n := tab_length _ _
theorem ris_at {a n i : Nat} (h : i < n) : (ris a n).getD i 0 = a + i := tab_at _ _ _ h
set_option maxRecDepth 100000 in
theorem rising_any (a n : Nat) (w : World) (h : a + n ≤ 200) :
    Calls Tryz.prog 32 #[.int .i64 a, .int .i64 n] w fun e w' => e = .returned (.slice (some ⟨w.heap.size, 0, none⟩) n n) ∧ Blk w' w.heap.size (ris a n) ∧ Up Nul w w' := by
  have hmk := make_bytes w n (by omega)
  have HB := hid (Blk.new w _ (zer_small n))
  have HU := hid ((Up.refl Nul w).alloc (.cells (bys (zer n)) 5))
  have HQ := hid (Nat.le_refl w.heap.size)
  go_enter Tryz.func32, Tryz.ntmps32
  go_wp2_with fail
  generalize w.alloc (.cells (bys (zer n)) 5) = wa at *
  obtain ⟨q, QQ⟩ : ∃ q, q = w.heap.size := ⟨_, rfl⟩
  rw [← QQ] at HB HQ hmk ⊢
  have HQE : Hid (q = w.heap.size) := QQ
  clear QQ hmk
  go_loopw [11] (fun i wr => ∃ k : Nat, k ≤ n ∧ i = .int .i64 k ∧ Up Nul w wr ∧ ∃ y, Blk wr q y ∧ y.length = n ∧ ∀ u, u < k → y.getD u 0 = a + u) (fun i _ => n - (intOf i).toNat)
  case atStart => exact ⟨0, by omega, rfl, HU.out, _, HB.out, zer_length _, fun _ h => absurd h (Nat.not_lt_zero _)⟩
  case round =>
    clear HB HU
    obtain ⟨k, hk, rfl, hu, y, hb, hl, hy⟩ := hrel
    have HU := hid hu
    have HB := hid (And.intro hb (And.intro hl hy))
    clear hu hb hl hy
    by_cases hlt : k < n
    · have x0 := HB.out.1.cell k (by rw [HB.out.2.1]; exact hlt)
      have f0 := HB.out.1.froz k
      generalize y.getD k 0 = y0 at x0
      have hv : ((a : Int) + (k : Int)) % 256 = ((a + k : Nat) : Int) := by omega
      have hc : ((a + k : Nat) : Int) = (a : Int) + (k : Int) := by omega
      rw [hc] at hv
      go_wp2
      go_roundw
      case rel => exact ⟨k + 1, by omega, by go_num, HU.out.setCell (p := ⟨q, k, none⟩) (.inl (by show _ ≤ q; rw [HQE.out]; exact Nat.le_refl _)) _, _, (by have := HB.out.1.set k (a + k) (by omega); rwa [hc] at this), by rw [List.length_set]; exact HB.out.2.1, fun u hu => by
        rw [getD_set _ _ _ _ (by rw [HB.out.2.1]; exact hlt)]
        split
        · next e => rw [e]
        · exact HB.out.2.2 u (by omega)⟩
      case measure => simp [intOf]; omega
    · obtain rfl : n = k := by omega
      have hyd : y = ris a n := eq_tab HB.out.2.1 HB.out.2.2
      have HBB : Hid (Blk wr q (ris a n)) := by show Blk wr q _; rw [← hyd]; exact HB.out.1
      clear hyd HB
      go_wp2
      go_ret
      have e := HQE.out
      subst e
      exact ⟨rfl, HBB.out, HU.out⟩
/-- As the laws use it. -/
theorem risingL {w0 w : World} {FS : List Nat} (hs : LS w0 FS w) (a n : Nat) (n1 : 1 ≤ n) (h : a + n ≤ 200) :
    Calls Tryz.prog 32 #[.int .i64 a, .int .i64 n] w fun e w' => ∃ g, e = .returned (.slice (some ⟨g, 0, none⟩) n n) ∧ LR FS w' g 0 (ris a n) ∧ Nxt FS w w' := by
  refine (rising_any a n w h).mono ?_
  rintro e w' ⟨rfl, hb, hu⟩
  refine ⟨_, rfl, ⟨?_, hb.lt, hs.lt (Nat.le_refl _)⟩, hs.nul hu⟩
  have := hb.row 0 n (by rw [ris_length]; omega)
  rwa [List.drop_zero, List.take_of_length_le (by rw [ris_length]; omega)] at this
theorem ris_dst {a n b m : Nat} (h : a + n ≤ b) : Dst (ris a n ++ ris b m) := by
  intro i j hi hj e
  rw [List.length_append, ris_length, ris_length] at hi hj
  have at_ : ∀ t, t < n + m → (ris a n ++ ris b m).getD t 0 = if t < n then a + t else b + (t - n) := fun t ht => by
    split
    · next h => rw [← ris_at (a := a) h, List.getD_eq_getElem?_getD, List.getD_eq_getElem?_getD, List.getElem?_append_left (by rw [ris_length]; exact h)]
    · next h => rw [← ris_at (a := b) (show t - n < m by omega), List.getD_eq_getElem?_getD, List.getD_eq_getElem?_getD, List.getElem?_append_right (by rw [ris_length]; omega), ris_length]
  rw [at_ i hi, at_ j hj] at e
  split at e <;> split at e <;> omega
/-- The coefficients of the narrow code of colour t, and of the wide one. -/
abbrev narZ (t : Nat) : List Nat := coefZ 4 2 (ris (4 * t) 4) (ris 14 2)
abbrev widZ : List Nat := coefZ 14 4 (ris 0 14) (ris 14 4)

theorem noColour_any (t : Int) (w : World) : Calls Tryz.prog 35 #[.int .i64 t] w fun e w' => e = .returned (.bool (decide (t < 0 ∨ 3 ≤ t))) ∧ Up Nul w w' := by
  by_cases h : t < 0
  · go_enter Tryz.func35, Tryz.ntmps35
    go_wp2
    go_ret
    exact ⟨by simp [h], Up.refl _ _⟩
  · by_cases h2 : t < 3
    · have h3 : ¬ (3 : Int) ≤ t := by omega
      go_enter Tryz.func35, Tryz.ntmps35
      go_wp2
      go_ret
      exact ⟨by simp [h]; omega, Up.refl _ _⟩
    · have h3 : (3 : Int) ≤ t := by omega
      go_enter Tryz.func35, Tryz.ntmps35
      go_wp2
      go_ret
      exact ⟨by simp, Up.refl _ _⟩
theorem narrow_bad {w0 w : World} {FS : List Nat} (hs : LS w0 FS w) (f : Value) (t : Int) (h : t < 0 ∨ 3 ≤ t) :
    Calls Tryz.prog 20 #[f, .int .i64 t] w fun e w' => e = .returned (.tuple #[.pointer none, .int .i64 1]) ∧ Nxt FS w w' := by
  have H := hid (noColour_any t w)
  rw [show decide (t < 0 ∨ 3 ≤ t) = true from decide_eq_true h] at H
  have HS := hid hs
  clear h hs
  go_enter Tryz.func20, Tryz.ntmps20
  go_wp2_with fail
  refine H.out.mono ?_
  rintro e w1 ⟨rfl, u⟩
  have HU := hid (HS.out.nul u)
  clear u
  go_wp2
  go_ret2
  exact ⟨rfl, HU.out⟩
set_option maxRecDepth 100000 in
theorem narrowL {w0 w : World} {FS : List Nat} {F : Nat} (hs : LS w0 FS w) (hF : F ∈ FS) (t : Nat) (h : t < 3) :
    Calls Tryz.prog 20 #[.pointer (some ⟨F, 0, none⟩), .int .i64 t] w fun e w' => ∃ c pp pq sp sq, e = .returned (.tuple #[.pointer (some ⟨c, 0, none⟩), .int .i64 0]) ∧ CD FS w' c F 4 2 pp pq sp sq (narZ t) ∧ Nxt FS w w' := by
  have H := hid (noColour_any t w)
  rw [show decide ((t : Int) < 0 ∨ 3 ≤ (t : Int)) = false from decide_eq_false (by omega)] at H
  have HS := hid (And.intro hs hF)
  have e4 : wrap64 (4 * (t : Int)) = ((4 * t : Nat) : Int) := by unfold wrap64; omega
  obtain ⟨a, ha⟩ : ∃ a, Hid (4 * t = a) := ⟨_, rfl⟩
  have h14 : a + 4 ≤ 14 := by have := ha.out; omega
  have HN : Hid (narZ t = coefZ 4 2 (ris a 4) (ris 14 2)) := by show _ = _; rw [narZ, ha.out]
  rw [ha.out] at e4
  rw [HN.out]
  clear hs hF HN h ha
  go_enter Tryz.func20, Tryz.ntmps20
  go_wp2_with fail
  refine H.out.mono ?_
  rintro e w1 ⟨rfl, u⟩
  have H1 := hid (HS.out.1.nul u)
  clear u H
  go_wp2_with fail
  refine (risingL (HS.out.1.nxt H1.out) a 4 (by omega) (by omega)).mono ?_
  rintro e w2 ⟨g2, rfl, r2, n2⟩
  have H2 := hid (And.intro (H1.out.trans n2) r2)
  clear n2 r2
  go_wp2_with fail
  refine (risingL (HS.out.1.nxt H2.out.1) 14 2 (by omega) (by omega)).mono ?_
  rintro e w3 ⟨g3, rfl, r3, n3⟩
  have H3 := hid (And.intro (H2.out.1.trans n3) (And.intro (H2.out.2.nxt n3) r3))
  clear n3 r3
  go_wp2_with fail
  refine (new_code FS w0 w3 F g2 0 g3 0 4 2 4 2 (ris a 4) (ris 14 2) (HS.out.1.nxt H3.out.1) HS.out.2 H3.out.2.1 H3.out.2.2 (ris_length _ _) (ris_length _ _) (by omega) (by omega) (by omega) (by omega) (ris_dst (by omega))).mono ?_
  rintro e w4 ⟨c, pp, pq, sp, sq, rfl, hc, n4⟩
  have H4 := hid (And.intro hc (H3.out.1.trans n4))
  clear hc n4
  go_wp2
  go_ret2
  exact ⟨c, pp, pq, sp, sq, rfl, H4.out⟩
set_option maxRecDepth 100000 in
theorem wideL {w0 w : World} {FS : List Nat} {F : Nat} (hs : LS w0 FS w) (hF : F ∈ FS) :
    Calls Tryz.prog 11 #[.pointer (some ⟨F, 0, none⟩)] w fun e w' => ∃ c pp pq sp sq, e = .returned (.tuple #[.pointer (some ⟨c, 0, none⟩), .int .i64 0]) ∧ CD FS w' c F 14 4 pp pq sp sq widZ ∧ Nxt FS w w' := by
  have HS := hid (And.intro hs hF)
  clear hs hF
  go_enter Tryz.func11, Tryz.ntmps11
  go_wp2_with fail
  refine (risingL HS.out.1 0 14 (by omega) (by omega)).mono ?_
  rintro e w2 ⟨g2, rfl, r2, n2⟩
  have H2 := hid (And.intro n2 r2)
  clear n2 r2
  go_wp2_with fail
  refine (risingL (HS.out.1.nxt H2.out.1) 14 4 (by omega) (by omega)).mono ?_
  rintro e w3 ⟨g3, rfl, r3, n3⟩
  have H3 := hid (And.intro (H2.out.1.trans n3) (And.intro (H2.out.2.nxt n3) r3))
  clear n3 r3
  go_wp2_with fail
  refine (new_code FS w0 w3 F g2 0 g3 0 14 4 14 4 (ris 0 14) (ris 14 4) (HS.out.1.nxt H3.out.1) HS.out.2 H3.out.2.1 H3.out.2.2 (ris_length _ _) (ris_length _ _) (by omega) (by omega) (by omega) (by omega) (ris_dst (by omega))).mono ?_
  rintro e w4 ⟨c, pp, pq, sp, sq, rfl, hc, n4⟩
  have H4 := hid (And.intro hc (H3.out.1.trans n4))
  clear hc n4
  go_wp2
  go_ret2
  exact ⟨c, pp, pq, sp, sq, rfl, H4.out⟩
end Go.Proofs.YtmaffnadmfphpaaGreat
