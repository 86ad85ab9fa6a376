/- The law GfOnce, walked. -/
import Derived.Test.YtgebniihbcgmgaaGfDot
namespace Go.Proofs.Ytgebniihbcgmgaa
open Go.RowKit
set_option linter.unusedVariables false

theorem Fresh.of_below {b B : Nat} {w w' : World} (h : Fresh b w) (k : Below B w w') (hb : b < B) : Fresh b w' := by
  have hc : ∀ j, w'.cell? ⟨b, j, none⟩ = w.cell? ⟨b, j, none⟩ := fun j => k.cell (p := ⟨b, j, none⟩) hb
  exact ⟨⟨Nat.lt_of_lt_of_le h.raw.lt k.size, fun j hj => by rw [hc]; exact h.raw.cells j hj, fun j => by rw [k.frozen (p := ⟨b, j, none⟩) hb]; exact h.raw.fr j⟩, by rw [hc]; exact h.lock, by rw [hc]; exact h.done, by rw [hc]; exact h.made⟩

/-- Two Fields, at the first two blocks of the call's own. -/
structure TwoFlds (w wr : World) : Prop where
  below : Below w.heap.size w wr
  size : wr.heap.size = w.heap.size + 2
  f : Fld w.heap.size wr
  g : Fld (w.heap.size + 1) wr
theorem TwoFlds.keepF {w w1 w2 : World} (h : TwoFlds w w1) (k : Kept w.heap.size w1 w2) : TwoFlds w w2 :=
  ⟨h.below.trans (k.below (Nat.le_refl _)), k.1.size.trans h.size, k.2, h.g.of_out k.1 (by omega)⟩
theorem TwoFlds.keepG {w w1 w2 : World} (h : TwoFlds w w1) (k : Kept (w.heap.size + 1) w1 w2) : TwoFlds w w2 :=
  ⟨h.below.trans (k.below (by omega)), k.1.size.trans h.size, h.f.of_out k.1 (by omega), k.2⟩
theorem TwoFlds.drew {w w1 : World} (h : TwoFlds w w1) : TwoFlds w w1.drew := ⟨h.below.drew, h.size, h.f.drew, h.g.drew⟩
theorem TwoFlds.cell {w w1 : World} (h : TwoFlds w w1) {p : Addr} {v : Value} (hp : w.cell? p = some v) : w1.cell? p = some v := by
  have hb : p.block < w.heap.size := by
    unfold World.cell? at hp
    rcases Nat.lt_or_ge p.block w.heap.size with h' | h'
    · exact h'
    · rw [Array.getElem?_eq_none h'] at hp
      cases hp
  rw [h.below.cell hb]; exact hp

theorem TwoFlds.row {w w1 : World} (h : TwoFlds w w1) {b o : Nat} {z : List Nat} (r : Row w b o z) : Row w1 b o z := ⟨fun i hi => h.cell (r.cells i hi), r.small⟩

theorem made_any (b : Nat) (w : World) (hf : Fld b w) :
    Calls Try.prog 20 #[.pointer (some ⟨b, 0, none⟩)] w fun e w' => (e = .returned (.int .i64 0) ∨ e = .returned (.int .i64 1)) ∧ w = w' := by
  rcases hf with h | h
  · exact (made_fresh b w h).mono fun _ _ ⟨h1, h2⟩ => ⟨.inl h1, h2⟩
  · exact (made_full b w h).mono fun _ _ ⟨h1, h2⟩ => ⟨.inr h1, h2⟩

set_option maxRecDepth 100000 in
set_option maxHeartbeats 800000 in
attribute [local go_sem ↓] Go.wp_at_zero Go.wp_at_succ in
theorem once_row (b0 o0 cap : Nat) (z : List Nat) (w : World) (r : Row w b0 o0 z) (hb : b0 < w.heap.size) (hm : z.length ≤ 9223372036854775807) :
    Calls Try.prog 8 #[.slice (some ⟨b0, o0, none⟩) z.length cap] w fun e w' => e = .returned (.bool true) ∧ Below w.heap.size w w' := by
  have R : Hid _ := r
  clear r
  go_enter Try.func8, Try.ntmps8
  go_wp2_with fail
  refine (new_any _).mono ?_
  rintro e w1 ⟨rfl, k1⟩
  have hs := k1.size
  go_wp2_with fail
  refine (new_any _).mono ?_
  rintro e w2 ⟨rfl, k2⟩
  have hfr : Fresh w.heap.size w2 := k1.fresh.of_below k2.below (by omega)
  have ht : TwoFlds w w2 := ⟨k1.below.trans (k2.below.mono (by omega)), by rw [k2.size, hs], .inl hfr, by have := k2.fld; rw [hs] at this; exact this⟩
  have HT : Hid _ := ht
  clear ht
  go_wp2_with fail
  refine (made_fresh _ _ hfr).mono ?_
  rintro e w3 ⟨rfl, rfl⟩
  clear hfr
  go_wp2_with fail
  go_loopw [5] (fun i wr => ∃ k : Nat, k ≤ 40 ∧ i = .int .i64 k ∧ TwoFlds w wr) (fun i _ => 40 - (intOf i).toNat)
  case atStart => exact ⟨0, by omega, rfl, HT.out⟩
  case round =>
    obtain ⟨k, hk, rfl, hinv⟩ := hrel
    by_cases hlt : k + 1 < z.length
    · by_cases h40 : k < 40
      · obtain ⟨x1, X1⟩ : ∃ x, Hid (z.getD k 0 = x) := ⟨_, rfl⟩
        obtain ⟨x2, X2⟩ : ∃ x, Hid (z.getD (k + 1) 0 = x) := ⟨_, rfl⟩
        have g1 : x1 < 256 := by rw [← X1.out]; exact R.out.small k
        have g2 : x2 < 256 := by rw [← X2.out]; exact R.out.small (k + 1)
        have hc1 : wr.cell? ⟨b0, o0 + k, none⟩ = some (.int .u8 x1) := by rw [← X1.out]; exact hinv.cell (R.out.cells k (by omega))
        have hc2 : wr.cell? ⟨b0, o0 + (k + 1), none⟩ = some (.int .u8 x2) := by rw [← X2.out]; exact hinv.cell (R.out.cells (k + 1) (by omega))
        have HC1 : Hid (w.cell? ⟨b0, o0 + k, none⟩ = some (.int .u8 x1)) := by have := R.out.cells k (by omega); rw [X1.out] at this; exact this
        have HC2 : Hid (w.cell? ⟨b0, o0 + (k + 1), none⟩ = some (.int .u8 x2)) := by have := R.out.cells (k + 1) (by omega); rw [X2.out] at this; exact this
        have i1 : (0 : Int) ≤ (k : Int) := by omega
        have i2 : (k : Int) < (z.length : Int) := by omega
        have i3 : (k : Int) + 1 < (z.length : Int) := by omega
        have i4 : (0 : Int) ≤ (k : Int) + 1 := by omega
        have i5 : IntKind.i64.wrap ((k : Int) + 1) = (k : Int) + 1 := IntWalk.i64_in _ (by omega)
        have i6 : ((k : Int) + 1).toNat = k + 1 := by omega
        have HI : Hid _ := hinv
        go_wp2
        go_region_held3 (fun w' => TwoFlds w w' ∧ w'.cell? ⟨b0, o0 + k, none⟩ = some (.int .u8 x1) ∧ w'.cell? ⟨b0, o0 + (k + 1), none⟩ = some (.int .u8 x2)) (first | exact ⟨by assumption, by assumption, by assumption⟩ | exact ⟨HI.out.drew, hc1, hc2⟩ | go_keep)
          ((first | (go_at_call 10; (with_reducible refine (mul_any (w.heap.size + 1) x1 x2 _ ?_ g1 g2).mono ?_); (focus (first | exact HI.out.drew.g | exact TwoFlds.g (by assumption))); rintro e w4 ⟨rfl, k4⟩; have oi : TwoFlds w w4 := (by first | exact TwoFlds.keepG HI.out.drew k4 | exact TwoFlds.keepG (by assumption) k4); have q1 := oi.cell HC1.out; have q2 := oi.cell HC2.out; clear k4) | (go_at_call 10; (with_reducible refine (mul_any w.heap.size x1 x2 _ ?_ g1 g2).mono ?_); (focus (first | exact HI.out.drew.f | exact TwoFlds.f (by assumption))); rintro e w4 ⟨rfl, k4⟩; have oi : TwoFlds w w4 := (by first | exact TwoFlds.keepF HI.out.drew k4 | exact TwoFlds.keepF (by assumption) k4); have q1 := oi.cell HC1.out; have q2 := oi.cell HC2.out; clear k4)))
        clear q1 q2
        go_wp2
        go_roundw
        case rel => exact ⟨k + 1, by omega, by go_num, oi⟩
        case measure => simp [intOf]; omega
      · obtain rfl : k = 40 := by omega
        go_wp2_with fail
        refine (pow_any w.heap.size 3 5 _ hinv.f (by omega)).mono ?_
        rintro e w4 ⟨rfl, k4⟩
        have t4 := hinv.keepF k4
        have T4 : Hid _ := t4
        clear k4 hinv t4
        go_wp2_with fail
        refine (dot_rows w.heap.size b0 o0 cap b0 o0 cap z z _ T4.out.f (T4.out.row R.out) (T4.out.row R.out) (by omega) (by omega) hm hm).mono ?_
        rintro e w5 ⟨rfl, k5⟩
        have T5 : Hid _ := T4.out.keepF k5
        clear k5
        go_wp2_with fail
        rcases T5.out.f with hF | hF
        · refine (made_fresh _ _ hF).mono ?_
          rintro e w6 ⟨rfl, rfl⟩
          go_wp2_with fail
          refine (made_fresh _ _ hF).mono ?_
          rintro e w6 ⟨rfl, rfl⟩
          go_wp2_with fail
          refine (awake_any _).mono ?_
          rintro e w7 ⟨rfl, hb9⟩
          go_wp2
          go_ret
          exact ⟨rfl, T5.out.below.trans (hb9.mono T5.out.below.size)⟩
        · refine (made_full _ _ hF).mono ?_
          rintro e w6 ⟨rfl, rfl⟩
          go_wp2_with fail
          refine (made_full _ _ hF).mono ?_
          rintro e w6 ⟨rfl, rfl⟩
          go_wp2_with fail
          refine (awake_any _).mono ?_
          rintro e w7 ⟨rfl, hb9⟩
          go_wp2
          go_ret
          exact ⟨rfl, T5.out.below.trans (hb9.mono T5.out.below.size)⟩
    · have hn : ¬ (1 : Int) < (z.length : Int) - (k : Int) := by omega
      go_wp2_with fail
      refine (pow_any w.heap.size 3 5 _ hinv.f (by omega)).mono ?_
      rintro e w4 ⟨rfl, k4⟩
      have t4 := hinv.keepF k4
      have T4 : Hid _ := t4
      clear k4 hinv t4
      go_wp2_with fail
      refine (dot_rows w.heap.size b0 o0 cap b0 o0 cap z z _ T4.out.f (T4.out.row R.out) (T4.out.row R.out) (by omega) (by omega) hm hm).mono ?_
      rintro e w5 ⟨rfl, k5⟩
      have T5 : Hid _ := T4.out.keepF k5
      clear k5
      go_wp2_with fail
      rcases T5.out.f with hF | hF
      · refine (made_fresh _ _ hF).mono ?_
        rintro e w6 ⟨rfl, rfl⟩
        go_wp2_with fail
        refine (made_fresh _ _ hF).mono ?_
        rintro e w6 ⟨rfl, rfl⟩
        go_wp2_with fail
        refine (awake_any _).mono ?_
        rintro e w7 ⟨rfl, hb9⟩
        go_wp2
        go_ret
        exact ⟨rfl, T5.out.below.trans (hb9.mono T5.out.below.size)⟩
      · refine (made_full _ _ hF).mono ?_
        rintro e w6 ⟨rfl, rfl⟩
        go_wp2_with fail
        refine (made_full _ _ hF).mono ?_
        rintro e w6 ⟨rfl, rfl⟩
        go_wp2_with fail
        refine (awake_any _).mono ?_
        rintro e w7 ⟨rfl, hb9⟩
        go_wp2
        go_ret
        exact ⟨rfl, T5.out.below.trans (hb9.mono T5.out.below.size)⟩

set_option maxRecDepth 100000 in
set_option maxHeartbeats 800000 in
theorem once_none (a : Option Addr) (cap : Nat) (w : World) :
    Calls Try.prog 8 #[.slice a 0 cap] w fun e w' => e = .returned (.bool true) ∧ Below w.heap.size w w' := by
  go_enter Try.func8, Try.ntmps8
  go_wp2_with fail
  refine (new_any _).mono ?_
  rintro e w1 ⟨rfl, k1⟩
  have hs := k1.size
  go_wp2_with fail
  refine (new_any _).mono ?_
  rintro e w2 ⟨rfl, k2⟩
  have hfr : Fresh w.heap.size w2 := k1.fresh.of_below k2.below (by omega)
  have hinv : TwoFlds w w2 := ⟨k1.below.trans (k2.below.mono (by omega)), by rw [k2.size, hs], .inl hfr, by have := k2.fld; rw [hs] at this; exact this⟩
  go_wp2_with fail
  refine (made_fresh _ _ hfr).mono ?_
  rintro e w3 ⟨rfl, rfl⟩
  clear hfr
  go_wp2_with fail
  refine wp_loop_rounds 1 ?_
  rw [rounds_succ]
  go_wp2_with fail
  refine (pow_any w.heap.size 3 5 _ hinv.f (by omega)).mono ?_
  rintro e w4 ⟨rfl, k4⟩
  have t4 := hinv.keepF k4
  have T4 : Hid _ := t4
  clear k4 hinv t4
  go_wp2_with fail
  refine (dot_none_r w.heap.size 0 cap a _ T4.out.f (by omega) a cap).mono ?_
  rintro e w5 ⟨rfl, k5⟩
  have T5 : Hid _ := T4.out.keepF k5
  clear k5
  go_wp2_with fail
  rcases T5.out.f with hF | hF
  · refine (made_fresh _ _ hF).mono ?_
    rintro e w6 ⟨rfl, rfl⟩
    go_wp2_with fail
    refine (made_fresh _ _ hF).mono ?_
    rintro e w6 ⟨rfl, rfl⟩
    go_wp2_with fail
    refine (awake_any _).mono ?_
    rintro e w7 ⟨rfl, hb9⟩
    go_wp2
    go_ret
    exact ⟨rfl, T5.out.below.trans (hb9.mono T5.out.below.size)⟩
  · refine (made_full _ _ hF).mono ?_
    rintro e w6 ⟨rfl, rfl⟩
    go_wp2_with fail
    refine (made_full _ _ hF).mono ?_
    rintro e w6 ⟨rfl, rfl⟩
    go_wp2_with fail
    refine (awake_any _).mono ?_
    rintro e w7 ⟨rfl, hb9⟩
    go_wp2
    go_ret
    exact ⟨rfl, T5.out.below.trans (hb9.mono T5.out.below.size)⟩

end Go.Proofs.Ytgebniihbcgmgaa
