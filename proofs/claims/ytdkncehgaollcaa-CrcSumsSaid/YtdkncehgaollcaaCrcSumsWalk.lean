/- The law CrcSums, walked. -/
import Derived.Test.YtdkncehgaollcaaCrcTellsWalk
import Derived.RegionTactic
import Derived.ChangeAlike
import Derived.WalkLawsBesides
namespace Go.Proofs.Ytdkncehgaollcaa
open Go.RowKit
set_option linter.unusedVariables false

theorem u32_xor_sum {a b : Nat} (ha : a < 4294967296) (hb : b < 4294967296) : bits .xor .u32 (a : Int) (b : Int) = ((a ^^^ b : Nat) : Int) := u32_xor_nat a b ha hb
theorem xr_tab {y z : List Nat} {n : Nat} (hy : y.length = n) (hz : z.length = n) : CrcM.xr y z = tab n fun i => y.getD i 0 ^^^ z.getD i 0 :=
  eq_tab (by rw [CrcM.xr_length (by omega), hy]) fun i hi => by
    simp [CrcM.xr, List.getD_eq_getElem?_getD, List.getElem?_zipWith, List.getElem?_eq_getElem (show i < y.length by omega), List.getElem?_eq_getElem (show i < z.length by omega)]

theorem tab_congr' {n : Nat} {f g : Nat → Nat} (h : ∀ i, i < n → f i = g i) : tab n f = tab n g := List.map_congr_left fun i hi => h i (List.mem_range.1 hi)

set_option maxRecDepth 100000 in
set_option maxHeartbeats 1600000 in
theorem sums_short (a1 a2 : Option Addr) (n1 c1 n2 c2 n : Nat) (z1 z2 : List Nat) (w : World) (hn : n = min n1 n2) (h : n ≤ 500) (q1 : n1 ≤ c1) (q2 : n2 ≤ c2) (h1 : SlN w a1 n1 z1) (h2 : SlN w a2 n2 z2) :
    Calls Try.prog 6 #[.slice a1 n1 c1, .slice a2 n2 c2] w fun e w' => e = .returned (.bool true) ∧ Below w.heap.size w w' := by
  have hmin : min (n1 : Int) (n2 : Int) = (n : Int) := by omega
  have m1 : n ≤ n1 := by omega
  have m2 : n ≤ n2 := by omega
  have hmk := fun W => make_bytes W n (by omega)
  have HP1 := hid (h1.upto n (by omega))
  have HP2 := hid (h2.upto n (by omega))
  have HU1 : Hid (∀ W, (Instr.slice 22 (.slice a1 n1 c1) none (some (.int .i64 n)) none).run Try.prog W = .ok (.slice a1 n c1) W) := fun W => run_upto a1 n1 c1 n (by omega) q1 W
  have HU2 : Hid (∀ W, (Instr.slice 22 (.slice a2 n2 c2) none (some (.int .i64 n)) none).run Try.prog W = .ok (.slice a2 n c2) W) := fun W => run_upto a2 n2 c2 n (by omega) q2 W
  have HR : Hid (∀ k, k < n → ∃ b1 o1 b2 o2, a1 = some ⟨b1, o1, none⟩ ∧ b1 < w.heap.size ∧ Row w b1 o1 z1 ∧ a2 = some ⟨b2, o2, none⟩ ∧ b2 < w.heap.size ∧ Row w b2 o2 z2) := fun k hk => by
    rcases h1.row with e | ⟨b1, o1, e1, l1, r1⟩
    · omega
    · rcases h2.row with e | ⟨b2, o2, e2, l2, r2⟩
      · omega
      · exact ⟨b1, o1, b2, o2, e1, l1, r1, e2, l2, r2⟩
  have HL1 := hid h1.len
  have HL2 := hid h2.len
  have hle := h1.le
  have hle2 := h2.le
  have HS : Hid _ := Part.start w n (fun i => z1.getD i 0 ^^^ z2.getD i 0)
  clear hn h1 h2
  go_enter Try.func6, Try.ntmps6
  go_wp2
  go_loopw [7] (fun i wr => ∃ k : Nat, k ≤ n ∧ i = .int .i64 k ∧ ∃ y, Part w w.heap.size n k (fun i => z1.getD i 0 ^^^ z2.getD i 0) wr y) (fun i _ => n - (intOf i).toNat)
  case atStart => exact ⟨0, by omega, rfl, _, HS.out⟩
  case round =>
    clear HS
    obtain ⟨k, hk, rfl, y, hy⟩ := hrel
    by_cases hlt : k < n
    · obtain ⟨b1, o1, b2, o2, rfl, l1, r1, rfl, l2, r2⟩ := HR.out k hlt
      have g1 := (r1.up hy.up l1 id).cells k (by rw [HL1.out]; omega)
      have g2 := (r2.up hy.up l2 id).cells k (by rw [HL2.out]; omega)
      have e1 := r1.small k
      have e2 := r2.small k
      have g3 := hy.blk.cell k (by rw [hy.len]; exact hlt)
      have g4 := hy.blk.froz k
      have HX : Hid ((fun i => z1.getD i 0 ^^^ z2.getD i 0) k = z1.getD k 0 ^^^ z2.getD k 0) := rfl
      obtain ⟨x1, X1⟩ : ∃ x, Hid (z1.getD k 0 = x) := ⟨_, rfl⟩
      obtain ⟨x2, X2⟩ : ∃ x, Hid (z2.getD k 0 = x) := ⟨_, rfl⟩
      rw [X1.out] at g1 e1 HX
      rw [X2.out] at g2 e2 HX
      have hx := u8_xor_nat x1 x2 e1 e2
      have hx8 : x1 ^^^ x2 < 256 := Nat.xor_lt_two_pow (n := 8) e1 e2
      obtain ⟨x, X⟩ : ∃ x, Hid (x1 ^^^ x2 = x) := ⟨_, rfl⟩
      rw [X.out] at hx hx8 HX
      have HY := hid hy
      generalize y.getD k 0 = u at g3
      clear hy r1 r2
      have i1 : (0 : Int) ≤ (k : Int) := by omega
      have i2 : (k : Int) < (n : Int) := by omega
      have i3 : (k : Int) < (n1 : Int) := by omega
      have i4 : (k : Int) < (n2 : Int) := by omega
      go_wp2
      go_region
      all_goals
        go_wp2
        go_roundw
        case rel => exact ⟨k + 1, by omega, by go_num, _, HY.out.next (Nat.le_refl _) hlt HX.out hx8 1⟩
        case measure => simp [intOf]; omega
    · obtain rfl : k = n := by omega
      have HB := hid hy.done
      have HI := hid hy.up
      clear hy
      have l1 := CrcM.sum_lt HP1.out.small
      have l2 := CrcM.sum_lt HP2.out.small
      have l3 := CrcM.sum_lt (zer_small k)
      have HC := hid (SlN.blk HB.out (by rw [tab_length]; omega))
      rw [tab_length] at HC
      have v4 := CrcM.sums (y := z1.take k) (z := z2.take k) (by rw [HP1.out.len, HP2.out.len])
      have e4 : CrcM.xr (z1.take k) (z2.take k) = tab k fun i => z1.getD i 0 ^^^ z2.getD i 0 := by
        rw [xr_tab HP1.out.len HP2.out.len]
        exact tab_congr' fun i hi => by simp [List.getD_eq_getElem?_getD, hi]
      rw [e4, HP1.out.len] at v4
      have V4 : Hid (CrcM.sum (tab k fun i => z1.getD i 0 ^^^ z2.getD i 0) = CrcM.sum (z1.take k) ^^^ CrcM.sum (z2.take k) ^^^ CrcM.sum (zer k)) := v4.symm
      clear v4 e4
      obtain ⟨x1, X1⟩ : ∃ x, Hid (CrcM.sum (z1.take k) = x) := ⟨_, rfl⟩
      obtain ⟨x2, X2⟩ : ∃ x, Hid (CrcM.sum (z2.take k) = x) := ⟨_, rfl⟩
      obtain ⟨x3, X3⟩ : ∃ x, Hid (CrcM.sum (zer k) = x) := ⟨_, rfl⟩
      rw [X1.out] at l1 V4
      rw [X2.out] at l2 V4
      rw [X3.out] at l3 V4
      have f1 := u32_xor_sum l1 l2
      have l4 := CrcM.xor_lt l1 l2
      obtain ⟨x4, X4⟩ : ∃ x, Hid (x1 ^^^ x2 = x) := ⟨_, rfl⟩
      rw [X4.out] at f1 l4 V4
      have f2 := u32_xor_sum l4 l3
      have HN := hid (fun W : World => SlN.blk (Blk.new W (zer k) (zer_small k)) (by rw [zer_length]; omega))
      rw [zer_length] at HN
      obtain ⟨x5, X5⟩ : ∃ x, Hid (x4 ^^^ x3 = x) := ⟨_, rfl⟩
      rw [X5.out] at f2 V4
      have hu1 := HU1.out
      have hu2 := HU2.out
      clear HL1 HL2 HU1 HU2 HR
      obtain ⟨C, HCC⟩ : ∃ c, Hid (w.heap.size = c) := ⟨_, rfl⟩
      rw [HCC.out] at HC HB ⊢
      generalize wr = w1 at *
      have HQ1 := hid (HP1.out.next HI.out)
      have HQ2 := hid (HP2.out.next HI.out)
      have HD : Hid (Up Nul w1 w1.drew) := (Up.refl Nul w1).drew
      go_wp2_with fail
      go_region_with ((first
        | (go_at_call 9; (with_reducible refine (sum_any a1 k c1 (z1.take k) _ (HQ1.out.next ?_)).mono ?_); (focus (first | exact HD.out | exact HD.out.alloc _)); rintro e wa ⟨rfl, ka⟩; rw [X1.out]; have HA := hid (show Up Nul w1 wa from by first | exact HD.out.trans ka | exact (HD.out.alloc _).trans ka))
        | (go_at_call 9; (with_reducible refine (sum_any a2 k c2 (z2.take k) _ (HQ2.out.next ?_)).mono ?_); (focus (first | exact HA.out | exact HA.out.alloc _)); rintro e wb ⟨rfl, kb⟩; rw [X2.out]; have HB2 := hid (show Up Nul w1 wb from by first | exact HA.out.trans kb | exact (HA.out.alloc _).trans kb))
        | (go_at_call 9; (with_reducible refine (sum_any (some ⟨C, 0, none⟩) k k (tab k fun i => z1.getD i 0 ^^^ z2.getD i 0) _ (HC.out.next HC2.out)).mono ?_); rintro e wd ⟨rfl, kd⟩; rw [V4.out]; have HE := hid (HC2.out.trans kd))
        | (go_at_call 9; (with_reducible refine (sum_any _ k k (zer k) _ ?_).mono ?_); (focus (first | exact HN.out wb | exact (HN.out wa).next kb | exact ((HN.out w1.drew).next ka).next kb)); rintro e wc ⟨rfl, kc⟩; rw [X3.out]; have HC2 := hid (show Up Nul w1 wc from by first | exact HB2.out.trans kc | exact (HB2.out.alloc _).trans kc))
        | (go_at_call 7; (with_reducible refine (awake_any _).mono ?_); rintro e wf ⟨rfl, kf⟩; have HF := hid (HE.out.trans kf))))
      all_goals
        go_wp2
        go_ret
        exact ⟨rfl, (HI.out.trans HF.out).below (Nat.le_refl _) fun _ _ => id⟩

theorem sums_long (a1 a2 : Option Addr) (n1 c1 n2 c2 n : Nat) (w : World) (hn : n = min n1 n2) (h : 500 < n) :
    Calls Try.prog 6 #[.slice a1 n1 c1, .slice a2 n2 c2] w fun e w' => e = .returned (.bool true) ∧ Below w.heap.size w w' := by
  have hmin : min (n1 : Int) (n2 : Int) = (n : Int) := by omega
  clear hn
  go_enter Try.func6, Try.ntmps6
  go_wp2_with fail
  refine (awake_any _).mono ?_
  rintro e w2 ⟨rfl, k2⟩
  go_wp2
  go_ret
  exact ⟨rfl, k2.below (Nat.le_refl _) fun _ _ => id⟩
theorem sums_walk (a0 : Option Addr) (len0 cap0 : Nat) (z0 : List Int) (a1 : Option Addr) (len1 cap1 : Nat) (z1 : List Int) (w : World) (w0 : CameIn w a0 len0 cap0 z0) (w1 : CameIn w a1 len1 cap1 z1) :
    Calls Try.prog 6 #[.slice a0 len0 cap0, .slice a1 len1 cap1] w fun e w' => e = .returned (.bool true) ∧ Below w.heap.size w w' := by
  by_cases h : 500 < min len0 len1
  · exact sums_long a0 a1 len0 cap0 len1 cap1 _ w rfl h
  · obtain ⟨y0, h0⟩ := SlN.of w0
    obtain ⟨y1, h1⟩ := SlN.of w1
    exact sums_short a0 a1 len0 cap0 len1 cap1 _ y0 y1 w rfl (by omega) (came_cap w0) (came_cap w1) h0 h1
end Go.Proofs.Ytdkncehgaollcaa
