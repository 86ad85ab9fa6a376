/- 'Pick' of a Matrix. -/
import Derived.Test.YtebglmfdchfplaaMatInvert
namespace Go.Proofs.Ytebglmfdchfplaa
open Go.RowKit
set_option linter.unusedVariables false

/-- A row of ints. -/
def RowI (w : World) (b o n : Nat) (f : Nat → Int) : Prop := ∀ i, i < n → w.cell? ⟨b, o + i, none⟩ = some (.int .i64 (f i))
theorem RowI.up {S : Nat → Prop} {w w' : World} {b o n : Nat} {f : Nat → Int} (h : RowI w b o n f) (u : Up S w w') (hb : b < w.heap.size) (hs : ¬ S b) : RowI w' b o n f :=
  fun i hi => (u.cell (p := ⟨b, o + i, none⟩) hb hs).trans (h i hi)

theorem none_yes (p A r : Nat) (x : Int) (w : World) (hA : w.cell? ⟨A, 0, none⟩ = some (.pointer (some ⟨p, 0, none⟩))) (hr : w.cell? ⟨p, 1, none⟩ = some (.int .i64 r)) (hx : x < 0 ∨ (r : Int) ≤ x) :
    Calls Try.prog 73 #[.int .i64 x, .pointer (some ⟨A, 0, none⟩)] w fun e w' => e = .returned (.bool true) ∧ w' = w := by
  by_cases h0 : x < 0
  · clear hx
    go_enter Try.func73, Try.ntmps73
    go_wp2
    go_ret
    exact ⟨rfl, rfl⟩
  · have h1 : (r : Int) ≤ x := by omega
    clear hx
    go_enter Try.func73, Try.ntmps73
    go_wp2
    go_ret
    exact ⟨rfl, rfl⟩
theorem none_no (p A r : Nat) (x : Int) (w : World) (hA : w.cell? ⟨A, 0, none⟩ = some (.pointer (some ⟨p, 0, none⟩))) (hr : w.cell? ⟨p, 1, none⟩ = some (.int .i64 r)) (h0 : 0 ≤ x) (h1 : x < r) :
    Calls Try.prog 73 #[.int .i64 x, .pointer (some ⟨A, 0, none⟩)] w fun e w' => e = .returned (.bool false) ∧ w' = w := by
  go_enter Try.func73, Try.ntmps73
  go_wp2
  go_ret
  have e : (decide (x < 0) || decide ((r : Int) ≤ x)) = false := by simp; omega
  exact ⟨congrArg (fun b => Ending.returned (.bool b)) e, rfl⟩

/-- A row that is none. -/
def Bad (r : Nat) (x : Int) : Prop := x < 0 ∨ (r : Int) ≤ x
set_option maxHeartbeats 400000 in
theorem indexI_any (p A r b o n cap : Nat) (f : Nat → Int) (w : World) (hA : w.cell? ⟨A, 0, none⟩ = some (.pointer (some ⟨p, 0, none⟩))) (hr : w.cell? ⟨p, 1, none⟩ = some (.int .i64 r)) (hf : RowI w b o n f) (hn : n ≤ 9223372036854775807) :
    Calls Try.prog 82 #[.slice (some ⟨b, o, none⟩) n cap, .func (.func 73) #[] #[.pointer (some ⟨A, 0, none⟩)]] w
      fun e w' => (∃ x : Int, e = .returned (.int .i64 x) ∧ ((0 ≤ x ∧ ∃ i, i < n ∧ Bad r (f i)) ∨ (x < 0 ∧ ∀ i, i < n → ¬ Bad r (f i)))) ∧ w' = w := by
  have HF := hid hf
  clear hf
  go_enter Try.func82, Try.ntmps82
  go_wp2
  go_loopw [8] (fun i wr => ∃ k : Nat, k ≤ n ∧ i = .int .i64 k ∧ wr = w ∧ ∀ i, i < k → ¬ Bad r (f i)) (fun i _ => n - (intOf i).toNat)
  case atStart => exact ⟨0, by omega, rfl, rfl, fun _ h => absurd h (Nat.not_lt_zero _)⟩
  case round =>
    obtain ⟨k, hk, rfl, rfl, hg⟩ := hrel
    have HG := hid hg
    clear hg
    by_cases hlt : k < n
    · have hc := HF.out k hlt
      obtain ⟨x, X⟩ : ∃ x, Hid (f k = x) := ⟨_, rfl⟩
      rw [X.out] at hc
      by_cases hb : x < 0 ∨ (r : Int) ≤ x
      · have HB := hid hb
        clear hb
        go_wp2_with ((go_at_call 73; (with_reducible refine (none_yes p A r x _ hA hr HB.out).mono ?_); rintro e w1 ⟨rfl, rfl⟩))
        go_ret
        exact ⟨⟨_, rfl, .inl ⟨by omega, k, hlt, by rw [X.out]; exact HB.out⟩⟩, rfl⟩
      · have h0 : 0 ≤ x := by omega
        have h1 : x < r := by omega
        clear hb
        go_wp2_with ((go_at_call 73; (with_reducible refine (none_no p A r x _ hA hr h0 h1).mono ?_); rintro e w1 ⟨rfl, rfl⟩))
        go_roundw
        case rel => exact ⟨k + 1, by omega, by go_num, trivial, fun i hi => by
          by_cases e : i = k
          · rw [e, X.out]; unfold Bad; omega
          · exact HG.out i (by omega)⟩
        case measure => simp [intOf]; omega
    · obtain rfl : n = k := by omega
      go_wp2
      go_ret
      exact ⟨⟨_, rfl, .inr ⟨by omega, HG.out⟩⟩, rfl⟩
theorem indexI_none (A cap : Nat) (a : Option Addr) (w : World) :
    Calls Try.prog 82 #[.slice a 0 cap, .func (.func 73) #[] #[.pointer (some ⟨A, 0, none⟩)]] w fun e w' => e = .returned (.int .i64 (-1)) ∧ w' = w := by
  go_enter Try.func82, Try.ntmps82
  go_wp2
  refine wp_loop_rounds 1 ?_
  rw [rounds_succ]
  go_wp2
  go_ret
  exact ⟨rfl, rfl⟩
theorem contains_any (p A r b o n cap : Nat) (f : Nat → Int) (w : World) (hA : w.cell? ⟨A, 0, none⟩ = some (.pointer (some ⟨p, 0, none⟩))) (hr : w.cell? ⟨p, 1, none⟩ = some (.int .i64 r)) (hf : RowI w b o n f) (hn : n ≤ 9223372036854775807) :
    Calls Try.prog 74 #[.slice (some ⟨b, o, none⟩) n cap, .func (.func 73) #[] #[.pointer (some ⟨A, 0, none⟩)]] w
      fun e w' => ((e = .returned (.bool true) ∧ ∃ i, i < n ∧ Bad r (f i)) ∨ (e = .returned (.bool false) ∧ ∀ i, i < n → ¬ Bad r (f i))) ∧ w' = w := by
  have H := hid (indexI_any p A r b o n cap f w hA hr hf hn)
  clear hA hr hf hn
  go_enter Try.func74, Try.ntmps74
  go_wp2_with fail
  refine H.out.mono ?_
  rintro e w1 ⟨⟨x, rfl, ⟨h0, hb⟩ | ⟨h0, hb⟩⟩, rfl⟩
  · have HB := hid hb
    clear hb
    go_wp2
    go_ret
    exact ⟨.inl ⟨by simp, HB.out⟩, rfl⟩
  · have HB := hid hb
    have h1 : ¬ 0 ≤ x := by omega
    clear hb
    go_wp2
    go_ret
    exact ⟨.inr ⟨by simp [h1], HB.out⟩, rfl⟩
theorem contains_none (A cap : Nat) (a : Option Addr) (w : World) :
    Calls Try.prog 74 #[.slice a 0 cap, .func (.func 73) #[] #[.pointer (some ⟨A, 0, none⟩)]] w fun e w' => e = .returned (.bool false) ∧ w' = w := by
  go_enter Try.func74, Try.ntmps74
  go_wp2_with ((go_at_call 82; (with_reducible refine (indexI_none A cap a _).mono ?_); rintro e w1 ⟨rfl, rfl⟩))
  go_ret
  exact ⟨rfl, rfl⟩

/-- What is picked. -/
def pickZ (n c : Nat) (z : List Nat) (f : Nat → Nat) : List Nat := tab (n * c) fun t => z.getD (f (t / c) * c + t % c) 0

set_option maxRecDepth 100000 in
set_option maxHeartbeats 1600000 in
theorem pick_good (p q F r c b o n cap : Nat) (z : List Nat) (f : Nat → Nat) (w : World) (hm : Mat w p q F r c z) (hF : F < w.heap.size) (hf : RowI w b o n (fun i => (f i : Int))) (hb : b < w.heap.size) (hg : ∀ i, i < n → f i < r) (n1 : 1 ≤ n) (n2 : n ≤ 32) :
    Calls Try.prog 60 #[.pointer (some ⟨p, 0, none⟩), .slice (some ⟨b, o, none⟩) n cap] w
      fun e w' => ∃ p3 q3, e = .returned (.tuple #[.pointer (some ⟨p3, 0, none⟩), .int .i64 0]) ∧ Mat w' p3 q3 F n c (pickZ n c z f) ∧ Up Nul w w' ∧ w.heap.size ≤ p3 ∧ w.heap.size ≤ q3 := by
  have hmf : ∀ (fn : Fn) (first cap : Array Value) (w : World), (Instr.makeFunc fn first cap).run Try.prog w = .ok (.func fn first cap) w := fun _ _ _ _ => rfl
  have hA : (w.alloc (.cells #[.pointer (some ⟨p, 0, none⟩)] 66)).cell? ⟨w.heap.size, 0, none⟩ = some (.pointer (some ⟨p, 0, none⟩)) := World.cell?_alloc_new w _ _ 0
  have hu : Up Nul w (w.alloc (.cells #[.pointer (some ⟨p, 0, none⟩)] 66)) := (Up.refl _ _).alloc _
  have hm1 := hm.alloc (.cells #[.pointer (some ⟨p, 0, none⟩)] 66)
  have hf1 := hf.up hu hb id
  have H := hid (contains_any p w.heap.size r b o n cap (fun i => (f i : Int)) _ hA hm1.rows hf1 (by omega))
  have HX := hid (And.intro hm1 (And.intro hf1 hu))
  have HF : Hid (F < (w.alloc (.cells #[.pointer (some ⟨p, 0, none⟩)] 66)).heap.size ∧ b < (w.alloc (.cells #[.pointer (some ⟨p, 0, none⟩)] 66)).heap.size ∧ w.heap.size < (w.alloc (.cells #[.pointer (some ⟨p, 0, none⟩)] 66)).heap.size) := by
    show _ ∧ _ ∧ _
    simp
    omega
  have HG := hid hg
  have HA := hid hA
  clear hm hF hf hb hg hm1 hf1 hu hA
  go_enter Try.func60, Try.ntmps60
  go_wp2_with fail
  refine H.out.mono ?_
  rintro e w1 ⟨⟨rfl, i, hi, hbad⟩ | ⟨rfl, _⟩, rfl⟩
  · have := HG.out i hi
    unfold Bad at hbad
    omega
  generalize w.alloc (.cells #[.pointer (some ⟨p, 0, none⟩)] 66) = wa at *
  have hAA : wa.cell? ⟨w.heap.size, 0, none⟩ = some (.pointer (some ⟨p, 0, none⟩)) := HA.out
  have a1 := HX.out.1.f
  have a2 := HX.out.1.cols
  have HB := hid (blank_good F n c wa.drew HF.out.1 n1 n2 HX.out.1.c1 HX.out.1.c32)
  have AW := hid HF.out.2.2
  obtain ⟨A, EA⟩ : ∃ x, Hid (x = w.heap.size) := ⟨_, rfl⟩
  rw [← EA.out] at hAA AW ⊢
  clear H
  go_wp2_with fail
  go_region_held3 (fun w' => w'.cell? ⟨A, 0, none⟩ = some (.pointer (some ⟨p, 0, none⟩)) ∧ w'.cell? ⟨p, 0, none⟩ = some (.pointer (some ⟨F, 0, none⟩)) ∧ w'.cell? ⟨p, 2, none⟩ = some (.int .i64 c)) (first | exact ⟨by assumption, by assumption, by assumption⟩ | go_keep)
    ((go_at_call 51; (with_reducible refine HB.out.mono ?_); rintro e w1 ⟨rfl, k1⟩; have b0 := (k1.up.cell (p := ⟨A, 0, none⟩) AW.out id).trans hAA; have b1 := (k1.up.cell (p := ⟨p, 0, none⟩) HX.out.1.pl id).trans a1; have b2 := (k1.up.cell (p := ⟨p, 2, none⟩) HX.out.1.pl id).trans a2; have K1 := hid k1; clear k1))
  have hM3 : Mat w1 (wa.heap.size + 1) wa.heap.size F n c (zer (n * c)) := K1.out.mat
  have hX1 : Mat w1 p q F r c z ∧ RowI w1 b o n (fun i => (f i : Int)) ∧ Up Nul w w1 ∧ A < wa.heap.size ∧ b < wa.heap.size ∧ p < wa.heap.size ∧ q < wa.heap.size := by
    obtain ⟨h1, h2, h3⟩ := HX.out
    have k1 := K1.out
    exact ⟨h1.drew.up k1.up id id, h2.up (w := wa.drew) k1.up HF.out.2.1 id, h3.drew.trans k1.up, by rw [EA.out]; exact HF.out.2.2, HF.out.2.1, h1.pl, h1.ql⟩
  have HX1 := hid hX1
  have B0 := hid b0
  have HBS : Hid (b < w1.heap.size) := by
    show _ < _
    have h1 := K1.out.size
    have h2 : wa.drew.heap.size = wa.heap.size := rfl
    have h3 := HF.out.2.1
    omega
  obtain ⟨p3, P3⟩ : ∃ x, Hid (x = wa.heap.size + 1) := ⟨_, rfl⟩
  obtain ⟨q3, Q3⟩ : ∃ x, Hid (x = wa.heap.size) := ⟨_, rfl⟩
  rw [← P3.out, ← Q3.out] at hM3
  rw [← P3.out]
  have HM3 := hid hM3
  clear hM3 hX1 b0 b1 b2 a1 a2 hAA HB K1
  go_wp2
  go_loopw [34] (fun i wr => ∃ k : Nat, k ≤ n ∧ i = .int .i64 k ∧ ∃ y, Mat wr p3 q3 F n c y ∧ (∀ t, t < k * c → y.getD t 0 = (fun i j => z.getD (f i * c + j) 0) (t / c) (t % c)) ∧ Up (One q3) w1 wr) (fun i _ => n - (intOf i).toNat)
  case atStart => exact ⟨0, by omega, rfl, _, HM3.out, fun t ht => by rw [Nat.zero_mul] at ht; exact absurd ht (Nat.not_lt_zero _), Up.refl _ _⟩
  case round =>
    clear HM3
    obtain ⟨k, hk, rfl, y, hy, hyt, hyu⟩ := hrel
    have eq3 := Q3.out
    have hAq : A ≠ q3 := by have := HX1.out.2.2.2.1; omega
    have hbq : b ≠ q3 := by have := HX1.out.2.2.2.2.1; omega
    have hpq : p ≠ q3 := by have := HX1.out.2.2.2.2.2.1; omega
    have hqq : q ≠ q3 := by have := HX1.out.2.2.2.2.2.2; omega
    clear eq3
    by_cases hlt : k < n
    · have hbs : b < w1.heap.size := HBS.out
      have hel := (HX1.out.2.1.up hyu hbs hbq) k hlt
      have hAr := (hyu.cell (p := ⟨A, 0, none⟩) (lt_of_cell B0.out) hAq).trans B0.out
      obtain ⟨fk, FK⟩ : ∃ x, Hid (f k = x) := ⟨_, rfl⟩
      have hel2 : wr.cell? ⟨b, o + k, none⟩ = some (.int .i64 (fk : Int)) := by rw [← FK.out]; exact hel
      have hfr : fk < r := by rw [← FK.out]; exact HG.out k hlt
      have hmr := HX1.out.1.up hyu hpq hqq
      have HM1 : Hid (Mat wr.drew p3 q3 F n c y) := hy.drew
      have HMS : Hid (Mat wr.drew p q F r c z) := hmr.drew
      have HYT := hid hyt
      have HYU := hid hyu
      have hkn : k * c + c ≤ y.length := by
        have := Nat.mul_le_mul_right c (show k + 1 ≤ n from hlt)
        rw [hy.len]
        rw [Nat.add_mul] at this
        omega
      have hzl : fk * c + c ≤ z.length := by
        have := Nat.mul_le_mul_right c (show fk + 1 ≤ r from hfr)
        rw [hmr.len]
        rw [Nat.add_mul] at this
        omega
      have HKN := hid hkn
      have HZL := hid hzl
      clear hy hyt hyu hkn hzl hmr hel
      go_wp2_with fail
      go_region_held3 (fun w' => w'.cell? ⟨A, 0, none⟩ = some (.pointer (some ⟨p, 0, none⟩))) (first | assumption | go_keep)
        ((first
          | (go_at_call 52; (with_reducible refine (row_any p q F r c fk z _ D1.out.2.1 hfr).mono ?_); rintro e wc ⟨rfl, m2, E2⟩; have D2 : Hid (Mat wc p3 q3 F n c y ∧ Mat wc p q F r c z ∧ Up (One q3) wr wc) := (by show Mat wc p3 q3 F n c y ∧ _; rw [E2]; exact ⟨D1.out.1.drewN m2, D1.out.2.1.drewN m2, D1.out.2.2.drewN m2⟩); have d2 : wc.cell? ⟨A, 0, none⟩ = some (.pointer (some ⟨p, 0, none⟩)) := (by rw [E2]; exact d1); clear E2)
          | (go_at_call 52; (with_reducible refine (row_any p3 q3 F n c k y _ HM1.out hlt).mono ?_); rintro e wb ⟨rfl, m1, E1⟩; have D1 : Hid (Mat wb p3 q3 F n c y ∧ Mat wb p q F r c z ∧ Up (One q3) wr wb) := (by show Mat wb p3 q3 F n c y ∧ _; rw [E1]; exact ⟨HM1.out.drewN m1, HMS.out.drewN m1, ((Up.refl _ wr).drew).drewN m1⟩); have d1 : wb.cell? ⟨A, 0, none⟩ = some (.pointer (some ⟨p, 0, none⟩)) := (by rw [E1]; exact hAr); clear E1)
          | ((with_reducible refine step_copy_bytes rfl (.tmp 41) (.tmp 44) rfl q3 (k * c) c c _ q (fk * c) _ y ((z.drop (fk * c)).take c) D2.out.1.blk (D2.out.2.1.blk.row (fk * c) c HZL.out) (rowz_length HZL.out) (Nat.le_refl _) HKN.out rfl rfl ?_); intro wd H1 H2; have d3 := (H2.out.1.cell (p := ⟨A, 0, none⟩) (lt_of_cell d2) hAq).trans d2)))
      go_wp2
      have hfin : Mat wd p3 q3 F n c (over y (k * c) ((z.drop (fk * c)).take c)) := D2.out.1.copied H1.out (over_length (by rw [rowz_length HZL.out]; exact HKN.out)) H2.out.1
      have htold := row_told (f := fun i j => z.getD (f i * c + j) 0) HX1.out.1.c1 (rowz_length HZL.out) HKN.out HYT.out fun j hj => by
        show _ = z.getD (f k * c + j) 0
        rw [FK.out, rowz_at hj]
      have HFI := hid (And.intro hfin (And.intro htold ((HYU.out.trans D2.out.2.2).trans H2.out.1)))
      clear hfin htold
      go_roundw
      case rel => exact ⟨k + 1, by omega, by go_num, _, HFI.out⟩
      case measure => simp [intOf]; omega
    · obtain rfl : n = k := by omega
      have HY := hid (And.intro hy (And.intro hyt hyu))
      clear hy hyt hyu
      go_wp2
      go_ret2
      obtain ⟨y1, y2, y3⟩ := HY.out
      have hu := HX1.out.2.2.1
      have hA := EA.out
      have e1 := P3.out
      have e2 := Q3.out
      have hAw := HX1.out.2.2.2.1
      have hU : Up Nul w wr := ⟨y3.os.trans hu.os, y3.tape.trans hu.tape, y3.output.trans hu.output, Nat.le_trans hu.size y3.size, fun j hj hs => (y3.block j (Nat.lt_of_lt_of_le hj hu.size) (by unfold One; omega)).trans (hu.block j hj hs)⟩
      have hM : Mat wr p3 q3 F n c (pickZ n c z f) := by
        have := eq_tab y1.len y2
        unfold pickZ
        rw [← this]
        exact y1
      have h3 : w.heap.size ≤ p3 := by omega
      have h4 : w.heap.size ≤ q3 := by omega
      first | exact ⟨p3, q3, rfl, hM, hU, h3, h4⟩ | exact ⟨p3, rfl, q3, hM, hU, h3, h4⟩ | exact ⟨p3, rfl, ⟨q3, hM, hU, h4⟩, h3⟩

set_option maxRecDepth 100000 in
set_option maxHeartbeats 1600000 in
/-- Rows of which one is none. -/
theorem pick_bad (p q F r c b o n cap : Nat) (z : List Nat) (f : Nat → Int) (w : World) (hm : Mat w p q F r c z) (hf : RowI w b o n f) (hb : b < w.heap.size) (hn : n ≤ 9223372036854775807) (hg : (∃ i, i < n ∧ Bad r (f i)) ∨ 32 < n) (hF : F < w.heap.size) :
    Calls Try.prog 60 #[.pointer (some ⟨p, 0, none⟩), .slice (some ⟨b, o, none⟩) n cap] w
      fun e w' => e = .returned (.tuple #[.pointer none, .int .i64 1]) ∧ Up Nul w w' := by
  have hmf : ∀ (fn : Fn) (first cap : Array Value) (w : World), (Instr.makeFunc fn first cap).run Try.prog w = .ok (.func fn first cap) w := fun _ _ _ _ => rfl
  have hA : (w.alloc (.cells #[.pointer (some ⟨p, 0, none⟩)] 66)).cell? ⟨w.heap.size, 0, none⟩ = some (.pointer (some ⟨p, 0, none⟩)) := World.cell?_alloc_new w _ _ 0
  have hu : Up Nul w (w.alloc (.cells #[.pointer (some ⟨p, 0, none⟩)] 66)) := (Up.refl _ _).alloc _
  have hm1 := hm.alloc (.cells #[.pointer (some ⟨p, 0, none⟩)] 66)
  have H := hid (contains_any p w.heap.size r b o n cap f _ hA hm1.rows (hf.up hu hb id) hn)
  have HX := hid (And.intro hm1 hu)
  have HG := hid hg
  have HA := hid hA
  clear hm hf hb hg hm1 hu hA
  go_enter Try.func60, Try.ntmps60
  go_wp2_with fail
  refine H.out.mono ?_
  rintro e w1 ⟨⟨rfl, _⟩ | ⟨rfl, hgood⟩, rfl⟩
  · go_wp2
    go_ret2
    exact ⟨rfl, HX.out.2⟩
  · have h32 : 32 < n := by
      rcases HG.out with ⟨i, hi, hb⟩ | h
      · exact absurd hb (hgood i hi)
      · exact h
    clear hgood
    generalize w.alloc (.cells #[.pointer (some ⟨p, 0, none⟩)] 66) = wa at *
    have hAA : wa.cell? ⟨w.heap.size, 0, none⟩ = some (.pointer (some ⟨p, 0, none⟩)) := HA.out
    have a1 := HX.out.1.f
    have a2 := HX.out.1.cols
    have HB := hid fun (wx : World) => blank_out F n c wx (by omega)
    obtain ⟨A, EA⟩ : ∃ x, Hid (x = w.heap.size) := ⟨_, rfl⟩
    rw [← EA.out] at hAA ⊢
    clear H
    go_wp2_with fail
    go_quiet ((go_at_call 51; exact Calls.quiet_of_same (HB.out _)))
    go_wp2
    go_ret2
    exact ⟨rfl, HX.out.2.drewN _⟩
theorem pick_none (p q F r c cap : Nat) (a : Option Addr) (z : List Nat) (w : World) (hm : Mat w p q F r c z) :
    Calls Try.prog 60 #[.pointer (some ⟨p, 0, none⟩), .slice a 0 cap] w
      fun e w' => e = .returned (.tuple #[.pointer none, .int .i64 1]) ∧ Up Nul w w' := by
  have hmf : ∀ (fn : Fn) (first cap : Array Value) (w : World), (Instr.makeFunc fn first cap).run Try.prog w = .ok (.func fn first cap) w := fun _ _ _ _ => rfl
  have hA : (w.alloc (.cells #[.pointer (some ⟨p, 0, none⟩)] 66)).cell? ⟨w.heap.size, 0, none⟩ = some (.pointer (some ⟨p, 0, none⟩)) := World.cell?_alloc_new w _ _ 0
  have hu : Up Nul w (w.alloc (.cells #[.pointer (some ⟨p, 0, none⟩)] 66)) := (Up.refl _ _).alloc _
  have hm1 := hm.alloc (.cells #[.pointer (some ⟨p, 0, none⟩)] 66)
  have HX := hid (And.intro hm1 hu)
  have HA := hid hA
  clear hm hm1 hu hA
  go_enter Try.func60, Try.ntmps60
  go_wp2_with ((go_at_call 74; (with_reducible refine (contains_none _ cap a _).mono ?_); rintro e w1 ⟨rfl, rfl⟩))
  generalize w.alloc (.cells #[.pointer (some ⟨p, 0, none⟩)] 66) = wa at *
  have hAA : wa.cell? ⟨w.heap.size, 0, none⟩ = some (.pointer (some ⟨p, 0, none⟩)) := HA.out
  have a1 := HX.out.1.f
  have a2 := HX.out.1.cols
  have HB := hid fun (wx : World) => blank_out F 0 c wx (by omega)
  obtain ⟨A, EA⟩ : ∃ x, Hid (x = w.heap.size) := ⟨_, rfl⟩
  rw [← EA.out] at hAA ⊢
  go_quiet ((go_at_call 51; exact Calls.quiet_of_same (HB.out _)))
  go_wp2
  go_ret2
  exact ⟨rfl, HX.out.2.drewN _⟩
end Go.Proofs.Ytebglmfdchfplaa
