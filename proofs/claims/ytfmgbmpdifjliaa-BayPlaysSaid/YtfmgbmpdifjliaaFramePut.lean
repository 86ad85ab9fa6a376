/- 'Put'. -/
import Derived.Test.YtfmgbmpdifjliaaFrameWord
import Derived.Test.YtfmgbmpdifjliaaCrcSum
import Derived.Test.YtfmgbmpdifjliaaHand
namespace Go.Proofs.Ytfmgbmpdifjliaa
open Go.RowKit
set_option linter.unusedVariables false

theorem run_from_at (q o n cap k : Nat) (hk : k ≤ n) (hk2 : k < cap) (hn : n ≤ cap) (w : World) :
    (Instr.slice 32 (.slice (some ⟨q, o, none⟩) n cap) (some (.int .i64 k)) none none).run Try.prog w = .ok (.slice (some ⟨q, o + k, none⟩) (n - k) (cap - k)) w := by
  rw [run_slice_l (P := Try.prog) (w := w) 32 (some ⟨q, o, none⟩) n cap (by kernel_rfl) .i64 k (by omega) (by omega), size_byte]
  simp only [Result.andThen, sliced, Int.toNat_natCast, Nat.mul_one]
  rw [if_neg (by omega)]
  simp [add_off]
theorem blk_sln {w : World} {q o n : Nat} {y z : List Nat} (h : Blk w q y) (ho : o + n ≤ y.length) (hz : (y.drop o).take n = z) (hn : n ≤ 1000) : SlN w (some ⟨q, o, none⟩) n z := by
  subst hz
  exact ⟨by rw [List.length_take, List.length_drop]; omega, .inr ⟨q, o, rfl, h.lt, h.row o n ho⟩, by omega⟩
/-- copy of any slice of bytes into a block. -/
theorem run_copy_at (w : World) (ty : TypeId) (g o n dl dCap : Nat) (ad : Option Addr) (sCap : Nat) (y z : List Nat) (hg : Blk w g y) (hz : SlN w ad n z) (hnd : n ≤ dl) (hfit : o + n ≤ y.length) :
    ∃ w', (Builtin.copy_ #[32, 32] ty #[.slice (some ⟨g, o, none⟩) dl dCap, .slice ad n sCap]).run Try.prog w = .ok (goInt n) w' ∧ Blk w' g (over y o z) ∧ Up (One g) w w' := by
  rcases hz.row with rfl | ⟨b, so, rfl, hb, r⟩
  · obtain rfl : z = [] := List.eq_nil_of_length_eq_zero hz.len
    exact ⟨w, run_copy_none (P := Try.prog) w _ _ ty 5 _ _ _ _ _ _ Try.underlying32 info_u8_size (Nat.zero_min _), by simpa [over] using hg, Up.refl _ _⟩
  · obtain ⟨w', h1, h2, h3, _⟩ := run_copy_bytes w ty g o n dl dCap b so sCap y z hg r hz.len hnd hfit
    exact ⟨w', h1, h2, h3⟩
theorem many_two {w : World} (a1 a2 : Option Addr) (n1 n2 c1 c2 : Nat) (z1 z2 : List Nat) (t : TypeId) (h1 : SlN w a1 n1 z1) (h2 : SlN w a2 n2 z2) :
    Calls Try.prog 58 #[.slice (some ⟨w.heap.size, 0, none⟩) 2 2] (w.alloc (.cells #[.slice a1 n1 c1, .slice a2 n2 c2] t)).drew fun e w' => e = .returned (.int .u32 (CrcM.sum (z1 ++ z2))) ∧ Up Nul w w' := by
  refine (many_any w.heap.size [⟨a1, n1, c1, z1⟩, ⟨a2, n2, c2, z2⟩] 2 _ (show 2 ≤ 1000 by decide) ?_).mono ?_
  · intro i hi
    have hi : i < 2 := hi
    match i, hi with
    | 0, _ => exact ⟨World.cell?_alloc_new w _ _ 0, h1.nxt ((Up.refl Nul _).alloc _).drew⟩
    | 1, _ => exact ⟨World.cell?_alloc_new w _ _ 1, h2.nxt ((Up.refl Nul _).alloc _).drew⟩
  · rintro e w' ⟨rfl, rfl⟩
    exact ⟨ret_u32 (by simp), ((Up.refl _ _).alloc _).drew⟩
/-- What is turned lies in a new block. -/
theorem up_new {w w1 w2 : World} {g : Nat} (h : Up Nul w w1) (k : Up (One g) w1 w2) (hg : w.heap.size ≤ g) : Up Nul w w2 :=
  ⟨k.os.trans h.os, k.tape.trans h.tape, k.output.trans h.output, Nat.le_trans h.size k.size, fun i hi hs => (k.block i (Nat.lt_of_lt_of_le hi h.size) (by unfold One; omega)).trans (h.block i hi hs)⟩

/-- The bytes of a frame as they are laid. -/
def fz0 (n : Nat) : List Nat := ((zer 96).set 0 183).set 1 n
theorem fz0_length (n : Nat) : (fz0 n).length = 96 := by simp [fz0, zer]
def fz1 (id n : Nat) : List Nat := over (fz0 n) 4 (FrM.four id)
theorem fz1_is (id n : Nat) : fz1 id n = FrM.head id n ++ List.replicate 88 0 := rfl
theorem fz1_length (id n : Nat) : (fz1 id n).length = 96 := by rw [fz1_is]; rfl
theorem fz1_head (id n : Nat) : ((fz1 id n).drop 0).take 8 = FrM.head id n := rfl
def fz2 (id n c : Nat) : List Nat := over (fz1 id n) 8 (FrM.four c)
theorem fz2_is (id n c : Nat) : fz2 id n c = FrM.head id n ++ FrM.four c ++ List.replicate 84 0 := rfl
theorem fz2_length (id n c : Nat) : (fz2 id n c).length = 96 := by rw [fz2_is]; rfl
theorem fz2_fr (id : Nat) (z : List Nat) (h : z.length ≤ 64) : over (fz2 id z.length (FrM.chk id z)) 12 z = FrM.fr id z := by
  have hl : (FrM.head id z.length ++ FrM.four (FrM.chk id z)).length = 12 := rfl
  rw [fz2_is, over, List.take_left' hl, List.drop_append, hl, List.drop_eq_nil_of_le (by omega), List.nil_append, List.drop_replicate, show 12 + z.length - 12 = z.length by omega]
  rfl

theorem put_bad (id : Int) (a : Option Addr) (n cap : Nat) (w : World) (hb : -9223372036854775808 ≤ id ∧ id ≤ 9223372036854775807) (hn : n ≤ 9223372036854775807) (h : id < 0 ∨ 4294967295 < id ∨ 64 < n) :
    Calls Try.prog 43 #[.int .i64 id, .slice a n cap] w fun e w' => e = .returned (.tuple #[.slice none 0 0, .bool false]) ∧ w = w' := by
  by_cases h1 : id < 0 ∨ 4294967295 < id
  · obtain ⟨y, hy, hy2⟩ : ∃ y : Int, IntKind.u64.wrap id = y ∧ 4294967295 < y := ⟨_, rfl, by rw [IntKind.wrap_u64]; omega⟩
    clear h h1 hb
    go_enter Try.func43, Try.ntmps43
    go_wp2
    go_ret2
    exact ⟨rfl, rfl⟩
  · have hy : IntKind.u64.wrap id = id := by rw [IntKind.wrap_u64]; omega
    have i1 : ¬ 4294967295 < id := by omega
    have i2 : (64 : Int) < (n : Int) := by omega
    clear h h1 hb
    go_enter Try.func43, Try.ntmps43
    go_wp2
    go_ret2
    exact ⟨rfl, rfl⟩
set_option maxRecDepth 100000 in
set_option maxHeartbeats 1600000 in
theorem put_good (id : Nat) (a : Option Addr) (n cap : Nat) (z : List Nat) (w : World) (hi : id < 4294967296) (hn : n ≤ 64) (hz : SlN w a n z) :
    Calls Try.prog 43 #[.int .i64 id, .slice a n cap] w fun e w' => e = .returned (.tuple #[.slice (some ⟨w.heap.size, 0, none⟩) 96 96, .bool true]) ∧ Blk w' w.heap.size (FrM.fr id z) ∧ Up Nul w w' := by
  have HLZ : Hid (z.length = n) := hz.len
  have h8 := hz.small
  have HS := hid h8
  have HCK : Hid (FrM.chk id z < 4294967296) := FrM.chk_lt (by rw [hz.len]; exact hn) h8
  have HI := hid hi
  have HFR : Hid (over (fz2 id n (FrM.chk id z)) 12 z = FrM.fr id z) := by
    have := fz2_fr id z (by rw [hz.len]; exact hn)
    rw [hz.len] at this
    exact this
  have hmk : (Instr.makeSlice 32 (.int .i64 96) (.int .i64 96)).run Try.prog w = .ok (.slice (some ⟨w.heap.size, 0, none⟩) 96 96) (w.alloc (.cells (bys (zer 96)) 5)) := make_bytes w 96 (by omega)
  have HB0 := hid (Blk.new w (zer 96) (zer_small 96))
  have U0 := hid ((Up.refl Nul w).alloc (.cells (bys (zer 96)) 5))
  have HW : Hid (w.heap.size ≤ w.heap.size) := Nat.le_refl _
  generalize w.alloc (.cells (bys (zer 96)) 5) = w1 at hmk HB0 U0
  obtain ⟨g, G⟩ : ∃ g, w.heap.size = g := ⟨_, rfl⟩
  have HG : Hid (w.heap.size ≤ g) := by rw [← G]; exact HW.out
  rw [G] at hmk HB0 ⊢
  have k0 := HB0.out.cell 0 (by rw [zer_length]; omega)
  have k1 := HB0.out.cell 1 (by rw [zer_length]; omega)
  have f0 := HB0.out.froz 0
  have f1 := HB0.out.froz 1
  rw [zer_at] at k0 k1
  have n1 : (n : Int) % 256 = (n : Int) := by omega
  have n2 : IntKind.u64.wrap (id : Int) = (id : Int) := by rw [IntKind.wrap_u64]; omega
  have n3 : ¬ (4294967295 : Int) < (id : Int) := by omega
  have n4 : ¬ (64 : Int) < (n : Int) := by omega
  have n5 : (id : Int) % 4294967296 = (id : Int) := by omega
  have HB2 : Hid (Blk ((w1.setCell ⟨g, 0, none⟩ (.int .u8 183)).setCell ⟨g, 1, none⟩ (.int .u8 (n : Nat))) g (fz0 n)) := (HB0.out.set 0 183 (by omega)).set 1 n (by omega)
  have U2 : Hid (Up (One g) w1 ((w1.setCell ⟨g, 0, none⟩ (.int .u8 183)).setCell ⟨g, 1, none⟩ (.int .u8 (n : Nat)))) := ((Up.refl (One g) w1).setCell (p := ⟨g, 0, none⟩) (.inr rfl) _).setCell (p := ⟨g, 1, none⟩) (.inr rfl) _
  have HZ0 := hid hz
  have s4 := run_from_at g 0 96 96 4 (by omega) (by omega) (by omega)
  have s8 := run_from_at g 0 96 96 8 (by omega) (by omega) (by omega)
  have s12 := run_from_at g 0 96 96 12 (by omega) (by omega) (by omega)
  have t8 : ∀ w, (Instr.slice 32 (.slice (some ⟨g, 0, none⟩) 96 96) none (some (.int .i64 8)) none).run Try.prog w = .ok (.slice (some ⟨g, 0, none⟩) 8 96) w := fun w => run_upto (some ⟨g, 0, none⟩) 96 96 8 (by omega) w
  clear hz h8 hn hi HB0
  go_enter Try.func43, Try.ntmps43
  go_wp2_with fail
  refine (setWord_any g 4 92 92 id (fz0 n) _ HB2.out (by rw [fz0_length]; omega) (by omega) (by omega) HI.out).mono ?_
  rintro e w4 ⟨rfl, b4, u4⟩
  have b4 : Blk w4 g (fz1 id n) := b4
  have HB4 := hid b4
  have U4 : Hid (Up Nul w w4) := up_new (up_new U0.out U2.out HG.out) u4 HG.out
  have HH4 : Hid (SlN w4 (some ⟨g, 0, none⟩) 8 (FrM.head id n)) := blk_sln b4 (by rw [fz1_length]; omega) (fz1_head id n) (by omega)
  have HZ4 := hid (HZ0.out.nxt U4.out)
  have HMN : Hid (∀ c1 c2 t, Calls Try.prog 58 #[.slice (some ⟨w4.heap.size, 0, none⟩) 2 2] (w4.alloc (.cells #[.slice (some ⟨g, 0, none⟩) 8 c1, .slice a n c2] t)).drew fun e w' => e = .returned (.int .u32 (FrM.chk id z : Nat)) ∧ Up Nul w4 w') := fun c1 c2 t => by
    have h := many_two (some ⟨g, 0, none⟩) a 8 n c1 c2 (FrM.head id n) z t HH4.out HZ4.out
    have e : CrcM.sum (FrM.head id n ++ z) = FrM.chk id z := by show _ = CrcM.sum (FrM.head id z.length ++ z); rw [HLZ.out]
    rw [e] at h
    exact h
  have HY1 : Hid (8 + 4 ≤ (fz1 id n).length) := by show _ ≤ _; rw [fz1_length]; omega
  clear b4 u4 k0 k1 f0 f1 hmk HB2 U2
  obtain ⟨Y1, YY⟩ : ∃ y, Hid (fz1 id n = y) := ⟨_, rfl⟩
  rw [YY.out] at HB4 HY1
  have HF2 : Hid (fz2 id n (FrM.chk id z) = over Y1 8 (FrM.four (FrM.chk id z))) := by show _ = _; rw [← YY.out]; rfl
  generalize FrM.chk id z = ck at HMN HCK HFR HF2
  go_wp2_with fail
  refine wp_region_held_drew (S := (fun _ => True)) (by kernel_rfl) (by exact trivial) (fun hHeld => ?_)
  refine wpAnyH_take (i := 0) (oi := ⟨some 28, _, _, _, _, _⟩) (v := ?vt1) rfl (by kernel_rfl) (by kernel_rfl) (by kernel_rfl) (fun _ _ _ h => h) (Or.inl ⟨by rfl, ?yt1⟩) (by assumption) ?rt1
  case yt1 => (intro w hSw; (try dsimp only at hSw); go_simp; try with_reducible rfl)
  try simp only [Act.put, List.setIfInBounds_toArray, List.set_cons_zero, List.set_cons_succ]
  refine wpAnyH_take (i := 1) (oi := ⟨some 29, _, _, _, _, _⟩) (v := ?vt2) rfl (by kernel_rfl) (by kernel_rfl) (by kernel_rfl) (fun _ _ _ h => h) (Or.inl ⟨by rfl, ?yt2⟩) (by assumption) ?rt2
  case yt2 => (intro w hSw; (try dsimp only at hSw); go_simp; try with_reducible rfl)
  try simp only [Act.put, List.setIfInBounds_toArray, List.set_cons_zero, List.set_cons_succ]
  refine wpAnyH_take (i := 2) (oi := ⟨some 30, _, _, _, _, _⟩) (v := ?vt3) rfl (by kernel_rfl) (by kernel_rfl) (by kernel_rfl) (fun _ _ _ h => h) (Or.inl ⟨by rfl, ?yt3⟩) (by assumption) ?rt3
  case yt3 => (intro w hSw; (try dsimp only at hSw); go_simp; try with_reducible rfl)
  try simp only [Act.put, List.setIfInBounds_toArray, List.set_cons_zero, List.set_cons_succ]
  refine wpAnyH_take (i := 3) (oi := ⟨some 31, _, _, _, _, _⟩) (v := ?vt4) rfl (by kernel_rfl) (by kernel_rfl) (by kernel_rfl) (fun _ _ _ h => h) (Or.inl ⟨by rfl, ?yt4⟩) (by assumption) ?rt4
  case yt4 => (intro w hSw; (try dsimp only at hSw); go_simp; try with_reducible rfl)
  try simp only [Act.put, List.setIfInBounds_toArray, List.set_cons_zero, List.set_cons_succ]
  refine wpAnyH_take (i := 4) (oi := ⟨some 32, _, _, _, _, _⟩) (v := ?vt5) rfl (by kernel_rfl) (by kernel_rfl) (by kernel_rfl) (fun _ _ _ h => h) (Or.inl ⟨by rfl, ?yt5⟩) (by assumption) ?rt5
  case yt5 => (intro w hSw; (try dsimp only at hSw); go_simp; try with_reducible rfl)
  try simp only [Act.put, List.setIfInBounds_toArray, List.set_cons_zero, List.set_cons_succ]
  refine wpAnyH_ready (rs := [5]) (by kernel_rfl) (by simp) ?_
  refine AllReadyH.cons (o := ⟨some 33, _, _, _, _, _⟩) rfl (fun K hK => ?_) AllReadyH.nil
  go_simp
  skip
  refine hK.out _ _ ?kt6 (fun hHeld => ?_)
  case kt6 => exact trivial
  clear hK K
  try simp only [Act.put, List.setIfInBounds_toArray, List.set_cons_zero, List.set_cons_succ]
  refine wpAnyH_ready (rs := [6]) (by kernel_rfl) (by simp) ?_
  refine AllReadyH.cons (o := ⟨some 34, _, _, _, _, _⟩) rfl (fun K hK => ?_) AllReadyH.nil
  go_simp
  refine (HMN.out _ _ _).mono ?_; rintro e w5 ⟨rfl, u5⟩; have U5 := hid u5; clear u5
  refine hK.out _ _ ?kt7 (fun hHeld => ?_)
  case kt7 => exact trivial
  clear hK K
  try simp only [Act.put, List.setIfInBounds_toArray, List.set_cons_zero, List.set_cons_succ]
  refine wpAnyH_ready (rs := [7]) (by kernel_rfl) (by simp) ?_
  refine AllReadyH.cons (o := ⟨some 35, _, _, _, _, _⟩) rfl (fun K hK => ?_) AllReadyH.nil
  go_simp
  refine (setWord_any g 8 88 88 ck Y1 w5 (HB4.out.up U5.out (fun h => h)) HY1.out (by omega) (by omega) HCK.out).mono ?_; rintro e w6 ⟨rfl, b6, u6⟩; have HB6 := hid b6; have U6 := hid u6; clear b6 u6
  refine hK.out _ _ ?kt8 (fun hHeld => ?_)
  case kt8 => exact trivial
  clear hK K
  try simp only [Act.put, List.setIfInBounds_toArray, List.set_cons_zero, List.set_cons_succ]
  refine wpAnyH_done (by kernel_rfl) ?_ _
  have U4w : Hid (Up Nul w w6) := up_new (U4.out.trans U5.out) U6.out HG.out
  obtain ⟨w7, hcp, b7, u7⟩ := run_copy_at w6 3 g 12 n 84 84 a cap (fz2 id n ck) z (by rw [HF2.out]; exact HB6.out) (HZ0.out.nxt U4w.out) (by omega) (by rw [fz2_length]; omega)
  rw [HFR.out] at b7
  have HB7 := hid b7
  have U7 := hid (up_new U4w.out u7 HG.out)
  clear b7 u7
  go_wp2
  go_ret2
  exact ⟨rfl, HB7.out, U7.out⟩
end Go.Proofs.Ytfmgbmpdifjliaa
