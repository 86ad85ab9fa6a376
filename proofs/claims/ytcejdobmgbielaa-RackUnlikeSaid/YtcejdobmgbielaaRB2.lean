/- Part 2 of what the walks rest on: FrameWord, FramePut, FrameTake, RefFrame, FrameLaw, DkBase, Disk. -/
import Derived.Test.YtcejdobmgbielaaRB1
namespace Go.Proofs.Ytcejdobmgbielaa
open Go.RowKit
set_option linter.unusedVariables false

/-- The first t of four. -/
def upto (z : List Nat) (o v : Nat) : Nat → List Nat
  | 0 => z
  | t + 1 => (upto z o v t).set (o + t) ((FrM.four v).getD t 0)
theorem upto_length (z : List Nat) (o v t : Nat) : (upto z o v t).length = z.length := by
  induction t with
  | zero => rfl
  | succ t ih => rw [upto, List.length_set, ih]
set_option maxHeartbeats 800000 in
theorem setWord_any (q o n cap v : Nat) (z : List Nat) (w : World) (hb : Blk w q z) (hz : o + 4 ≤ z.length) (hn : 4 ≤ n) (hl : n ≤ 1000) (hv : v < 4294967296) :
    Calls Try.prog 70 #[.slice (some ⟨q, o, none⟩) n cap, .int .u32 v] w fun e w' => e = .returned (.tuple #[]) ∧ Blk w' q (over z o (FrM.four v)) ∧ Up (One q) w w' := by
  have HB := hid hb
  have HE : Hid (over z o (FrM.four v) = upto z o v 4) := over_four hz
  rw [HE.out]
  have HZ := hid hz
  have i4 : (4 : Int) ≤ (n : Int) := by omega
  clear hb hz hn
  go_enter Try.func70, Try.ntmps70
  go_wp2_with fail
  go_loopw [5] (fun s wr => ∃ t : Nat, t ≤ 4 ∧ s = .int .i64 (t : Nat) ∧ Blk wr q (upto z o v t) ∧ Up (One q) w wr) (fun s _ => 4 - (intOf s).toNat)
  case atStart => exact ⟨0, by omega, rfl, HB.out, Up.refl _ _⟩
  case round =>
    obtain ⟨t, ht, rfl, hk, hu⟩ := hrel
    have HK := hid hk
    have HU := hid hu
    clear hk hu
    have ht' := ht
    by_cases hlt : t < 4
    · have hc := HK.out.cell (o + t) (by rw [upto_length]; have := HZ.out; omega)
      have hf := HK.out.froz (o + t)
      have j1 : (0 : Int) ≤ (t : Int) := by omega
      have j2 : (t : Int) < 4 := by omega
      have j3 : (t : Int) < (n : Int) := by omega
      generalize (upto z o v t).getD (o + t) 0 = y at hc
      go_wp2_with fail
      go_round
      case rel =>
        rw [four_at v t hlt]
        exact ⟨t + 1, hlt, by go_num, HK.out.set (o + t) _ (small_getD (FrM.four_small v) t), HU.out.setCell (p := ⟨q, o + t, none⟩) (.inr rfl) _⟩
      case measure => simp [intOf]; omega
    · obtain rfl : t = 4 := by omega
      go_wp2
      go_end0
      exact ⟨rfl, HK.out, HU.out⟩
theorem u32_join {x y : Int} (h0 : 0 ≤ x) (h1 : x < 16777216) (h2 : 0 ≤ y) (h3 : y < 256) : bits .or .u32 (x * 256) y = x * 256 + y :=
  bits_join .u32 32 (by decide) wraps_u32 8 (x * 256) y (by omega) (by omega) (by omega) h2 (by omega) (by omega)
/-- The number that the first t bytes are. -/
def wrd (z : List Nat) (o : Nat) : Nat → Nat
  | 0 => 0
  | t + 1 => wrd z o t * 256 + z.getD (o + t) 0
theorem wrd_four (z : List Nat) (o : Nat) : wrd z o 4 = FrM.word z o := by
  simp only [wrd, FrM.word, Nat.add_zero]
  omega
theorem wrd_lt {z : List Nat} (h : ∀ i, z.getD i 0 < 256) (o : Nat) : wrd z o 1 < 256 ∧ wrd z o 2 < 65536 ∧ wrd z o 3 < 16777216 := by
  have h0 := h o; have h1 := h (o + 1); have h2 := h (o + 2)
  simp only [wrd, Nat.add_zero]
  omega
set_option maxHeartbeats 800000 in
theorem word_any (a : Option Addr) (n cap : Nat) (z : List Nat) (w : World) (h : SlN w a n z) (hn : 4 ≤ n) (hc : n ≤ cap) :
    Calls Try.prog 82 #[.slice a n cap] w fun e w' => e = .returned (.int .u32 (FrM.word z 0 : Nat)) ∧ w = w' := by
  obtain ⟨b, o, rfl, hb, hr⟩ : ∃ b o, a = some ⟨b, o, none⟩ ∧ b < w.heap.size ∧ Row w b o z := by
    rcases h.row with e | h
    · omega
    · exact h
  have HL : Hid (z.length = n) := h.len
  have HR := hid hr
  have HW := hid (wrd_lt (z := z) hr.small 0)
  have hs := run_upto (some ⟨b, o, none⟩) n cap 4 (by omega) w
  have HX : Hid (FrM.word z 0 = wrd z 0 4) := (wrd_four z 0).symm
  rw [HX.out]
  have i4 : (4 : Int) ≤ (n : Int) := by omega
  have i5 : (n : Int) ≤ (cap : Int) := by omega
  have hn4 := hid hn
  clear h hr hb hn hc
  go_enter Try.func82, Try.ntmps82
  go_wp2
  go_loop [3, 9] (fun s i => ∃ t x : Nat, t ≤ 4 ∧ i = .int .i64 (t : Nat) ∧ s = .int .u32 (x : Nat) ∧ Hid (wrd z 0 t = x)) (fun _ i => 4 - (intOf i).toNat)
  case atStart => exact ⟨0, 0, by omega, rfl, rfl, rfl⟩
  case round =>
    obtain ⟨t, x, ht, rfl, rfl, HY⟩ := hrel
    by_cases hlt : t < 4
    · have hcell := HR.out.cells t (by rw [HL.out]; have := hn4.out; omega)
      have c8 := HR.out.small t
      have HN : Hid (wrd z 0 (t + 1) = x * 256 + z.getD t 0) := by
        show wrd z 0 t * 256 + z.getD (0 + t) 0 = _
        rw [HY.out, Nat.zero_add]
      generalize z.getD t 0 = c at hcell c8 HN
      have x8 : x < 16777216 := by
        rw [← HY.out]
        have := HW.out
        rcases (by omega : t = 0 ∨ t = 1 ∨ t = 2 ∨ t = 3) with rfl | rfl | rfl | rfl
        · show 0 < _; omega
        · omega
        · omega
        · omega
      have j1 : (0 : Int) ≤ (t : Int) := by omega
      have j2 : (t : Int) < 4 := by omega
      have hj := u32_join (x := x) (y := c) (by omega) (by omega) (by omega) (by omega)
      go_wp2
      go_round
      case rel =>
        exact ⟨t + 1, x * 256 + c, hlt, by go_num, by first | rfl | go_num, HN.out⟩
      case measure => simp [intOf]; omega
    · obtain rfl : t = 4 := by omega
      go_wp2
      go_ret
      exact ⟨ret_u32 (by rw [HY.out]), rfl⟩

theorem run_from_at (q o n cap k : Nat) (hk : k ≤ n) (hk2 : k < cap) (hn : n ≤ cap) (w : World) :
    (Instr.slice 47 (.slice (some ⟨q, o, none⟩) n cap) (some (.int .i64 k)) none none).run Try.prog w = .ok (.slice (some ⟨q, o + k, none⟩) (n - k) (cap - k)) w := by
  rw [run_slice_l (P := Try.prog) (w := w) 47 (some ⟨q, o, none⟩) n cap (by kernel_rfl) .i64 k (by omega) (by omega), size_byte]
  simp only [Result.andThen, sliced, Int.toNat_natCast, Nat.mul_one]
  rw [if_neg (by omega)]
  simp [add_off]
theorem blk_sln {w : World} {q o n : Nat} {y z : List Nat} (h : Blk w q y) (ho : o + n ≤ y.length) (hz : (y.drop o).take n = z) (hn : n ≤ 1000) : SlN w (some ⟨q, o, none⟩) n z := by
  subst hz
  exact ⟨by rw [List.length_take, List.length_drop]; omega, .inr ⟨q, o, rfl, h.lt, h.row o n ho⟩, by omega⟩
/-- copy of any slice of bytes into a block. -/
theorem run_copy_at (w : World) (ty : TypeId) (g o n dl dCap : Nat) (ad : Option Addr) (sCap : Nat) (y z : List Nat) (hg : Blk w g y) (hz : SlN w ad n z) (hnd : n ≤ dl) (hfit : o + n ≤ y.length) :
    ∃ w', (Builtin.copy_ #[47, 47] ty #[.slice (some ⟨g, o, none⟩) dl dCap, .slice ad n sCap]).run Try.prog w = .ok (goInt n) w' ∧ Blk w' g (over y o z) ∧ Up (One g) w w' := by
  rcases hz.row with rfl | ⟨b, so, rfl, hb, r⟩
  · obtain rfl : z = [] := List.eq_nil_of_length_eq_zero hz.len
    exact ⟨w, run_copy_none (P := Try.prog) w _ _ ty 5 _ _ _ _ _ _ Try.underlying47 info_u8_size (Nat.zero_min _), by simpa [over] using hg, Up.refl _ _⟩
  · obtain ⟨w', h1, h2, h3, _⟩ := run_copy_bytes w ty g o n dl dCap b so sCap y z hg r hz.len hnd hfit
    exact ⟨w', h1, h2, h3⟩
theorem many_two {w : World} (a1 a2 : Option Addr) (n1 n2 c1 c2 : Nat) (z1 z2 : List Nat) (t : TypeId) (h1 : SlN w a1 n1 z1) (h2 : SlN w a2 n2 z2) :
    Calls Try.prog 71 #[.slice (some ⟨w.heap.size, 0, none⟩) 2 2] (w.alloc (.cells #[.slice a1 n1 c1, .slice a2 n2 c2] t)).drew fun e w' => e = .returned (.int .u32 (CrcM.sum (z1 ++ z2))) ∧ Up Nul w w' := by
  refine (many_any w.heap.size [⟨a1, n1, c1, z1⟩, ⟨a2, n2, c2, z2⟩] 2 _ (show 2 ≤ 1000 by decide) ?_).mono ?_
  · intro i hi
    have hi : i < 2 := hi
    match i, hi with
    | 0, _ => exact ⟨World.cell?_alloc_new w _ _ 0, h1.nxt ((Up.refl Nul _).alloc _).drew⟩
    | 1, _ => exact ⟨World.cell?_alloc_new w _ _ 1, h2.nxt ((Up.refl Nul _).alloc _).drew⟩
  · rintro e w' ⟨rfl, rfl⟩
    exact ⟨ret_u32 (by simp), ((Up.refl _ _).alloc _).drew⟩
/-- What is turned lies in a new block. -/
theorem up_new {w w1 w2 : World} {g : Nat} (h : Up Nul w w1) (k : Up (One g) w1 w2) (hg : w.heap.size ≤ g) : Up Nul w w2 :=
  ⟨k.os.trans h.os, k.tape.trans h.tape, k.output.trans h.output, Nat.le_trans h.size k.size, fun i hi hs => (k.block i (Nat.lt_of_lt_of_le hi h.size) (by unfold One; omega)).trans (h.block i hi hs)⟩
/-- The bytes of a frame as they are laid. -/
def fz0 (n : Nat) : List Nat := ((zer 96).set 0 183).set 1 n
theorem fz0_length (n : Nat) : (fz0 n).length = 96 := by simp [fz0, zer]
def fz1 (id n : Nat) : List Nat := over (fz0 n) 4 (FrM.four id)
theorem fz1_is (id n : Nat) : fz1 id n = FrM.head id n ++ List.replicate 88 0 := rfl
theorem fz1_length (id n : Nat) : (fz1 id n).length = 96 := by rw [fz1_is]; rfl
theorem fz1_head (id n : Nat) : ((fz1 id n).drop 0).take 8 = FrM.head id n := rfl
def fz2 (id n c : Nat) : List Nat := over (fz1 id n) 8 (FrM.four c)
theorem fz2_is (id n c : Nat) : fz2 id n c = FrM.head id n ++ FrM.four c ++ List.replicate 84 0 := rfl
theorem fz2_length (id n c : Nat) : (fz2 id n c).length = 96 := by rw [fz2_is]; rfl
theorem fz2_fr (id : Nat) (z : List Nat) (h : z.length ≤ 64) : over (fz2 id z.length (FrM.chk id z)) 12 z = FrM.fr id z := by
  have hl : (FrM.head id z.length ++ FrM.four (FrM.chk id z)).length = 12 := rfl
  rw [fz2_is, over, List.take_left' hl, List.drop_append, hl, List.drop_eq_nil_of_le (by omega), List.nil_append, List.drop_replicate, show 12 + z.length - 12 = z.length by omega]
  rfl
theorem put_bad (id : Int) (a : Option Addr) (n cap : Nat) (w : World) (hb : -9223372036854775808 ≤ id ∧ id ≤ 9223372036854775807) (hn : n ≤ 9223372036854775807) (h : id < 0 ∨ 4294967295 < id ∨ 64 < n) :
    Calls Try.prog 55 #[.int .i64 id, .slice a n cap] w fun e w' => e = .returned (.tuple #[.slice none 0 0, .bool false]) ∧ w = w' := by
  by_cases h1 : id < 0 ∨ 4294967295 < id
  · obtain ⟨y, hy, hy2⟩ : ∃ y : Int, IntKind.u64.wrap id = y ∧ 4294967295 < y := ⟨_, rfl, by rw [IntKind.wrap_u64]; omega⟩
    clear h h1 hb
    go_enter Try.func55, Try.ntmps55
    go_wp2
    go_ret2
    exact ⟨rfl, rfl⟩
  · have hy : IntKind.u64.wrap id = id := by rw [IntKind.wrap_u64]; omega
    have i1 : ¬ 4294967295 < id := by omega
    have i2 : (64 : Int) < (n : Int) := by omega
    clear h h1 hb
    go_enter Try.func55, Try.ntmps55
    go_wp2
    go_ret2
    exact ⟨rfl, rfl⟩
set_option maxRecDepth 100000 in
set_option maxHeartbeats 1600000 in
theorem put_good (id : Nat) (a : Option Addr) (n cap : Nat) (z : List Nat) (w : World) (hi : id < 4294967296) (hn : n ≤ 64) (hz : SlN w a n z) :
    Calls Try.prog 55 #[.int .i64 id, .slice a n cap] w fun e w' => e = .returned (.tuple #[.slice (some ⟨w.heap.size, 0, none⟩) 96 96, .bool true]) ∧ Blk w' w.heap.size (FrM.fr id z) ∧ Up Nul w w' := by
  have HLZ : Hid (z.length = n) := hz.len
  have h8 := hz.small
  have HS := hid h8
  have HCK : Hid (FrM.chk id z < 4294967296) := FrM.chk_lt (by rw [hz.len]; exact hn) h8
  have HI := hid hi
  have HFR : Hid (over (fz2 id n (FrM.chk id z)) 12 z = FrM.fr id z) := by
    have := fz2_fr id z (by rw [hz.len]; exact hn)
    rw [hz.len] at this
    exact this
  have hmk : (Instr.makeSlice 47 (.int .i64 96) (.int .i64 96)).run Try.prog w = .ok (.slice (some ⟨w.heap.size, 0, none⟩) 96 96) (w.alloc (.cells (bys (zer 96)) 5)) := make_bytes w 96 (by omega)
  have HB0 := hid (Blk.new w (zer 96) (zer_small 96))
  have U0 := hid ((Up.refl Nul w).alloc (.cells (bys (zer 96)) 5))
  have HW : Hid (w.heap.size ≤ w.heap.size) := Nat.le_refl _
  generalize w.alloc (.cells (bys (zer 96)) 5) = w1 at hmk HB0 U0
  obtain ⟨g, G⟩ : ∃ g, w.heap.size = g := ⟨_, rfl⟩
  have HG : Hid (w.heap.size ≤ g) := by rw [← G]; exact HW.out
  rw [G] at hmk HB0 ⊢
  have k0 := HB0.out.cell 0 (by rw [zer_length]; omega)
  have k1 := HB0.out.cell 1 (by rw [zer_length]; omega)
  have f0 := HB0.out.froz 0
  have f1 := HB0.out.froz 1
  rw [zer_at] at k0 k1
  have n1 : (n : Int) % 256 = (n : Int) := by omega
  have n2 : IntKind.u64.wrap (id : Int) = (id : Int) := by rw [IntKind.wrap_u64]; omega
  have n3 : ¬ (4294967295 : Int) < (id : Int) := by omega
  have n4 : ¬ (64 : Int) < (n : Int) := by omega
  have n5 : (id : Int) % 4294967296 = (id : Int) := by omega
  have HB2 : Hid (Blk ((w1.setCell ⟨g, 0, none⟩ (.int .u8 183)).setCell ⟨g, 1, none⟩ (.int .u8 (n : Nat))) g (fz0 n)) := (HB0.out.set 0 183 (by omega)).set 1 n (by omega)
  have U2 : Hid (Up (One g) w1 ((w1.setCell ⟨g, 0, none⟩ (.int .u8 183)).setCell ⟨g, 1, none⟩ (.int .u8 (n : Nat)))) := ((Up.refl (One g) w1).setCell (p := ⟨g, 0, none⟩) (.inr rfl) _).setCell (p := ⟨g, 1, none⟩) (.inr rfl) _
  have HZ0 := hid hz
  have s4 := run_from_at g 0 96 96 4 (by omega) (by omega) (by omega)
  have s8 := run_from_at g 0 96 96 8 (by omega) (by omega) (by omega)
  have s12 := run_from_at g 0 96 96 12 (by omega) (by omega) (by omega)
  have t8 : ∀ w, (Instr.slice 47 (.slice (some ⟨g, 0, none⟩) 96 96) none (some (.int .i64 8)) none).run Try.prog w = .ok (.slice (some ⟨g, 0, none⟩) 8 96) w := fun w => run_upto (some ⟨g, 0, none⟩) 96 96 8 (by omega) w
  clear hz h8 hn hi HB0
  go_enter Try.func55, Try.ntmps55
  go_wp2_with fail
  refine (setWord_any g 4 92 92 id (fz0 n) _ HB2.out (by rw [fz0_length]; omega) (by omega) (by omega) HI.out).mono ?_
  rintro e w4 ⟨rfl, b4, u4⟩
  have b4 : Blk w4 g (fz1 id n) := b4
  have HB4 := hid b4
  have U4 : Hid (Up Nul w w4) := up_new (up_new U0.out U2.out HG.out) u4 HG.out
  have HH4 : Hid (SlN w4 (some ⟨g, 0, none⟩) 8 (FrM.head id n)) := blk_sln b4 (by rw [fz1_length]; omega) (fz1_head id n) (by omega)
  have HZ4 := hid (HZ0.out.nxt U4.out)
  have HMN : Hid (∀ c1 c2 t, Calls Try.prog 71 #[.slice (some ⟨w4.heap.size, 0, none⟩) 2 2] (w4.alloc (.cells #[.slice (some ⟨g, 0, none⟩) 8 c1, .slice a n c2] t)).drew fun e w' => e = .returned (.int .u32 (FrM.chk id z : Nat)) ∧ Up Nul w4 w') := fun c1 c2 t => by
    have h := many_two (some ⟨g, 0, none⟩) a 8 n c1 c2 (FrM.head id n) z t HH4.out HZ4.out
    have e : CrcM.sum (FrM.head id n ++ z) = FrM.chk id z := by show _ = CrcM.sum (FrM.head id z.length ++ z); rw [HLZ.out]
    rw [e] at h
    exact h
  have HY1 : Hid (8 + 4 ≤ (fz1 id n).length) := by show _ ≤ _; rw [fz1_length]; omega
  clear b4 u4 k0 k1 f0 f1 hmk HB2 U2
  obtain ⟨Y1, YY⟩ : ∃ y, Hid (fz1 id n = y) := ⟨_, rfl⟩
  rw [YY.out] at HB4 HY1
  have HF2 : Hid (fz2 id n (FrM.chk id z) = over Y1 8 (FrM.four (FrM.chk id z))) := by show _ = _; rw [← YY.out]; rfl
  generalize FrM.chk id z = ck at HMN HCK HFR HF2
  go_wp2_with fail
  refine wp_region_held_drew (S := (fun _ => True)) (by kernel_rfl) (by exact trivial) (fun hHeld => ?_)
  refine wpAnyH_take (i := 0) (oi := ⟨some 28, _, _, _, _, _⟩) (v := ?vt1) rfl (by kernel_rfl) (by kernel_rfl) (by kernel_rfl) (fun _ _ _ h => h) (Or.inl ⟨by rfl, ?yt1⟩) (by assumption) ?rt1
  case yt1 => (intro w hSw; (try dsimp only at hSw); go_simp; try with_reducible rfl)
  try simp only [Act.put, List.setIfInBounds_toArray, List.set_cons_zero, List.set_cons_succ]
  refine wpAnyH_take (i := 1) (oi := ⟨some 29, _, _, _, _, _⟩) (v := ?vt2) rfl (by kernel_rfl) (by kernel_rfl) (by kernel_rfl) (fun _ _ _ h => h) (Or.inl ⟨by rfl, ?yt2⟩) (by assumption) ?rt2
  case yt2 => (intro w hSw; (try dsimp only at hSw); go_simp; try with_reducible rfl)
  try simp only [Act.put, List.setIfInBounds_toArray, List.set_cons_zero, List.set_cons_succ]
  refine wpAnyH_take (i := 2) (oi := ⟨some 30, _, _, _, _, _⟩) (v := ?vt3) rfl (by kernel_rfl) (by kernel_rfl) (by kernel_rfl) (fun _ _ _ h => h) (Or.inl ⟨by rfl, ?yt3⟩) (by assumption) ?rt3
  case yt3 => (intro w hSw; (try dsimp only at hSw); go_simp; try with_reducible rfl)
  try simp only [Act.put, List.setIfInBounds_toArray, List.set_cons_zero, List.set_cons_succ]
  refine wpAnyH_take (i := 3) (oi := ⟨some 31, _, _, _, _, _⟩) (v := ?vt4) rfl (by kernel_rfl) (by kernel_rfl) (by kernel_rfl) (fun _ _ _ h => h) (Or.inl ⟨by rfl, ?yt4⟩) (by assumption) ?rt4
  case yt4 => (intro w hSw; (try dsimp only at hSw); go_simp; try with_reducible rfl)
  try simp only [Act.put, List.setIfInBounds_toArray, List.set_cons_zero, List.set_cons_succ]
  refine wpAnyH_take (i := 4) (oi := ⟨some 32, _, _, _, _, _⟩) (v := ?vt5) rfl (by kernel_rfl) (by kernel_rfl) (by kernel_rfl) (fun _ _ _ h => h) (Or.inl ⟨by rfl, ?yt5⟩) (by assumption) ?rt5
  case yt5 => (intro w hSw; (try dsimp only at hSw); go_simp; try with_reducible rfl)
  try simp only [Act.put, List.setIfInBounds_toArray, List.set_cons_zero, List.set_cons_succ]
  refine wpAnyH_ready (rs := [5]) (by kernel_rfl) (by simp) ?_
  refine AllReadyH.cons (o := ⟨some 33, _, _, _, _, _⟩) rfl (fun K hK => ?_) AllReadyH.nil
  go_simp
  skip
  refine hK.out _ _ ?kt6 (fun hHeld => ?_)
  case kt6 => exact trivial
  clear hK K
  try simp only [Act.put, List.setIfInBounds_toArray, List.set_cons_zero, List.set_cons_succ]
  refine wpAnyH_ready (rs := [6]) (by kernel_rfl) (by simp) ?_
  refine AllReadyH.cons (o := ⟨some 34, _, _, _, _, _⟩) rfl (fun K hK => ?_) AllReadyH.nil
  go_simp
  refine (HMN.out _ _ _).mono ?_; rintro e w5 ⟨rfl, u5⟩; have U5 := hid u5; clear u5
  refine hK.out _ _ ?kt7 (fun hHeld => ?_)
  case kt7 => exact trivial
  clear hK K
  try simp only [Act.put, List.setIfInBounds_toArray, List.set_cons_zero, List.set_cons_succ]
  refine wpAnyH_ready (rs := [7]) (by kernel_rfl) (by simp) ?_
  refine AllReadyH.cons (o := ⟨some 35, _, _, _, _, _⟩) rfl (fun K hK => ?_) AllReadyH.nil
  go_simp
  refine (setWord_any g 8 88 88 ck Y1 w5 (HB4.out.up U5.out (fun h => h)) HY1.out (by omega) (by omega) HCK.out).mono ?_; rintro e w6 ⟨rfl, b6, u6⟩; have HB6 := hid b6; have U6 := hid u6; clear b6 u6
  refine hK.out _ _ ?kt8 (fun hHeld => ?_)
  case kt8 => exact trivial
  clear hK K
  try simp only [Act.put, List.setIfInBounds_toArray, List.set_cons_zero, List.set_cons_succ]
  refine wpAnyH_done (by kernel_rfl) ?_ _
  have U4w : Hid (Up Nul w w6) := up_new (U4.out.trans U5.out) U6.out HG.out
  obtain ⟨w7, hcp, b7, u7⟩ := run_copy_at w6 3 g 12 n 84 84 a cap (fz2 id n ck) z (by rw [HF2.out]; exact HB6.out) (HZ0.out.nxt U4w.out) (by omega) (by rw [fz2_length]; omega)
  rw [HFR.out] at b7
  have HB7 := hid b7
  have U7 := hid (up_new U4w.out u7 HG.out)
  clear b7 u7
  go_wp2
  go_ret2
  exact ⟨rfl, HB7.out, U7.out⟩

theorem strOf_inj {y z : List Nat} (hy : ∀ i, y.getD i 0 < 256) (hz : ∀ i, z.getD i 0 < 256) (h : strOf y = strOf z) : y = z := by
  rw [← nums_strOf hy, ← nums_strOf hz, h]
theorem bytes_inj {a b : ByteArray} (h : a.toList = b.toList) : a = b := by
  rw [ByteArray.toList_eq, ByteArray.toList_eq] at h
  exact ByteArray.ext (Array.toList_inj.1 h)
theorem str_beq {y z : List Nat} (hy : ∀ i, y.getD i 0 < 256) (hz : ∀ i, z.getD i 0 < 256) : ((strOf y).toList == (strOf z).toList) = decide (y = z) := by
  by_cases h : y = z
  · subst h; simp
  · rw [decide_eq_false h, beq_eq_false_iff_ne]
    exact fun e => h (strOf_inj hy hz (bytes_inj e))
theorem equalS (a1 a2 : Option Addr) (n1 c1 n2 c2 : Nat) (y z : List Nat) (w : World) (h1 : SlN w a1 n1 y) (h2 : SlN w a2 n2 z) :
    Calls Try.prog 83 #[.slice a1 n1 c1, .slice a2 n2 c2] w fun e w' => e = .returned (.bool (decide (y = z))) ∧ w' = w := by
  have e1 := h1.conv c1
  have e2 := h2.conv c2
  have e3 := str_beq (small_getD h1.small) (small_getD h2.small)
  obtain ⟨q, Q⟩ : ∃ q, Hid (decide (y = z) = q) := ⟨_, rfl⟩
  rw [Q.out] at e3 ⊢
  generalize strOf y = s1 at e1 e3
  generalize strOf z = s2 at e2 e3
  clear h1 h2
  go_enter Try.func83, Try.ntmps83
  go_wp2
  go_ret
  exact ⟨rfl, rfl⟩
theorem word_drop (z : List Nat) (o : Nat) : FrM.word (z.drop o) 0 = FrM.word z o := by
  simp [FrM.word, List.getD_eq_getElem?_getD, List.getElem?_drop]
/-- What Take tells, and where. -/
def Took (z : List Nat) (w : World) (e : Ending) (w' : World) : Prop :=
  (∃ a c, FrM.tk z = some (FrM.idOf z, FrM.datOf z) ∧ e = .returned (.tuple #[.int .i64 (FrM.idOf z : Nat), .slice a (z.getD 1 0) c, .bool true]) ∧ Got w w' a (z.getD 1 0) c (FrM.datOf z)) ∨
  (FrM.tk z = none ∧ e = .returned (.tuple #[.int .i64 0, .slice none 0 0, .bool false]) ∧ Up Nul w w')
theorem tk_len {z : List Nat} (h : ¬ z.length = 96) : FrM.tk z = none := by rw [FrM.tk, if_neg (fun k => h k.1)]
theorem tk_more {z : List Nat} (h : 64 < z.getD 1 0) : FrM.tk z = none := by rw [FrM.tk, if_neg (fun k => by have := k.2.1; omega)]
theorem take_len (a : Option Addr) (n cap : Nat) (z : List Nat) (w : World) (h : SlN w a n z) (hn : ¬ n = 96) :
    Calls Try.prog 75 #[.slice a n cap] w (Took z w) := by
  have HT : Hid (Took z w (.returned (.tuple #[.int .i64 0, .slice none 0 0, .bool false])) w) := .inr ⟨tk_len (by rw [h.len]; exact hn), rfl, Up.refl _ _⟩
  generalize Took z w = K at HT ⊢
  have hle := h.le
  have i1 : ¬ (n : Int) = 96 := by omega
  have i2 : ((n : Int) == 96) = false := by simp; omega
  clear h hn
  go_enter Try.func75, Try.ntmps75
  go_wp2
  go_ret3
  exact HT.out
theorem take_more (b o cap : Nat) (z : List Nat) (w : World) (h : SlN w (some ⟨b, o, none⟩) 96 z) (hm : 64 < z.getD 1 0) :
    Calls Try.prog 75 #[.slice (some ⟨b, o, none⟩) 96 cap] w (Took z w) := by
  have HT : Hid (Took z w (.returned (.tuple #[.int .i64 0, .slice none 0 0, .bool false])) w) := .inr ⟨tk_more hm, rfl, Up.refl _ _⟩
  generalize Took z w = K at HT ⊢
  have c1 : w.cell? ⟨b, o + 1, none⟩ = some (.int .u8 (z.getD 1 0 : Nat)) := by
    rcases h.row with e | ⟨b', o', e, _, r⟩
    · cases e
    · cases e
      exact r.cells 1 (by rw [h.len]; omega)
  generalize z.getD 1 0 = m at hm c1
  have i1 : (64 : Int) < (m : Int) := by omega
  clear h hm
  go_enter Try.func75, Try.ntmps75
  go_wp2
  go_ret3
  exact HT.out
set_option maxRecDepth 100000 in
set_option maxHeartbeats 1600000 in
theorem take_at (b o cap : Nat) (z : List Nat) (w : World) (h : SlN w (some ⟨b, o, none⟩) 96 z) (hc : 96 ≤ cap) (hm : z.getD 1 0 ≤ 64) :
    Calls Try.prog 75 #[.slice (some ⟨b, o, none⟩) 96 cap] w (Took z w) := by
  obtain ⟨hb, r⟩ : b < w.heap.size ∧ Row w b o z := by
    rcases h.row with e | ⟨b', o', e, hb, r⟩
    · cases e
    · cases e
      exact ⟨hb, r⟩
  have HL : Hid (z.length = 96) := h.len
  have HZ := hid h
  have HT : Hid (∀ e w', Took z w e w' = Took z w e w') := fun _ _ => rfl
  have h4 : SlN w (some ⟨b, o + 4, none⟩) 92 (z.drop 4) := by
    have := h.mid 4 92 cap (by omega) hc
    rw [atOff, if_neg (by omega)] at this
    rw [List.take_of_length_le (by rw [List.length_drop, HL.out]; omega)] at this
    simpa [add_off] using this
  have h12 : SlN w (some ⟨b, o + 12, none⟩) (z.getD 1 0) (FrM.datOf z) := by
    have := h.mid 12 (z.getD 1 0) cap (by omega) hc
    rw [atOff, if_neg (by omega)] at this
    have this : SlN w (some (Addr.add ⟨b, o, none⟩ 12)) (z.getD 1 0) ((z.drop 12).take (z.getD 1 0)) := this
    rw [add_off] at this
    exact this
  have HWD := hid (word_any (some ⟨b, o + 4, none⟩) 92 (cap - 4) (z.drop 4) w h4 (by omega) (by omega))
  rw [word_drop] at HWD
  have c1 : w.cell? ⟨b, o + 1, none⟩ = some (.int .u8 (z.getD 1 0 : Nat)) := r.cells 1 (by rw [HL.out]; omega)
  have HID : Hid (FrM.idOf z < 4294967296) := FrM.word_lt r.small 4
  have HDS : Hid (∀ x ∈ FrM.datOf z, x < 256) := h12.small
  have hTK : FrM.tk z = if z = FrM.fr (FrM.idOf z) (FrM.datOf z) then some (FrM.idOf z, FrM.datOf z) else none := by
    unfold FrM.tk
    by_cases e : z = FrM.fr (FrM.idOf z) (FrM.datOf z)
    · rw [if_pos e, if_pos ⟨HL.out, hm, e⟩]
    · rw [if_neg e, if_neg fun k => e k.2.2]
  have HGOOD : Hid (z = FrM.fr (FrM.idOf z) (FrM.datOf z) → ∀ w' a c, Got w w' a (z.getD 1 0) c (FrM.datOf z) → Took z w (.returned (.tuple #[.int .i64 (FrM.idOf z : Nat), .slice a (z.getD 1 0) c, .bool true])) w') := fun e w' a c g => .inl ⟨a, c, by rw [hTK, if_pos e], rfl, g⟩
  have HBAD : Hid (¬ z = FrM.fr (FrM.idOf z) (FrM.datOf z) → ∀ w', Up Nul w w' → Took z w (.returned (.tuple #[.int .i64 0, .slice none 0 0, .bool false])) w') := fun e w' u => .inr ⟨by rw [hTK, if_neg e], rfl, u⟩
  have s4 := run_from_at b o 96 cap 4 (by omega) (by omega) hc
  have s12 : ∀ W, (Instr.slice 47 (.slice (some ⟨b, o, none⟩) 96 cap) (some (.int .i64 12)) (some (.int .i64 ((12 : Int) + ((z.getD 1 0 : Nat) : Int)))) none).run Try.prog W = .ok (.slice (some ⟨b, o + 12, none⟩) (z.getD 1 0) (cap - 12)) W := fun W => by
    have := run_part (some ⟨b, o, none⟩) 96 cap 12 (12 + z.getD 1 0) (z.getD 1 0) rfl (by omega) W
    rw [atOff, if_neg (by omega)] at this
    simpa [add_off, Int.natCast_add] using this
  have HCL := hid (bclone_any (some ⟨b, o + 12, none⟩) (z.getD 1 0) (cap - 12) (FrM.datOf z) w h12 (fun e => by cases e) (by omega))
  have HWD : Hid (Calls Try.prog 82 #[.slice (some ⟨b, o + 4, none⟩) 92 (cap - 4)] w fun e w' => e = .returned (.int .u32 (FrM.idOf z : Nat)) ∧ w = w') := HWD
  have i0 : ((z.getD 1 0 : Nat) : Int) ≤ 64 := by omega
  have i3 : (96 : Int) ≤ (cap : Int) := by omega
  have hid64 : IntKind.i64.wrap (FrM.idOf z : Int) = (FrM.idOf z : Int) := by have := HID.out; exact IntWalk.i64_in _ (by omega)
  have HM : Hid (z.getD 1 0 ≤ 64) := hm
  generalize Took z w = K at HGOOD HBAD ⊢
  generalize FrM.idOf z = id at HWD HID HGOOD HBAD hid64 hTK
  generalize FrM.datOf z = dat at HDS HCL HGOOD HBAD h12 hTK
  generalize z.getD 1 0 = m at c1 HGOOD s12 HCL i0 HM h12
  clear h r h4 h12 hTK hm HT
  go_enter Try.func75, Try.ntmps75
  go_wp2_with fail
  refine HWD.out.mono ?_
  rintro e w1 ⟨rfl, rfl⟩
  go_wp2_with fail
  refine HCL.out.mono ?_
  rintro e w1 ⟨a', c', rfl, g1⟩
  have HG := hid g1
  have HL1 : Hid (dat.length = m) := g1.sl.len
  clear g1
  go_wp2_with fail
  refine (put_good id a' m c' dat w1 HID.out HM.out HG.out.sl).mono ?_
  rintro e w2 ⟨rfl, p1, p2⟩
  have HP := hid p1
  have HU := hid p2
  clear p1 p2
  go_wp2_with fail
  refine (equalS (some ⟨b, o, none⟩) _ 96 cap 96 96 z (FrM.fr id dat) w2 (HZ.out.nxt (HG.out.up.trans HU.out)) (blk_sln HP.out (by rw [FrM.fr_length (by rw [HL1.out]; exact HM.out)]; omega) (by rw [List.drop_zero, List.take_of_length_le (by rw [FrM.fr_length (by rw [HL1.out]; exact HM.out)]; omega)]) (by omega))).mono ?_
  rintro e w3 ⟨rfl, rfl⟩
  by_cases e : z = FrM.fr id dat
  · rw [decide_eq_true e]
    have E := hid e
    clear e
    go_wp2
    go_ret3
    exact HGOOD.out E.out _ _ _ ⟨HG.out.sl.nxt HU.out, HG.out.cap, HG.out.nil, HG.out.new, HG.out.up.trans HU.out⟩
  · rw [decide_eq_false e]
    have E := hid e
    clear e
    go_wp2
    go_ret3
    exact HBAD.out E.out _ (HG.out.up.trans HU.out)
/-- Take of any bytes. -/
theorem take_any (a : Option Addr) (n cap : Nat) (z : List Nat) (w : World) (h : SlN w a n z) (hc : n ≤ cap) :
    Calls Try.prog 75 #[.slice a n cap] w (Took z w) := by
  by_cases hn : n = 96
  · subst hn
    rcases h.row with e | ⟨b, o, rfl, _, _⟩
    · cases e
    · by_cases hm : z.getD 1 0 ≤ 64
      · exact take_at b o cap z w h hc hm
      · exact take_more b o cap z w h (by omega)
  · exact take_len a n cap z w h hn
theorem holds_any (a : Option Addr) (n cap : Nat) (z : List Nat) (x : Int) (w : World) (h : SlN w a n z) (hc : n ≤ cap) :
    Calls Try.prog 58 #[.slice a n cap, .int .i64 x] w fun e w' =>
      (∃ a' c, FrM.tk z = some (FrM.idOf z, FrM.datOf z) ∧ (FrM.idOf z : Int) = x ∧ e = .returned (.tuple #[.slice a' (z.getD 1 0) c, .bool true]) ∧ Got w w' a' (z.getD 1 0) c (FrM.datOf z)) ∨
      ((FrM.tk z = none ∨ ¬ (FrM.idOf z : Int) = x) ∧ e = .returned (.tuple #[.slice none 0 0, .bool false]) ∧ Up Nul w w') := by
  have HT := hid (take_any a n cap z w h hc)
  clear h hc
  unfold Took at HT
  go_enter Try.func58, Try.ntmps58
  go_wp2_with fail
  refine HT.out.mono ?_
  rintro e w1 (⟨a', c, h1, rfl, g⟩ | ⟨h1, rfl, u⟩)
  · have H1 := hid (And.intro h1 g)
    clear h1 g
    by_cases e : (FrM.idOf z : Int) = x
    · have E := hid e
      have e2 : ((FrM.idOf z : Int) == x) = true := by simp [e]
      go_wp2
      go_ret2
      exact .inl ⟨a', c, H1.out.1, E.out, rfl, H1.out.2⟩
    · have E := hid e
      have e2 : ((FrM.idOf z : Int) == x) = false := by simp [e]
      go_wp2
      go_ret2
      exact .inr ⟨.inr E.out, rfl, H1.out.2.up⟩
  · have H1 := hid (And.intro h1 u)
    clear h1 u
    go_wp2
    go_ret2
    exact .inr ⟨.inl H1.out.1, rfl, H1.out.2⟩
theorem slm_mark (w : World) (z : List Nat) (fr : Nat × Nat) (hz : ∀ x ∈ z, x < 256) (hl : z.length ≤ 9223372036854775807) (q : Nat) (hq : q = w.heap.size) : SlN (w.alloc (.cells (bys z) 5 fr)) (some ⟨q, 0, none⟩) z.length z := by
  subst hq
  refine ⟨rfl, .inr ⟨_, 0, rfl, by simp, fun i hi => ?_, fun i => small_getD hz i⟩, hl⟩
  rw [World.cell?_alloc_mark, Nat.zero_add]
  exact bys_at z i hi
namespace FrL
theorem i64_mask (m : Nat) (hm : m < 63) (n : Int) : ∃ k : Nat, bits .and .i64 n ((2 ^ m - 1 : Nat) : Int) = (k : Int) ∧ k < 2 ^ m := by
  have hp : 2 ^ m ≤ 2 ^ 62 := Nat.pow_le_pow_right (by omega) (by omega)
  have key : (BitVec.ofInt 64 n &&& BitVec.ofInt 64 ((2 ^ m - 1 : Nat) : Int)).toNat = (n % ((2 ^ 64 : Nat) : Int)).toNat % 2 ^ m := by
    have e : (BitVec.ofInt 64 ((2 ^ m - 1 : Nat) : Int)).toNat = 2 ^ m - 1 := by
      rw [BitVec.toNat_ofInt]
      have : (((2 ^ m - 1 : Nat) : Int) % ((2 ^ 64 : Nat) : Int)) = ((2 ^ m - 1 : Nat) : Int) := Int.emod_eq_of_lt (by omega) (by omega)
      rw [this]
      omega
    rw [BitVec.toNat_and, BitVec.toNat_ofInt, e, Nat.and_two_pow_sub_one_eq_mod]
  refine ⟨(n % ((2 ^ 64 : Nat) : Int)).toNat % 2 ^ m, ?_, Nat.mod_lt _ (Nat.two_pow_pos m)⟩
  show IntKind.i64.wrap ((BitVec.ofInt 64 n &&& BitVec.ofInt 64 ((2 ^ m - 1 : Nat) : Int)).toNat : Nat) = _
  rw [key, IntKind.wrap_i64]
  have := Nat.mod_lt (n % ((2 ^ 64 : Nat) : Int)).toNat (Nat.two_pow_pos m)
  generalize (n % ((2 ^ 64 : Nat) : Int)).toNat % 2 ^ m = x at this ⊢
  omega
theorem mask32 (n : Int) : ∃ k : Nat, bits .and .i64 n 4294967295 = (k : Int) ∧ k < 4294967296 := i64_mask 32 (by omega) n
theorem mask16 (n : Int) : ∃ k : Nat, bits .and .i64 n 65535 = (k : Int) ∧ k < 65536 := i64_mask 16 (by omega) n
theorem mask8 (n : Int) : ∃ k : Nat, bits .and .i64 n 255 = (k : Int) ∧ k < 256 := i64_mask 8 (by omega) n
theorem mask3 (n : Int) : ∃ k : Nat, bits .and .i64 n 7 = (k : Int) ∧ k < 8 := i64_mask 3 (by omega) n
theorem mask1 (n : Int) : ∃ k : Nat, bits .and .i64 n 1 = (k : Int) ∧ k < 2 := i64_mask 1 (by omega) n
theorem rem_lit (a n : Nat) (hn : 0 < n) : ∃ b : Nat, (a : Int) % (n : Int) = (b : Int) ∧ b < n := ⟨a % n, by rw [Int.natCast_emod], Nat.mod_lt a hn⟩
end FrL
/-- A slice of bytes told, as a string. -/
theorem conv_nil (w : World) : (convert 47 9 (.slice none 0 0)).run Try.prog w = .ok (.string ⟨#[]⟩) w := conv_zero none 0 w
/-- Put, as a law meets it. -/
theorem put_some (id : Nat) (a : Option Addr) (n cap : Nat) (z : List Nat) (w : World) (hi : id < 4294967296) (hn : n ≤ 64) (hz : SlN w a n z) :
    Calls Try.prog 55 #[.int .i64 id, .slice a n cap] w fun e w' => ∃ g, e = .returned (.tuple #[.slice (some ⟨g, 0, none⟩) 96 96, .bool true]) ∧ w.heap.size ≤ g ∧ Blk w' g (FrM.fr id z) ∧ Up Nul w w' :=
  (put_good id a n cap z w hi hn hz).mono fun e w' ⟨h1, h2, h3⟩ => ⟨_, h1, Nat.le_refl _, h2, h3⟩
theorem fr_sln {w : World} {g id : Nat} {z : List Nat} (h : Blk w g (FrM.fr id z)) (hz : z.length ≤ 64) : SlN w (some ⟨g, 0, none⟩) 96 (FrM.fr id z) :=
  blk_sln h (by rw [FrM.fr_length hz]; omega) (by rw [List.drop_zero, List.take_of_length_le (by rw [FrM.fr_length hz]; omega)]) (by omega)
/-- Take of what is a frame, and of what is none. -/
theorem take_yes (a : Option Addr) (n cap id : Nat) (d : List Nat) (w : World) (hi : id < 4294967296) (hd : d.length ≤ 64) (h : SlN w a n (FrM.fr id d)) (hc : n ≤ cap) :
    Calls Try.prog 75 #[.slice a n cap] w fun e w' => ∃ a' c, e = .returned (.tuple #[.int .i64 id, .slice a' d.length c, .bool true]) ∧ Got w w' a' d.length c d := by
  refine (take_any a n cap _ w h hc).mono ?_
  rintro e w' (⟨a', c, h1, rfl, g⟩ | ⟨h1, _⟩)
  · rw [FrM.fr_id hi, FrM.fr_len, FrM.fr_dat] at *
    exact ⟨a', c, rfl, g⟩
  · rw [FrM.tk_fr hi hd] at h1
    cases h1
theorem take_no (a : Option Addr) (n cap : Nat) (z : List Nat) (w : World) (ht : FrM.tk z = none) (h : SlN w a n z) (hc : n ≤ cap) :
    Calls Try.prog 75 #[.slice a n cap] w fun e w' => e = .returned (.tuple #[.int .i64 0, .slice none 0 0, .bool false]) ∧ Up Nul w w' := by
  refine (take_any a n cap _ w h hc).mono ?_
  rintro e w' (⟨a', c, h1, _⟩ | ⟨_, rfl, u⟩)
  · rw [ht] at h1
    cases h1
  · exact ⟨rfl, u⟩
theorem holds_yes (a : Option Addr) (n cap id : Nat) (d : List Nat) (w : World) (hi : id < 4294967296) (hd : d.length ≤ 64) (h : SlN w a n (FrM.fr id d)) (hc : n ≤ cap) :
    Calls Try.prog 58 #[.slice a n cap, .int .i64 id] w fun e w' => ∃ a' c, e = .returned (.tuple #[.slice a' d.length c, .bool true]) ∧ Got w w' a' d.length c d := by
  refine (holds_any a n cap _ _ w h hc).mono ?_
  rintro e w' (⟨a', c, h1, _, rfl, g⟩ | ⟨h1, _⟩)
  · rw [FrM.fr_len, FrM.fr_dat] at *
    exact ⟨a', c, rfl, g⟩
  · rw [FrM.tk_fr hi hd, FrM.fr_id hi] at h1
    rcases h1 with h1 | h1
    · cases h1
    · exact absurd rfl h1
theorem holds_no (a : Option Addr) (n cap id : Nat) (d : List Nat) (x : Int) (w : World) (hi : id < 4294967296) (hx : ¬ (id : Int) = x) (h : SlN w a n (FrM.fr id d)) (hc : n ≤ cap) :
    Calls Try.prog 58 #[.slice a n cap, .int .i64 x] w fun e w' => e = .returned (.tuple #[.slice none 0 0, .bool false]) ∧ Up Nul w w' := by
  refine (holds_any a n cap _ _ w h hc).mono ?_
  rintro e w' (⟨a', c, _, h1, _⟩ | ⟨_, rfl, u⟩)
  · rw [FrM.fr_id hi] at h1
    exact absurd h1 hx
  · exact ⟨rfl, u⟩
theorem tk_head {z : List Nat} (h : ¬ z.getD 0 0 = 183) : FrM.tk z = none := by
  unfold FrM.tk
  rw [if_neg]
  rintro ⟨_, _, e⟩
  rw [e, FrM.fr_head] at h
  exact h rfl
theorem zer_sln (w : World) (n : Nat) (hn : n ≤ 1000) : SlN (w.alloc (.cells (bys (zer n)) 5)) (some ⟨w.heap.size, 0, none⟩) n (zer n) := by
  have := slm_mark w (zer n) (0, 0) (zer_small n) (by rw [zer_length]; omega) _ rfl
  rwa [zer_length] at this

theorem Up.put {S : Nat → Prop} {u w : World} (h : Up S u w) {b : Nat} (hb : S b) (i : Nat) (v : Value) : Up S u (w.setCell ⟨b, i, none⟩ v) := h.setCell (.inr hb) v
/-- What turns none but new blocks. -/
theorem Up.newer {S : Nat → Prop} {u w w' : World} (h : Up Nul u w) (k : Up S w w') (hs : ∀ i, i < u.heap.size → ¬ S i) : Up Nul u w' :=
  ⟨k.os.trans h.os, k.tape.trans h.tape, k.output.trans h.output, Nat.le_trans h.size k.size, fun i hi _ => (k.block i (Nat.lt_of_lt_of_le hi h.size) (hs i hi)).trans (h.block i hi id)⟩
/-- A Fuse in memory; 'none': of any number. -/
structure Fz (w : World) (f : Nat) (k : Option Nat) : Prop where
  heap : w.heap[f]? = some (.cells #[.bool k.isSome, .int .i64 ((k.getD 0 : Nat) : Int)] 82 (0, 0))
  le : k.getD 0 ≤ 9223372036854775807
theorem Fz.lt {w : World} {f : Nat} {k : Option Nat} (h : Fz w f k) : f < w.heap.size := (Array.getElem?_eq_some_iff.1 h.heap).1
theorem Fz.c0 {w : World} {f : Nat} {k : Option Nat} (h : Fz w f k) : w.cell? ⟨f, 0, none⟩ = some (.bool k.isSome) := by simp [World.cell?, h.heap]
theorem Fz.c1 {w : World} {f : Nat} {k : Option Nat} (h : Fz w f k) : w.cell? ⟨f, 1, none⟩ = some (.int .i64 ((k.getD 0 : Nat) : Int)) := by simp [World.cell?, h.heap]
theorem Fz.fr {w : World} {f : Nat} {k : Option Nat} (h : Fz w f k) (i : Nat) : w.frozen? ⟨f, i, none⟩ = false := by simp [World.frozen?, h.heap]
theorem Fz.up {S : Nat → Prop} {w w' : World} {f : Nat} {k : Option Nat} (h : Fz w f k) (u : Up S w w') (hs : ¬ S f) : Fz w' f k := ⟨(u.block f h.lt hs).trans h.heap, h.le⟩
/-- The Fuse of a pointer that may be nil. -/
def FzO (w : World) (fu : Option Nat) (k : Option Nat) : Prop := match fu with
  | none => k = none
  | some f => Fz w f k
/-- The pointer. -/
def fp (fu : Option Nat) : Option Addr := fu.map fun f => ⟨f, 0, none⟩
theorem FzO.up {S : Nat → Prop} {w w' : World} {fu k : Option Nat} (h : FzO w fu k) (u : Up S w w') (hs : ∀ f, fu = some f → ¬ S f) : FzO w' fu k := by
  cases fu with
  | none => exact h
  | some f => exact Fz.up h u (hs f rfl)
/-- The Fuse alone turns. -/
def FF (fu : Option Nat) (k : Nat) : Prop := fu = some k
theorem dead_any (fu k : Option Nat) (w : World) (h : FzO w fu k) :
    Calls Try.prog 59 #[.pointer (fp fu)] w fun e w' => e = .returned (.bool (k == some 0)) ∧ w' = w := by
  cases fu with
  | none =>
    obtain rfl : k = none := h
    show Calls Try.prog 59 #[.pointer none] w _
    go_enter Try.func59, Try.ntmps59
    go_wp2
    go_ret
    exact ⟨rfl, rfl⟩
  | some f =>
    show Calls Try.prog 59 #[.pointer (some ⟨f, 0, none⟩)] w _
    rcases k with _ | _ | n
    · have c0 : w.cell? ⟨f, 0, none⟩ = some (.bool false) := Fz.c0 h
      clear h
      go_enter Try.func59, Try.ntmps59
      go_wp2
      go_ret
      exact ⟨rfl, rfl⟩
    · have c0 : w.cell? ⟨f, 0, none⟩ = some (.bool true) := Fz.c0 h
      have c1 : w.cell? ⟨f, 1, none⟩ = some (.int .i64 0) := Fz.c1 h
      clear h
      go_enter Try.func59, Try.ntmps59
      go_wp2
      go_ret
      exact ⟨rfl, rfl⟩
    · have c0 : w.cell? ⟨f, 0, none⟩ = some (.bool true) := Fz.c0 h
      have c1 : w.cell? ⟨f, 1, none⟩ = some (.int .i64 ((n + 1 : Nat) : Int)) := Fz.c1 h
      have e : (some (n + 1) == some 0) = false := by simp
      rw [e]
      clear h
      generalize hm : n + 1 = m at c1
      have i1 : ¬ (m : Int) = 0 := by omega
      clear hm e
      go_enter Try.func59, Try.ntmps59
      go_wp2
      go_ret
      exact ⟨by simp; omega, rfl⟩
theorem spend_dead (fu : Option Nat) (w : World) (h : FzO w fu (some 0)) :
    Calls Try.prog 73 #[.pointer (fp fu)] w fun e w' => e = .returned (.bool false) ∧ w' = w := by
  have HD := hid (dead_any fu (some 0) w h)
  generalize fp fu = p at HD ⊢
  clear h
  go_enter Try.func73, Try.ntmps73
  go_wp2_with ((go_at_call 59; (with_reducible refine HD.out.mono ?_); rintro e w1 ⟨rfl, rfl⟩))
  go_ret
  exact ⟨rfl, rfl⟩
/-- The number of writes behind one. -/
def less (k : Option Nat) : Option Nat := k.map (· - 1)
theorem Fz.set {w : World} {f m : Nat} (h : Fz w f (some (m + 1))) : Fz (w.setCell ⟨f, 1, none⟩ (.int .i64 (m : Int))) f (some m) :=
  ⟨heap_setCell_same w f 1 _ _ _ h.heap, by have := h.le; simp at this ⊢; omega⟩
theorem spend_live (fu k : Option Nat) (w : World) (h : FzO w fu k) (hk : k ≠ some 0) :
    Calls Try.prog 73 #[.pointer (fp fu)] w fun e w' => e = .returned (.bool true) ∧ FzO w' fu (less k) ∧ Up (FF fu) w w' ∧ w'.heap.size = w.heap.size := by
  have hd := dead_any fu k w h
  rw [show (k == some 0) = false by simpa using hk] at hd
  have HD := hid hd
  clear hd
  cases fu with
  | none =>
    obtain rfl : k = none := h
    have HD : Hid (Calls Try.prog 59 #[.pointer none] w _) := HD
    show Calls Try.prog 73 #[.pointer none] w _
    go_enter Try.func73, Try.ntmps73
    go_wp2_with ((go_at_call 59; (with_reducible refine HD.out.mono ?_); rintro e w1 ⟨rfl, rfl⟩))
    go_ret
    exact ⟨rfl, rfl, Up.refl _ _, rfl⟩
  | some f =>
    have HD : Hid (Calls Try.prog 59 #[.pointer (some ⟨f, 0, none⟩)] w _) := HD
    show Calls Try.prog 73 #[.pointer (some ⟨f, 0, none⟩)] w _
    rcases k with _ | _ | n
    · have HF : Hid (Fz w f none) := h
      have c0 : w.cell? ⟨f, 0, none⟩ = some (.bool false) := Fz.c0 h
      clear h hk
      go_enter Try.func73, Try.ntmps73
      go_wp2_with ((go_at_call 59; (with_reducible refine HD.out.mono ?_); rintro e w1 ⟨rfl, rfl⟩))
      go_ret
      exact ⟨rfl, HF.out, Up.refl _ _, rfl⟩
    · exact absurd rfl hk
    · have HF : Hid (Fz w f (some (n + 1))) := h
      have c0 : w.cell? ⟨f, 0, none⟩ = some (.bool true) := Fz.c0 h
      have c1 : w.cell? ⟨f, 1, none⟩ = some (.int .i64 ((n + 1 : Nat) : Int)) := Fz.c1 h
      have f1 := Fz.fr h 1
      have hle : n + 1 ≤ 9223372036854775807 := HF.out.le
      have HS := hid HF.out.set
      have i1 : ((n + 1 : Nat) : Int) - 1 = (n : Int) := by omega
      obtain ⟨m, hm⟩ : ∃ m, m = n + 1 := ⟨_, rfl⟩
      rw [← hm] at c1 i1
      have i4 : IntKind.i64.wrap ((m : Int) - 1) = (n : Int) := by rw [i1]; exact IntWalk.i64_in _ (by omega)
      have i5 : wrap64 ((m : Int) - 1) = (n : Int) := by rw [← IntWalk.i64_left]; exact i4
      have i6 : wrap64 (n : Int) = (n : Int) := by rw [i1] at i5; exact i5
      clear hk hm hle h
      go_enter Try.func73, Try.ntmps73
      go_wp2_with ((go_at_call 59; (with_reducible refine HD.out.mono ?_); rintro e w1 ⟨rfl, rfl⟩))
      go_ret
      exact ⟨rfl, HS.out, (Up.refl (FF (some f)) _).put rfl _ _, by simp⟩
/-- What k writes are, as NewFuse takes them. -/
def ofk (k : Int) : Option Nat := if 1 ≤ k then some k.toNat else none
theorem set_any (f : Nat) (k0 : Option Nat) (k : Int) (w : World) (h : Fz w f k0) (hk : k ≤ 9223372036854775807) :
    Calls Try.prog 40 #[.pointer (some ⟨f, 0, none⟩), .int .i64 k] w fun e w' => e = .returned (.tuple #[]) ∧ Fz w' f (ofk k) ∧ Up (One f) w w' ∧ w'.heap.size = w.heap.size := by
  have c0 := h.c0
  have c1 := h.c1
  have f0 := h.fr 0
  have f1 := h.fr 1
  have HF := hid h
  clear h
  by_cases h1 : 1 ≤ k
  · have HE : Hid (Fz ((w.setCell ⟨f, 0, none⟩ (.bool true)).setCell ⟨f, 1, none⟩ (.int .i64 k)) f (ofk k)) := by
      show Fz _ _ _
      rw [ofk, if_pos h1]
      refine ⟨?_, by simp; omega⟩
      rw [heap_setCell_same _ f 1 _ _ _ (heap_setCell_same w f 0 _ _ _ HF.out.heap)]
      simp
      omega
    have i1 : max k 0 = k := by omega
    have c1' : ∀ v, ∃ u, (w.setCell ⟨f, 0, none⟩ v).cell? ⟨f, 1, none⟩ = some u := fun v => ⟨_, by rw [World.cell?_setCell_other _ _ _ _ (by simp)]; exact c1⟩
    go_enter Try.func40, Try.ntmps40
    go_wp2
    go_end0
    exact ⟨rfl, HE.out, ((Up.refl (One f) _).put rfl _ _).put rfl _ _, by simp⟩
  · have HE : Hid (Fz ((w.setCell ⟨f, 0, none⟩ (.bool false)).setCell ⟨f, 1, none⟩ (.int .i64 0)) f (ofk k)) := by
      show Fz _ _ _
      rw [ofk, if_neg h1]
      refine ⟨?_, by simp⟩
      rw [heap_setCell_same _ f 1 _ _ _ (heap_setCell_same w f 0 _ _ _ HF.out.heap)]
      simp
    have i1 : max k 0 = 0 := by omega
    go_enter Try.func40, Try.ntmps40
    go_wp2
    go_end0
    exact ⟨rfl, HE.out, ((Up.refl (One f) _).put rfl _ _).put rfl _ _, by simp⟩
theorem newFuse_any (k : Int) (w : World) (hk : k ≤ 9223372036854775807) :
    Calls Try.prog 22 #[.int .i64 k] w fun e w' => ∃ f, e = .returned (.pointer (some ⟨f, 0, none⟩)) ∧ Fz w' f (ofk k) ∧ Up Nul w w' ∧ w.heap.size ≤ f := by
  have HZ : Hid (Fz (w.alloc (.cells #[.bool false, .int .i64 0] 82)) w.heap.size none) := ⟨heap_alloc_new _ _, by simp⟩
  have HS := hid (set_any w.heap.size none k _ HZ.out hk)
  have HU := hid ((Up.refl Nul w).alloc (.cells #[.bool false, .int .i64 0] 82))
  go_enter Try.func22, Try.ntmps22
  go_wp2_with ((go_at_call 40; (with_reducible refine HS.out.mono ?_); rintro e w1 ⟨rfl, g1, g2, g3⟩; have G := hid (And.intro g1 g2); clear g1 g2 g3))
  go_ret
  exact ⟨_, rfl, G.out.1, HU.out.newer G.out.2 fun i hi he => by unfold One at he; omega, Nat.le_refl _⟩
theorem Blk.whole {w : World} {q : Nat} {z : List Nat} (h : Blk w q z) : Row w q 0 z := ⟨fun i hi => by rw [Nat.zero_add]; exact h.cell i hi, fun i => small_getD h.small i⟩
theorem Part.nxt {w wr : World} {g n k x : Nat} {f : Nat → Nat} {y : List Nat} (h : Part w g n k f wr y) (hg : w.heap.size ≤ g) (hk : k < n) (hx : f k = x) (h8 : x < 256) :
    Part w g n (k + 1) f (wr.setCell ⟨g, k, none⟩ (.int .u8 x)) (y.set k x) :=
  ⟨h.blk.set k x h8, by rw [List.length_set]; exact h.len, fun i hi => by
    rw [getD_set _ _ _ _ (by rw [h.len]; exact hk)]
    split
    · next e => rw [e, hx]
    · exact h.told i (by omega), h.up.setCell (.inl hg) _⟩
/-- What 'Full' lays. -/
def fl (c i : Nat) : Nat := (c + i * 3) % 256
def ful (c : Nat) : List Nat := tab 96 (fl c)
theorem ful_length (c : Nat) : (ful c).length = 96 := by simp [ful, tab]

def vals (z : List Nat) : List Value := z.map fun (n : Nat) => Value.int .u8 (n : Int)
theorem vals_length (z : List Nat) : (vals z).length = z.length := by simp [vals]
/-- What a pending write holds: the slot, and what was there. -/
def pcell (p : Nat × List Nat) : List Value := .int .i64 ((p.1 : Nat) : Int) :: vals p.2
def pcells (ps : List (Nat × List Nat)) : List Value := (ps.map pcell).flatten
theorem pcells_append (ps : List (Nat × List Nat)) (p : Nat × List Nat) : pcells (ps ++ [p]) = pcells ps ++ pcell p := by simp [pcells]
/-- Where a Disk lies, and what it holds. -/
structure DK where
  b : Nat
  q : Nat
  n : Nat
  fu : Option Nat
  live : Bool
  z : List Nat
  pa : Option Addr
  pc : Nat
  ps : List (Nat × List Nat)
/-- A slot's bytes. -/
def DK.slot (d : DK) (s : Nat) : List Nat := (d.z.drop (s * 96)).take 96
def DK.pv (d : DK) : Value := .slice d.pa d.ps.length d.pc
structure Dsk (w : World) (d : DK) : Prop where
  head : w.heap[d.b]? = some (.cells #[.pointer (fp d.fu), .bool d.live, .slice (some ⟨d.q, 0, none⟩) d.n d.n, .slice d.pa d.ps.length d.pc] 80 (0, 0))
  rows : w.heap[d.q]? = some (.cells (bys d.z) 114 (0, 0))
  small : ∀ x ∈ d.z, x < 256
  len : d.z.length = d.n * 96
  le : d.n ≤ 64
  pend : w.ownsRow 0 116 97 d.pv d.ps.length (pcells d.ps)
  good : ∀ p ∈ d.ps, p.1 < d.n ∧ p.2.length = 96 ∧ ∀ x ∈ p.2, x < 256
  most : d.ps.length ≤ 1000
/-- The blocks of a Disk. -/
def DK.foot (d : DK) (k : Nat) : Prop := k = d.b ∨ k = d.q ∨ d.pv.ownBlock = some k
theorem ne_type {w : World} {i j : Nat} {a b : Array Value} {s t : TypeId} {f g : Nat × Nat} (h : w.heap[i]? = some (.cells a s f)) (k : w.heap[j]? = some (.cells b t g)) (hst : s ≠ t) : i ≠ j := by
  rintro rfl
  rw [h] at k
  injection k with k
  injection k with _ k _
  exact hst k
theorem Dsk.lt_b {w : World} {d : DK} (h : Dsk w d) : d.b < w.heap.size := (Array.getElem?_eq_some_iff.1 h.head).1
theorem Dsk.lt_q {w : World} {d : DK} (h : Dsk w d) : d.q < w.heap.size := (Array.getElem?_eq_some_iff.1 h.rows).1
theorem Dsk.bq {w : World} {d : DK} (h : Dsk w d) : d.b ≠ d.q := ne_type h.head h.rows (by decide)
theorem Dsk.pend_row {w : World} {d : DK} (h : Dsk w d) {g : Nat} (hg : d.pv.ownBlock = some g) : ∃ cur, w.heap[g]? = some (.cells cur 116 (0, 0)) := by
  rcases h.pend.2 with ⟨e, _⟩ | ⟨g', cap, cur, e, _, e2, _⟩
  · rw [e] at hg; cases hg
  · rw [e] at hg
    obtain rfl : g' = g := by simpa [Value.ownBlock] using hg
    exact ⟨cur, e2⟩
theorem Dsk.foot_lt {w : World} {d : DK} (h : Dsk w d) {k : Nat} (hk : d.foot k) : k < w.heap.size := by
  rcases hk with rfl | rfl | hk
  · exact h.lt_b
  · exact h.lt_q
  · obtain ⟨cur, e⟩ := h.pend_row hk
    exact (Array.getElem?_eq_some_iff.1 e).1
theorem Dsk.pb {w : World} {d : DK} (h : Dsk w d) : d.pv.ownBlock ≠ some d.b := fun e => by
  obtain ⟨cur, k⟩ := h.pend_row e
  exact ne_type h.head k (by decide) rfl
theorem Dsk.pq {w : World} {d : DK} (h : Dsk w d) : d.pv.ownBlock ≠ some d.q := fun e => by
  obtain ⟨cur, k⟩ := h.pend_row e
  exact ne_type h.rows k (by decide) rfl
theorem own_up {S : Nat → Prop} {base n sz : Nat} {T : TypeId} {w w' : World} {v : Value} {xs : List Value} (h : w.ownsRow base T sz v n xs) (u : Up S w w') (hs : ∀ g, v.ownBlock = some g → ¬ S g) : w'.ownsRow base T sz v n xs := by
  refine ⟨h.1, ?_⟩
  rcases h.2 with hn | ⟨g, cap, cur, h1, h2, h3, h4⟩
  · exact .inl hn
  · exact .inr ⟨g, cap, cur, h1, h2, (u.block g (Array.getElem?_eq_some_iff.1 h3).1 (hs g (by rw [h1]; rfl))).trans h3, h4⟩
end Go.Proofs.Ytcejdobmgbielaa
