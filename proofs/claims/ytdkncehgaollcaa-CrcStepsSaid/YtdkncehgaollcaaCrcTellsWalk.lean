/- The law CrcTells, walked. -/
import Derived.Test.YtdkncehgaollcaaCrcAwake
import Derived.Deep.RegionHeld3
namespace Go.Proofs.Ytdkncehgaollcaa
open Go.RowKit
set_option linter.unusedVariables false

theorem i64_mask16 (n : Int) : ∃ k : Nat, bits .and .i64 n 65535 = (k : Int) ∧ k < 65536 := by
  have key : (BitVec.ofInt 64 n &&& BitVec.ofInt 64 65535).toNat = (n % ((2 ^ 64 : Nat) : Int)).toNat % 2 ^ 16 := by
    rw [BitVec.toNat_and, BitVec.toNat_ofInt, show (BitVec.ofInt 64 65535).toNat = 2 ^ 16 - 1 by decide, Nat.and_two_pow_sub_one_eq_mod]
  refine ⟨(n % ((2 ^ 64 : Nat) : Int)).toNat % 2 ^ 16, ?_, by omega⟩
  show IntKind.i64.wrap ((BitVec.ofInt 64 n &&& BitVec.ofInt 64 65535).toNat : Nat) = _
  rw [key, IntKind.wrap_i64]
  omega

/-- What a slice of bytes that came in is, and its string. -/
structure Came (w : World) (a : Option Addr) (n : Nat) (z : List Nat) (s : ByteArray) : Prop where
  sl : SlN w a n z
  nums : nums s = z
  size : s.size = n
  conv : ∀ cap w', Up Nul w w' → (convert 22 9 (.slice a n cap)).run Try.prog w' = .ok (.string s) w'
theorem Came.of {w : World} {a : Option Addr} {n cap : Nat} {zs : List Int} (h : CameIn w a n cap zs) : ∃ z s, Came w a n z s := by
  rcases came_in h with rfl | ⟨b, o, z, rfl, rfl, r, hb, hm⟩
  · exact ⟨[], ByteArray.empty, ⟨rfl, .inl rfl, by omega⟩, rfl, rfl, fun cap w' _ => conv_zero a cap w'⟩
  · exact ⟨z, strOf z, ⟨rfl, .inr ⟨b, o, rfl, hb, r⟩, hm⟩, nums_strOf r.small, strOf_size z, fun cap w' u => conv_row (r.up u hb id) rfl⟩
/-- The address behind k elements. -/
def atOff (a : Option Addr) (k cap : Nat) : Option Addr := if cap = k then a else a.map (fun x => x.add k)

theorem SlN.upto {w : World} {a : Option Addr} {n : Nat} {z : List Nat} (h : SlN w a n z) (k : Nat) (hk : k ≤ n) : SlN w a k (z.take k) := by
  refine ⟨by rw [List.length_take, h.len]; omega, ?_, by have := h.le; omega⟩
  rcases Nat.eq_zero_or_pos k with e | e
  · exact .inl e
  · rcases h.row with e2 | ⟨b, o, ea, hb, r⟩
    · omega
    · refine .inr ⟨b, o, ea, hb, fun i hi => ?_, fun i => ?_⟩
      · have hi' : i < k := by rw [List.length_take] at hi; omega
        rw [r.cells i (by rw [h.len]; omega)]
        simp [List.getD_eq_getElem?_getD, hi']
      · have := r.small i
        simp only [List.getD_eq_getElem?_getD, List.getElem?_take] at this ⊢
        split
        · exact this
        · simp
theorem add_off (b o k : Nat) : Addr.add ⟨b, o, none⟩ k = ⟨b, o + k, none⟩ := by
  by_cases h0 : k = 0
  · subst h0; simp [Addr.add]
  · simp [Addr.add, h0]
theorem SlN.from {w : World} {a : Option Addr} {n : Nat} {z : List Nat} (h : SlN w a n z) (k cap : Nat) (hk : k ≤ n) (hc : n ≤ cap) : SlN w (atOff a k cap) (n - k) (z.drop k) := by
  refine ⟨by rw [List.length_drop, h.len], ?_, by have := h.le; omega⟩
  rcases Nat.eq_zero_or_pos (n - k) with e | e
  · exact .inl e
  · rcases h.row with e2 | ⟨b, o, ea, hb, r⟩
    · omega
    · refine .inr ⟨b, o + k, by rw [atOff, if_neg (by omega), ea]; exact congrArg some (add_off b o k), hb, fun i hi => ?_, fun i => ?_⟩
      · have hi' : i < n - k := by rw [List.length_drop, h.len] at hi; exact hi
        rw [Nat.add_assoc, r.cells (k + i) (by rw [h.len]; omega)]
        simp [List.getD_eq_getElem?_getD]
      · have := r.small (k + i)
        simpa [List.getD_eq_getElem?_getD] using this
theorem size_byte (w : World) : (sizeOf (Try.prog.elem 22)).run Try.prog w = .ok 1 w := by
  have h : (Try.prog.info? (Try.prog.elem 22)).map (·.size) = some 1 := by kernel_rfl
  obtain ⟨i, hi, hs⟩ := Option.map_eq_some_iff.1 h
  simp [sizeOf, typeInfo, hi, hs]
theorem run_upto (a : Option Addr) (n cap k : Nat) (hk : k ≤ n) (hc : n ≤ cap) (w : World) :
    (Instr.slice 22 (.slice a n cap) none (some (.int .i64 k)) none).run Try.prog w = .ok (.slice a k cap) w := by
  rw [run_slice_h (P := Try.prog) (w := w) 22 a n cap (by kernel_rfl) .i64 k (by omega) (by omega), size_byte]
  have e : ∀ x : Addr, x.add 0 = x := fun x => by simp [Addr.add]
  cases a <;> simp [Result.andThen, sliced, e]
theorem run_from (a : Option Addr) (n cap k : Nat) (hk : k ≤ n) (hc : n ≤ cap) (w : World) :
    (Instr.slice 22 (.slice a n cap) (some (.int .i64 k)) none none).run Try.prog w = .ok (.slice (atOff a k cap) (n - k) (cap - k)) w := by
  rw [run_slice_l (P := Try.prog) (w := w) 22 a n cap (by kernel_rfl) .i64 k (by omega) (by omega), size_byte]
  simp [Result.andThen, sliced, atOff]

theorem many_two {w : World} (a1 a2 : Option Addr) (n1 n2 c1 c2 : Nat) (z1 z2 : List Nat) (t : TypeId) (h1 : SlN w a1 n1 z1) (h2 : SlN w a2 n2 z2) :
    Calls Try.prog 11 #[.slice (some ⟨w.heap.size, 0, none⟩) 2 2] (w.alloc (.cells #[.slice a1 n1 c1, .slice a2 n2 c2] t)) fun e w' => e = .returned (.int .u32 (CrcM.sum (z1 ++ z2))) ∧ Up Nul w w' := by
  refine (many_any w.heap.size [⟨a1, n1, c1, z1⟩, ⟨a2, n2, c2, z2⟩] 2 _ (show 2 ≤ 1000 by decide) ?_).mono ?_
  · intro i hi
    have hi : i < 2 := hi
    match i, hi with
    | 0, _ => exact ⟨World.cell?_alloc_new w _ _ 0, h1.next ((Up.refl Nul _).alloc _)⟩
    | 1, _ => exact ⟨World.cell?_alloc_new w _ _ 1, h2.next ((Up.refl Nul _).alloc _)⟩
  · rintro e w' ⟨rfl, rfl⟩
    exact ⟨ret_u32 (by simp), (Up.refl _ _).alloc _⟩

theorem tells_long (a : Option Addr) (n cap : Nat) (x : Int) (r c : Int) (w : World) (h : 1000 < n) :
    Calls Try.prog 4 #[.slice a n cap, .int .i64 x, .int .u32 r, .int .u8 c] w fun e w' => e = .returned (.bool true) ∧ Below w.heap.size w w' := by
  go_enter Try.func4, Try.ntmps4
  go_wp2_with fail
  refine (awake_any _).mono ?_
  rintro e w2 ⟨rfl, k2⟩
  go_wp2
  go_ret
  exact ⟨rfl, k2.below (Nat.le_refl _) fun _ _ => id⟩

set_option maxRecDepth 100000 in
set_option maxHeartbeats 800000 in
theorem tells_short (a : Option Addr) (n cap : Nat) (z : List Nat) (s : ByteArray) (x : Int) (r c : Nat) (w : World) (h : n ≤ 1000) (hc : n ≤ cap) (hb : Came w a n z s) (r8 : r < 4294967296) (c8 : c < 256) :
    Calls Try.prog 4 #[.slice a n cap, .int .i64 x, .int .u32 r, .int .u8 c] w fun e w' => e = .returned (.bool true) ∧ Below w.heap.size w w' := by
  obtain ⟨m, hm, m16⟩ := i64_mask16 x
  obtain ⟨k, hk⟩ : ∃ k : Nat, (m : Int) % ((n : Int) + 1) = (k : Int) ∧ k ≤ n := ⟨m % (n + 1), by rw [Int.natCast_emod]; rfl, by have := Nat.mod_lt m (show 0 < n + 1 by omega); omega⟩
  have hkn := hk.2
  have hmod := hk.1
  have HB := hid hb
  have HU : Hid (∀ W, (Instr.slice 22 (.slice a n cap) none (some (.int .i64 k)) none).run Try.prog W = .ok (.slice a k cap) W) := fun W => run_upto a n cap k hkn hc W
  have HF : Hid (∀ W, (Instr.slice 22 (.slice a n cap) (some (.int .i64 k)) none none).run Try.prog W = .ok (.slice (atOff a k cap) (n - k) (cap - k)) W) := fun W => run_from a n cap k hkn hc W
  have HS : Hid (z.take k ++ z.drop k = z) := List.take_append_drop k z
  have cv := hb.conv cap w (Up.refl _ _)
  have hs := hb.size
  have HSZ : Hid (s.size ≤ 9223372036854775807) := by show _ ≤ _; omega
  obtain ⟨a', ha'⟩ : ∃ x, Hid (atOff a k cap = x) := ⟨_, rfl⟩
  obtain ⟨n', hn'⟩ : ∃ x, Hid (n - k = x) := ⟨_, rfl⟩
  obtain ⟨c', hc'⟩ : ∃ x, Hid (cap - k = x) := ⟨_, rfl⟩
  have HP1 := hid (hb.sl.upto k hkn)
  have HP2 := hid (hb.sl.from k cap hkn hc)
  rw [ha'.out, hn'.out] at HP2
  rw [ha'.out, hn'.out, hc'.out] at HF
  clear hb hk hs
  go_enter Try.func4, Try.ntmps4
  go_wp2_with fail
  refine (refSum_any s _ HSZ.out).mono ?_
  rintro e w' ⟨rfl, rfl⟩
  rw [HB.out.nums]
  obtain ⟨v, V⟩ : ∃ v, Hid (CrcM.sum z = v) := ⟨_, rfl⟩
  rw [V.out]
  have hu := HU.out
  have hf := HF.out
  have HI : Hid (Up Nul w w) := Up.refl _ _
  go_wp2_with fail
  go_region_held3 (fun w' => Up Nul w w')
    (first | assumption | exact HI.out.drew | exact Up.alloc (by assumption) _ | exact Up.alloc HI.out.drew _)
    ((first
      | (go_at_call 9; (with_reducible refine (sum_any _ _ _ z _ (HB.out.sl.next ?_)).mono ?_); (focus (first | exact HI.out.drew | assumption)); rintro e w4 ⟨rfl, k4⟩; rw [V.out]; have oi : Up Nul w w4 := (by first | exact HI.out.drew.trans k4 | exact Up.trans (by assumption) k4); clear k4)
      | (go_at_call 11; (with_reducible refine (many_two _ _ _ _ _ _ (z.take k) (z.drop k) _ (HP1.out.next ?_) (HP2.out.next ?_)).mono ?_); (focus (first | exact HI.out.drew | assumption)); (focus (first | exact HI.out.drew | assumption)); rintro e w4 ⟨rfl, k4⟩; rw [HS.out, V.out]; have oi : Up Nul w w4 := (by first | exact HI.out.drew.trans k4 | exact Up.trans (by assumption) k4); clear k4)
      | (go_at_call 8; (with_reducible refine (step_any r c _ r8 c8).mono ?_); rintro e w4 ⟨rfl, rfl⟩)
      | (go_at_call 12; (with_reducible refine (refStep_any r c _ r8 c8).mono ?_); rintro e w4 ⟨rfl, rfl⟩)
      | (go_at_call 7; (with_reducible refine (awake_any _).mono ?_); rintro e w4 ⟨rfl, k4⟩; have oi : Up Nul w w4 := (by first | exact HI.out.drew.trans k4 | exact Up.trans (by assumption) k4); clear k4)))
  go_wp2
  go_ret
  exact ⟨rfl, oi.below (Nat.le_refl _) fun _ _ => id⟩
theorem came_cap {w : World} {a : Option Addr} {n cap : Nat} {zs : List Int} (h : CameIn w a n cap zs) : n ≤ cap := by
  rcases h with ⟨_, h1, h2, _⟩ | ⟨_, _, h, _⟩
  · omega
  · exact h
theorem tells_walk (a0 : Option Addr) (len0 cap0 : Nat) (z0 : List Int) (a1 a2 a3 : Int) (w : World) (w0 : CameIn w a0 len0 cap0 z0) (w2 : (Lit.int .u32 a2).wf = true) (w3 : (Lit.int .u8 a3).wf = true) :
    Calls Try.prog 4 #[.slice a0 len0 cap0, .int .i64 a1, .int .u32 a2, .int .u8 a3] w fun e w' => e = .returned (.bool true) ∧ Below w.heap.size w w' := by
  by_cases h : 1000 < len0
  · exact tells_long a0 len0 cap0 a1 a2 a3 w h
  · obtain ⟨z, s, hb⟩ := Came.of w0
    have h2 := bounds_u32 w2
    have h3 := bounds_u8 w3
    obtain ⟨r, rfl⟩ := Int.eq_ofNat_of_zero_le h2.1
    obtain ⟨c, rfl⟩ := Int.eq_ofNat_of_zero_le h3.1
    exact tells_short a0 len0 cap0 z s a1 r c w (by omega) (came_cap w0) hb (by omega) (by omega)
end Go.Proofs.Ytdkncehgaollcaa
