/- 'locsOf'; 'Ok'. -/
import Derived.Test.YtmhmlfgikmeejaaDoorRcOk1
import Derived.Deep.RegionHeld3
namespace Go.Proofs.YtmhmlfgikmeejaaDoor
open Go.RowKit
set_option linter.unusedVariables false

theorem nz_next {zs : List Int} {t : Nat} (h : t < zs.length) : nz (zs.take (t + 1)) = nz (zs.take t) + if zs[t] ≠ 0 then 1 else 0 := by
  unfold nz
  rw [List.take_succ_eq_append_getElem h, List.filter_append, List.length_append]
  congr 1
  by_cases e : zs[t] = 0
  · simp [e]
  · simp [e]
theorem locsOf_any (k : Nat) (lo le : Int) (a : Option Addr) (c : Nat) (zs : List Int) (w : World) (h : RowI w a zs) (hl : zs.length ≤ 3) (e1 : sh k 11 = lo) (e2 : sh k 12 = le) (b1 : 0 ≤ lo) (b2 : lo ≤ 10) (b3 : 0 ≤ le) (b4 : le ≤ 2) :
    Calls Tryd.prog 27 #[shv k, .slice a zs.length c] w fun e w' => e = .returned (.int .i64 (lo + le * (nz zs : Nat))) ∧ Up Nul w w' := by
  have HR := hid h
  have HL := hid hl
  obtain ⟨n, N⟩ : ∃ n, Hid (zs.length = n) := ⟨_, rfl⟩
  rw [N.out] at HL ⊢
  show Calls Tryd.prog 27 #[.agg #[.int .i64 (sh k 0), .int .i64 (sh k 1), .int .i64 (sh k 2), .int .i64 (sh k 3), .int .i64 (sh k 4), .int .i64 (sh k 5), .int .i64 (sh k 6), .int .i64 (sh k 7), .int .i64 (sh k 8),
    .int .i64 (sh k 9), .int .i64 (sh k 10), .int .i64 (sh k 11), .int .i64 (sh k 12), .int .i64 (sh k 13), .int .i64 (sh k 14)], .slice a n c] w _
  rw [e1, e2]
  have HB := hid (And.intro b1 (And.intro b2 (And.intro b3 b4)))
  generalize sh k 0 = c0
  generalize sh k 1 = c1
  generalize sh k 2 = c2
  generalize sh k 3 = c3
  generalize sh k 4 = c4
  generalize sh k 5 = c5
  generalize sh k 6 = c6
  generalize sh k 7 = c7
  generalize sh k 8 = c8
  generalize sh k 9 = c9
  generalize sh k 10 = c10
  generalize sh k 13 = c13
  generalize sh k 14 = c14
  obtain ⟨W, hW⟩ : ∃ W, W = w.alloc (.cells #[.int .i64 c0, .int .i64 c1, .int .i64 c2, .int .i64 c3, .int .i64 c4, .int .i64 c5, .int .i64 c6, .int .i64 c7, .int .i64 c8, .int .i64 c9, .int .i64 c10, .int .i64 lo, .int .i64 le, .int .i64 c13, .int .i64 c14] 73) := ⟨_, rfl⟩
  have HU : Hid (Up Nul w W) := by show Up _ _ _; rw [hW]; exact (Up.refl Nul w).alloc _
  have x11 : W.cell? ⟨w.heap.size, 11, none⟩ = some (.int .i64 lo) := by rw [hW]; exact World.cell?_alloc_new _ _ _ 11
  have x12 : W.cell? ⟨w.heap.size, 12, none⟩ = some (.int .i64 le) := by rw [hW]; exact World.cell?_alloc_new _ _ _ 12
  clear h hl e1 e2 b1 b2 b3 b4
  go_enter Tryd.func27, Tryd.ntmps27
  go_wp2_with fail
  rw [← hW]
  clear hW
  generalize w.heap.size = p at x11 x12 ⊢
  go_loop [5, 7, 12] (fun s _ i => ∃ t : Nat, t ≤ n ∧ i = .int .i64 (t : Nat) ∧ s = .int .i64 (lo + le * (nz (zs.take t) : Nat))) (fun _ _ i => n - (intOf i).toNat)
  case atStart => exact ⟨0, Nat.zero_le _, rfl, by simp [nz]⟩
  case round =>
    obtain ⟨t, ht, rfl, rfl⟩ := hrel
    have i0 : (0 : Int) ≤ (t : Int) := by omega
    have i9 : (t : Int) ≤ 3 := by have := HL.out; omega
    by_cases hlt : t < n
    · have htl : t < zs.length := by rw [N.out]; exact hlt
      obtain ⟨g, o, rfl, hg, hcell⟩ := (HR.out.nxt HU.out).resolve_left (fun e => by rw [e] at htl; cases htl)
      have x1 := hcell t _ (List.getElem?_eq_getElem htl)
      have HN := hid (nz_next htl)
      have hz : nz (zs.take t) ≤ 3 := Nat.le_trans (nz_le _) (by rw [List.length_take]; omega)
      generalize zs[t] = x at x1 HN
      have i2 : (t : Int) < (n : Int) := by omega
      have HT := hid hlt
      obtain ⟨m, M⟩ : ∃ m, Hid (nz (zs.take t) = m) := ⟨_, rfl⟩
      rw [M.out] at HN hz ⊢
      have HM : Hid (∃ q : Nat, q ≤ 6 ∧ le * (m : Int) = (q : Int) ∧ le * ((m + 1 : Nat) : Int) = (q : Int) + le) := by
        obtain ⟨_, _, h3, h4⟩ := HB.out
        obtain ⟨l, rfl⟩ := Int.eq_ofNat_of_zero_le h3
        refine ⟨l * m, ?_, by simp, by rw [Int.natCast_add, Int.mul_add]; simp⟩
        have : l ≤ 2 := by omega
        calc l * m ≤ 2 * 3 := Nat.mul_le_mul this hz
          _ = 6 := rfl
      obtain ⟨q, hq6, hq1, hq2⟩ := HM.out
      rw [hq1]
      have HQ := hid (And.intro hq1 hq2)
      clear HM hq1 hq2 hz hg hcell htl hlt ht
      by_cases e : x = 0
      · subst e
        have HN2 : Hid (nz (zs.take (t + 1)) = m) := by show _ = _; rw [HN.out]; simp
        clear HN
        go_wp2_with fail
        go_round
        case rel => exact ⟨t + 1, HT.out, by go_num, by rw [HN2.out, HQ.out.1]⟩
        case measure => have := HT.out; simp [intOf]; omega
      · have HN2 : Hid (nz (zs.take (t + 1)) = m + 1) := by show _ = _; rw [HN.out, if_pos e]
        clear HN
        have i3 : IntKind.i64.wrap (lo + (q : Int) + le) = lo + (q : Int) + le := by have := HB.out; exact IntWalk.i64_in _ (by omega)
        have i4 : wrap64 (lo + (q : Int) + le) = lo + (q : Int) + le := by rw [← IntWalk.i64_left]; exact i3
        have E := hid e
        have hne : (x == 0) = false := by simpa using e
        go_wp2_with fail
        go_round
        case rel => exact ⟨t + 1, HT.out, by go_num, by rw [HN2.out, HQ.out.2, Int.add_assoc]⟩
        case measure => have := HT.out; simp [intOf]; omega
    · obtain rfl : t = n := by omega
      have HD : Hid (nz (zs.take t) = nz zs) := by show _ = _; rw [List.take_of_length_le (by rw [N.out]; exact Nat.le_refl _)]
      clear ht hlt
      go_wp2
      go_ret
      exact ⟨by rw [HD.out]; rfl, HU.out⟩
end Go.Proofs.YtmhmlfgikmeejaaDoor
