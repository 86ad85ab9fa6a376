/- The document's in, names, sids, tables, KeyOk. -/
import Derived.Test.YtpdkcpjofofkoaaDoorPkTidy
import Derived.Test.YtpdkcpjofofkoaaDoorPq1
import Derived.Deep.RegionLaw
import Derived.Laws.BitsLemmas
set_option maxRecDepth 100000
namespace Go.Proofs.YtpdkcpjofofkoaaDoor
open Go.RowKit
set_option linter.unusedVariables false
theorem in_any (n lo hi : Int) (w : World) : Calls Tryd.prog 28 #[.int .i64 n, .int .i64 lo, .int .i64 hi] w fun e w' => e = .returned (.bool (spn lo hi n)) ∧ w' = w := by
 by_cases a : lo ≤ n
 ·have a' : ¬ n < lo := by omega
  by_cases b : n ≤ hi
  ·have b' : ¬ hi < n := by omega
   have E : Hid (spn lo hi n = true) := by show _ = _; unfold spn; rw [decide_eq_true a, decide_eq_true b]; rfl
   rw [E.out]; clear E
   go_enter Tryd.func28, Tryd.ntmps28
   go_wp2
   go_ret
   first | done | exact ⟨rfl, rfl⟩ | rfl
  ·have b' : hi < n := by omega
   have E : Hid (spn lo hi n = false) := by show _ = _; unfold spn; rw [decide_eq_false b]; simp
   rw [E.out]; clear E
   go_enter Tryd.func28, Tryd.ntmps28
   go_wp2
   go_ret
   first | done | exact ⟨rfl, rfl⟩ | rfl
 ·have a' : n < lo := by omega
  have E : Hid (spn lo hi n = false) := by show _ = _; unfold spn; rw [decide_eq_false a]; rfl
  rw [E.out]; clear E
  go_enter Tryd.func28, Tryd.ntmps28
  go_wp2
  go_ret
  first | done | exact ⟨rfl, rfl⟩ | rfl
/-- What a Kind names: a Key, an N, a Sid, a Colour, a Table. -/
def nmB : Nat → Nat → Bool
 | 1, j => j < 3
 | 2, j => j == 0
 | 3, j => j == 0 || j == 2 || j == 3
 | 4, j => j == 0 || j == 2
 | 5, j => j == 2
 | 6, j => j == 2
 | 7, j => j == 1 || j == 2
 | _, j => j == 4
abbrev nmV (k : Nat) : Value := .agg #[.bool (nmB k 0), .bool (nmB k 1), .bool (nmB k 2), .bool (nmB k 3), .bool (nmB k 4)]
theorem info_b5 : (Tryd.prog.info? 63).map (·.size) = some 5 := by kernel_rfl
theorem info_i6 : (Tryd.prog.info? 67).map (·.size) = some 6 := by kernel_rfl
theorem names1 (w : World) : Calls Tryd.prog 29 #[.int .i64 1] w fun e w' => e = .returned (nmV 1) ∧ Up Nul w w' := by
 have HU := hid (Up.refl Nul w)
 go_enter Tryd.func29, Tryd.ntmps29
 go_wp2
 refine bodyPost_ret (results_cell_row (P := Tryd.prog) (ty := 63) rfl _ _ w.heap.size _ _ _ _ rfl (heap_alloc_new _ _) Tryd.underlying63 rfl info_b5) rfl ?_
 exact ⟨rfl, HU.out.alloc _⟩
theorem names2 (w : World) : Calls Tryd.prog 29 #[.int .i64 2] w fun e w' => e = .returned (nmV 2) ∧ Up Nul w w' := by
 have HU := hid (Up.refl Nul w)
 go_enter Tryd.func29, Tryd.ntmps29
 go_wp2
 refine bodyPost_ret (results_cell_row (P := Tryd.prog) (ty := 63) rfl _ _ w.heap.size _ _ _ _ rfl (heap_alloc_new _ _) Tryd.underlying63 rfl info_b5) rfl ?_
 exact ⟨rfl, HU.out.alloc _⟩
theorem names3 (w : World) : Calls Tryd.prog 29 #[.int .i64 3] w fun e w' => e = .returned (nmV 3) ∧ Up Nul w w' := by
 have HU := hid (Up.refl Nul w)
 go_enter Tryd.func29, Tryd.ntmps29
 go_wp2
 refine bodyPost_ret (results_cell_row (P := Tryd.prog) (ty := 63) rfl _ _ w.heap.size _ _ _ _ rfl (heap_alloc_new _ _) Tryd.underlying63 rfl info_b5) rfl ?_
 exact ⟨rfl, HU.out.alloc _⟩
theorem names4 (w : World) : Calls Tryd.prog 29 #[.int .i64 4] w fun e w' => e = .returned (nmV 4) ∧ Up Nul w w' := by
 have HU := hid (Up.refl Nul w)
 go_enter Tryd.func29, Tryd.ntmps29
 go_wp2
 refine bodyPost_ret (results_cell_row (P := Tryd.prog) (ty := 63) rfl _ _ w.heap.size _ _ _ _ rfl (heap_alloc_new _ _) Tryd.underlying63 rfl info_b5) rfl ?_
 exact ⟨rfl, HU.out.alloc _⟩
theorem names5 (w : World) : Calls Tryd.prog 29 #[.int .i64 5] w fun e w' => e = .returned (nmV 5) ∧ Up Nul w w' := by
 have HU := hid (Up.refl Nul w)
 go_enter Tryd.func29, Tryd.ntmps29
 go_wp2
 refine bodyPost_ret (results_cell_row (P := Tryd.prog) (ty := 63) rfl _ _ w.heap.size _ _ _ _ rfl (heap_alloc_new _ _) Tryd.underlying63 rfl info_b5) rfl ?_
 exact ⟨rfl, HU.out.alloc _⟩
theorem names6 (w : World) : Calls Tryd.prog 29 #[.int .i64 6] w fun e w' => e = .returned (nmV 6) ∧ Up Nul w w' := by
 have HU := hid (Up.refl Nul w)
 go_enter Tryd.func29, Tryd.ntmps29
 go_wp2
 refine bodyPost_ret (results_cell_row (P := Tryd.prog) (ty := 63) rfl _ _ w.heap.size _ _ _ _ rfl (heap_alloc_new _ _) Tryd.underlying63 rfl info_b5) rfl ?_
 exact ⟨rfl, HU.out.alloc _⟩
theorem names7 (w : World) : Calls Tryd.prog 29 #[.int .i64 7] w fun e w' => e = .returned (nmV 7) ∧ Up Nul w w' := by
 have HU := hid (Up.refl Nul w)
 go_enter Tryd.func29, Tryd.ntmps29
 go_wp2
 refine bodyPost_ret (results_cell_row (P := Tryd.prog) (ty := 63) rfl _ _ w.heap.size _ _ _ _ rfl (heap_alloc_new _ _) Tryd.underlying63 rfl info_b5) rfl ?_
 exact ⟨rfl, HU.out.alloc _⟩
theorem names8 (w : World) : Calls Tryd.prog 29 #[.int .i64 8] w fun e w' => e = .returned (nmV 8) ∧ Up Nul w w' := by
 have HU := hid (Up.refl Nul w)
 go_enter Tryd.func29, Tryd.ntmps29
 go_wp2
 refine bodyPost_ret (results_cell_row (P := Tryd.prog) (ty := 63) rfl _ _ w.heap.size _ _ _ _ rfl (heap_alloc_new _ _) Tryd.underlying63 rfl info_b5) rfl ?_
 exact ⟨rfl, HU.out.alloc _⟩
theorem names_any (k : Nat) (h1 : 1 ≤ k) (h8 : k ≤ 8) (w : World) : Calls Tryd.prog 29 #[.int .i64 (k : Nat)] w fun e w' => e = .returned (nmV k) ∧ Up Nul w w' := by
 match k, h1, h8 with
 | 1, _, _ => exact names1 w
 | 2, _, _ => exact names2 w
 | 3, _, _ => exact names3 w
 | 4, _, _ => exact names4 w
 | 5, _, _ => exact names5 w
 | 6, _, _ => exact names6 w
 | 7, _, _ => exact names7 w
 | 8, _, _ => exact names8 w
/-- How many Sids a Kind names; how many Locs (below 0: as the Sids say). -/
def sdN : Nat → Int
 | 5 => 3
 | 6 => 3
 | _ => 0
def lcN : Nat → Int
 | 1 => 3
 | 3 => 6
 | 4 => 3
 | 5 => 4
 | 6 => -1
 | 7 => 1
 | _ => 0
theorem sids1 (w : World) : Calls Tryd.prog 31 #[.int .i64 1] w fun e w' => e = .returned (.tuple #[.int .i64 (sdN 1), .int .i64 (lcN 1)]) ∧ w' = w := by
 go_enter Tryd.func31, Tryd.ntmps31
 go_wp2
 go_ret2
 first | done | exact ⟨rfl, rfl⟩ | rfl
theorem sids2 (w : World) : Calls Tryd.prog 31 #[.int .i64 2] w fun e w' => e = .returned (.tuple #[.int .i64 (sdN 2), .int .i64 (lcN 2)]) ∧ w' = w := by
 go_enter Tryd.func31, Tryd.ntmps31
 go_wp2
 go_ret2
 first | done | exact ⟨rfl, rfl⟩ | rfl
theorem sids3 (w : World) : Calls Tryd.prog 31 #[.int .i64 3] w fun e w' => e = .returned (.tuple #[.int .i64 (sdN 3), .int .i64 (lcN 3)]) ∧ w' = w := by
 go_enter Tryd.func31, Tryd.ntmps31
 go_wp2
 go_ret2
 first | done | exact ⟨rfl, rfl⟩ | rfl
theorem sids4 (w : World) : Calls Tryd.prog 31 #[.int .i64 4] w fun e w' => e = .returned (.tuple #[.int .i64 (sdN 4), .int .i64 (lcN 4)]) ∧ w' = w := by
 go_enter Tryd.func31, Tryd.ntmps31
 go_wp2
 go_ret2
 first | done | exact ⟨rfl, rfl⟩ | rfl
theorem sids5 (w : World) : Calls Tryd.prog 31 #[.int .i64 5] w fun e w' => e = .returned (.tuple #[.int .i64 (sdN 5), .int .i64 (lcN 5)]) ∧ w' = w := by
 go_enter Tryd.func31, Tryd.ntmps31
 go_wp2
 go_ret2
 first | done | exact ⟨rfl, rfl⟩ | rfl
theorem sids6 (w : World) : Calls Tryd.prog 31 #[.int .i64 6] w fun e w' => e = .returned (.tuple #[.int .i64 (sdN 6), .int .i64 (lcN 6)]) ∧ w' = w := by
 go_enter Tryd.func31, Tryd.ntmps31
 go_wp2
 go_ret2
 first | done | exact ⟨rfl, rfl⟩ | rfl
theorem sids7 (w : World) : Calls Tryd.prog 31 #[.int .i64 7] w fun e w' => e = .returned (.tuple #[.int .i64 (sdN 7), .int .i64 (lcN 7)]) ∧ w' = w := by
 go_enter Tryd.func31, Tryd.ntmps31
 go_wp2
 go_ret2
 first | done | exact ⟨rfl, rfl⟩ | rfl
theorem sids8 (w : World) : Calls Tryd.prog 31 #[.int .i64 8] w fun e w' => e = .returned (.tuple #[.int .i64 (sdN 8), .int .i64 (lcN 8)]) ∧ w' = w := by
 go_enter Tryd.func31, Tryd.ntmps31
 go_wp2
 go_ret2
 first | done | exact ⟨rfl, rfl⟩ | rfl
theorem sids_any (k : Nat) (h1 : 1 ≤ k) (h8 : k ≤ 8) (w : World) : Calls Tryd.prog 31 #[.int .i64 (k : Nat)] w fun e w' => e = .returned (.tuple #[.int .i64 (sdN k), .int .i64 (lcN k)]) ∧ w' = w := by
 match k, h1, h8 with
 | 1, _, _ => exact sids1 w
 | 2, _, _ => exact sids2 w
 | 3, _, _ => exact sids3 w
 | 4, _, _ => exact sids4 w
 | 5, _, _ => exact sids5 w
 | 6, _, _ => exact sids6 w
 | 7, _, _ => exact sids7 w
 | 8, _, _ => exact sids8 w
theorem tables_any (t : Tb) (w : World) : Calls Tryd.prog 32 #[tbv t] w fun e w' => e = .returned (.agg #[.int .i64 t.hot, .int .i64 t.warm, .int .i64 t.gap, .int .i64 t.add, .int .i64 t.top, .int .i64 t.half]) ∧ Up Nul w w' := by
 have HH : Hid (((w.alloc (.cells #[.int .i64 t.hot, .int .i64 t.warm, .int .i64 t.gap, .int .i64 t.add, .int .i64 t.top, .int .i64 t.half] 25)).alloc (.cells #[.int .i64 t.hot, .int .i64 t.warm, .int .i64 t.gap, .int .i64 t.add, .int .i64 t.top, .int .i64 t.half] 67)).heap[w.heap.size + 1]? = some (.cells #[.int .i64 t.hot, .int .i64 t.warm, .int .i64 t.gap, .int .i64 t.add, .int .i64 t.top, .int .i64 t.half] 67 (0, 0))) := by
  have := heap_alloc_new (w.alloc (.cells #[.int .i64 t.hot, .int .i64 t.warm, .int .i64 t.gap, .int .i64 t.add, .int .i64 t.top, .int .i64 t.half] 25)) (.cells #[.int .i64 t.hot, .int .i64 t.warm, .int .i64 t.gap, .int .i64 t.add, .int .i64 t.top, .int .i64 t.half] 67)
  simpa [Hid] using this
 have HU := hid (Up.refl Nul w)
 go_enter Tryd.func32, Tryd.ntmps32
 go_wp2
 refine bodyPost_ret (results_cell_row (P := Tryd.prog) (ty := 67) rfl _ _ (w.heap.size + 1) _ _ _ _ rfl HH.out Tryd.underlying67 rfl info_i6) rfl ?_
 exact ⟨rfl, (HU.out.alloc _).alloc _⟩
/-- Which keys may be. -/
def kok (s : ByteArray) : Bool := ((nums s).take 20).all pch && decide (1 ≤ s.size) && decide (s.size ≤ 16)
theorem idx_key (s : ByteArray) (p c : Nat) (hp : p < s.size) (hc : (nums s)[p]? = some c) (W : World) : (Instr.index 9 (.string s) (.int .i64 (p : Nat))).run Tryd.prog W = .ok (.int .u8 (c : Nat)) W := by
 have h : s[p].toNat = c := by
  simp only [nums, List.getElem?_map, Option.map_eq_some_iff] at hc
  obtain ⟨y, hy, rfl⟩ := hc
  have : s.data.toList[p]? = some s[p] := by
   rw [Array.getElem?_toList]
   exact Array.getElem?_eq_getElem hp
  rw [this] at hy
  cases hy
  rfl
 subst h
 simp [Instr.index, run_underlying Tryd.underlying9, asIntOf, hp]
theorem keyok_any (s : ByteArray) (w : World) (hs : s.size ≤ 100000) : Calls Tryd.prog 30 #[.string s] w fun e w' => e = .returned (.bool (kok s)) ∧ w' = w := by
 obtain ⟨R, HE0⟩ : ∃ R, R = kok s := ⟨_, rfl⟩
 rw [← HE0]
 have HE := hid HE0
 clear HE0
 obtain ⟨n, hn⟩ : ∃ n, n = s.size := ⟨_, rfl⟩
 have hnl : (nums s).length = n := by rw [nums_length, hn]
 have HN := hid (And.intro hn hnl)
 rw [← hn] at hs
 have i0 : (n : Int) ≤ 100000 := by omega
 have hsz : s.size = n := hn.symm
 clear hn hnl
 go_enter Tryd.func30, Tryd.ntmps30
 go_wp2_with fail
 go_loopw [3] (fun i wr => ∃ p : Nat, i = .int .i64 (p : Nat) ∧ p ≤ n ∧ p ≤ 20 ∧ ((nums s).take p).all pch = true ∧ wr = w) (fun i _ => match i with | .int _ p => n - p.toNat | _ => 0)
 case atStart => exact ⟨0, rfl, Nat.zero_le _, by omega, rfl, rfl⟩
 case round =>
  obtain ⟨p, rfl, h1, h2, h3, rfl⟩ := hrel
  have ip : (0 : Int) ≤ (p : Int) := by omega
  have ip2 : (p : Int) ≤ 20 := by omega
  have H3 := hid h3
  by_cases hd : p < n ∧ p < 20
  ·obtain ⟨d1, d2⟩ := hd
   have j1 : (p : Int) < (n : Int) := by omega
   have j2 : (p : Int) < 20 := by omega
   obtain ⟨c, hc⟩ : ∃ c, (nums s)[p]? = some c := ⟨_, List.getElem?_eq_getElem (by rw [HN.out.2]; exact d1)⟩
   have hix := idx_key s p c (by omega) hc
   have htk : ((nums s).take (p + 1)) = (nums s).take p ++ [c] := by rw [List.take_add_one, hc]; rfl
   have HT := hid htk
   have HC := hid hc
   clear htk h3 hc d1 d2 h1 h2
   by_cases c1 : c < 33
   ·have k1 : (c : Int) ≤ 32 := by omega
    have hR : R = false := by
     rw [HE.out]
     have : ((nums s).take 20).all pch = false := by
      rw [List.all_eq_false]
      refine ⟨c, List.mem_iff_getElem?.2 ⟨p, ?_⟩, by simp [pch]; omega⟩
      rw [List.getElem?_take, if_pos (by omega)]
      exact HC.out
     unfold kok
     rw [this]
     rfl
    have HR2 := hid hR
    clear hR
    have k1' : ¬ (32 : Int) < (c : Int) := by omega
    clear c1 HE
    go_wp2_with fail
    go_ret
    first | exact ⟨by rw [HR2.out]; rfl, by trivial⟩ | exact HR2.out.symm | exact ⟨HR2.out.symm, by trivial⟩ | (rw [HR2.out]; first | done | trivial | rfl | (simp; done) | (simp; omega))
   ·have k1 : ¬ (c : Int) ≤ 32 := by omega
    have k1' : (32 : Int) < (c : Int) := by omega
    by_cases c2 : 126 < c
    ·have k2 : (127 : Int) ≤ (c : Int) := by omega
     have k2' : ¬ (c : Int) < 127 := by omega
     have hR : R = false := by
      rw [HE.out]
      have : ((nums s).take 20).all pch = false := by
       rw [List.all_eq_false]
       refine ⟨c, List.mem_iff_getElem?.2 ⟨p, ?_⟩, by simp [pch]; omega⟩
       rw [List.getElem?_take, if_pos (by omega)]
       exact HC.out
      unfold kok
      rw [this]
      rfl
     have HR2 := hid hR
     clear hR c1 c2 HE
     go_wp2_with fail
     go_ret
     first | exact ⟨by rw [HR2.out]; rfl, by trivial⟩ | exact HR2.out.symm | exact ⟨HR2.out.symm, by trivial⟩ | (rw [HR2.out]; first | done | trivial | rfl | (simp; done) | (simp; omega))
    ·have k2 : ¬ (127 : Int) ≤ (c : Int) := by omega
     have k2' : (c : Int) < 127 := by omega
     have HP : Hid (((nums s).take (p + 1)).all pch = true) := by
      show _ = _
      rw [HT.out, List.all_append, H3.out]
      simp [pch]; omega
     clear c1 c2
     go_wp2_with fail
     refine ⟨⟨p + 1, ?_, ?_, ?_, HP.out, by trivial⟩, ?_⟩
     ·first | (congr 1; omega) | rfl | simp
     ·omega
     ·omega
     ·simp; omega
  ·have hR : R = (((nums s).take p).all pch && decide (1 ≤ n) && decide (n ≤ 16)) := by
    rw [HE.out]
    unfold kok
    rw [HN.out.1]
    by_cases p20 : p = 20
    ·subst p20; rfl
    ·have e : (nums s).take 20 = (nums s).take p := by
      rw [List.take_of_length_le (by rw [HN.out.2]; omega), List.take_of_length_le (by rw [HN.out.2]; omega)]
     rw [e]
   rw [H3.out, Bool.true_and] at hR
   by_cases j1 : p < n
   ·have j1' : (p : Int) < (n : Int) := by omega
    have j2 : ¬ (p : Int) < 20 := by omega
    have n1 : (1 : Int) ≤ (n : Int) := by omega
    have n2 : ¬ (n : Int) ≤ 16 := by omega
    have n1' : ¬ (n : Int) < 1 := by omega
    have n2' : (16 : Int) < (n : Int) := by omega
    have hR2 : R = false := by rw [hR, decide_eq_false (show ¬ n ≤ 16 by omega), Bool.and_false]
    have HR2 := hid hR2
    clear hR hR2 hd h1 h2 h3 HE
    go_wp2_with fail
    go_ret
    first | exact ⟨by rw [HR2.out]; rfl, by trivial⟩ | exact HR2.out.symm | exact ⟨HR2.out.symm, by trivial⟩ | (rw [HR2.out]; first | done | trivial | rfl | (simp; done) | (simp; omega))
   ·have j1' : ¬ (p : Int) < (n : Int) := by omega
    by_cases n1 : 1 ≤ n
    ·have n1' : ¬ (n : Int) < 1 := by omega
     by_cases n2 : n ≤ 16
     ·have n2' : ¬ (16 : Int) < (n : Int) := by omega
      have hR2 : R = true := by rw [hR, decide_eq_true n1, decide_eq_true n2]; rfl
      have HR2 := hid hR2
      clear hR hR2 hd h1 h2 h3 HE n1 n2 j1
      go_wp2_with fail
      go_ret
      first | exact ⟨by rw [HR2.out]; rfl, by trivial⟩ | exact HR2.out.symm | exact ⟨HR2.out.symm, by trivial⟩ | (rw [HR2.out]; first | done | trivial | rfl | (simp; done) | (simp; omega))
     ·have n2' : (16 : Int) < (n : Int) := by omega
      have hR2 : R = false := by rw [hR, decide_eq_false n2, Bool.and_false]
      have HR2 := hid hR2
      clear hR hR2 hd h1 h2 h3 HE n1 n2 j1
      go_wp2_with fail
      go_ret
      first | exact ⟨by rw [HR2.out]; rfl, by trivial⟩ | exact HR2.out.symm | exact ⟨HR2.out.symm, by trivial⟩ | (rw [HR2.out]; first | done | trivial | rfl | (simp; done) | (simp; omega))
    ·have n1' : (n : Int) < 1 := by omega
     have hR2 : R = false := by rw [hR, decide_eq_false n1]; rfl
     have HR2 := hid hR2
     clear hR hR2 hd h1 h2 h3 HE n1 j1
     go_wp2_with fail
     go_ret
     first | exact ⟨by rw [HR2.out]; rfl, by trivial⟩ | exact HR2.out.symm | exact ⟨HR2.out.symm, by trivial⟩ | (rw [HR2.out]; first | done | trivial | rfl | (simp; done) | (simp; omega))
end Go.Proofs.YtpdkcpjofofkoaaDoor
namespace Go.Proofs.YtpdkcpjofofkoaaDoor
open Go.RowKit
set_option linter.unusedVariables false
set_option linter.unusedSimpArgs false

/-- The next m bytes, noughts in the place of what is lacking. -/
def nx (m : Nat) (z : List Nat) : List Nat := z.take m ++ zer (m - z.length)
theorem nx_length (m : Nat) (z : List Nat) : (nx m z).length = m := by
 unfold nx
 rw [List.length_append, List.length_take, zer_length]
 omega
theorem nx_small {m : Nat} {z : List Nat} (h : ∀ x ∈ z, x < 256) : ∀ x ∈ nx m z, x < 256 := by
 intro x hx
 rcases List.mem_append.1 hx with hx | hx
 ·exact h x (List.mem_of_mem_take hx)
 ·exact zer_small _ x hx
theorem Row.part {w : World} {b o : Nat} {z : List Nat} (h : Row w b o z) (k : Nat) : Row w b o (z.take k) := by
 refine ⟨fun i hi => ?_, fun i => ?_⟩
 ·rw [List.length_take] at hi
  rw [h.cells i (by omega)]
  simp [List.getD_eq_getElem?_getD, List.getElem?_take, show i < k by omega]
 ·have := h.small i
  simp only [List.getD_eq_getElem?_getD, List.getElem?_take] at this ⊢
  split
  ·exact this
  ·decide
/-- copy of as many as there are into noughts. -/
theorem copy_min (w : World) (ty : TypeId) (g m : Nat) (ad : Option Addr) (n sCap : Nat) (z : List Nat) (hg : Blk w g (zer m)) (hz : SlN w ad n z) :
  ∃ w', (Builtin.copy_ #[32, 32] ty #[.slice (some ⟨g, 0, none⟩) m m, .slice ad n sCap]).run Tryd.prog w = .ok (goInt ((Nat.min n m : Nat) : Int)) w' ∧ Blk w' g (nx m z) ∧ Up (One g) w w' := by
 have hl := hz.len
 rcases hz.row with rfl | ⟨b, so, rfl, hb, r⟩
 ·obtain rfl : z = [] := List.eq_nil_of_length_eq_zero hz.len
  refine ⟨w, ?_, by simpa [nx] using hg, Up.refl _ _⟩
  have := run_copy_none (P := Tryd.prog) (ty := ty) w 32 32 5 (some ⟨g, 0, none⟩) ad m m 0 sCap Tryd.underlying32 info_u8_size (Nat.zero_min _)
  rw [this, show Nat.min 0 m = 0 from Nat.zero_min _]
  rfl
 ·have rp := r.part m
  obtain ⟨k, hk⟩ : ∃ k, k = Nat.min n m := ⟨_, rfl⟩
  have hkl : (z.take m).length = k := by rw [List.length_take, hl, hk, Nat.min_comm]
  have hkm : k ≤ m := by rw [hk]; exact Nat.min_le_right _ _
  have hsrc : ∀ (j : Nat) (v : Value), ((z.take m).map fun (n : Nat) => Value.int .u8 (n : Int))[j]? = some v → w.cell? (Addr.add ⟨b, so, none⟩ j) = some v := by
   intro j v hv
   rw [List.getElem?_map] at hv
   have hj : j < (z.take m).length := by
    rcases Nat.lt_or_ge j (z.take m).length with h | h
    ·exact h
    ·rw [List.getElem?_eq_none h] at hv; cases hv
   rw [List.getElem?_eq_getElem hj] at hv
   have hc := rp.cells j hj
   rw [List.getD_eq_getElem?_getD, List.getElem?_eq_getElem hj] at hc
   rw [add_off, hc]
   exact hv
  have hlm : ((z.take m).map fun (n : Nat) => Value.int .u8 (n : Int)).length = k := by rw [List.length_map, hkl]
  have h := run_copy_row (P := Tryd.prog) w 32 32 ty 5 g 0 m m ⟨b, so, none⟩ n sCap (bys (zer m)) 5 ((z.take m).map fun (n : Nat) => Value.int .u8 (n : Int)) Tryd.underlying32 info_u8_size hg.heap
   (by rw [hlm]; exact hk) hsrc (by rw [hlm, bys_size, zer_length]; omega) (fun v hv => by
    obtain ⟨k, _, rfl⟩ := List.mem_map.1 hv
    rfl)
  rw [hlm] at h
  rw [← hk]
  refine ⟨_, h, ⟨?_, nx_small fun x hx => ?_⟩, ⟨rfl, rfl, rfl, by simp [World.setRow], fun k hk hs => setRow_other w g k _ hs⟩⟩
  ·have e : ((bys (zer m)).toList.take 0 ++ ((z.take m).map fun (n : Nat) => Value.int .u8 (n : Int)) ++ (bys (zer m)).toList.drop (0 + k)).toArray = bys (nx m z) := by
    have e2 : m - k = m - z.length := by rw [hl, hk]; unfold Nat.min; simp only [Nat.min_def]; split <;> omega
    unfold bys nx
    rw [List.take_zero, List.nil_append, Nat.zero_add, List.map_append]
    congr 2
    simp [zer, e2]
   rw [e]
   exact setRow_heap w g _ _ _ _ hg.heap
  ·obtain ⟨i, hi, rfl⟩ := List.mem_iff_getElem.1 hx
   have := r.small i
   rwa [List.getD_eq_getElem?_getD, List.getElem?_eq_getElem hi] at this
/-- A source of the bytes b at block q; its bytes lie below block B. -/
structure So (B : Nat) (w : World) (q : Nat) (b : List Nat) : Prop where
 ex : ∃ a c, w.heap[q]? = some (.cells #[.slice a b.length c] 83 (0, 0)) ∧ (b.length = 0 ∨ ∃ g o, a = some ⟨g, o, none⟩ ∧ g < B ∧ Row w g o b) ∧ b.length ≤ c
 le : b.length ≤ 9223372036854775807
 bq : B ≤ q
theorem So.lt {B : Nat} {w : World} {q : Nat} {b : List Nat} (h : So B w q b) : q < w.heap.size := by
 obtain ⟨a, c, h, _⟩ := h.ex
 exact (Array.getElem?_eq_some_iff.1 h).1
theorem So.keep {B : Nat} {T : Nat → Prop} {w w' : World} {q : Nat} {b : List Nat} (h : So B w q b) (u : Up T w w') (hT : ∀ k, k < w.heap.size → T k → B ≤ k ∧ k ≠ q) : So B w' q b := by
 have hl := h.lt
 obtain ⟨⟨a, c, h1, h2, h3⟩, h4, h5⟩ := h
 refine ⟨⟨a, c, (u.block q hl (fun e => (hT q hl e).2 rfl)).trans h1, ?_, h3⟩, h4, h5⟩
 rcases h2 with h2 | ⟨g, o, e, hg, r⟩
 ·exact .inl h2
 ·have hgl : g < w.heap.size := by omega
  exact .inr ⟨g, o, e, hg, r.up u hgl (fun e => by have := (hT g hgl e).1; omega)⟩
theorem So.nxt {B : Nat} {w w' : World} {q : Nat} {b : List Nat} (h : So B w q b) (u : Up Nul w w') : So B w' q b := h.keep u fun _ _ h => h.elim
theorem atOff_len {a : Option Addr} {n c k : Nat} : True := trivial
/-- s[k:] -/
theorem run_behind (a : Option Addr) (n cap k : Nat) (hk : k ≤ n) (w : World) :
  (Instr.slice 32 (.slice a n cap) (some (.int .i64 (k : Int))) none none).run Tryd.prog w = .ok (.slice (atOff a k cap) (n - k) (cap - k)) w := by
 rw [run_slice_l (P := Tryd.prog) (w := w) 32 a n cap (by kernel_rfl) .i64 k (by omega) (by omega), size_byte]
 simp only [Result.andThen, sliced, Int.toNat_natCast, Nat.mul_one, atOff]
/-- A copy whose run is known. -/
theorem step_copy_eqv {w w' : World} {ops : Array Oper} {o : Oper} {a : Act} {K : Act → World → Prop} {Q : Exit → Act → World → Prop} {E : Prop} (hgd : o.guard = none) (s x : Operand) (t : TypeId)
  (ho : o.op = .call { callee := .builtin .copy, args := #[s, x], argTypes := #[t, t] }) (v y v' : Value) (hs : a.eval s = v) (hx : a.eval x = y) (hrun : (Builtin.copy_ #[t, t] o.type #[v, y]).run Tryd.prog w = .ok v' w') (h : K (a.put o.dst v') w') : if Region.wanted o (yielded ops a.tmps) = true then Oper.wp Tryd.prog o a w K Q else E := by
 rw [if_pos (by simp [Region.wanted, hgd])]
 unfold Oper.wp
 simp [execOp, ho, resolve, invoke, builtin, hs, hx, hrun, Result.andThen]
 exact h
set_option maxHeartbeats 1000000 in
theorem next_any (B : Nat) (w : World) (q m : Nat) (b : List Nat) (h : So B w q b) (hm : m ≤ 1000) :
  Calls Tryd.prog 47 #[.pointer (some ⟨q, 0, none⟩), .int .i64 (m : Nat)] w fun e w' => ∃ g, e = .returned (.slice (some ⟨g, 0, none⟩) m m) ∧ Blk w' g (nx m b) ∧ So B w' q (b.drop m) ∧ Up (One q) w w' ∧ w.heap.size ≤ g := by
 have hq0 := h.lt
 obtain ⟨⟨a, c, hq, hr, hc⟩, hle, hBq⟩ := h
 have hs : SlN w a b.length b := ⟨rfl, hr.imp id fun ⟨g, o, e, hg, r⟩ => ⟨g, o, e, by omega, r⟩, hle⟩
 obtain ⟨n, N⟩ : ∃ n, Hid (b.length = n) := ⟨_, rfl⟩
 rw [N.out] at hq hs hc hle
 have hmk := make_bytes w m (by omega)
 have hql := (Array.getElem?_eq_some_iff.1 hq).1
 obtain ⟨W1, hW1⟩ : ∃ W, W = w.alloc (.cells (bys (zer m)) 5) := ⟨_, rfl⟩
 have UA : Up Nul w W1 := by rw [hW1]; exact (Up.refl Nul w).alloc _
 have HB : Blk W1 w.heap.size (zer m) := by rw [hW1]; exact Blk.new w (zer m) (zer_small m)
 have hq1 := (UA.block q hql id).trans hq
 rw [← hW1] at hmk
 obtain ⟨W2, hcp, h1, h2⟩ := copy_min W1.drew 3 w.heap.size m a n c b HB.drew (hs.nxt UA.drew)
 obtain ⟨k, K⟩ : ∃ k, Hid (Nat.min n m = k) := ⟨_, rfl⟩
 rw [K.out] at hcp
 have hkn : k ≤ n := by rw [← K.out]; exact Nat.min_le_left _ _
 have hne : q ≠ w.heap.size := by omega
 have hq2 : W2.heap[q]? = some (.cells #[.slice a n c] 83 (0, 0)) := (h2.block q (Nat.lt_of_lt_of_le hql UA.size) hne).trans hq1
 have hsl := run_behind a n c k hkn
 have x1 : W1.cell? ⟨q, 0, none⟩ = some (.slice a n c) := by simp [World.cell?, hq1]
 have x2 : W2.cell? ⟨q, 0, none⟩ = some (.slice a n c) := by simp [World.cell?, hq2]
 have x3 : W2.frozen? ⟨q, 0, none⟩ = false := by simp [World.frozen?, hq2]
 obtain ⟨g, G⟩ : ∃ g, Hid (w.heap.size = g) := ⟨_, rfl⟩
 rw [G.out] at hmk hcp h1 h2
 have HR : Hid (Blk (W2.setCell ⟨q, 0, none⟩ (.slice (atOff a k c) (n - k) (c - k))) g (nx m b) ∧ So B (W2.setCell ⟨q, 0, none⟩ (.slice (atOff a k c) (n - k) (c - k))) q (b.drop m) ∧ Up (One q) w (W2.setCell ⟨q, 0, none⟩ (.slice (atOff a k c) (n - k) (c - k)))) := by
  have hgq : g ≠ q := by rw [← G.out]; omega
  have U12 : Up (One g) w W2 := (Up.mono UA.nul fun _ _ h => h).trans ⟨h2.os, h2.tape, h2.output, h2.size, h2.block⟩
  have U13 : Up (One q) w W2 := ⟨U12.os, U12.tape, U12.output, U12.size, fun k hk hs => U12.block k hk (fun e => by have e : k = g := e; rw [← G.out] at e; omega)⟩
  have hkb : b.drop k = b.drop m := by
   rcases Nat.le_total n m with h | h
   ·have : k = n := by rw [← K.out]; exact Nat.min_eq_left h
    rw [List.drop_of_length_le (by rw [N.out]; omega), List.drop_of_length_le (by rw [N.out]; omega)]
   ·have : k = m := by rw [← K.out]; exact Nat.min_eq_right h
    rw [this]
  have hlen : (b.drop m).length = n - k := by rw [← hkb, List.length_drop, N.out]
  refine ⟨h1.other (fun e => hgq e) _, ⟨⟨atOff a k c, c - k, ?_, ?_, by rw [hlen]; omega⟩, by rw [hlen]; omega, hBq⟩, U13.put rfl 0 _⟩
  ·rw [hlen, heap_set_same hq2]
   rfl
  ·rw [hlen]
   rcases Nat.eq_zero_or_pos (n - k) with e | e
   ·exact .inl e
   ·obtain ⟨g0, o0, ea, hg0, r⟩ := hr.resolve_left (by rw [N.out]; omega)
    have r2 : Row W2 g0 o0 b := r.up U13 (by omega) (fun e => by have e : g0 = q := e; omega)
    refine .inr ⟨g0, o0 + k, ?_, hg0, ?_⟩
    ·rw [atOff, if_neg (by omega), ea]
     exact congrArg some (add_off g0 o0 k)
    ·rw [← hkb]
     refine ⟨fun i hi => ?_, fun i => ?_⟩
     ·rw [List.length_drop] at hi
      have hne0 : ¬ g0 = q := by omega
      rw [World.cell?_of_block (w := W2) (Below.heap_setCell _ _ _ _ (fun e => hne0 e)), Nat.add_assoc, r2.cells (k + i) (by omega)]
      simp [List.getD_eq_getElem?_getD, List.getElem?_drop]
     ·have := r.small (k + i)
      simp only [List.getD_eq_getElem?_getD, List.getElem?_drop] at this ⊢
      exact this
 clear h1 h2 hq2 hq1 HB UA hs hq hc hr hle hBq hq0
 have hw : w.heap.size ≤ g := by rw [G.out]; exact Nat.le_refl _
 have HW := hid hw
 rw [show (goInt ((k : Nat) : Int)) = .int .i64 (k : Int) from rfl] at hcp
 clear hw hm hql hne hW1
 go_enter Tryd.func47, Tryd.ntmps47
 go_wp2_with fail
 go_region_law (first | (refine step_copy_eqv (by rfl) (.tmp 13) (.tmp 17) 32 (by rfl) (.slice (some ⟨g, 0, none⟩) m m) (.slice a n c) (.int .i64 (k : Int)) (by rfl) (by rfl) hcp ?_) | fail)
 all_goals
  go_wp2
  go_ret
  exact ⟨g, rfl, HR.out.1, HR.out.2.1, HR.out.2.2, HW.out⟩
end Go.Proofs.YtpdkcpjofofkoaaDoor
namespace Go.Proofs.YtpdkcpjofofkoaaDoor
open Go.RowKit
set_option linter.unusedVariables false

def fold8 (z : List Nat) : Nat := z.foldl (fun x c => x * 256 + c) 0
theorem fold8_next {z : List Nat} {t : Nat} (h : t < z.length) : fold8 (z.take (t + 1)) = fold8 (z.take t) * 256 + z[t] := by
 unfold fold8
 rw [List.take_succ_eq_append_getElem h, List.foldl_append]
 rfl
theorem fold8_lt {z : List Nat} (hz : ∀ x ∈ z, x < 256) : ∀ t, t ≤ z.length → fold8 (z.take t) < 256 ^ t := by
 intro t
 induction t with
 | zero => intro _; simp [fold8]
 | succ t ih =>
  intro h
  have h1 := ih (by omega)
  have h2 := hz _ (List.getElem_mem (show t < z.length by omega))
  rw [fold8_next (by omega), Nat.pow_succ]
  omega
/-- The number that the next m bytes are. -/
def num (m : Nat) (z : List Nat) : Nat := fold8 (nx m z)
theorem i64_or8 {x y : Int} (h0 : 0 ≤ x) (h1 : x < 16777216) (h3 : 0 ≤ y) (h4 : y < 256) : bits .or .i64 (x * 256) y = x * 256 + y :=
 bits_join .i64 63 (by decide) (fun n k0 k1 => IntWalk.i64_in _ (by omega)) 8 (x * 256) y (by omega) (by omega) (by omega) h3 (by omega) (by omega)
theorem num_lt4 {z : List Nat} (hz : ∀ x ∈ z, x < 256) {m : Nat} (hm : m ≤ 4) : num m z < 4294967296 := by
 have := fold8_lt (nx_small (m := m) hz) m (by rw [nx_length]; exact Nat.le_refl _)
 rw [List.take_of_length_le (by rw [nx_length]; exact Nat.le_refl _)] at this
 have h2 : 256 ^ m ≤ 256 ^ 4 := Nat.pow_le_pow_right (by omega) hm
 unfold num
 omega
theorem num_lt1 {z : List Nat} (hz : ∀ x ∈ z, x < 256) : num 1 z < 256 := by
 have := fold8_lt (nx_small (m := 1) hz) 1 (by rw [nx_length]; exact Nat.le_refl _)
 rw [List.take_of_length_le (by rw [nx_length]; exact Nat.le_refl _)] at this
 unfold num
 omega
set_option maxHeartbeats 1000000 in
theorem number_any (B : Nat) (w : World) (q m : Nat) (b : List Nat) (h : So B w q b) (hm : m ≤ 4) (h8 : ∀ x ∈ b, x < 256) :
  Calls Tryd.prog 46 #[.pointer (some ⟨q, 0, none⟩), .int .i64 (m : Nat)] w fun e w' => e = .returned (.int .i64 (num m b : Nat)) ∧ So B w' q (b.drop m) ∧ Up (One q) w w' := by
 have HN := hid (next_any B w q m b h (by omega))
 have HM := hid hm
 have H8 := hid h8
 clear h hm h8
 go_enter Tryd.func46, Tryd.ntmps46
 go_wp2_with fail
 refine HN.out.mono ?_
 rintro e w1 ⟨g, rfl, hb, hs, hu, hg⟩
 have HB := hid hb
 have HS := hid hs
 have HU := hid hu
 obtain ⟨y, Y⟩ : ∃ y, Hid (nx m b = y) := ⟨_, rfl⟩
 have HL : Hid (y.length = m) := by show _ = _; rw [← Y.out]; exact nx_length _ _
 have HY : Hid (∀ x ∈ y, x < 256) := by show ∀ x ∈ y, x < 256; rw [← Y.out]; exact nx_small H8.out
 rw [Y.out] at HB
 clear hb hs hu hg HN
 go_wp2_with fail
 go_loop [5, 7, 12] (fun n _ i => ∃ t : Nat, t ≤ m ∧ i = .int .i64 (t : Nat) ∧ n = .int .i64 (fold8 (y.take t) : Nat)) (fun _ _ i => m - (intOf i).toNat)
 case atStart => exact ⟨0, Nat.zero_le _, rfl, rfl⟩
 case round =>
  obtain ⟨t, ht, rfl, rfl⟩ := hrel
  have hm4 := HM.out
  have i0 : (0 : Int) ≤ (t : Int) := by omega
  have i9 : (t : Int) ≤ 4 := by omega
  by_cases hlt : t < m
  ·have htl : t < y.length := by rw [HL.out]; exact hlt
   have x1 := HB.out.cell t htl
   have hy := HY.out _ (List.getElem_mem htl)
   have HN := hid (fold8_next htl)
   have hfl := fold8_lt HY.out t (by omega)
   have h3 : 256 ^ t ≤ 256 ^ 3 := Nat.pow_le_pow_right (by omega) (by omega)
   rw [List.getD_eq_getElem?_getD, List.getElem?_eq_getElem htl, Option.getD_some] at x1
   generalize y[t] = c at x1 hy HN
   generalize fold8 (y.take t) = f at HN hfl ⊢
   have hf : f < 16777216 := by omega
   clear hfl h3 htl
   have i2 : (t : Int) < (m : Int) := by omega
   have HT := hid hlt
   have j1 := i64_or8 (x := (f : Int)) (y := (c : Int)) (by omega) (by omega) (by omega) (by omega)
   have j2 : (f : Int) * 256 < 4294967296 := by omega
   have j3 : (0 : Int) ≤ (f : Int) * 256 := by omega
   have j5 : wrap64 (c : Int) = (c : Int) := by rw [← IntWalk.i64_left]; exact IntWalk.i64_in _ (by omega)
   clear hy hf ht hlt
   go_wp2_with fail
   go_round
   case rel => exact ⟨t + 1, HT.out, by go_num, by rw [HN.out]; simp⟩
   case measure => have := HT.out; simp [intOf]; omega
  ·obtain rfl : t = m := by omega
   have HE : Hid (fold8 (y.take t) = num t b) := by show _ = _; rw [List.take_of_length_le (by rw [HL.out]; exact Nat.le_refl _), ← Y.out]; rfl
   rw [HE.out]
   clear ht hlt hm4
   go_wp2
   go_ret
   exact ⟨rfl, HS.out, HU.out⟩
theorem small_drop {z : List Nat} (h : ∀ x ∈ z, x < 256) (k : Nat) : ∀ x ∈ z.drop k, x < 256 := fun x hx => h x (List.mem_of_mem_drop hx)
theorem heap3s {w : World} {g : Nat} {T : TypeId} {fr : Nat × Nat} {c0 c1 c2 : Value} (h : w.heap[g]? = some (.cells #[c0, c1, c2] T fr)) (v0 v1 v2 : Value) :
  (((w.setCell ⟨g, 0, none⟩ v0).setCell ⟨g, 1, none⟩ v1).setCell ⟨g, 2, none⟩ v2).heap[g]? = some (.cells #[v0, v1, v2] T fr) := by
 rw [heap_set_same (heap_set_same (heap_set_same h 0 v0) 1 v1) 2 v2]
 rfl
theorem heap6s {w : World} {g : Nat} {T : TypeId} {fr : Nat × Nat} {c0 c1 c2 c3 c4 c5 : Value} (h : w.heap[g]? = some (.cells #[c0, c1, c2, c3, c4, c5] T fr)) (v0 v1 v2 v3 v4 v5 : Value) :
  ((((((w.setCell ⟨g, 0, none⟩ v0).setCell ⟨g, 1, none⟩ v1).setCell ⟨g, 2, none⟩ v2).setCell ⟨g, 3, none⟩ v3).setCell ⟨g, 4, none⟩ v4).setCell ⟨g, 5, none⟩ v5).heap[g]? = some (.cells #[v0, v1, v2, v3, v4, v5] T fr) := by
 rw [heap_set_same (heap_set_same (heap_set_same (heap_set_same (heap_set_same (heap_set_same h 0 v0) 1 v1) 2 v2) 3 v3) 4 v4) 5 v5]
 rfl
theorem info_loc3 : (Tryd.prog.info? 31).map (·.size) = some 3 := by kernel_rfl
theorem info_tab6 : (Tryd.prog.info? 25).map (·.size) = some 6 := by kernel_rfl
/-- The Loc that the next six bytes are. -/
def locOf (b : List Nat) : Lo := ⟨(num 1 b : Nat), (num 1 (b.drop 1) : Nat), (num 4 (b.drop 2) : Nat)⟩
/-- A source goes on: only its own block turns, of what was there. -/
structure Sg (B : Nat) (w : World) (q : Nat) (b : List Nat) (w' : World) : Prop where
 so : So B w' q b
 up : Up (One q) w w'
theorem Sg.nxt {B : Nat} {w w' w'' : World} {q : Nat} {b : List Nat} (h : Sg B w q b w') (u : Up Nul w' w'') : Sg B w q b w'' := ⟨h.so.nxt u, h.up.trans u.nul⟩
theorem Sg.go {B : Nat} {w w' w'' : World} {q : Nat} {b b' : List Nat} (h : Sg B w q b w') (s : So B w'' q b') (u : Up (One q) w' w'') : Sg B w q b' w'' := ⟨s, h.up.trans u⟩
/-- A cell of a block that is new since w is set. -/
theorem Sg.set {B : Nat} {w w' : World} {q p : Nat} {b : List Nat} (h : Sg B w q b w') (hp : w.heap.size ≤ p) (hB : B ≤ w.heap.size) (hq : p ≠ q) (i : Nat) (v : Value) : Sg B w q b (w'.setCell ⟨p, i, none⟩ v) :=
 ⟨h.so.keep ((Up.refl (One p) w').put rfl i v) fun k _ e => by have e : k = p := e; subst e; exact ⟨by omega, hq⟩, h.up.setCell (.inl hp) v⟩
/-- A block that is none of the source's is as it was. -/
theorem Sg.blk {B : Nat} {w w' : World} {q p : Nat} {b : List Nat} {o : Obj} (h : Up (One q) w w') (hp : w.heap[p]? = some o) (hq : p ≠ q) : w'.heap[p]? = some o :=
 (h.block p (by rcases Nat.lt_or_ge p w.heap.size with h | h; exact h; rw [Array.getElem?_eq_none h] at hp; cases hp) hq).trans hp
set_option maxHeartbeats 1000000 in
theorem loc_any (B : Nat) (w : World) (q : Nat) (b : List Nat) (h : So B w q b) (hB : B ≤ w.heap.size) (h8 : ∀ x ∈ b, x < 256) :
  Calls Tryd.prog 48 #[.pointer (some ⟨q, 0, none⟩)] w fun e w' => e = .returned (lov (locOf b)) ∧ Sg B w q (b.drop 6) w' := by
 obtain ⟨W0, hW0⟩ : ∃ W, W = w.alloc (.cells #[.int .i64 0, .int .i64 0, .int .i64 0] 31) := ⟨_, rfl⟩
 have U0 : Up Nul w W0 := by rw [hW0]; exact (Up.refl Nul w).alloc _
 have hp : W0.heap[w.heap.size]? = some (.cells #[.int .i64 0, .int .i64 0, .int .i64 0] 31 (0, 0)) := by rw [hW0]; exact heap_alloc_new _ _
 have hq := h.lt
 have HS := hid (Sg.mk (h.nxt U0) U0.nul)
 obtain ⟨p, P⟩ : ∃ p, Hid (w.heap.size = p) := ⟨_, rfl⟩
 have HPW : Hid (w.heap.size ≤ p ∧ B ≤ w.heap.size) := ⟨by rw [P.out]; exact Nat.le_refl _, hB⟩
 have HPQ : Hid (p ≠ q) := by show p ≠ q; rw [← P.out]; omega
 rw [P.out] at hp
 have HP := hid hp
 -- the numbers, by letters
 obtain ⟨b1, B1⟩ : ∃ x, Hid (b.drop 1 = x) := ⟨_, rfl⟩
 obtain ⟨b2, B2⟩ : ∃ x, Hid (b1.drop 1 = x) := ⟨_, rfl⟩
 obtain ⟨b3, B3⟩ : ∃ x, Hid (b2.drop 4 = x) := ⟨_, rfl⟩
 obtain ⟨n1, N1⟩ : ∃ x, Hid (num 1 b = x) := ⟨_, rfl⟩
 obtain ⟨n2, N2⟩ : ∃ x, Hid (num 1 b1 = x) := ⟨_, rfl⟩
 obtain ⟨n3, N3⟩ : ∃ x, Hid (num 4 b2 = x) := ⟨_, rfl⟩
 have HC1 : Hid (∀ W, So B W q b → Calls Tryd.prog 46 #[.pointer (some ⟨q, 0, none⟩), .int .i64 1] W fun e w' => e = .returned (.int .i64 (n1 : Nat)) ∧ So B w' q b1 ∧ Up (One q) W w') := fun W s => by
  have := number_any B W q 1 b s (by omega) h8
  rw [N1.out, B1.out] at this
  exact this
 have HC2 : Hid (∀ W, So B W q b1 → Calls Tryd.prog 46 #[.pointer (some ⟨q, 0, none⟩), .int .i64 1] W fun e w' => e = .returned (.int .i64 (n2 : Nat)) ∧ So B w' q b2 ∧ Up (One q) W w') := fun W s => by
  have := number_any B W q 1 b1 s (by omega) (by rw [← B1.out]; exact small_drop h8 1)
  rw [N2.out, B2.out] at this
  exact this
 have HC3 : Hid (∀ W, So B W q b2 → Calls Tryd.prog 46 #[.pointer (some ⟨q, 0, none⟩), .int .i64 4] W fun e w' => e = .returned (.int .i64 (n3 : Nat)) ∧ So B w' q b3 ∧ Up (One q) W w') := fun W s => by
  have := number_any B W q 4 b2 s (by omega) (by rw [← B2.out, ← B1.out]; exact small_drop (small_drop h8 1) 1)
  rw [N3.out, B3.out] at this
  exact this
 have HE : Hid (lov (locOf b) = .agg #[.int .i64 (n1 : Nat), .int .i64 (n2 : Nat), .int .i64 (n3 : Nat)]) := by
  show Value.agg #[.int .i64 ((num 1 b : Nat) : Int), .int .i64 ((num 1 (b.drop 1) : Nat) : Int), .int .i64 ((num 4 (b.drop 2) : Nat) : Int)] = _
  rw [show b.drop 2 = (b.drop 1).drop 1 by rw [List.drop_drop], B1.out, B2.out, N1.out, N2.out, N3.out]
 have HB3 : Hid (b.drop 6 = b3) := by show _ = _; rw [← B3.out, ← B2.out, ← B1.out, List.drop_drop, List.drop_drop]
 rw [HE.out, HB3.out]
 clear h h8 U0 hp hq hB B1 B2 B3 N1 N2 N3 HE HB3
 go_enter Tryd.func48, Tryd.ntmps48
 go_wp2_with fail
 rw [← hW0]
 clear hW0
 rw [P.out]
 refine (HC1.out W0 HS.out.so).mono ?_
 rintro e w1 ⟨rfl, s1, u1⟩
 have HS1 := hid (HS.out.go s1 u1)
 have HP1 := hid (Sg.blk (B := B) (b := b) u1 HP.out HPQ.out)
 clear s1 u1 HS HP HC1
 go_wp2_with fail
 refine (HC2.out w1 HS1.out.so).mono ?_
 rintro e w2 ⟨rfl, s2, u2⟩
 have HS2 := hid (HS1.out.go s2 u2)
 have HP2 := hid (Sg.blk (B := B) (b := b) u2 HP1.out HPQ.out)
 clear s2 u2 HS1 HP1 HC2
 go_wp2_with fail
 refine (HC3.out w2 HS2.out.so).mono ?_
 rintro e w3 ⟨rfl, s3, u3⟩
 have HS3 := hid (HS2.out.go s3 u3)
 have hp3 := Sg.blk (B := B) (b := b) u3 HP2.out HPQ.out
 have x0 : w3.cell? ⟨p, 0, none⟩ = some (.int .i64 0) := by simp [World.cell?, hp3]
 have x1 : w3.cell? ⟨p, 1, none⟩ = some (.int .i64 0) := by simp [World.cell?, hp3]
 have x2 : w3.cell? ⟨p, 2, none⟩ = some (.int .i64 0) := by simp [World.cell?, hp3]
 have f0 : w3.frozen? ⟨p, 0, none⟩ = false := by simp [World.frozen?, hp3]
 have f1 : w3.frozen? ⟨p, 1, none⟩ = false := by simp [World.frozen?, hp3]
 have f2 : w3.frozen? ⟨p, 2, none⟩ = false := by simp [World.frozen?, hp3]
 have HP3 := hid hp3
 clear s3 u3 HS2 HP2 hp3 HC3
 go_wp2_with fail
 refine bodyPost_ret (results_cell_row (P := Tryd.prog) (ty := 31) rfl _ _ p _ _ _ _ rfl (heap3s HP3.out _ _ _) Tryd.underlying31 rfl info_loc3) rfl ?_
 exact ⟨rfl, ((HS3.out.set HPW.out.1 HPW.out.2 HPQ.out 0 _).set HPW.out.1 HPW.out.2 HPQ.out 1 _).set HPW.out.1 HPW.out.2 HPQ.out 2 _⟩
end Go.Proofs.YtpdkcpjofofkoaaDoor
namespace Go.Proofs.YtpdkcpjofofkoaaDoor
open Go.RowKit
set_option linter.unusedVariables false

theorem word_any (B : Nat) (w : World) (q x : Nat) (b : List Nat) (h : So B w q b) (hx : w.cell? ⟨x, 0, none⟩ = some (.pointer (some ⟨q, 0, none⟩))) (h8 : ∀ x ∈ b, x < 256) :
  Calls Tryd.prog 52 #[.pointer (some ⟨x, 0, none⟩)] w fun e w' => e = .returned (.int .i64 (num 4 b : Nat)) ∧ So B w' q (b.drop 4) ∧ Up (One q) w w' := by
 have HN := hid (number_any B w q 4 b h (by omega) h8)
 clear h h8
 generalize num 4 b = n at HN ⊢
 generalize b.drop 4 = b' at HN ⊢
 go_enter Tryd.func52, Tryd.ntmps52
 go_wp2_with fail
 refine HN.out.mono ?_
 rintro e w1 ⟨rfl, s, u⟩
 have HS := hid (And.intro s u)
 clear s u
 go_wp2
 go_ret
 exact ⟨rfl, HS.out⟩
/-- The Table that the next 24 bytes are. -/
def tabOf (b : List Nat) : Tb := ⟨(num 4 b : Nat), (num 4 (b.drop 4) : Nat), (num 4 (b.drop 8) : Nat), (num 4 (b.drop 12) : Nat), (num 4 (b.drop 16) : Nat), (num 4 (b.drop 20) : Nat)⟩
set_option maxHeartbeats 1000000 in
theorem stable_any (B : Nat) (w : World) (q : Nat) (b : List Nat) (h : So B w q b) (hB : B ≤ w.heap.size) (h8 : ∀ x ∈ b, x < 256) :
  Calls Tryd.prog 49 #[.pointer (some ⟨q, 0, none⟩)] w fun e w' => e = .returned (tbv (tabOf b)) ∧ Sg B w q (b.drop 24) w' := by
 obtain ⟨W0, hW0⟩ : ∃ W, W = (w.alloc (.cells #[.pointer (some ⟨q, 0, none⟩)] 88)).alloc (.cells #[.int .i64 0, .int .i64 0, .int .i64 0, .int .i64 0, .int .i64 0, .int .i64 0] 25) := ⟨_, rfl⟩
 have U0 : Up Nul w W0 := by rw [hW0]; exact ((Up.refl Nul w).alloc _).alloc _
 have hx : W0.heap[w.heap.size]? = some (.cells #[.pointer (some ⟨q, 0, none⟩)] 88 (0, 0)) := by rw [hW0]; exact (Below.heap_alloc _ _ _ (by simp)).trans (heap_alloc_new _ _)
 have hp : W0.heap[w.heap.size + 1]? = some (.cells #[.int .i64 0, .int .i64 0, .int .i64 0, .int .i64 0, .int .i64 0, .int .i64 0] 25 (0, 0)) := by
  rw [hW0]
  have := heap_alloc_new (w.alloc (.cells #[.pointer (some ⟨q, 0, none⟩)] 88)) (.cells #[.int .i64 0, .int .i64 0, .int .i64 0, .int .i64 0, .int .i64 0, .int .i64 0] 25)
  simpa using this
 have hq := h.lt
 have HS := hid (Sg.mk (h.nxt U0) U0.nul)
 obtain ⟨x, X⟩ : ∃ x, Hid (w.heap.size = x) := ⟨_, rfl⟩
 obtain ⟨p, P⟩ : ∃ p, Hid (w.heap.size + 1 = p) := ⟨_, rfl⟩
 have HPW : Hid (w.heap.size ≤ p ∧ B ≤ w.heap.size) := ⟨by rw [← P.out]; omega, hB⟩
 have HPQ : Hid (p ≠ q ∧ x ≠ q) := by show p ≠ q ∧ x ≠ q; rw [← P.out, ← X.out]; omega
 rw [P.out] at hp
 rw [X.out] at hx
 have HP := hid (And.intro hp hx)
 obtain ⟨b1, B1⟩ : ∃ x, Hid (b.drop 4 = x) := ⟨_, rfl⟩
 obtain ⟨n1, N1⟩ : ∃ x, Hid (num 4 b = x) := ⟨_, rfl⟩
 have h81 : ∀ x ∈ b1, x < 256 := by rw [← B1.out]; exact small_drop h8 4
 have HC1 : Hid (∀ W, So B W q b → W.heap[x]? = some (.cells #[.pointer (some ⟨q, 0, none⟩)] 88 (0, 0)) → Calls Tryd.prog 52 #[.pointer (some ⟨x, 0, none⟩)] W fun e w' => e = .returned (.int .i64 (n1 : Nat)) ∧ So B w' q b1 ∧ Up (One q) W w') := fun W s hx => by
  have := word_any B W q x b s (by simp [World.cell?, hx]) h8
  rw [N1.out, B1.out] at this
  exact this
 obtain ⟨b2, B2⟩ : ∃ x, Hid (b1.drop 4 = x) := ⟨_, rfl⟩
 obtain ⟨n2, N2⟩ : ∃ x, Hid (num 4 b1 = x) := ⟨_, rfl⟩
 have h82 : ∀ x ∈ b2, x < 256 := by rw [← B2.out]; exact small_drop h81 4
 have HC2 : Hid (∀ W, So B W q b1 → W.heap[x]? = some (.cells #[.pointer (some ⟨q, 0, none⟩)] 88 (0, 0)) → Calls Tryd.prog 52 #[.pointer (some ⟨x, 0, none⟩)] W fun e w' => e = .returned (.int .i64 (n2 : Nat)) ∧ So B w' q b2 ∧ Up (One q) W w') := fun W s hx => by
  have := word_any B W q x b1 s (by simp [World.cell?, hx]) h81
  rw [N2.out, B2.out] at this
  exact this
 obtain ⟨b3, B3⟩ : ∃ x, Hid (b2.drop 4 = x) := ⟨_, rfl⟩
 obtain ⟨n3, N3⟩ : ∃ x, Hid (num 4 b2 = x) := ⟨_, rfl⟩
 have h83 : ∀ x ∈ b3, x < 256 := by rw [← B3.out]; exact small_drop h82 4
 have HC3 : Hid (∀ W, So B W q b2 → W.heap[x]? = some (.cells #[.pointer (some ⟨q, 0, none⟩)] 88 (0, 0)) → Calls Tryd.prog 52 #[.pointer (some ⟨x, 0, none⟩)] W fun e w' => e = .returned (.int .i64 (n3 : Nat)) ∧ So B w' q b3 ∧ Up (One q) W w') := fun W s hx => by
  have := word_any B W q x b2 s (by simp [World.cell?, hx]) h82
  rw [N3.out, B3.out] at this
  exact this
 obtain ⟨b4, B4⟩ : ∃ x, Hid (b3.drop 4 = x) := ⟨_, rfl⟩
 obtain ⟨n4, N4⟩ : ∃ x, Hid (num 4 b3 = x) := ⟨_, rfl⟩
 have h84 : ∀ x ∈ b4, x < 256 := by rw [← B4.out]; exact small_drop h83 4
 have HC4 : Hid (∀ W, So B W q b3 → W.heap[x]? = some (.cells #[.pointer (some ⟨q, 0, none⟩)] 88 (0, 0)) → Calls Tryd.prog 52 #[.pointer (some ⟨x, 0, none⟩)] W fun e w' => e = .returned (.int .i64 (n4 : Nat)) ∧ So B w' q b4 ∧ Up (One q) W w') := fun W s hx => by
  have := word_any B W q x b3 s (by simp [World.cell?, hx]) h83
  rw [N4.out, B4.out] at this
  exact this
 obtain ⟨b5, B5⟩ : ∃ x, Hid (b4.drop 4 = x) := ⟨_, rfl⟩
 obtain ⟨n5, N5⟩ : ∃ x, Hid (num 4 b4 = x) := ⟨_, rfl⟩
 have h85 : ∀ x ∈ b5, x < 256 := by rw [← B5.out]; exact small_drop h84 4
 have HC5 : Hid (∀ W, So B W q b4 → W.heap[x]? = some (.cells #[.pointer (some ⟨q, 0, none⟩)] 88 (0, 0)) → Calls Tryd.prog 52 #[.pointer (some ⟨x, 0, none⟩)] W fun e w' => e = .returned (.int .i64 (n5 : Nat)) ∧ So B w' q b5 ∧ Up (One q) W w') := fun W s hx => by
  have := word_any B W q x b4 s (by simp [World.cell?, hx]) h84
  rw [N5.out, B5.out] at this
  exact this
 obtain ⟨b6, B6⟩ : ∃ x, Hid (b5.drop 4 = x) := ⟨_, rfl⟩
 obtain ⟨n6, N6⟩ : ∃ x, Hid (num 4 b5 = x) := ⟨_, rfl⟩
 have h86 : ∀ x ∈ b6, x < 256 := by rw [← B6.out]; exact small_drop h85 4
 have HC6 : Hid (∀ W, So B W q b5 → W.heap[x]? = some (.cells #[.pointer (some ⟨q, 0, none⟩)] 88 (0, 0)) → Calls Tryd.prog 52 #[.pointer (some ⟨x, 0, none⟩)] W fun e w' => e = .returned (.int .i64 (n6 : Nat)) ∧ So B w' q b6 ∧ Up (One q) W w') := fun W s hx => by
  have := word_any B W q x b5 s (by simp [World.cell?, hx]) h85
  rw [N6.out, B6.out] at this
  exact this
 have HE : Hid (tbv (tabOf b) = .agg #[.int .i64 (n1 : Nat), .int .i64 (n2 : Nat), .int .i64 (n3 : Nat), .int .i64 (n4 : Nat), .int .i64 (n5 : Nat), .int .i64 (n6 : Nat)]) := by
  show Value.agg #[.int .i64 ((num 4 b : Nat) : Int), .int .i64 ((num 4 (b.drop 4) : Nat) : Int), .int .i64 ((num 4 (b.drop 8) : Nat) : Int), .int .i64 ((num 4 (b.drop 12) : Nat) : Int), .int .i64 ((num 4 (b.drop 16) : Nat) : Int), .int .i64 ((num 4 (b.drop 20) : Nat) : Int)] = _
  rw [show b.drop 20 = ((((b.drop 4).drop 4).drop 4).drop 4).drop 4 by simp only [List.drop_drop], show b.drop 16 = (((b.drop 4).drop 4).drop 4).drop 4 by simp only [List.drop_drop], show b.drop 12 = ((b.drop 4).drop 4).drop 4 by simp only [List.drop_drop], show b.drop 8 = (b.drop 4).drop 4 by simp only [List.drop_drop], B1.out, B2.out, B3.out, B4.out, B5.out, N1.out, N2.out, N3.out, N4.out, N5.out, N6.out]
 have HB3 : Hid (b.drop 24 = b6) := by show _ = _; rw [← B6.out, ← B5.out, ← B4.out, ← B3.out, ← B2.out, ← B1.out]; simp only [List.drop_drop]
 rw [HE.out, HB3.out]
 clear h h8 U0 hp hx hq hB B1 N1 h81 B2 N2 h82 B3 N3 h83 B4 N4 h84 B5 N5 h85 B6 N6 h86 HE HB3
 go_enter Tryd.func49, Tryd.ntmps49
 go_wp2_with fail
 rw [← hW0]
 clear hW0
 rw [P.out, X.out]
 refine (HC1.out W0 HS.out.so HP.out.2).mono ?_
 rintro e w1 ⟨rfl, s, u⟩
 have HS1 := hid (HS.out.go s u)
 have HP1 := hid (And.intro (Sg.blk (B := B) (b := b) u HP.out.1 HPQ.out.1) (Sg.blk (B := B) (b := b) u HP.out.2 HPQ.out.2))
 clear s u HS HP HC1
 go_wp2_with fail
 refine (HC2.out w1 HS1.out.so HP1.out.2).mono ?_
 rintro e w2 ⟨rfl, s, u⟩
 have HS2 := hid (HS1.out.go s u)
 have HP2 := hid (And.intro (Sg.blk (B := B) (b := b) u HP1.out.1 HPQ.out.1) (Sg.blk (B := B) (b := b) u HP1.out.2 HPQ.out.2))
 clear s u HS1 HP1 HC2
 go_wp2_with fail
 refine (HC3.out w2 HS2.out.so HP2.out.2).mono ?_
 rintro e w3 ⟨rfl, s, u⟩
 have HS3 := hid (HS2.out.go s u)
 have HP3 := hid (And.intro (Sg.blk (B := B) (b := b) u HP2.out.1 HPQ.out.1) (Sg.blk (B := B) (b := b) u HP2.out.2 HPQ.out.2))
 clear s u HS2 HP2 HC3
 go_wp2_with fail
 refine (HC4.out w3 HS3.out.so HP3.out.2).mono ?_
 rintro e w4 ⟨rfl, s, u⟩
 have HS4 := hid (HS3.out.go s u)
 have HP4 := hid (And.intro (Sg.blk (B := B) (b := b) u HP3.out.1 HPQ.out.1) (Sg.blk (B := B) (b := b) u HP3.out.2 HPQ.out.2))
 clear s u HS3 HP3 HC4
 go_wp2_with fail
 refine (HC5.out w4 HS4.out.so HP4.out.2).mono ?_
 rintro e w5 ⟨rfl, s, u⟩
 have HS5 := hid (HS4.out.go s u)
 have HP5 := hid (And.intro (Sg.blk (B := B) (b := b) u HP4.out.1 HPQ.out.1) (Sg.blk (B := B) (b := b) u HP4.out.2 HPQ.out.2))
 clear s u HS4 HP4 HC5
 go_wp2_with fail
 refine (HC6.out w5 HS5.out.so HP5.out.2).mono ?_
 rintro e w6 ⟨rfl, s, u⟩
 have HS6 := hid (HS5.out.go s u)
 have HP6 := hid (And.intro (Sg.blk (B := B) (b := b) u HP5.out.1 HPQ.out.1) (Sg.blk (B := B) (b := b) u HP5.out.2 HPQ.out.2))
 clear s u HS5 HP5 HC6
 have hp6 := HP6.out.1
 have x0 : w6.cell? ⟨p, 0, none⟩ = some (.int .i64 0) := by simp [World.cell?, hp6]
 have f0 : w6.frozen? ⟨p, 0, none⟩ = false := by simp [World.frozen?, hp6]
 have x1 : w6.cell? ⟨p, 1, none⟩ = some (.int .i64 0) := by simp [World.cell?, hp6]
 have f1 : w6.frozen? ⟨p, 1, none⟩ = false := by simp [World.frozen?, hp6]
 have x2 : w6.cell? ⟨p, 2, none⟩ = some (.int .i64 0) := by simp [World.cell?, hp6]
 have f2 : w6.frozen? ⟨p, 2, none⟩ = false := by simp [World.frozen?, hp6]
 have x3 : w6.cell? ⟨p, 3, none⟩ = some (.int .i64 0) := by simp [World.cell?, hp6]
 have f3 : w6.frozen? ⟨p, 3, none⟩ = false := by simp [World.frozen?, hp6]
 have x4 : w6.cell? ⟨p, 4, none⟩ = some (.int .i64 0) := by simp [World.cell?, hp6]
 have f4 : w6.frozen? ⟨p, 4, none⟩ = false := by simp [World.frozen?, hp6]
 have x5 : w6.cell? ⟨p, 5, none⟩ = some (.int .i64 0) := by simp [World.cell?, hp6]
 have f5 : w6.frozen? ⟨p, 5, none⟩ = false := by simp [World.frozen?, hp6]
 clear hp6
 go_wp2_with fail
 refine bodyPost_ret (results_cell_row (P := Tryd.prog) (ty := 25) rfl _ _ p _ _ _ _ rfl (heap6s HP6.out.1 _ _ _ _ _ _) Tryd.underlying25 rfl info_tab6) rfl ?_
 exact ⟨rfl, ((((((HS6.out.set HPW.out.1 HPW.out.2 HPQ.out.1 0 _).set HPW.out.1 HPW.out.2 HPQ.out.1 1 _).set HPW.out.1 HPW.out.2 HPQ.out.1 2 _).set HPW.out.1 HPW.out.2 HPQ.out.1 3 _).set HPW.out.1 HPW.out.2 HPQ.out.1 4 _).set HPW.out.1 HPW.out.2 HPQ.out.1 5 _)⟩
end Go.Proofs.YtpdkcpjofofkoaaDoor
namespace Go.Proofs.YtpdkcpjofofkoaaDoor
open Go.RowKit
set_option linter.unusedVariables false

def rdKey (k : Nat) (b : List Nat) : ByteArray := if 0 < sh k 1 then strOf (nx (num 1 b) (b.drop 1)) else ⟨#[]⟩
def rsKey (k : Nat) (b : List Nat) : List Nat := if 0 < sh k 1 then (b.drop 1).drop (num 1 b) else b
def rdNum (h : Int) (m : Nat) (b : List Nat) : Nat := if 0 < h then num m b else 0
def rsNum (h : Int) (m : Nat) (b : List Nat) : List Nat := if 0 < h then b.drop m else b
def rdInts (c : Nat) (b : List Nat) : List Int := (List.range c).map fun i => ((num 4 (b.drop (4 * i)) : Nat) : Int)
def rdLocs (c : Nat) (b : List Nat) : List Lo := (List.range c).map fun i => locOf (b.drop (6 * i))
def rdCnt (k : Nat) (b : List Nat) : Nat := if 0 < sh k 12 then num 1 b else (sh k 11).toNat
def rdTab (h : Int) (b : List Nat) : Tb := if 0 < h then tabOf b else tb0
def rc0 : Rc := ⟨0, ⟨#[]⟩, 0, 0, [], 0, [], tb0⟩
/-- The rests, one behind the other. -/
def b2 (k : Nat) (b : List Nat) := rsKey k b
def b3 (k : Nat) (b : List Nat) := rsNum (sh k 3) 1 (b2 k b)
def b4 (k : Nat) (b : List Nat) := rsNum (sh k 5) 4 (b3 k b)
def b5 (k : Nat) (b : List Nat) := rsNum (sh k 7) 1 (b4 k b)
def b6 (k : Nat) (b : List Nat) := (b5 k b).drop (4 * (sh k 8).toNat)
def b7 (k : Nat) (b : List Nat) := rsNum (sh k 12) 1 (b6 k b)
def b8 (k : Nat) (b : List Nat) := (b7 k b).drop (6 * rdCnt k (b6 k b))
/-- The record of a Kind k that the bytes behind it are. -/
def readK (k : Nat) (b : List Nat) : Rc :=
  { kind := (k : Nat), key := rdKey k b, n := (rdNum (sh k 3) 1 (b2 k b) : Nat), sid := (rdNum (sh k 5) 4 (b3 k b) : Nat), sids := rdInts (sh k 8).toNat (b5 k b), colour := (rdNum (sh k 7) 1 (b4 k b) : Nat),
    locs := rdLocs (rdCnt k (b6 k b)) (b7 k b), t := rdTab (sh k 14) (b8 k b) }
def readR (b : List Nat) : Rc := if 1 ≤ num 1 b ∧ num 1 b ≤ 8 then readK (num 1 b) (b.drop 1) else rc0
theorem rdInts_next (c : Nat) (b : List Nat) : rdInts (c + 1) b = rdInts c b ++ [((num 4 (b.drop (4 * c)) : Nat) : Int)] := by simp [rdInts, List.range_succ]
theorem rdLocs_next (c : Nat) (b : List Nat) : rdLocs (c + 1) b = rdLocs c b ++ [locOf (b.drop (6 * c))] := by simp [rdLocs, List.range_succ]
theorem rdInts_length (c : Nat) (b : List Nat) : (rdInts c b).length = c := by simp [rdInts]
theorem rdLocs_length (c : Nat) (b : List Nat) : (rdLocs c b).length = c := by simp [rdLocs]
/-- A record at block p that is being read from the source at block q. -/
structure RS (B : Nat) (W2 : World) (q p : Nat) (wx : World) (b : List Nat) (C : Array Value) : Prop where
 so : So B wx q b
 pc : wx.heap[p]? = some (.cells C 27 (0, 0))
 up : Up (fun j => j = p ∨ j = q) W2 wx
 pq : p ≠ q
 bp : B ≤ p
 pl : p < W2.heap.size
 ql : q < W2.heap.size
 s8 : ∀ x ∈ b, x < 256
section
variable {B q p : Nat} {W2 wx wy : World} {b b' : List Nat} {C : Array Value}
theorem RS.nxt (h : RS B W2 q p wx b C) (u : Up Nul wx wy) : RS B W2 q p wy b C :=
 ⟨h.so.nxt u, (u.block p (Array.getElem?_eq_some_iff.1 h.pc).1 id).trans h.pc, h.up.trans u.nul, h.pq, h.bp, h.pl, h.ql, h.s8⟩
theorem RS.src (h : RS B W2 q p wx b C) (s : So B wy q b') (u : Up (One q) wx wy) (h8 : ∀ x ∈ b', x < 256) : RS B W2 q p wy b' C :=
 ⟨s, (u.block p (Array.getElem?_eq_some_iff.1 h.pc).1 h.pq).trans h.pc, h.up.trans (u.mono fun k _ e => .inr e), h.pq, h.bp, h.pl, h.ql, h8⟩
theorem RS.set (h : RS B W2 q p wx b C) (i : Nat) (v : Value) : RS B W2 q p (wx.setCell ⟨p, i, none⟩ v) b (C.setIfInBounds i v) :=
 ⟨h.so.keep ((Up.refl (One p) wx).put rfl i v) (fun k _ e => by have e : k = p := e; subst e; exact ⟨h.bp, h.pq⟩), heap_set_same h.pc i v, h.up.put (.inl rfl) i v, h.pq, h.bp, h.pl, h.ql, h.s8⟩
theorem RS.cell (h : RS B W2 q p wx b C) {i : Nat} {v : Value} (hv : C[i]? = some v) : wx.cell? ⟨p, i, none⟩ = some v := by simp [World.cell?, h.pc, hv]
theorem RS.froz (h : RS B W2 q p wx b C) (i : Nat) : wx.frozen? ⟨p, i, none⟩ = false := by simp [World.frozen?, h.pc]
/-- Other blocks that were there. -/
theorem RS.old (h : RS B W2 q p wx b C) {g : Nat} (hg : g < W2.heap.size) (h1 : g ≠ p) (h2 : g ≠ q) : wx.heap[g]? = W2.heap[g]? := h.up.block g hg (fun e => e.elim h1 h2)
end
end Go.Proofs.YtpdkcpjofofkoaaDoor
