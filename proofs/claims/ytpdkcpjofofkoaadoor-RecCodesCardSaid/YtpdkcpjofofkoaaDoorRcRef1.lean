/- The document's in, names, sids, tables, KeyOk. -/
import Derived.Test.YtpdkcpjofofkoaaDoorRcOk1
import Derived.Test.YtpdkcpjofofkoaaDoorRcMath
set_option maxRecDepth 100000
namespace Go.Proofs.YtpdkcpjofofkoaaDoor
open Go.RowKit
set_option linter.unusedVariables false
theorem in_any (n lo hi : Int) (w : World) : Calls Tryd.prog 28 #[.int .i64 n, .int .i64 lo, .int .i64 hi] w fun e w' => e = .returned (.bool (spn lo hi n)) ∧ w' = w := by
  by_cases a : lo ≤ n
  · have a' : ¬ n < lo := by omega
    by_cases b : n ≤ hi
    · have b' : ¬ hi < n := by omega
      have E : Hid (spn lo hi n = true) := by show _ = _; unfold spn; rw [decide_eq_true a, decide_eq_true b]; rfl
      rw [E.out]; clear E
      go_enter Tryd.func28, Tryd.ntmps28
      go_wp2
      go_ret
      first | done | exact ⟨rfl, rfl⟩ | rfl
    · have b' : hi < n := by omega
      have E : Hid (spn lo hi n = false) := by show _ = _; unfold spn; rw [decide_eq_false b]; simp
      rw [E.out]; clear E
      go_enter Tryd.func28, Tryd.ntmps28
      go_wp2
      go_ret
      first | done | exact ⟨rfl, rfl⟩ | rfl
  · have a' : n < lo := by omega
    have E : Hid (spn lo hi n = false) := by show _ = _; unfold spn; rw [decide_eq_false a]; rfl
    rw [E.out]; clear E
    go_enter Tryd.func28, Tryd.ntmps28
    go_wp2
    go_ret
    first | done | exact ⟨rfl, rfl⟩ | rfl
/-- What a Kind names: a Key, an N, a Sid, a Colour, a Table. -/
def nmB : Nat → Nat → Bool
  | 1, j => j < 3
  | 2, j => j == 0
  | 3, j => j == 0 || j == 2 || j == 3
  | 4, j => j == 0 || j == 2
  | 5, j => j == 2
  | 6, j => j == 2
  | 7, j => j == 1 || j == 2
  | _, j => j == 4
abbrev nmV (k : Nat) : Value := .agg #[.bool (nmB k 0), .bool (nmB k 1), .bool (nmB k 2), .bool (nmB k 3), .bool (nmB k 4)]
theorem info_b5 : (Tryd.prog.info? 63).map (·.size) = some 5 := by kernel_rfl
theorem info_i6 : (Tryd.prog.info? 67).map (·.size) = some 6 := by kernel_rfl
theorem names1 (w : World) : Calls Tryd.prog 29 #[.int .i64 1] w fun e w' => e = .returned (nmV 1) ∧ Up Nul w w' := by
  have HU := hid (Up.refl Nul w)
  go_enter Tryd.func29, Tryd.ntmps29
  go_wp2
  refine bodyPost_ret (results_cell_row (P := Tryd.prog) (ty := 63) rfl _ _ w.heap.size _ _ _ _ rfl (heap_alloc_new _ _) Tryd.underlying63 rfl info_b5) rfl ?_
  exact ⟨rfl, HU.out.alloc _⟩
theorem names2 (w : World) : Calls Tryd.prog 29 #[.int .i64 2] w fun e w' => e = .returned (nmV 2) ∧ Up Nul w w' := by
  have HU := hid (Up.refl Nul w)
  go_enter Tryd.func29, Tryd.ntmps29
  go_wp2
  refine bodyPost_ret (results_cell_row (P := Tryd.prog) (ty := 63) rfl _ _ w.heap.size _ _ _ _ rfl (heap_alloc_new _ _) Tryd.underlying63 rfl info_b5) rfl ?_
  exact ⟨rfl, HU.out.alloc _⟩
theorem names3 (w : World) : Calls Tryd.prog 29 #[.int .i64 3] w fun e w' => e = .returned (nmV 3) ∧ Up Nul w w' := by
  have HU := hid (Up.refl Nul w)
  go_enter Tryd.func29, Tryd.ntmps29
  go_wp2
  refine bodyPost_ret (results_cell_row (P := Tryd.prog) (ty := 63) rfl _ _ w.heap.size _ _ _ _ rfl (heap_alloc_new _ _) Tryd.underlying63 rfl info_b5) rfl ?_
  exact ⟨rfl, HU.out.alloc _⟩
theorem names4 (w : World) : Calls Tryd.prog 29 #[.int .i64 4] w fun e w' => e = .returned (nmV 4) ∧ Up Nul w w' := by
  have HU := hid (Up.refl Nul w)
  go_enter Tryd.func29, Tryd.ntmps29
  go_wp2
  refine bodyPost_ret (results_cell_row (P := Tryd.prog) (ty := 63) rfl _ _ w.heap.size _ _ _ _ rfl (heap_alloc_new _ _) Tryd.underlying63 rfl info_b5) rfl ?_
  exact ⟨rfl, HU.out.alloc _⟩
theorem names5 (w : World) : Calls Tryd.prog 29 #[.int .i64 5] w fun e w' => e = .returned (nmV 5) ∧ Up Nul w w' := by
  have HU := hid (Up.refl Nul w)
  go_enter Tryd.func29, Tryd.ntmps29
  go_wp2
  refine bodyPost_ret (results_cell_row (P := Tryd.prog) (ty := 63) rfl _ _ w.heap.size _ _ _ _ rfl (heap_alloc_new _ _) Tryd.underlying63 rfl info_b5) rfl ?_
  exact ⟨rfl, HU.out.alloc _⟩
theorem names6 (w : World) : Calls Tryd.prog 29 #[.int .i64 6] w fun e w' => e = .returned (nmV 6) ∧ Up Nul w w' := by
  have HU := hid (Up.refl Nul w)
  go_enter Tryd.func29, Tryd.ntmps29
  go_wp2
  refine bodyPost_ret (results_cell_row (P := Tryd.prog) (ty := 63) rfl _ _ w.heap.size _ _ _ _ rfl (heap_alloc_new _ _) Tryd.underlying63 rfl info_b5) rfl ?_
  exact ⟨rfl, HU.out.alloc _⟩
theorem names7 (w : World) : Calls Tryd.prog 29 #[.int .i64 7] w fun e w' => e = .returned (nmV 7) ∧ Up Nul w w' := by
  have HU := hid (Up.refl Nul w)
  go_enter Tryd.func29, Tryd.ntmps29
  go_wp2
  refine bodyPost_ret (results_cell_row (P := Tryd.prog) (ty := 63) rfl _ _ w.heap.size _ _ _ _ rfl (heap_alloc_new _ _) Tryd.underlying63 rfl info_b5) rfl ?_
  exact ⟨rfl, HU.out.alloc _⟩
theorem names8 (w : World) : Calls Tryd.prog 29 #[.int .i64 8] w fun e w' => e = .returned (nmV 8) ∧ Up Nul w w' := by
  have HU := hid (Up.refl Nul w)
  go_enter Tryd.func29, Tryd.ntmps29
  go_wp2
  refine bodyPost_ret (results_cell_row (P := Tryd.prog) (ty := 63) rfl _ _ w.heap.size _ _ _ _ rfl (heap_alloc_new _ _) Tryd.underlying63 rfl info_b5) rfl ?_
  exact ⟨rfl, HU.out.alloc _⟩
theorem names_any (k : Nat) (h1 : 1 ≤ k) (h8 : k ≤ 8) (w : World) : Calls Tryd.prog 29 #[.int .i64 (k : Nat)] w fun e w' => e = .returned (nmV k) ∧ Up Nul w w' := by
  match k, h1, h8 with
  | 1, _, _ => exact names1 w
  | 2, _, _ => exact names2 w
  | 3, _, _ => exact names3 w
  | 4, _, _ => exact names4 w
  | 5, _, _ => exact names5 w
  | 6, _, _ => exact names6 w
  | 7, _, _ => exact names7 w
  | 8, _, _ => exact names8 w
/-- How many Sids a Kind names; how many Locs (below 0: as the Sids say). -/
def sdN : Nat → Int
  | 5 => 3
  | 6 => 3
  | _ => 0
def lcN : Nat → Int
  | 1 => 3
  | 3 => 6
  | 4 => 3
  | 5 => 4
  | 6 => -1
  | 7 => 1
  | _ => 0
theorem sids1 (w : World) : Calls Tryd.prog 31 #[.int .i64 1] w fun e w' => e = .returned (.tuple #[.int .i64 (sdN 1), .int .i64 (lcN 1)]) ∧ w' = w := by
  go_enter Tryd.func31, Tryd.ntmps31
  go_wp2
  go_ret2
  first | done | exact ⟨rfl, rfl⟩ | rfl
theorem sids2 (w : World) : Calls Tryd.prog 31 #[.int .i64 2] w fun e w' => e = .returned (.tuple #[.int .i64 (sdN 2), .int .i64 (lcN 2)]) ∧ w' = w := by
  go_enter Tryd.func31, Tryd.ntmps31
  go_wp2
  go_ret2
  first | done | exact ⟨rfl, rfl⟩ | rfl
theorem sids3 (w : World) : Calls Tryd.prog 31 #[.int .i64 3] w fun e w' => e = .returned (.tuple #[.int .i64 (sdN 3), .int .i64 (lcN 3)]) ∧ w' = w := by
  go_enter Tryd.func31, Tryd.ntmps31
  go_wp2
  go_ret2
  first | done | exact ⟨rfl, rfl⟩ | rfl
theorem sids4 (w : World) : Calls Tryd.prog 31 #[.int .i64 4] w fun e w' => e = .returned (.tuple #[.int .i64 (sdN 4), .int .i64 (lcN 4)]) ∧ w' = w := by
  go_enter Tryd.func31, Tryd.ntmps31
  go_wp2
  go_ret2
  first | done | exact ⟨rfl, rfl⟩ | rfl
theorem sids5 (w : World) : Calls Tryd.prog 31 #[.int .i64 5] w fun e w' => e = .returned (.tuple #[.int .i64 (sdN 5), .int .i64 (lcN 5)]) ∧ w' = w := by
  go_enter Tryd.func31, Tryd.ntmps31
  go_wp2
  go_ret2
  first | done | exact ⟨rfl, rfl⟩ | rfl
theorem sids6 (w : World) : Calls Tryd.prog 31 #[.int .i64 6] w fun e w' => e = .returned (.tuple #[.int .i64 (sdN 6), .int .i64 (lcN 6)]) ∧ w' = w := by
  go_enter Tryd.func31, Tryd.ntmps31
  go_wp2
  go_ret2
  first | done | exact ⟨rfl, rfl⟩ | rfl
theorem sids7 (w : World) : Calls Tryd.prog 31 #[.int .i64 7] w fun e w' => e = .returned (.tuple #[.int .i64 (sdN 7), .int .i64 (lcN 7)]) ∧ w' = w := by
  go_enter Tryd.func31, Tryd.ntmps31
  go_wp2
  go_ret2
  first | done | exact ⟨rfl, rfl⟩ | rfl
theorem sids8 (w : World) : Calls Tryd.prog 31 #[.int .i64 8] w fun e w' => e = .returned (.tuple #[.int .i64 (sdN 8), .int .i64 (lcN 8)]) ∧ w' = w := by
  go_enter Tryd.func31, Tryd.ntmps31
  go_wp2
  go_ret2
  first | done | exact ⟨rfl, rfl⟩ | rfl
theorem sids_any (k : Nat) (h1 : 1 ≤ k) (h8 : k ≤ 8) (w : World) : Calls Tryd.prog 31 #[.int .i64 (k : Nat)] w fun e w' => e = .returned (.tuple #[.int .i64 (sdN k), .int .i64 (lcN k)]) ∧ w' = w := by
  match k, h1, h8 with
  | 1, _, _ => exact sids1 w
  | 2, _, _ => exact sids2 w
  | 3, _, _ => exact sids3 w
  | 4, _, _ => exact sids4 w
  | 5, _, _ => exact sids5 w
  | 6, _, _ => exact sids6 w
  | 7, _, _ => exact sids7 w
  | 8, _, _ => exact sids8 w
theorem tables_any (t : Tb) (w : World) : Calls Tryd.prog 32 #[tbv t] w fun e w' => e = .returned (.agg #[.int .i64 t.hot, .int .i64 t.warm, .int .i64 t.gap, .int .i64 t.add, .int .i64 t.top, .int .i64 t.half]) ∧ Up Nul w w' := by
  have HH : Hid (((w.alloc (.cells #[.int .i64 t.hot, .int .i64 t.warm, .int .i64 t.gap, .int .i64 t.add, .int .i64 t.top, .int .i64 t.half] 25)).alloc (.cells #[.int .i64 t.hot, .int .i64 t.warm, .int .i64 t.gap, .int .i64 t.add, .int .i64 t.top, .int .i64 t.half] 67)).heap[w.heap.size + 1]? = some (.cells #[.int .i64 t.hot, .int .i64 t.warm, .int .i64 t.gap, .int .i64 t.add, .int .i64 t.top, .int .i64 t.half] 67 (0, 0))) := by
    have := heap_alloc_new (w.alloc (.cells #[.int .i64 t.hot, .int .i64 t.warm, .int .i64 t.gap, .int .i64 t.add, .int .i64 t.top, .int .i64 t.half] 25)) (.cells #[.int .i64 t.hot, .int .i64 t.warm, .int .i64 t.gap, .int .i64 t.add, .int .i64 t.top, .int .i64 t.half] 67)
    simpa [Hid] using this
  have HU := hid (Up.refl Nul w)
  go_enter Tryd.func32, Tryd.ntmps32
  go_wp2
  refine bodyPost_ret (results_cell_row (P := Tryd.prog) (ty := 67) rfl _ _ (w.heap.size + 1) _ _ _ _ rfl HH.out Tryd.underlying67 rfl info_i6) rfl ?_
  exact ⟨rfl, (HU.out.alloc _).alloc _⟩
/-- Which keys may be. -/
def kok (s : ByteArray) : Bool := ((nums s).take 20).all pch && decide (1 ≤ s.size) && decide (s.size ≤ 16)
theorem idx_key (s : ByteArray) (p c : Nat) (hp : p < s.size) (hc : (nums s)[p]? = some c) (W : World) : (Instr.index 9 (.string s) (.int .i64 (p : Nat))).run Tryd.prog W = .ok (.int .u8 (c : Nat)) W := by
  have h : s[p].toNat = c := by
    simp only [nums, List.getElem?_map, Option.map_eq_some_iff] at hc
    obtain ⟨y, hy, rfl⟩ := hc
    have : s.data.toList[p]? = some s[p] := by
      rw [Array.getElem?_toList]
      exact Array.getElem?_eq_getElem hp
    rw [this] at hy
    cases hy
    rfl
  subst h
  simp [Instr.index, run_underlying Tryd.underlying9, asIntOf, hp]
theorem keyok_any (s : ByteArray) (w : World) (hs : s.size ≤ 100000) : Calls Tryd.prog 30 #[.string s] w fun e w' => e = .returned (.bool (kok s)) ∧ w' = w := by
  obtain ⟨R, HE0⟩ : ∃ R, R = kok s := ⟨_, rfl⟩
  rw [← HE0]
  have HE := hid HE0
  clear HE0
  obtain ⟨n, hn⟩ : ∃ n, n = s.size := ⟨_, rfl⟩
  have hnl : (nums s).length = n := by rw [nums_length, hn]
  have HN := hid (And.intro hn hnl)
  rw [← hn] at hs
  have i0 : (n : Int) ≤ 100000 := by omega
  have hsz : s.size = n := hn.symm
  clear hn hnl
  go_enter Tryd.func30, Tryd.ntmps30
  go_wp2_with fail
  go_loopw [3] (fun i wr => ∃ p : Nat, i = .int .i64 (p : Nat) ∧ p ≤ n ∧ p ≤ 20 ∧ ((nums s).take p).all pch = true ∧ wr = w) (fun i _ => match i with | .int _ p => n - p.toNat | _ => 0)
  case atStart => exact ⟨0, rfl, Nat.zero_le _, by omega, rfl, rfl⟩
  case round =>
    obtain ⟨p, rfl, h1, h2, h3, rfl⟩ := hrel
    have ip : (0 : Int) ≤ (p : Int) := by omega
    have ip2 : (p : Int) ≤ 20 := by omega
    have H3 := hid h3
    by_cases hd : p < n ∧ p < 20
    · obtain ⟨d1, d2⟩ := hd
      have j1 : (p : Int) < (n : Int) := by omega
      have j2 : (p : Int) < 20 := by omega
      obtain ⟨c, hc⟩ : ∃ c, (nums s)[p]? = some c := ⟨_, List.getElem?_eq_getElem (by rw [HN.out.2]; exact d1)⟩
      have hix := idx_key s p c (by omega) hc
      have htk : ((nums s).take (p + 1)) = (nums s).take p ++ [c] := by rw [List.take_add_one, hc]; rfl
      have HT := hid htk
      have HC := hid hc
      clear htk h3 hc d1 d2 h1 h2
      by_cases c1 : c < 33
      · have k1 : (c : Int) ≤ 32 := by omega
        have hR : R = false := by
          rw [HE.out]
          have : ((nums s).take 20).all pch = false := by
            rw [List.all_eq_false]
            refine ⟨c, List.mem_iff_getElem?.2 ⟨p, ?_⟩, by simp [pch]; omega⟩
            rw [List.getElem?_take, if_pos (by omega)]
            exact HC.out
          unfold kok
          rw [this]
          rfl
        have HR2 := hid hR
        clear hR
        have k1' : ¬ (32 : Int) < (c : Int) := by omega
        clear c1 HE
        go_wp2_with fail
        go_ret
        first | exact ⟨by rw [HR2.out]; rfl, by trivial⟩ | exact HR2.out.symm | exact ⟨HR2.out.symm, by trivial⟩ | (rw [HR2.out]; first | done | trivial | rfl | (simp; done) | (simp; omega))
      · have k1 : ¬ (c : Int) ≤ 32 := by omega
        have k1' : (32 : Int) < (c : Int) := by omega
        by_cases c2 : 126 < c
        · have k2 : (127 : Int) ≤ (c : Int) := by omega
          have k2' : ¬ (c : Int) < 127 := by omega
          have hR : R = false := by
            rw [HE.out]
            have : ((nums s).take 20).all pch = false := by
              rw [List.all_eq_false]
              refine ⟨c, List.mem_iff_getElem?.2 ⟨p, ?_⟩, by simp [pch]; omega⟩
              rw [List.getElem?_take, if_pos (by omega)]
              exact HC.out
            unfold kok
            rw [this]
            rfl
          have HR2 := hid hR
          clear hR c1 c2 HE
          go_wp2_with fail
          go_ret
          first | exact ⟨by rw [HR2.out]; rfl, by trivial⟩ | exact HR2.out.symm | exact ⟨HR2.out.symm, by trivial⟩ | (rw [HR2.out]; first | done | trivial | rfl | (simp; done) | (simp; omega))
        · have k2 : ¬ (127 : Int) ≤ (c : Int) := by omega
          have k2' : (c : Int) < 127 := by omega
          have HP : Hid (((nums s).take (p + 1)).all pch = true) := by
            show _ = _
            rw [HT.out, List.all_append, H3.out]
            simp [pch]; omega
          clear c1 c2
          go_wp2_with fail
          refine ⟨⟨p + 1, ?_, ?_, ?_, HP.out, by trivial⟩, ?_⟩
          · first | (congr 1; omega) | rfl | simp
          · omega
          · omega
          · simp; omega
    · have hR : R = (((nums s).take p).all pch && decide (1 ≤ n) && decide (n ≤ 16)) := by
        rw [HE.out]
        unfold kok
        rw [HN.out.1]
        by_cases p20 : p = 20
        · subst p20; rfl
        · have e : (nums s).take 20 = (nums s).take p := by
            rw [List.take_of_length_le (by rw [HN.out.2]; omega), List.take_of_length_le (by rw [HN.out.2]; omega)]
          rw [e]
      rw [H3.out, Bool.true_and] at hR
      by_cases j1 : p < n
      · have j1' : (p : Int) < (n : Int) := by omega
        have j2 : ¬ (p : Int) < 20 := by omega
        have n1 : (1 : Int) ≤ (n : Int) := by omega
        have n2 : ¬ (n : Int) ≤ 16 := by omega
        have n1' : ¬ (n : Int) < 1 := by omega
        have n2' : (16 : Int) < (n : Int) := by omega
        have hR2 : R = false := by rw [hR, decide_eq_false (show ¬ n ≤ 16 by omega), Bool.and_false]
        have HR2 := hid hR2
        clear hR hR2 hd h1 h2 h3 HE
        go_wp2_with fail
        go_ret
        first | exact ⟨by rw [HR2.out]; rfl, by trivial⟩ | exact HR2.out.symm | exact ⟨HR2.out.symm, by trivial⟩ | (rw [HR2.out]; first | done | trivial | rfl | (simp; done) | (simp; omega))
      · have j1' : ¬ (p : Int) < (n : Int) := by omega
        by_cases n1 : 1 ≤ n
        · have n1' : ¬ (n : Int) < 1 := by omega
          by_cases n2 : n ≤ 16
          · have n2' : ¬ (16 : Int) < (n : Int) := by omega
            have hR2 : R = true := by rw [hR, decide_eq_true n1, decide_eq_true n2]; rfl
            have HR2 := hid hR2
            clear hR hR2 hd h1 h2 h3 HE n1 n2 j1
            go_wp2_with fail
            go_ret
            first | exact ⟨by rw [HR2.out]; rfl, by trivial⟩ | exact HR2.out.symm | exact ⟨HR2.out.symm, by trivial⟩ | (rw [HR2.out]; first | done | trivial | rfl | (simp; done) | (simp; omega))
          · have n2' : (16 : Int) < (n : Int) := by omega
            have hR2 : R = false := by rw [hR, decide_eq_false n2, Bool.and_false]
            have HR2 := hid hR2
            clear hR hR2 hd h1 h2 h3 HE n1 n2 j1
            go_wp2_with fail
            go_ret
            first | exact ⟨by rw [HR2.out]; rfl, by trivial⟩ | exact HR2.out.symm | exact ⟨HR2.out.symm, by trivial⟩ | (rw [HR2.out]; first | done | trivial | rfl | (simp; done) | (simp; omega))
        · have n1' : (n : Int) < 1 := by omega
          have hR2 : R = false := by rw [hR, decide_eq_false n1]; rfl
          have HR2 := hid hR2
          clear hR hR2 hd h1 h2 h3 HE n1 j1
          go_wp2_with fail
          go_ret
          first | exact ⟨by rw [HR2.out]; rfl, by trivial⟩ | exact HR2.out.symm | exact ⟨HR2.out.symm, by trivial⟩ | (rw [HR2.out]; first | done | trivial | rfl | (simp; done) | (simp; omega))
end Go.Proofs.YtpdkcpjofofkoaaDoor
