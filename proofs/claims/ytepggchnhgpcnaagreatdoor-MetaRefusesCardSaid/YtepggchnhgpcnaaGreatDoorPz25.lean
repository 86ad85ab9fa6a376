/- Part 3 of what the walks rest on: RcRec, RcBlk, RcBoundsMath, RcRef1, RcRefM, RcRefk1, RcRefk2, RcRefk3. -/
import Derived.Test.YtepggchnhgpcnaaGreatDoorPkTidy
import Derived.Test.YtepggchnhgpcnaaGreatDoorPz24
namespace Go.Proofs.YtepggchnhgpcnaaGreatDoor
open Go.RowKit
set_option linter.unusedVariables false
set_option maxRecDepth 100000

def RB (w : World) (p : Nat) (r : Rc) (sv lv : Value) : Prop := w.heap[p]? = some (.cells (rcellsL r sv lv) 28 (0, 0))
section
variable {w : World} {p : Nat} {r : Rc} {sv lv : Value}
theorem RB.lt (h : RB w p r sv lv) : p < w.heap.size := (Array.getElem?_eq_some_iff.1 h).1
end
section
variable {w w' : World} {p : Nat} {r : Rc} {sv lv : Value}
theorem RB.up {S : Nat → Prop} (h : RB w p r sv lv) (u : Up S w w') (hs : ¬ S p) : RB w' p r sv lv := (u.block p h.lt hs).trans h
theorem RB.nxt (h : RB w p r sv lv) (u : Up Nul w w') : RB w' p r sv lv := h.up u id
end
section
variable {w : World} {r : Rc} {sv lv : Value}
theorem RB.new (w : World) (r : Rc) (sv lv : Value) : RB (w.alloc (.cells (rcellsL r sv lv) 28)) w.heap.size r sv lv := heap_alloc_new _ _
end
section
variable {w : World} {p : Nat} {r : Rc} {sv lv : Value}
theorem RB.cells (h : RB w p r sv lv) : w.cell? ⟨p, 0, none⟩ = some (.int .i64 r.kind) ∧ w.cell? ⟨p, 1, none⟩ = some (.string r.key) ∧ w.cell? ⟨p, 2, none⟩ = some (.int .i64 r.n) ∧ w.cell? ⟨p, 3, none⟩ = some (.int .i64 r.sid) ∧ w.cell? ⟨p, 4, none⟩ = some (sv) ∧ w.cell? ⟨p, 5, none⟩ = some (.int .i64 r.colour) ∧ w.cell? ⟨p, 6, none⟩ = some (lv) ∧ w.cell? ⟨p, 7, none⟩ = some (.int .i64 r.t.hot) ∧ w.cell? ⟨p, 8, none⟩ = some (.int .i64 r.t.warm) ∧ w.cell? ⟨p, 9, none⟩ = some (.int .i64 r.t.gap) ∧ w.cell? ⟨p, 10, none⟩ = some (.int .i64 r.t.add) ∧ w.cell? ⟨p, 11, none⟩ = some (.int .i64 r.t.top) ∧ w.cell? ⟨p, 12, none⟩ = some (.int .i64 r.t.half) := by
 have a : w.heap[p]? = _ := h
 simp only [World.cell?, a]
 exact ⟨rfl, rfl, rfl, rfl, rfl, rfl, rfl, rfl, rfl, rfl, rfl, rfl, rfl⟩
theorem RB.froz (h : RB w p r sv lv) (i : Nat) : w.frozen? ⟨p, i, none⟩ = false := by
 have a : w.heap[p]? = _ := h
 simp [World.frozen?, a]
theorem RB.set (h : RB w p r sv lv) (i : Nat) (v : Value) {r' : Rc} {sv' lv' : Value} (e : (rcellsL r sv lv).setIfInBounds i v = rcellsL r' sv' lv') : RB (w.setCell ⟨p, i, none⟩ v) p r' sv' lv' := by
 have := heap_set_same h i v
 rw [e] at this
 exact this
end
theorem okR_no {r : Rc} (h : OkF r → False) : okR r = false := by
 cases e : okR r with
 | false => rfl
 | true => exact (h (okR_iff.1 e)).elim
theorem in_any (n lo hi : Int) (w : World) : Calls Tryz.prog 34 #[.int .i64 n, .int .i64 lo, .int .i64 hi] w fun e w' => e = .returned (.bool (spn lo hi n)) ∧ w' = w := by
 by_cases a : lo ≤ n
 ·have a' : ¬ n < lo := by omega
  by_cases b : n ≤ hi
  ·have b' : ¬ hi < n := by omega
   have E : Hid (spn lo hi n = true) := by show _ = _; unfold spn; rw [decide_eq_true a, decide_eq_true b]; rfl
   rw [E.out]; clear E
   go_enter Tryz.func34, Tryz.ntmps34
   go_wp2
   go_ret
   first | done | exact ⟨rfl, rfl⟩ | rfl
  ·have b' : hi < n := by omega
   have E : Hid (spn lo hi n = false) := by show _ = _; unfold spn; rw [decide_eq_false b]; simp
   rw [E.out]; clear E
   go_enter Tryz.func34, Tryz.ntmps34
   go_wp2
   go_ret
   first | done | exact ⟨rfl, rfl⟩ | rfl
 ·have a' : n < lo := by omega
  have E : Hid (spn lo hi n = false) := by show _ = _; unfold spn; rw [decide_eq_false a]; rfl
  rw [E.out]; clear E
  go_enter Tryz.func34, Tryz.ntmps34
  go_wp2
  go_ret
  first | done | exact ⟨rfl, rfl⟩ | rfl
def nmB : Nat → Nat → Bool
 | 1, j => j < 3
 | 2, j => j == 0
 | 3, j => j == 0 || j == 2 || j == 3
 | 4, j => j == 0 || j == 2
 | 5, j => j == 2
 | 6, j => j == 2
 | 7, j => j == 1 || j == 2
 | _, j => j == 4
abbrev nmV (k : Nat) : Value := .agg #[.bool (nmB k 0), .bool (nmB k 1), .bool (nmB k 2), .bool (nmB k 3), .bool (nmB k 4)]
theorem info_b5 : (Tryz.prog.info? 74).map (·.size) = some 5 := by kernel_rfl
theorem info_i6 : (Tryz.prog.info? 79).map (·.size) = some 6 := by kernel_rfl
theorem names1 (w : World) : Calls Tryz.prog 35 #[.int .i64 1] w fun e w' => e = .returned (nmV 1) ∧ Up Nul w w' := by
 have HU := hid (Up.refl Nul w)
 go_enter Tryz.func35, Tryz.ntmps35
 go_wp2
 refine bodyPost_ret (results_cell_row (P := Tryz.prog) (ty := 74) rfl _ _ w.heap.size _ _ _ _ rfl (heap_alloc_new _ _) Tryz.underlying74 rfl info_b5) rfl ?_
 exact ⟨rfl, HU.out.alloc _⟩
theorem names2 (w : World) : Calls Tryz.prog 35 #[.int .i64 2] w fun e w' => e = .returned (nmV 2) ∧ Up Nul w w' := by
 have HU := hid (Up.refl Nul w)
 go_enter Tryz.func35, Tryz.ntmps35
 go_wp2
 refine bodyPost_ret (results_cell_row (P := Tryz.prog) (ty := 74) rfl _ _ w.heap.size _ _ _ _ rfl (heap_alloc_new _ _) Tryz.underlying74 rfl info_b5) rfl ?_
 exact ⟨rfl, HU.out.alloc _⟩
theorem names3 (w : World) : Calls Tryz.prog 35 #[.int .i64 3] w fun e w' => e = .returned (nmV 3) ∧ Up Nul w w' := by
 have HU := hid (Up.refl Nul w)
 go_enter Tryz.func35, Tryz.ntmps35
 go_wp2
 refine bodyPost_ret (results_cell_row (P := Tryz.prog) (ty := 74) rfl _ _ w.heap.size _ _ _ _ rfl (heap_alloc_new _ _) Tryz.underlying74 rfl info_b5) rfl ?_
 exact ⟨rfl, HU.out.alloc _⟩
theorem names4 (w : World) : Calls Tryz.prog 35 #[.int .i64 4] w fun e w' => e = .returned (nmV 4) ∧ Up Nul w w' := by
 have HU := hid (Up.refl Nul w)
 go_enter Tryz.func35, Tryz.ntmps35
 go_wp2
 refine bodyPost_ret (results_cell_row (P := Tryz.prog) (ty := 74) rfl _ _ w.heap.size _ _ _ _ rfl (heap_alloc_new _ _) Tryz.underlying74 rfl info_b5) rfl ?_
 exact ⟨rfl, HU.out.alloc _⟩
theorem names5 (w : World) : Calls Tryz.prog 35 #[.int .i64 5] w fun e w' => e = .returned (nmV 5) ∧ Up Nul w w' := by
 have HU := hid (Up.refl Nul w)
 go_enter Tryz.func35, Tryz.ntmps35
 go_wp2
 refine bodyPost_ret (results_cell_row (P := Tryz.prog) (ty := 74) rfl _ _ w.heap.size _ _ _ _ rfl (heap_alloc_new _ _) Tryz.underlying74 rfl info_b5) rfl ?_
 exact ⟨rfl, HU.out.alloc _⟩
theorem names6 (w : World) : Calls Tryz.prog 35 #[.int .i64 6] w fun e w' => e = .returned (nmV 6) ∧ Up Nul w w' := by
 have HU := hid (Up.refl Nul w)
 go_enter Tryz.func35, Tryz.ntmps35
 go_wp2
 refine bodyPost_ret (results_cell_row (P := Tryz.prog) (ty := 74) rfl _ _ w.heap.size _ _ _ _ rfl (heap_alloc_new _ _) Tryz.underlying74 rfl info_b5) rfl ?_
 exact ⟨rfl, HU.out.alloc _⟩
theorem names7 (w : World) : Calls Tryz.prog 35 #[.int .i64 7] w fun e w' => e = .returned (nmV 7) ∧ Up Nul w w' := by
 have HU := hid (Up.refl Nul w)
 go_enter Tryz.func35, Tryz.ntmps35
 go_wp2
 refine bodyPost_ret (results_cell_row (P := Tryz.prog) (ty := 74) rfl _ _ w.heap.size _ _ _ _ rfl (heap_alloc_new _ _) Tryz.underlying74 rfl info_b5) rfl ?_
 exact ⟨rfl, HU.out.alloc _⟩
theorem names8 (w : World) : Calls Tryz.prog 35 #[.int .i64 8] w fun e w' => e = .returned (nmV 8) ∧ Up Nul w w' := by
 have HU := hid (Up.refl Nul w)
 go_enter Tryz.func35, Tryz.ntmps35
 go_wp2
 refine bodyPost_ret (results_cell_row (P := Tryz.prog) (ty := 74) rfl _ _ w.heap.size _ _ _ _ rfl (heap_alloc_new _ _) Tryz.underlying74 rfl info_b5) rfl ?_
 exact ⟨rfl, HU.out.alloc _⟩
def sdN : Nat → Int
 | 5 => 3
 | 6 => 3
 | _ => 0
def lcN : Nat → Int
 | 1 => 3
 | 3 => 6
 | 4 => 3
 | 5 => 4
 | 6 => -1
 | 7 => 1
 | _ => 0
theorem sids1 (w : World) : Calls Tryz.prog 37 #[.int .i64 1] w fun e w' => e = .returned (.tuple #[.int .i64 (sdN 1), .int .i64 (lcN 1)]) ∧ w' = w := by
 go_enter Tryz.func37, Tryz.ntmps37
 go_wp2
 go_ret2
 first | done | exact ⟨rfl, rfl⟩ | rfl
theorem sids2 (w : World) : Calls Tryz.prog 37 #[.int .i64 2] w fun e w' => e = .returned (.tuple #[.int .i64 (sdN 2), .int .i64 (lcN 2)]) ∧ w' = w := by
 go_enter Tryz.func37, Tryz.ntmps37
 go_wp2
 go_ret2
 first | done | exact ⟨rfl, rfl⟩ | rfl
theorem sids3 (w : World) : Calls Tryz.prog 37 #[.int .i64 3] w fun e w' => e = .returned (.tuple #[.int .i64 (sdN 3), .int .i64 (lcN 3)]) ∧ w' = w := by
 go_enter Tryz.func37, Tryz.ntmps37
 go_wp2
 go_ret2
 first | done | exact ⟨rfl, rfl⟩ | rfl
theorem sids4 (w : World) : Calls Tryz.prog 37 #[.int .i64 4] w fun e w' => e = .returned (.tuple #[.int .i64 (sdN 4), .int .i64 (lcN 4)]) ∧ w' = w := by
 go_enter Tryz.func37, Tryz.ntmps37
 go_wp2
 go_ret2
 first | done | exact ⟨rfl, rfl⟩ | rfl
theorem sids5 (w : World) : Calls Tryz.prog 37 #[.int .i64 5] w fun e w' => e = .returned (.tuple #[.int .i64 (sdN 5), .int .i64 (lcN 5)]) ∧ w' = w := by
 go_enter Tryz.func37, Tryz.ntmps37
 go_wp2
 go_ret2
 first | done | exact ⟨rfl, rfl⟩ | rfl
theorem sids6 (w : World) : Calls Tryz.prog 37 #[.int .i64 6] w fun e w' => e = .returned (.tuple #[.int .i64 (sdN 6), .int .i64 (lcN 6)]) ∧ w' = w := by
 go_enter Tryz.func37, Tryz.ntmps37
 go_wp2
 go_ret2
 first | done | exact ⟨rfl, rfl⟩ | rfl
theorem sids7 (w : World) : Calls Tryz.prog 37 #[.int .i64 7] w fun e w' => e = .returned (.tuple #[.int .i64 (sdN 7), .int .i64 (lcN 7)]) ∧ w' = w := by
 go_enter Tryz.func37, Tryz.ntmps37
 go_wp2
 go_ret2
 first | done | exact ⟨rfl, rfl⟩ | rfl
theorem sids8 (w : World) : Calls Tryz.prog 37 #[.int .i64 8] w fun e w' => e = .returned (.tuple #[.int .i64 (sdN 8), .int .i64 (lcN 8)]) ∧ w' = w := by
 go_enter Tryz.func37, Tryz.ntmps37
 go_wp2
 go_ret2
 first | done | exact ⟨rfl, rfl⟩ | rfl
theorem tables_any (t : Tb) (w : World) : Calls Tryz.prog 38 #[tbv t] w fun e w' => e = .returned (.agg #[.int .i64 t.hot, .int .i64 t.warm, .int .i64 t.gap, .int .i64 t.add, .int .i64 t.top, .int .i64 t.half]) ∧ Up Nul w w' := by
 have HH : Hid (((w.alloc (.cells #[.int .i64 t.hot, .int .i64 t.warm, .int .i64 t.gap, .int .i64 t.add, .int .i64 t.top, .int .i64 t.half] 26)).alloc (.cells #[.int .i64 t.hot, .int .i64 t.warm, .int .i64 t.gap, .int .i64 t.add, .int .i64 t.top, .int .i64 t.half] 79)).heap[w.heap.size + 1]? = some (.cells #[.int .i64 t.hot, .int .i64 t.warm, .int .i64 t.gap, .int .i64 t.add, .int .i64 t.top, .int .i64 t.half] 79 (0, 0))) := by
  have := heap_alloc_new (w.alloc (.cells #[.int .i64 t.hot, .int .i64 t.warm, .int .i64 t.gap, .int .i64 t.add, .int .i64 t.top, .int .i64 t.half] 26)) (.cells #[.int .i64 t.hot, .int .i64 t.warm, .int .i64 t.gap, .int .i64 t.add, .int .i64 t.top, .int .i64 t.half] 79)
  simpa [Hid] using this
 have HU := hid (Up.refl Nul w)
 go_enter Tryz.func38, Tryz.ntmps38
 go_wp2
 refine bodyPost_ret (results_cell_row (P := Tryz.prog) (ty := 79) rfl _ _ (w.heap.size + 1) _ _ _ _ rfl HH.out Tryz.underlying79 rfl info_i6) rfl ?_
 exact ⟨rfl, (HU.out.alloc _).alloc _⟩
def kok (s : ByteArray) : Bool := ((nums s).take 20).all pch && decide (1 ≤ s.size) && decide (s.size ≤ 16)
theorem idx_key (s : ByteArray) (p c : Nat) (hp : p < s.size) (hc : (nums s)[p]? = some c) (W : World) : (Instr.index 9 (.string s) (.int .i64 (p : Nat))).run Tryz.prog W = .ok (.int .u8 (c : Nat)) W := by
 have h : s[p].toNat = c := by
  simp only [nums, List.getElem?_map, Option.map_eq_some_iff] at hc
  obtain ⟨y, hy, rfl⟩ := hc
  have : s.data.toList[p]? = some s[p] := by
   rw [Array.getElem?_toList]
   exact Array.getElem?_eq_getElem hp
  rw [this] at hy
  cases hy
  rfl
 subst h
 simp [Instr.index, run_underlying Tryz.underlying9, asIntOf, hp]
theorem keyok_any (s : ByteArray) (w : World) (hs : s.size ≤ 100000) : Calls Tryz.prog 36 #[.string s] w fun e w' => e = .returned (.bool (kok s)) ∧ w' = w := by
 obtain ⟨R, HE0⟩ : ∃ R, R = kok s := ⟨_, rfl⟩
 rw [← HE0]
 have HE := hid HE0
 clear HE0
 obtain ⟨n, hn⟩ : ∃ n, n = s.size := ⟨_, rfl⟩
 have hnl : (nums s).length = n := by rw [nums_length, hn]
 have HN := hid (And.intro hn hnl)
 rw [← hn] at hs
 have i0 : (n : Int) ≤ 100000 := by omega
 have hsz : s.size = n := hn.symm
 clear hn hnl
 go_enter Tryz.func36, Tryz.ntmps36
 go_wp2_with fail
 go_loopw [3] (fun i wr => ∃ p : Nat, i = .int .i64 (p : Nat) ∧ p ≤ n ∧ p ≤ 20 ∧ ((nums s).take p).all pch = true ∧ wr = w) (fun i _ => match i with | .int _ p => n - p.toNat | _ => 0)
 case atStart => exact ⟨0, rfl, Nat.zero_le _, by omega, rfl, rfl⟩
 case round =>
  obtain ⟨p, rfl, h1, h2, h3, rfl⟩ := hrel
  have ip : (0 : Int) ≤ (p : Int) := by omega
  have ip2 : (p : Int) ≤ 20 := by omega
  have H3 := hid h3
  by_cases hd : p < n ∧ p < 20
  ·obtain ⟨d1, d2⟩ := hd
   have j1 : (p : Int) < (n : Int) := by omega
   have j2 : (p : Int) < 20 := by omega
   obtain ⟨c, hc⟩ : ∃ c, (nums s)[p]? = some c := ⟨_, List.getElem?_eq_getElem (by rw [HN.out.2]; exact d1)⟩
   have hix := idx_key s p c (by omega) hc
   have htk : ((nums s).take (p + 1)) = (nums s).take p ++ [c] := by rw [List.take_add_one, hc]; rfl
   have HT := hid htk
   have HC := hid hc
   clear htk h3 hc d1 d2 h1 h2
   by_cases c1 : c < 33
   ·have k1 : (c : Int) ≤ 32 := by omega
    have hR : R = false := by
     rw [HE.out]
     have : ((nums s).take 20).all pch = false := by
      rw [List.all_eq_false]
      refine ⟨c, List.mem_iff_getElem?.2 ⟨p, ?_⟩, by simp [pch]; omega⟩
      rw [List.getElem?_take, if_pos (by omega)]
      exact HC.out
     unfold kok
     rw [this]
     rfl
    have HR2 := hid hR
    clear hR
    have k1' : ¬ (32 : Int) < (c : Int) := by omega
    clear c1 HE
    go_wp2_with fail
    go_ret
    first | exact ⟨by rw [HR2.out]; rfl, by trivial⟩ | exact HR2.out.symm | exact ⟨HR2.out.symm, by trivial⟩ | (rw [HR2.out]; first | done | trivial | rfl | (simp; done) | (simp; omega))
   ·have k1 : ¬ (c : Int) ≤ 32 := by omega
    have k1' : (32 : Int) < (c : Int) := by omega
    by_cases c2 : 126 < c
    ·have k2 : (127 : Int) ≤ (c : Int) := by omega
     have k2' : ¬ (c : Int) < 127 := by omega
     have hR : R = false := by
      rw [HE.out]
      have : ((nums s).take 20).all pch = false := by
       rw [List.all_eq_false]
       refine ⟨c, List.mem_iff_getElem?.2 ⟨p, ?_⟩, by simp [pch]; omega⟩
       rw [List.getElem?_take, if_pos (by omega)]
       exact HC.out
      unfold kok
      rw [this]
      rfl
     have HR2 := hid hR
     clear hR c1 c2 HE
     go_wp2_with fail
     go_ret
     first | exact ⟨by rw [HR2.out]; rfl, by trivial⟩ | exact HR2.out.symm | exact ⟨HR2.out.symm, by trivial⟩ | (rw [HR2.out]; first | done | trivial | rfl | (simp; done) | (simp; omega))
    ·have k2 : ¬ (127 : Int) ≤ (c : Int) := by omega
     have k2' : (c : Int) < 127 := by omega
     have HP : Hid (((nums s).take (p + 1)).all pch = true) := by
      show _ = _
      rw [HT.out, List.all_append, H3.out]
      simp [pch]; omega
     clear c1 c2
     go_wp2_with fail
     refine ⟨⟨p + 1, ?_, ?_, ?_, HP.out, by trivial⟩, ?_⟩
     ·first | (congr 1; omega) | rfl | simp
     ·omega
     ·omega
     ·simp; omega
  ·have hR : R = (((nums s).take p).all pch && decide (1 ≤ n) && decide (n ≤ 16)) := by
    rw [HE.out]
    unfold kok
    rw [HN.out.1]
    by_cases p20 : p = 20
    ·subst p20; rfl
    ·have e : (nums s).take 20 = (nums s).take p := by
      rw [List.take_of_length_le (by rw [HN.out.2]; omega), List.take_of_length_le (by rw [HN.out.2]; omega)]
     rw [e]
   rw [H3.out, Bool.true_and] at hR
   by_cases j1 : p < n
   ·have j1' : (p : Int) < (n : Int) := by omega
    have j2 : ¬ (p : Int) < 20 := by omega
    have n1 : (1 : Int) ≤ (n : Int) := by omega
    have n2 : ¬ (n : Int) ≤ 16 := by omega
    have n1' : ¬ (n : Int) < 1 := by omega
    have n2' : (16 : Int) < (n : Int) := by omega
    have hR2 : R = false := by rw [hR, decide_eq_false (show ¬ n ≤ 16 by omega), Bool.and_false]
    have HR2 := hid hR2
    clear hR hR2 hd h1 h2 h3 HE
    go_wp2_with fail
    go_ret
    first | exact ⟨by rw [HR2.out]; rfl, by trivial⟩ | exact HR2.out.symm | exact ⟨HR2.out.symm, by trivial⟩ | (rw [HR2.out]; first | done | trivial | rfl | (simp; done) | (simp; omega))
   ·have j1' : ¬ (p : Int) < (n : Int) := by omega
    by_cases n1 : 1 ≤ n
    ·have n1' : ¬ (n : Int) < 1 := by omega
     by_cases n2 : n ≤ 16
     ·have n2' : ¬ (16 : Int) < (n : Int) := by omega
      have hR2 : R = true := by rw [hR, decide_eq_true n1, decide_eq_true n2]; rfl
      have HR2 := hid hR2
      clear hR hR2 hd h1 h2 h3 HE n1 n2 j1
      go_wp2_with fail
      go_ret
      first | exact ⟨by rw [HR2.out]; rfl, by trivial⟩ | exact HR2.out.symm | exact ⟨HR2.out.symm, by trivial⟩ | (rw [HR2.out]; first | done | trivial | rfl | (simp; done) | (simp; omega))
     ·have n2' : (16 : Int) < (n : Int) := by omega
      have hR2 : R = false := by rw [hR, decide_eq_false n2, Bool.and_false]
      have HR2 := hid hR2
      clear hR hR2 hd h1 h2 h3 HE n1 n2 j1
      go_wp2_with fail
      go_ret
      first | exact ⟨by rw [HR2.out]; rfl, by trivial⟩ | exact HR2.out.symm | exact ⟨HR2.out.symm, by trivial⟩ | (rw [HR2.out]; first | done | trivial | rfl | (simp; done) | (simp; omega))
    ·have n1' : (n : Int) < 1 := by omega
     have hR2 : R = false := by rw [hR, decide_eq_false n1]; rfl
     have HR2 := hid hR2
     clear hR hR2 hd h1 h2 h3 HE n1 j1
     go_wp2_with fail
     go_ret
     first | exact ⟨by rw [HR2.out]; rfl, by trivial⟩ | exact HR2.out.symm | exact ⟨HR2.out.symm, by trivial⟩ | (rw [HR2.out]; first | done | trivial | rfl | (simp; done) | (simp; omega))

theorem okF1 {r : Rc} (hk : r.kind = 1) : OkF r ↔ (1 ≤ ((r.key.size : Nat) : Int) ∧ ((r.key.size : Nat) : Int) ≤ 16) ∧ (∀ c ∈ nums r.key, 33 ≤ c ∧ c ≤ 126) ∧ (0 ≤ r.n ∧ r.n ≤ 64) ∧ (1 ≤ r.sid ∧ r.sid ≤ 2147483647) ∧ (0 ≤ r.colour ∧ r.colour ≤ 0) ∧ ((r.sids.length : Nat) : Int) = 0 ∧ (∀ x ∈ r.sids, 0 ≤ x ∧ x ≤ 0) ∧ ((r.locs.length : Nat) : Int) = 3 + 0 * ((nz r.sids : Nat) : Int) ∧ (∀ l ∈ r.locs, (0 ≤ l.d ∧ l.d ≤ 23) ∧ (0 ≤ l.s ∧ l.s ≤ 63) ∧ 1 ≤ l.i ∧ l.i ≤ 2147483647) ∧ (0 ≤ r.t.hot ∧ r.t.hot ≤ 0) ∧ (0 ≤ r.t.warm ∧ r.t.warm ≤ 0) ∧ (0 ≤ r.t.gap ∧ r.t.gap ≤ 0) ∧ (0 ≤ r.t.add ∧ r.t.add ≤ 0) ∧ (0 ≤ r.t.top ∧ r.t.top ≤ 0) ∧ (0 ≤ r.t.half ∧ r.t.half ≤ 0) := by
 have e : kn r = 1 := by simp [kn, hk]
 constructor
 ·intro F
  obtain ⟨_, _, _, h1, h2, h3, h4, h5, h6, h7, h8, h9, h10⟩ := F
  rw [e] at h1 h3 h4 h5 h6 h7 h8 h10
  exact ⟨h1, h2, h3, h4, h5, h6, h7, h8, h9, h10 _ (by simp [Tb.l]), h10 _ (by simp [Tb.l]), h10 _ (by simp [Tb.l]), h10 _ (by simp [Tb.l]), h10 _ (by simp [Tb.l]), h10 _ (by simp [Tb.l])⟩
 ·rintro ⟨h1, h2, h3, h4, h5, h6, h7, h8, h9, t0, t1, t2, t3, t4, t5⟩
  refine ⟨by rw [e]; decide, by rw [e]; decide, by rw [e, hk]; rfl, ?_, h2, ?_, ?_, ?_, ?_, ?_, ?_, h9, ?_⟩ <;> rw [e]
  ·exact h1
  ·exact h3
  ·exact h4
  ·exact h5
  ·exact h6
  ·exact h7
  ·exact h8
  ·intro x hx
   have hx : x = r.t.hot ∨ x = r.t.warm ∨ x = r.t.gap ∨ x = r.t.add ∨ x = r.t.top ∨ x = r.t.half := by simpa [Tb.l] using hx
   rcases hx with rfl | rfl | rfl | rfl | rfl | rfl <;> assumption
theorem okF2 {r : Rc} (hk : r.kind = 2) : OkF r ↔ (1 ≤ ((r.key.size : Nat) : Int) ∧ ((r.key.size : Nat) : Int) ≤ 16) ∧ (∀ c ∈ nums r.key, 33 ≤ c ∧ c ≤ 126) ∧ (0 ≤ r.n ∧ r.n ≤ 0) ∧ (0 ≤ r.sid ∧ r.sid ≤ 0) ∧ (0 ≤ r.colour ∧ r.colour ≤ 0) ∧ ((r.sids.length : Nat) : Int) = 0 ∧ (∀ x ∈ r.sids, 0 ≤ x ∧ x ≤ 0) ∧ ((r.locs.length : Nat) : Int) = 0 + 0 * ((nz r.sids : Nat) : Int) ∧ (∀ l ∈ r.locs, (0 ≤ l.d ∧ l.d ≤ 23) ∧ (0 ≤ l.s ∧ l.s ≤ 63) ∧ 1 ≤ l.i ∧ l.i ≤ 2147483647) ∧ (0 ≤ r.t.hot ∧ r.t.hot ≤ 0) ∧ (0 ≤ r.t.warm ∧ r.t.warm ≤ 0) ∧ (0 ≤ r.t.gap ∧ r.t.gap ≤ 0) ∧ (0 ≤ r.t.add ∧ r.t.add ≤ 0) ∧ (0 ≤ r.t.top ∧ r.t.top ≤ 0) ∧ (0 ≤ r.t.half ∧ r.t.half ≤ 0) := by
 have e : kn r = 2 := by simp [kn, hk]
 constructor
 ·intro F
  obtain ⟨_, _, _, h1, h2, h3, h4, h5, h6, h7, h8, h9, h10⟩ := F
  rw [e] at h1 h3 h4 h5 h6 h7 h8 h10
  exact ⟨h1, h2, h3, h4, h5, h6, h7, h8, h9, h10 _ (by simp [Tb.l]), h10 _ (by simp [Tb.l]), h10 _ (by simp [Tb.l]), h10 _ (by simp [Tb.l]), h10 _ (by simp [Tb.l]), h10 _ (by simp [Tb.l])⟩
 ·rintro ⟨h1, h2, h3, h4, h5, h6, h7, h8, h9, t0, t1, t2, t3, t4, t5⟩
  refine ⟨by rw [e]; decide, by rw [e]; decide, by rw [e, hk]; rfl, ?_, h2, ?_, ?_, ?_, ?_, ?_, ?_, h9, ?_⟩ <;> rw [e]
  ·exact h1
  ·exact h3
  ·exact h4
  ·exact h5
  ·exact h6
  ·exact h7
  ·exact h8
  ·intro x hx
   have hx : x = r.t.hot ∨ x = r.t.warm ∨ x = r.t.gap ∨ x = r.t.add ∨ x = r.t.top ∨ x = r.t.half := by simpa [Tb.l] using hx
   rcases hx with rfl | rfl | rfl | rfl | rfl | rfl <;> assumption
theorem okF3 {r : Rc} (hk : r.kind = 3) : OkF r ↔ (1 ≤ ((r.key.size : Nat) : Int) ∧ ((r.key.size : Nat) : Int) ≤ 16) ∧ (∀ c ∈ nums r.key, 33 ≤ c ∧ c ≤ 126) ∧ (0 ≤ r.n ∧ r.n ≤ 0) ∧ (1 ≤ r.sid ∧ r.sid ≤ 2147483647) ∧ (0 ≤ r.colour ∧ r.colour ≤ 2) ∧ ((r.sids.length : Nat) : Int) = 0 ∧ (∀ x ∈ r.sids, 0 ≤ x ∧ x ≤ 0) ∧ ((r.locs.length : Nat) : Int) = 6 + 0 * ((nz r.sids : Nat) : Int) ∧ (∀ l ∈ r.locs, (0 ≤ l.d ∧ l.d ≤ 23) ∧ (0 ≤ l.s ∧ l.s ≤ 63) ∧ 1 ≤ l.i ∧ l.i ≤ 2147483647) ∧ (0 ≤ r.t.hot ∧ r.t.hot ≤ 0) ∧ (0 ≤ r.t.warm ∧ r.t.warm ≤ 0) ∧ (0 ≤ r.t.gap ∧ r.t.gap ≤ 0) ∧ (0 ≤ r.t.add ∧ r.t.add ≤ 0) ∧ (0 ≤ r.t.top ∧ r.t.top ≤ 0) ∧ (0 ≤ r.t.half ∧ r.t.half ≤ 0) := by
 have e : kn r = 3 := by simp [kn, hk]
 constructor
 ·intro F
  obtain ⟨_, _, _, h1, h2, h3, h4, h5, h6, h7, h8, h9, h10⟩ := F
  rw [e] at h1 h3 h4 h5 h6 h7 h8 h10
  exact ⟨h1, h2, h3, h4, h5, h6, h7, h8, h9, h10 _ (by simp [Tb.l]), h10 _ (by simp [Tb.l]), h10 _ (by simp [Tb.l]), h10 _ (by simp [Tb.l]), h10 _ (by simp [Tb.l]), h10 _ (by simp [Tb.l])⟩
 ·rintro ⟨h1, h2, h3, h4, h5, h6, h7, h8, h9, t0, t1, t2, t3, t4, t5⟩
  refine ⟨by rw [e]; decide, by rw [e]; decide, by rw [e, hk]; rfl, ?_, h2, ?_, ?_, ?_, ?_, ?_, ?_, h9, ?_⟩ <;> rw [e]
  ·exact h1
  ·exact h3
  ·exact h4
  ·exact h5
  ·exact h6
  ·exact h7
  ·exact h8
  ·intro x hx
   have hx : x = r.t.hot ∨ x = r.t.warm ∨ x = r.t.gap ∨ x = r.t.add ∨ x = r.t.top ∨ x = r.t.half := by simpa [Tb.l] using hx
   rcases hx with rfl | rfl | rfl | rfl | rfl | rfl <;> assumption
theorem okF4 {r : Rc} (hk : r.kind = 4) : OkF r ↔ (1 ≤ ((r.key.size : Nat) : Int) ∧ ((r.key.size : Nat) : Int) ≤ 16) ∧ (∀ c ∈ nums r.key, 33 ≤ c ∧ c ≤ 126) ∧ (0 ≤ r.n ∧ r.n ≤ 0) ∧ (1 ≤ r.sid ∧ r.sid ≤ 2147483647) ∧ (0 ≤ r.colour ∧ r.colour ≤ 0) ∧ ((r.sids.length : Nat) : Int) = 0 ∧ (∀ x ∈ r.sids, 0 ≤ x ∧ x ≤ 0) ∧ ((r.locs.length : Nat) : Int) = 3 + 0 * ((nz r.sids : Nat) : Int) ∧ (∀ l ∈ r.locs, (0 ≤ l.d ∧ l.d ≤ 23) ∧ (0 ≤ l.s ∧ l.s ≤ 63) ∧ 1 ≤ l.i ∧ l.i ≤ 2147483647) ∧ (0 ≤ r.t.hot ∧ r.t.hot ≤ 0) ∧ (0 ≤ r.t.warm ∧ r.t.warm ≤ 0) ∧ (0 ≤ r.t.gap ∧ r.t.gap ≤ 0) ∧ (0 ≤ r.t.add ∧ r.t.add ≤ 0) ∧ (0 ≤ r.t.top ∧ r.t.top ≤ 0) ∧ (0 ≤ r.t.half ∧ r.t.half ≤ 0) := by
 have e : kn r = 4 := by simp [kn, hk]
 constructor
 ·intro F
  obtain ⟨_, _, _, h1, h2, h3, h4, h5, h6, h7, h8, h9, h10⟩ := F
  rw [e] at h1 h3 h4 h5 h6 h7 h8 h10
  exact ⟨h1, h2, h3, h4, h5, h6, h7, h8, h9, h10 _ (by simp [Tb.l]), h10 _ (by simp [Tb.l]), h10 _ (by simp [Tb.l]), h10 _ (by simp [Tb.l]), h10 _ (by simp [Tb.l]), h10 _ (by simp [Tb.l])⟩
 ·rintro ⟨h1, h2, h3, h4, h5, h6, h7, h8, h9, t0, t1, t2, t3, t4, t5⟩
  refine ⟨by rw [e]; decide, by rw [e]; decide, by rw [e, hk]; rfl, ?_, h2, ?_, ?_, ?_, ?_, ?_, ?_, h9, ?_⟩ <;> rw [e]
  ·exact h1
  ·exact h3
  ·exact h4
  ·exact h5
  ·exact h6
  ·exact h7
  ·exact h8
  ·intro x hx
   have hx : x = r.t.hot ∨ x = r.t.warm ∨ x = r.t.gap ∨ x = r.t.add ∨ x = r.t.top ∨ x = r.t.half := by simpa [Tb.l] using hx
   rcases hx with rfl | rfl | rfl | rfl | rfl | rfl <;> assumption
theorem okF5 {r : Rc} (hk : r.kind = 5) : OkF r ↔ (0 ≤ ((r.key.size : Nat) : Int) ∧ ((r.key.size : Nat) : Int) ≤ 0) ∧ (∀ c ∈ nums r.key, 33 ≤ c ∧ c ≤ 126) ∧ (0 ≤ r.n ∧ r.n ≤ 0) ∧ (1 ≤ r.sid ∧ r.sid ≤ 2147483647) ∧ (0 ≤ r.colour ∧ r.colour ≤ 0) ∧ ((r.sids.length : Nat) : Int) = 3 ∧ (∀ x ∈ r.sids, 1 ≤ x ∧ x ≤ 2147483647) ∧ ((r.locs.length : Nat) : Int) = 4 + 0 * ((nz r.sids : Nat) : Int) ∧ (∀ l ∈ r.locs, (0 ≤ l.d ∧ l.d ≤ 23) ∧ (0 ≤ l.s ∧ l.s ≤ 63) ∧ 1 ≤ l.i ∧ l.i ≤ 2147483647) ∧ (0 ≤ r.t.hot ∧ r.t.hot ≤ 0) ∧ (0 ≤ r.t.warm ∧ r.t.warm ≤ 0) ∧ (0 ≤ r.t.gap ∧ r.t.gap ≤ 0) ∧ (0 ≤ r.t.add ∧ r.t.add ≤ 0) ∧ (0 ≤ r.t.top ∧ r.t.top ≤ 0) ∧ (0 ≤ r.t.half ∧ r.t.half ≤ 0) := by
 have e : kn r = 5 := by simp [kn, hk]
 constructor
 ·intro F
  obtain ⟨_, _, _, h1, h2, h3, h4, h5, h6, h7, h8, h9, h10⟩ := F
  rw [e] at h1 h3 h4 h5 h6 h7 h8 h10
  exact ⟨h1, h2, h3, h4, h5, h6, h7, h8, h9, h10 _ (by simp [Tb.l]), h10 _ (by simp [Tb.l]), h10 _ (by simp [Tb.l]), h10 _ (by simp [Tb.l]), h10 _ (by simp [Tb.l]), h10 _ (by simp [Tb.l])⟩
 ·rintro ⟨h1, h2, h3, h4, h5, h6, h7, h8, h9, t0, t1, t2, t3, t4, t5⟩
  refine ⟨by rw [e]; decide, by rw [e]; decide, by rw [e, hk]; rfl, ?_, h2, ?_, ?_, ?_, ?_, ?_, ?_, h9, ?_⟩ <;> rw [e]
  ·exact h1
  ·exact h3
  ·exact h4
  ·exact h5
  ·exact h6
  ·exact h7
  ·exact h8
  ·intro x hx
   have hx : x = r.t.hot ∨ x = r.t.warm ∨ x = r.t.gap ∨ x = r.t.add ∨ x = r.t.top ∨ x = r.t.half := by simpa [Tb.l] using hx
   rcases hx with rfl | rfl | rfl | rfl | rfl | rfl <;> assumption
theorem okF6 {r : Rc} (hk : r.kind = 6) : OkF r ↔ (0 ≤ ((r.key.size : Nat) : Int) ∧ ((r.key.size : Nat) : Int) ≤ 0) ∧ (∀ c ∈ nums r.key, 33 ≤ c ∧ c ≤ 126) ∧ (0 ≤ r.n ∧ r.n ≤ 0) ∧ (1 ≤ r.sid ∧ r.sid ≤ 2147483647) ∧ (0 ≤ r.colour ∧ r.colour ≤ 0) ∧ ((r.sids.length : Nat) : Int) = 3 ∧ (∀ x ∈ r.sids, 0 ≤ x ∧ x ≤ 2147483647) ∧ ((r.locs.length : Nat) : Int) = 0 + 2 * ((nz r.sids : Nat) : Int) ∧ (∀ l ∈ r.locs, (0 ≤ l.d ∧ l.d ≤ 23) ∧ (0 ≤ l.s ∧ l.s ≤ 63) ∧ 1 ≤ l.i ∧ l.i ≤ 2147483647) ∧ (0 ≤ r.t.hot ∧ r.t.hot ≤ 0) ∧ (0 ≤ r.t.warm ∧ r.t.warm ≤ 0) ∧ (0 ≤ r.t.gap ∧ r.t.gap ≤ 0) ∧ (0 ≤ r.t.add ∧ r.t.add ≤ 0) ∧ (0 ≤ r.t.top ∧ r.t.top ≤ 0) ∧ (0 ≤ r.t.half ∧ r.t.half ≤ 0) := by
 have e : kn r = 6 := by simp [kn, hk]
 constructor
 ·intro F
  obtain ⟨_, _, _, h1, h2, h3, h4, h5, h6, h7, h8, h9, h10⟩ := F
  rw [e] at h1 h3 h4 h5 h6 h7 h8 h10
  exact ⟨h1, h2, h3, h4, h5, h6, h7, h8, h9, h10 _ (by simp [Tb.l]), h10 _ (by simp [Tb.l]), h10 _ (by simp [Tb.l]), h10 _ (by simp [Tb.l]), h10 _ (by simp [Tb.l]), h10 _ (by simp [Tb.l])⟩
 ·rintro ⟨h1, h2, h3, h4, h5, h6, h7, h8, h9, t0, t1, t2, t3, t4, t5⟩
  refine ⟨by rw [e]; decide, by rw [e]; decide, by rw [e, hk]; rfl, ?_, h2, ?_, ?_, ?_, ?_, ?_, ?_, h9, ?_⟩ <;> rw [e]
  ·exact h1
  ·exact h3
  ·exact h4
  ·exact h5
  ·exact h6
  ·exact h7
  ·exact h8
  ·intro x hx
   have hx : x = r.t.hot ∨ x = r.t.warm ∨ x = r.t.gap ∨ x = r.t.add ∨ x = r.t.top ∨ x = r.t.half := by simpa [Tb.l] using hx
   rcases hx with rfl | rfl | rfl | rfl | rfl | rfl <;> assumption
theorem okF7 {r : Rc} (hk : r.kind = 7) : OkF r ↔ (0 ≤ ((r.key.size : Nat) : Int) ∧ ((r.key.size : Nat) : Int) ≤ 0) ∧ (∀ c ∈ nums r.key, 33 ≤ c ∧ c ≤ 126) ∧ (0 ≤ r.n ∧ r.n ≤ 15) ∧ (1 ≤ r.sid ∧ r.sid ≤ 2147483647) ∧ (0 ≤ r.colour ∧ r.colour ≤ 0) ∧ ((r.sids.length : Nat) : Int) = 0 ∧ (∀ x ∈ r.sids, 0 ≤ x ∧ x ≤ 0) ∧ ((r.locs.length : Nat) : Int) = 1 + 0 * ((nz r.sids : Nat) : Int) ∧ (∀ l ∈ r.locs, (0 ≤ l.d ∧ l.d ≤ 23) ∧ (0 ≤ l.s ∧ l.s ≤ 63) ∧ 1 ≤ l.i ∧ l.i ≤ 2147483647) ∧ (0 ≤ r.t.hot ∧ r.t.hot ≤ 0) ∧ (0 ≤ r.t.warm ∧ r.t.warm ≤ 0) ∧ (0 ≤ r.t.gap ∧ r.t.gap ≤ 0) ∧ (0 ≤ r.t.add ∧ r.t.add ≤ 0) ∧ (0 ≤ r.t.top ∧ r.t.top ≤ 0) ∧ (0 ≤ r.t.half ∧ r.t.half ≤ 0) := by
 have e : kn r = 7 := by simp [kn, hk]
 constructor
 ·intro F
  obtain ⟨_, _, _, h1, h2, h3, h4, h5, h6, h7, h8, h9, h10⟩ := F
  rw [e] at h1 h3 h4 h5 h6 h7 h8 h10
  exact ⟨h1, h2, h3, h4, h5, h6, h7, h8, h9, h10 _ (by simp [Tb.l]), h10 _ (by simp [Tb.l]), h10 _ (by simp [Tb.l]), h10 _ (by simp [Tb.l]), h10 _ (by simp [Tb.l]), h10 _ (by simp [Tb.l])⟩
 ·rintro ⟨h1, h2, h3, h4, h5, h6, h7, h8, h9, t0, t1, t2, t3, t4, t5⟩
  refine ⟨by rw [e]; decide, by rw [e]; decide, by rw [e, hk]; rfl, ?_, h2, ?_, ?_, ?_, ?_, ?_, ?_, h9, ?_⟩ <;> rw [e]
  ·exact h1
  ·exact h3
  ·exact h4
  ·exact h5
  ·exact h6
  ·exact h7
  ·exact h8
  ·intro x hx
   have hx : x = r.t.hot ∨ x = r.t.warm ∨ x = r.t.gap ∨ x = r.t.add ∨ x = r.t.top ∨ x = r.t.half := by simpa [Tb.l] using hx
   rcases hx with rfl | rfl | rfl | rfl | rfl | rfl <;> assumption
theorem okF8 {r : Rc} (hk : r.kind = 8) : OkF r ↔ (0 ≤ ((r.key.size : Nat) : Int) ∧ ((r.key.size : Nat) : Int) ≤ 0) ∧ (∀ c ∈ nums r.key, 33 ≤ c ∧ c ≤ 126) ∧ (0 ≤ r.n ∧ r.n ≤ 0) ∧ (0 ≤ r.sid ∧ r.sid ≤ 0) ∧ (0 ≤ r.colour ∧ r.colour ≤ 0) ∧ ((r.sids.length : Nat) : Int) = 0 ∧ (∀ x ∈ r.sids, 0 ≤ x ∧ x ≤ 0) ∧ ((r.locs.length : Nat) : Int) = 0 + 0 * ((nz r.sids : Nat) : Int) ∧ (∀ l ∈ r.locs, (0 ≤ l.d ∧ l.d ≤ 23) ∧ (0 ≤ l.s ∧ l.s ≤ 63) ∧ 1 ≤ l.i ∧ l.i ≤ 2147483647) ∧ (0 ≤ r.t.hot ∧ r.t.hot ≤ 1000000) ∧ (0 ≤ r.t.warm ∧ r.t.warm ≤ 1000000) ∧ (0 ≤ r.t.gap ∧ r.t.gap ≤ 1000000) ∧ (0 ≤ r.t.add ∧ r.t.add ≤ 1000000) ∧ (0 ≤ r.t.top ∧ r.t.top ≤ 1000000) ∧ (0 ≤ r.t.half ∧ r.t.half ≤ 1000000) := by
 have e : kn r = 8 := by simp [kn, hk]
 constructor
 ·intro F
  obtain ⟨_, _, _, h1, h2, h3, h4, h5, h6, h7, h8, h9, h10⟩ := F
  rw [e] at h1 h3 h4 h5 h6 h7 h8 h10
  exact ⟨h1, h2, h3, h4, h5, h6, h7, h8, h9, h10 _ (by simp [Tb.l]), h10 _ (by simp [Tb.l]), h10 _ (by simp [Tb.l]), h10 _ (by simp [Tb.l]), h10 _ (by simp [Tb.l]), h10 _ (by simp [Tb.l])⟩
 ·rintro ⟨h1, h2, h3, h4, h5, h6, h7, h8, h9, t0, t1, t2, t3, t4, t5⟩
  refine ⟨by rw [e]; decide, by rw [e]; decide, by rw [e, hk]; rfl, ?_, h2, ?_, ?_, ?_, ?_, ?_, ?_, h9, ?_⟩ <;> rw [e]
  ·exact h1
  ·exact h3
  ·exact h4
  ·exact h5
  ·exact h6
  ·exact h7
  ·exact h8
  ·intro x hx
   have hx : x = r.t.hot ∨ x = r.t.warm ∨ x = r.t.gap ∨ x = r.t.add ∨ x = r.t.top ∨ x = r.t.half := by simpa [Tb.l] using hx
   rcases hx with rfl | rfl | rfl | rfl | rfl | rfl <;> assumption
theorem kok_iff {s : ByteArray} : kok s = true ↔ (1 ≤ s.size ∧ s.size ≤ 16) ∧ ∀ c ∈ nums s, 33 ≤ c ∧ c ≤ 126 := by
 unfold kok
 simp only [Bool.and_eq_true, decide_eq_true_eq, List.all_eq_true]
 have hl : (nums s).length = s.size := nums_length s
 constructor
 ·rintro ⟨⟨h1, h2⟩, h3⟩
  rw [List.take_of_length_le (by omega)] at h1
  exact ⟨⟨h2, h3⟩, fun c hc => by have := h1 c hc; simpa [pch] using this⟩
 ·rintro ⟨⟨h2, h3⟩, h1⟩
  refine ⟨⟨fun c hc => ?_, h2⟩, h3⟩
  have := h1 c (List.mem_of_mem_take hc)
  simpa [pch] using this
theorem spn_no {lo hi x : Int} (h : spn lo hi x = false) : ¬ (lo ≤ x ∧ x ≤ hi) := fun a => by rw [spn_iff.2 a] at h; cases h
theorem key_nil {s : ByteArray} : s.toList = [] ↔ s.size = 0 := by
 have e0 : (⟨#[]⟩ : ByteArray).toList = [] := by
  unfold ByteArray.toList
  unfold ByteArray.toList.loop
  simp
  exact fun h => absurd h (Nat.not_lt_zero 0)
 constructor
 ·intro h
  have : s = ⟨#[]⟩ := bytes_inj (h.trans e0.symm)
  rw [this]
  rfl
 ·intro h
  have : s = ⟨#[]⟩ := ByteArray.ext (Array.eq_empty_of_size_eq_zero h)
  rw [this, e0]
theorem key_none {s : ByteArray} (h : s.size = 0) : ∀ c ∈ nums s, 33 ≤ c ∧ c ≤ 126 := fun c hc => by
 have : nums s = [] := List.eq_nil_of_length_eq_zero ((nums_length s).trans h)
 rw [this] at hc
 cases hc
theorem i6_cells {w : World} {q : Nat} {t : Tb} (h : w.heap[q]? = some (.cells #[.int .i64 t.hot, .int .i64 t.warm, .int .i64 t.gap, .int .i64 t.add, .int .i64 t.top, .int .i64 t.half] 79 (0, 0))) (i : Nat) (x : Int) (hx : t.l[i]? = some x) : w.cell? ⟨q, i, none⟩ = some (.int .i64 x) := by
 simp only [World.cell?, h]
 match i, hx with
 | 0, hx => cases hx; rfl
 | 1, hx => cases hx; rfl
 | 2, hx => cases hx; rfl
 | 3, hx => cases hx; rfl
 | 4, hx => cases hx; rfl
 | 5, hx => cases hx; rfl
theorem t_bounds {t : Tb} {x lo hi : Int} (h : x ∈ t.l) (b : (lo ≤ t.hot ∧ t.hot ≤ hi) ∧ (lo ≤ t.warm ∧ t.warm ≤ hi) ∧ (lo ≤ t.gap ∧ t.gap ≤ hi) ∧ (lo ≤ t.add ∧ t.add ≤ hi) ∧ (lo ≤ t.top ∧ t.top ≤ hi) ∧ (lo ≤ t.half ∧ t.half ≤ hi)) : lo ≤ x ∧ x ≤ hi := by
 have hx : x = t.hot ∨ x = t.warm ∨ x = t.gap ∨ x = t.add ∨ x = t.top ∨ x = t.half := by simpa [Tb.l] using h
 obtain ⟨b0, b1, b2, b3, b4, b5⟩ := b
 rcases hx with rfl | rfl | rfl | rfl | rfl | rfl <;> assumption
theorem t0_bounds {x : Int} (h : x ∈ tb0.l) : 0 ≤ x ∧ x ≤ 1000000 := t_bounds h ⟨by decide, by decide, by decide, by decide, by decide, by decide⟩
theorem b5_cells {w : World} {q : Nat} {a b c d e : Bool} (h : w.heap[q]? = some (.cells #[.bool a, .bool b, .bool c, .bool d, .bool e] 74 (0, 0))) : w.cell? ⟨q, 0, none⟩ = some (.bool a) ∧ w.cell? ⟨q, 1, none⟩ = some (.bool b) ∧ w.cell? ⟨q, 2, none⟩ = some (.bool c) ∧ w.cell? ⟨q, 3, none⟩ = some (.bool d) ∧ w.cell? ⟨q, 4, none⟩ = some (.bool e) := by
 simp only [World.cell?, h]
 exact ⟨rfl, rfl, rfl, rfl, rfl⟩
set_option maxHeartbeats 8000000 in
theorem rok1 (r : Rc) (sa la : Option Addr) (sc lc : Nat) (w : World) (hR : RH w r sa la) (hK : r.key.size ≤ 100000) (hk : r.kind = 1) :
  Calls Tryz.prog 12 #[rv r (.slice sa r.sids.length sc) (.slice la r.locs.length lc)] w fun e w' => e = .returned (.bool (okR r)) ∧ Up Nul w w' := by
 obtain ⟨R, HE0⟩ : ∃ R, R = okR r := ⟨_, rfl⟩
 rw [← HE0]
 have HE := hid HE0
 have HR := hid hR
 have HK1 := hid hk
 have HKS := hid hK
 have HI := hid (okF1 hk)
 clear hR hk hK HE0
 obtain ⟨W1, hW1⟩ : ∃ W, W = w.alloc (.cells (rcellsL r (.slice sa r.sids.length sc) (.slice la r.locs.length lc)) 28) := ⟨_, rfl⟩
 have U1 : Hid (Up Nul w W1) := by show Up _ _ _; rw [hW1]; exact (Up.refl Nul w).alloc _
 have B1 : Hid (RB W1 w.heap.size r (.slice sa r.sids.length sc) (.slice la r.locs.length lc)) := by show RB _ _ _ _ _; rw [hW1]; exact RB.new _ _ _ _
 go_enter Tryz.func12, Tryz.ntmps12
 go_upto_region 1 with fail
 rw [← hW1]
 clear hW1
 obtain ⟨p, hpe⟩ : ∃ p, p = w.heap.size := ⟨_, rfl⟩
 rw [← hpe] at B1 ⊢
 clear hpe
 have x0 := B1.out.cells.1
 have hk := HK1.out
 go_wp2_with fail
 refine (in_any _ _ _ _).mono ?_
 rintro e w2 ⟨rfl, rfl⟩
 rw [show spn 1 8 1 = true from by decide]
 go_wp2_with fail
 refine (names1 _).mono ?_
 rintro e w2 ⟨rfl, u2⟩
 go_upto_region 4 with fail
 obtain ⟨W4, hW4⟩ : ∃ W, W = w2.alloc (.cells #[.bool (nmB 1 0), .bool (nmB 1 1), .bool (nmB 1 2), .bool (nmB 1 3), .bool (nmB 1 4)] 74) := ⟨_, rfl⟩
 have u4 : Up Nul w2 W4 := by rw [hW4]; exact (Up.refl Nul w2).alloc _
 have hq : W4.heap[w2.heap.size]? = some (.cells #[.bool true, .bool true, .bool true, .bool false, .bool false] 74 (0, 0)) := by rw [hW4]; exact heap_alloc_new _ _
 have HQ : Hid (∀ W, Up Nul W4 W → W.heap[w2.heap.size]? = some (.cells #[.bool true, .bool true, .bool true, .bool false, .bool false] 74 (0, 0))) := fun W u => (u.block _ (Array.getElem?_eq_some_iff.1 hq).1 id).trans hq
 have B4 := hid (B1.out.nxt (u2.trans u4))
 have U4 := hid (U1.out.trans (u2.trans u4))
 rw [← hW4]
 clear hW4 hq u2 u4 B1 U1 x0
 generalize w2.heap.size = q at HQ ⊢
 obtain ⟨n0, n1, n2, n3, n4⟩ := b5_cells (HQ.out _ (Up.refl Nul W4))
 obtain ⟨x0, x1, x2, x3, x4, x5, x6, x7, x8, x9, x10, x11, x12⟩ := B4.out.cells
 go_wp2_with fail
 refine (keyok_any _ _ HKS.out).mono ?_
 rintro e w' ⟨rfl, rfl⟩
 cases hkb : kok r.key with
 | false =>
  have HKB := hid hkb
  go_wp2_with fail
  go_ret
  refine ⟨by rw [HE.out, okR_no (fun F => by obtain ⟨i1, i2, i3, i4, i5, i6, i7, i8, i9, i10, i11, i12, i13, i14, i15⟩ := HI.out.1 F; have := kok_iff.2 ⟨⟨by omega, by omega⟩, i2⟩; rw [HKB.out] at this; cases this)]; rfl, U4.out⟩
 | true =>
 have HKB := hid (kok_iff.1 hkb)
 clear hkb
 go_wp2_with fail
 all_goals first | (go_ret; refine ⟨by rw [HE.out, okR_no (fun F => by obtain ⟨i1, i2, i3, i4, i5, i6, i7, i8, i9, i10, i11, i12, i13, i14, i15⟩ := HI.out.1 F; first | omega | (have hz : r.key.size = 0 := (by omega); exact absurd (key_nil.2 hz) (by assumption)))]; rfl, U4.out⟩) | skip
 have HKB : Hid ((1 ≤ ((r.key.size : Nat) : Int) ∧ ((r.key.size : Nat) : Int) ≤ 16) ∧ ∀ c ∈ nums r.key, 33 ≤ c ∧ c ≤ 126) := ⟨⟨by have := HKB.out.1; omega, by have := HKB.out.1; omega⟩, HKB.out.2⟩
 refine (in_any _ _ _ _).mono ?_
 rintro e w' ⟨rfl, rfl⟩
 cases hb : spn 0 64 r.n with
 | false =>
  have HB := hid (spn_no hb)
  go_wp2_with fail
  go_ret
  refine ⟨by rw [HE.out, okR_no (fun F => by obtain ⟨i1, i2, i3, i4, i5, i6, i7, i8, i9, i10, i11, i12, i13, i14, i15⟩ := HI.out.1 F; have := HB.out; omega)]; rfl, U4.out⟩
 | true =>
 have hc0 := spn_iff.1 hb
 clear hb
 go_wp2_with fail
 refine (in_any _ _ _ _).mono ?_
 rintro e w' ⟨rfl, rfl⟩
 cases hb : spn 1 2147483647 r.sid with
 | false =>
  have HB := hid (spn_no hb)
  go_wp2_with fail
  go_ret
  refine ⟨by rw [HE.out, okR_no (fun F => by obtain ⟨i1, i2, i3, i4, i5, i6, i7, i8, i9, i10, i11, i12, i13, i14, i15⟩ := HI.out.1 F; have := HB.out; omega)]; rfl, U4.out⟩
 | true =>
 have hc1 := spn_iff.1 hb
 clear hb
 go_wp2_with fail
 refine (in_any _ _ _ _).mono ?_
 rintro e w' ⟨rfl, rfl⟩
 rw [show spn 0 2 0 = true from by decide]
 go_wp2_with fail
 have HB : Hid ((0 ≤ r.n ∧ r.n ≤ 64) ∧ (1 ≤ r.sid ∧ r.sid ≤ 2147483647) ∧ (0 ≤ r.colour ∧ r.colour ≤ 0)) := ⟨⟨by omega, by omega⟩, ⟨by omega, by omega⟩, ⟨by omega, by omega⟩⟩
 have HT : Hid (r.t.hot = 0 ∧ r.t.warm = 0 ∧ r.t.gap = 0 ∧ r.t.add = 0 ∧ r.t.top = 0 ∧ r.t.half = 0) := ⟨by omega, by omega, by omega, by omega, by omega, by omega⟩
 clear hc0
 clear hc1
 refine (sids1 _).mono ?_
 rintro e w' ⟨rfl, rfl⟩
 rw [show sdN 1 = 0 from rfl, show lcN 1 = 3 from rfl]
 cases hb : (((r.sids.length : Nat) : Int) != 0) with
 | true =>
  have HNS : Hid (¬ ((r.sids.length : Nat) : Int) = 0) := by simpa [Hid] using hb
  go_wp2_with fail
  go_ret
  refine ⟨by rw [HE.out, okR_no (fun F => by obtain ⟨i1, i2, i3, i4, i5, i6, i7, i8, i9, i10, i11, i12, i13, i14, i15⟩ := HI.out.1 F; exact HNS.out i6)]; rfl, U4.out⟩
 | false =>
 have HNS : Hid (((r.sids.length : Nat) : Int) = 0) := by simpa [Hid] using hb
 go_wp2_with fail
 clear hb
 obtain ⟨ns, hns⟩ : ∃ ns, r.sids.length = ns := ⟨_, rfl⟩
 have HNN := hid hns
 rw [hns] at x4
 have hn3 : (ns : Int) ≤ 3 := by have := HNS.out; rw [hns] at this; omega
 clear hns
 go_loopw [5, 7] (fun l i wr => ∃ t : Nat, i = .int .i64 (t : Nat) ∧ t ≤ ns ∧ l = .int .i64 3 ∧ (∀ x ∈ r.sids.take t, 1 ≤ x ∧ x ≤ 2147483647) ∧ wr = w') (fun _ i _ => ns - (intOf i).toNat)
 case atStart => exact ⟨0, rfl, Nat.zero_le _, rfl, fun x hx => by simp at hx, by trivial⟩
 case round =>
  obtain ⟨t, rfl, ht, rfl, hp, rfl⟩ := hrel
  have HP := hid hp
  clear hp
  have i0 : (0 : Int) ≤ (t : Int) := by omega
  by_cases hd : t < ns
  ·have j1 : (t : Int) < (ns : Int) := by omega
   obtain ⟨x, hx⟩ : ∃ x, r.sids[t]? = some x := ⟨_, List.getElem?_eq_getElem (by rw [HNN.out]; exact hd)⟩
   rcases HR.out.s.nxt U4.out with e0 | ⟨g, o, rfl, hg, hrow⟩
   ·rw [e0] at hx; simp at hx
   have hcx := hrow t x hx
   have HX := hid hx
   have HL := hid hd
   clear hx hrow hg hd ht
   go_wp2_with fail
   refine (in_any _ _ _ _).mono ?_
   rintro e w'' ⟨rfl, rfl⟩
   cases hb : spn 1 2147483647 x with
   | false =>
    have HB2 := hid (spn_no hb)
    go_wp2_with fail
    go_ret
    refine ⟨by rw [HE.out, okR_no (fun F => by obtain ⟨i1, i2, i3, i4, i5, i6, i7, i8, i9, i10, i11, i12, i13, i14, i15⟩ := HI.out.1 F; have := i7 x (List.mem_of_getElem? HX.out); have := HB2.out; have h0 : r.sids = [] := List.eq_nil_of_length_eq_zero (by omega); rw [h0] at HX; exact absurd HX.out (by simp))]; rfl, U4.out⟩
   | true =>
    have HB2 := hid (spn_iff.1 hb)
    clear hb
    have HP2 : Hid (∀ y ∈ r.sids.take (t + 1), 1 ≤ y ∧ y ≤ 2147483647) := fun y hy => by
     rw [List.take_add_one, HX.out, List.mem_append] at hy
     rcases hy with hy | hy
     ·exact HP.out y hy
     ·have : y = x := by simpa using hy
      rw [this]; exact HB2.out
    go_wp2_with fail
    go_roundw
    case rel => exact ⟨t + 1, by go_num, HL.out, rfl, HP2.out, by trivial⟩
    case measure => have := HL.out; simp [intOf]; omega
  ·obtain rfl : t = ns := by omega
   have HP3 : Hid (∀ y ∈ r.sids, 1 ≤ y ∧ y ≤ 2147483647) := fun y hy => HP.out y (by rw [List.take_of_length_le (by rw [HNN.out]; omega)]; exact hy)
   skip
   have j1 : ¬ (t : Int) < (t : Int) := by omega
   clear hd
   cases hb : (((r.locs.length : Nat) : Int) != 3) with
   | true =>
    have HNL : Hid (¬ ((r.locs.length : Nat) : Int) = 3) := by simpa [Hid] using hb
    go_wp2_with fail
    go_ret
    refine ⟨by rw [HE.out, okR_no (fun F => by obtain ⟨i1, i2, i3, i4, i5, i6, i7, i8, i9, i10, i11, i12, i13, i14, i15⟩ := HI.out.1 F; exact HNL.out (by rw [i8]; omega))]; rfl, U4.out⟩
   | false =>
   have HNL : Hid (((r.locs.length : Nat) : Int) = 3) := by simpa [Hid] using hb
   go_wp2_with fail
   clear hb
   obtain ⟨nl, hnl⟩ : ∃ nl, r.locs.length = nl := ⟨_, rfl⟩
   have HNM := hid hnl
   have hl12 : (nl : Int) ≤ 12 := by have := HNL.out; rw [hnl] at this; omega
   clear hnl x0 x1 x2 x3 x4 x5 x6 x7 x8 x9 x10 x11 x12 n0 n1 n2 n3 n4
   go_loopw [8] (fun i wr => ∃ t : Nat, i = .int .i64 (t : Nat) ∧ t ≤ nl ∧ Hid (∀ l ∈ r.locs.take t, (0 ≤ l.d ∧ l.d ≤ 23) ∧ (0 ≤ l.s ∧ l.s ≤ 63) ∧ 1 ≤ l.i ∧ l.i ≤ 2147483647) ∧ RB wr p r (.slice sa r.sids.length sc) (.slice la r.locs.length lc) ∧ Up Nul w wr) (fun i _ => nl - (intOf i).toNat)
   case atStart => exact ⟨0, rfl, Nat.zero_le _, hid fun x hx => by simp at hx, B4.out, U4.out⟩
   case round =>
    obtain ⟨t2, rfl, ht2, HPL, hb2, hu2⟩ := hrel
    have B5 := hid hb2
    have U5 := hid hu2
    clear hb2 hu2
    have x6 := B5.out.cells.2.2.2.2.2.2.1
    rw [HNM.out] at x6
    have i2 : (0 : Int) ≤ (t2 : Int) := by omega
    have i3 : (t2 : Int) ≤ 12 := by omega
    by_cases hd2 : t2 < nl
    ·have j2 : (t2 : Int) < (nl : Int) := by omega
     obtain ⟨l, hl⟩ : ∃ l, r.locs[t2]? = some l := ⟨_, List.getElem?_eq_getElem (by rw [HNM.out]; exact hd2)⟩
     rcases HR.out.l.nxt U5.out with e0 | ⟨g, o, rfl, hg, hrow⟩
     ·rw [e0] at hl; simp at hl
     have y0 := hrow t2 l hl 0 (.int .i64 l.d) rfl
     have y1 := hrow t2 l hl 1 (.int .i64 l.s) rfl
     have y2 := hrow t2 l hl 2 (.int .i64 l.i) rfl
     simp only [Nat.add_zero] at y0
     have HX2 := hid hl
     have HL2 := hid hd2
     clear hl hrow hd2 ht2
     go_wp2_with fail
     refine (in_any _ _ _ _).mono ?_
     rintro e w6 ⟨rfl, rfl⟩
     cases hb : spn 0 23 l.d with
     | false =>
      have HB2 := hid (spn_no hb)
      go_wp2_with fail
      go_ret
      refine ⟨by rw [HE.out, okR_no (fun F => by obtain ⟨i1, i2, i3, i4, i5, i6, i7, i8, i9, i10, i11, i12, i13, i14, i15⟩ := HI.out.1 F; exact HB2.out (i9 l (List.mem_of_getElem? HX2.out)).1)]; rfl, U5.out.alloc _⟩
     | true =>
     have HB2 := hid (spn_iff.1 hb)
     clear hb
     go_wp2_with fail
     refine (in_any _ _ _ _).mono ?_
     rintro e w6 ⟨rfl, rfl⟩
     cases hb : spn 0 63 l.s with
     | false =>
      have HB3 := hid (spn_no hb)
      go_wp2_with fail
      go_ret
      refine ⟨by rw [HE.out, okR_no (fun F => by obtain ⟨i1, i2, i3, i4, i5, i6, i7, i8, i9, i10, i11, i12, i13, i14, i15⟩ := HI.out.1 F; exact HB3.out (i9 l (List.mem_of_getElem? HX2.out)).2.1)]; rfl, U5.out.alloc _⟩
     | true =>
     have HB3 := hid (spn_iff.1 hb)
     clear hb
     go_wp2_with fail
     refine (in_any _ _ _ _).mono ?_
     rintro e w6 ⟨rfl, rfl⟩
     cases hb : spn 1 2147483647 l.i with
     | false =>
      have HB4 := hid (spn_no hb)
      go_wp2_with fail
      go_ret
      refine ⟨by rw [HE.out, okR_no (fun F => by obtain ⟨i1, i2, i3, i4, i5, i6, i7, i8, i9, i10, i11, i12, i13, i14, i15⟩ := HI.out.1 F; exact HB4.out (i9 l (List.mem_of_getElem? HX2.out)).2.2)]; rfl, U5.out.alloc _⟩
     | true =>
     have HB4 := hid (spn_iff.1 hb)
     clear hb
     have HP2 : Hid (∀ y ∈ r.locs.take (t2 + 1), (0 ≤ y.d ∧ y.d ≤ 23) ∧ (0 ≤ y.s ∧ y.s ≤ 63) ∧ 1 ≤ y.i ∧ y.i ≤ 2147483647) := fun y hy => by
      rw [List.take_add_one, HX2.out, List.mem_append] at hy
      rcases hy with hy | hy
      ·exact HPL.out y hy
      ·have : y = l := by simpa using hy
       rw [this]; exact ⟨HB2.out, HB3.out, HB4.out⟩
     go_wp2_with fail
     go_roundw
     case rel => exact ⟨t2 + 1, by go_num, HL2.out, HP2, B5.out.nxt ((Up.refl Nul _).alloc _), U5.out.alloc _⟩
     case measure => have := HL2.out; simp [intOf]; omega
    ·obtain rfl : t2 = nl := by omega
     have HPL3 : Hid (∀ y ∈ r.locs, (0 ≤ y.d ∧ y.d ≤ 23) ∧ (0 ≤ y.s ∧ y.s ≤ 63) ∧ 1 ≤ y.i ∧ y.i ≤ 2147483647) := fun y hy => HPL.out y (by rw [List.take_of_length_le (by rw [HNM.out]; omega)]; exact hy)
     have j2 : ¬ (t2 : Int) < (t2 : Int) := by omega
     clear hd2 ht2
     obtain ⟨_, _, _, _, _, _, _, x7, x8, x9, x10, x11, x12⟩ := B5.out.cells
     go_wp2_with fail
     refine (tables_any tb0 _).mono ?_
     rintro e w7 ⟨rfl, u7⟩
     go_upto_region 30 with fail
     obtain ⟨W8, hW8⟩ : ∃ W, W = w7.alloc (.cells #[.int .i64 tb0.hot, .int .i64 tb0.warm, .int .i64 tb0.gap, .int .i64 tb0.add, .int .i64 tb0.top, .int .i64 tb0.half] 79) := ⟨_, rfl⟩
     have HC8 : Hid (∀ (i : Nat) (x : Int), tb0.l[i]? = some x → W8.cell? ⟨w7.heap.size, i, none⟩ = some (.int .i64 x)) := by rw [hW8]; exact i6_cells (heap_alloc_new _ _)
     have U8 : Hid (Up Nul w W8) := by show Up _ _ _; rw [hW8]; exact (U5.out.trans u7).alloc _
     first | rw [← hW8] | (have hW9 := hW8; simp only [tb0] at hW9; rw [← hW9]; clear hW9)
     clear hW8 u7 x6 x7 x8 x9 x10 x11 x12
     generalize w7.heap.size = q6 at HC8 ⊢
     go_wp2_with fail
     go_loopw [11] (fun i wr => ∃ t : Nat, i = .int .i64 (t : Nat) ∧ t ≤ 6 ∧ Hid (∀ x ∈ tb0.l.take t, 0 ≤ x ∧ x ≤ 1000000) ∧ wr = W8) (fun i _ => 6 - (intOf i).toNat)
     case atStart => exact ⟨0, rfl, by omega, hid fun x hx => by simp at hx, by trivial⟩
     case round =>
      obtain ⟨t3, rfl, ht3, HPT, rfl⟩ := hrel
      have i4 : (0 : Int) ≤ (t3 : Int) := by omega
      by_cases hd3 : t3 < 6
      ·have j3 : (t3 : Int) < 6 := by omega
       obtain ⟨x, hx⟩ : ∃ x, tb0.l[t3]? = some x := ⟨_, List.getElem?_eq_getElem (by simpa [Tb.l] using hd3)⟩
       have hcx := HC8.out t3 x hx
       have HX3 := hid hx
       have HL3 := hid hd3
       clear hx hd3 ht3
       go_wp2_with fail
       refine (in_any _ _ _ _).mono ?_
       rintro e w9 ⟨rfl, rfl⟩
       cases hb : spn 0 1000000 x with
       | false =>
        have HB5 := hid (spn_no hb)
        go_wp2_with fail
        go_ret
        refine ⟨by rw [HE.out, okR_no (fun F => by obtain ⟨i1, i2, i3, i4, i5, i6, i7, i8, i9, i10, i11, i12, i13, i14, i15⟩ := HI.out.1 F; have hm := List.mem_of_getElem? HX3.out; exact HB5.out (t0_bounds hm))]; rfl, U8.out⟩
       | true =>
       have HB5 := hid (spn_iff.1 hb)
       clear hb
       have HP5 : Hid (∀ y ∈ tb0.l.take (t3 + 1), 0 ≤ y ∧ y ≤ 1000000) := fun y hy => by
        rw [List.take_add_one, HX3.out, List.mem_append] at hy
        rcases hy with hy | hy
        ·exact HPT.out y hy
        ·have : y = x := by simpa using hy
         rw [this]; exact HB5.out
       go_wp2_with fail
       go_roundw
       case rel => exact ⟨t3 + 1, by go_num, HL3.out, HP5, by trivial⟩
       case measure => have := HL3.out; simp [intOf]; omega
      ·obtain rfl : t3 = 6 := by omega
       have HPT6 : Hid (∀ x ∈ tb0.l, 0 ≤ x ∧ x ≤ 1000000) := fun x hx => HPT.out x (by rw [List.take_of_length_le (by simp [Tb.l])]; exact hx)
       clear hd3 ht3
       go_wp2_with fail
       go_ret
       refine ⟨by rw [HE.out, okR_iff.2 (HI.out.2 ⟨HKB.out.1, HKB.out.2, HB.out.1, HB.out.2.1, HB.out.2.2, HNS.out, (fun x hx => by have h0 : r.sids = [] := List.eq_nil_of_length_eq_zero (by have := HNS.out; omega); rw [h0] at hx; cases hx), by have := HNL.out; omega, HPL3.out, by have := HT.out; omega, by have := HT.out; omega, by have := HT.out; omega, by have := HT.out; omega, by have := HT.out; omega, by have := HT.out; omega⟩)]; rfl, U8.out⟩
set_option maxHeartbeats 8000000 in
theorem rok2 (r : Rc) (sa la : Option Addr) (sc lc : Nat) (w : World) (hR : RH w r sa la) (hK : r.key.size ≤ 100000) (hk : r.kind = 2) :
  Calls Tryz.prog 12 #[rv r (.slice sa r.sids.length sc) (.slice la r.locs.length lc)] w fun e w' => e = .returned (.bool (okR r)) ∧ Up Nul w w' := by
 obtain ⟨R, HE0⟩ : ∃ R, R = okR r := ⟨_, rfl⟩
 rw [← HE0]
 have HE := hid HE0
 have HR := hid hR
 have HK1 := hid hk
 have HKS := hid hK
 have HI := hid (okF2 hk)
 clear hR hk hK HE0
 obtain ⟨W1, hW1⟩ : ∃ W, W = w.alloc (.cells (rcellsL r (.slice sa r.sids.length sc) (.slice la r.locs.length lc)) 28) := ⟨_, rfl⟩
 have U1 : Hid (Up Nul w W1) := by show Up _ _ _; rw [hW1]; exact (Up.refl Nul w).alloc _
 have B1 : Hid (RB W1 w.heap.size r (.slice sa r.sids.length sc) (.slice la r.locs.length lc)) := by show RB _ _ _ _ _; rw [hW1]; exact RB.new _ _ _ _
 go_enter Tryz.func12, Tryz.ntmps12
 go_upto_region 1 with fail
 rw [← hW1]
 clear hW1
 obtain ⟨p, hpe⟩ : ∃ p, p = w.heap.size := ⟨_, rfl⟩
 rw [← hpe] at B1 ⊢
 clear hpe
 have x0 := B1.out.cells.1
 have hk := HK1.out
 go_wp2_with fail
 refine (in_any _ _ _ _).mono ?_
 rintro e w2 ⟨rfl, rfl⟩
 rw [show spn 1 8 2 = true from by decide]
 go_wp2_with fail
 refine (names2 _).mono ?_
 rintro e w2 ⟨rfl, u2⟩
 go_upto_region 4 with fail
 obtain ⟨W4, hW4⟩ : ∃ W, W = w2.alloc (.cells #[.bool (nmB 2 0), .bool (nmB 2 1), .bool (nmB 2 2), .bool (nmB 2 3), .bool (nmB 2 4)] 74) := ⟨_, rfl⟩
 have u4 : Up Nul w2 W4 := by rw [hW4]; exact (Up.refl Nul w2).alloc _
 have hq : W4.heap[w2.heap.size]? = some (.cells #[.bool true, .bool false, .bool false, .bool false, .bool false] 74 (0, 0)) := by rw [hW4]; exact heap_alloc_new _ _
 have HQ : Hid (∀ W, Up Nul W4 W → W.heap[w2.heap.size]? = some (.cells #[.bool true, .bool false, .bool false, .bool false, .bool false] 74 (0, 0))) := fun W u => (u.block _ (Array.getElem?_eq_some_iff.1 hq).1 id).trans hq
 have B4 := hid (B1.out.nxt (u2.trans u4))
 have U4 := hid (U1.out.trans (u2.trans u4))
 rw [← hW4]
 clear hW4 hq u2 u4 B1 U1 x0
 generalize w2.heap.size = q at HQ ⊢
 obtain ⟨n0, n1, n2, n3, n4⟩ := b5_cells (HQ.out _ (Up.refl Nul W4))
 obtain ⟨x0, x1, x2, x3, x4, x5, x6, x7, x8, x9, x10, x11, x12⟩ := B4.out.cells
 go_wp2_with fail
 refine (keyok_any _ _ HKS.out).mono ?_
 rintro e w' ⟨rfl, rfl⟩
 cases hkb : kok r.key with
 | false =>
  have HKB := hid hkb
  go_wp2_with fail
  go_ret
  refine ⟨by rw [HE.out, okR_no (fun F => by obtain ⟨i1, i2, i3, i4, i5, i6, i7, i8, i9, i10, i11, i12, i13, i14, i15⟩ := HI.out.1 F; have := kok_iff.2 ⟨⟨by omega, by omega⟩, i2⟩; rw [HKB.out] at this; cases this)]; rfl, U4.out⟩
 | true =>
 have HKB := hid (kok_iff.1 hkb)
 clear hkb
 go_wp2_with fail
 all_goals first | (go_ret; refine ⟨by rw [HE.out, okR_no (fun F => by obtain ⟨i1, i2, i3, i4, i5, i6, i7, i8, i9, i10, i11, i12, i13, i14, i15⟩ := HI.out.1 F; first | omega | (have hz : r.key.size = 0 := (by omega); exact absurd (key_nil.2 hz) (by assumption)))]; rfl, U4.out⟩) | skip
 have HKB : Hid ((1 ≤ ((r.key.size : Nat) : Int) ∧ ((r.key.size : Nat) : Int) ≤ 16) ∧ ∀ c ∈ nums r.key, 33 ≤ c ∧ c ≤ 126) := ⟨⟨by have := HKB.out.1; omega, by have := HKB.out.1; omega⟩, HKB.out.2⟩
 refine (in_any _ _ _ _).mono ?_
 rintro e w' ⟨rfl, rfl⟩
 rw [show spn 0 2 0 = true from by decide]
 go_wp2_with fail
 have HB : Hid ((0 ≤ r.n ∧ r.n ≤ 0) ∧ (0 ≤ r.sid ∧ r.sid ≤ 0) ∧ (0 ≤ r.colour ∧ r.colour ≤ 0)) := ⟨⟨by omega, by omega⟩, ⟨by omega, by omega⟩, ⟨by omega, by omega⟩⟩
 have HT : Hid (r.t.hot = 0 ∧ r.t.warm = 0 ∧ r.t.gap = 0 ∧ r.t.add = 0 ∧ r.t.top = 0 ∧ r.t.half = 0) := ⟨by omega, by omega, by omega, by omega, by omega, by omega⟩
 refine (sids2 _).mono ?_
 rintro e w' ⟨rfl, rfl⟩
 rw [show sdN 2 = 0 from rfl, show lcN 2 = 0 from rfl]
 cases hb : (((r.sids.length : Nat) : Int) != 0) with
 | true =>
  have HNS : Hid (¬ ((r.sids.length : Nat) : Int) = 0) := by simpa [Hid] using hb
  go_wp2_with fail
  go_ret
  refine ⟨by rw [HE.out, okR_no (fun F => by obtain ⟨i1, i2, i3, i4, i5, i6, i7, i8, i9, i10, i11, i12, i13, i14, i15⟩ := HI.out.1 F; exact HNS.out i6)]; rfl, U4.out⟩
 | false =>
 have HNS : Hid (((r.sids.length : Nat) : Int) = 0) := by simpa [Hid] using hb
 go_wp2_with fail
 clear hb
 obtain ⟨ns, hns⟩ : ∃ ns, r.sids.length = ns := ⟨_, rfl⟩
 have HNN := hid hns
 rw [hns] at x4
 have hn3 : (ns : Int) ≤ 3 := by have := HNS.out; rw [hns] at this; omega
 clear hns
 go_loopw [5, 7] (fun l i wr => ∃ t : Nat, i = .int .i64 (t : Nat) ∧ t ≤ ns ∧ l = .int .i64 0 ∧ (∀ x ∈ r.sids.take t, 1 ≤ x ∧ x ≤ 2147483647) ∧ wr = w') (fun _ i _ => ns - (intOf i).toNat)
 case atStart => exact ⟨0, rfl, Nat.zero_le _, rfl, fun x hx => by simp at hx, by trivial⟩
 case round =>
  obtain ⟨t, rfl, ht, rfl, hp, rfl⟩ := hrel
  have HP := hid hp
  clear hp
  have i0 : (0 : Int) ≤ (t : Int) := by omega
  by_cases hd : t < ns
  ·have j1 : (t : Int) < (ns : Int) := by omega
   obtain ⟨x, hx⟩ : ∃ x, r.sids[t]? = some x := ⟨_, List.getElem?_eq_getElem (by rw [HNN.out]; exact hd)⟩
   rcases HR.out.s.nxt U4.out with e0 | ⟨g, o, rfl, hg, hrow⟩
   ·rw [e0] at hx; simp at hx
   have hcx := hrow t x hx
   have HX := hid hx
   have HL := hid hd
   clear hx hrow hg hd ht
   go_wp2_with fail
   refine (in_any _ _ _ _).mono ?_
   rintro e w'' ⟨rfl, rfl⟩
   cases hb : spn 1 2147483647 x with
   | false =>
    have HB2 := hid (spn_no hb)
    go_wp2_with fail
    go_ret
    refine ⟨by rw [HE.out, okR_no (fun F => by obtain ⟨i1, i2, i3, i4, i5, i6, i7, i8, i9, i10, i11, i12, i13, i14, i15⟩ := HI.out.1 F; have := i7 x (List.mem_of_getElem? HX.out); have := HB2.out; have h0 : r.sids = [] := List.eq_nil_of_length_eq_zero (by omega); rw [h0] at HX; exact absurd HX.out (by simp))]; rfl, U4.out⟩
   | true =>
    have HB2 := hid (spn_iff.1 hb)
    clear hb
    have HP2 : Hid (∀ y ∈ r.sids.take (t + 1), 1 ≤ y ∧ y ≤ 2147483647) := fun y hy => by
     rw [List.take_add_one, HX.out, List.mem_append] at hy
     rcases hy with hy | hy
     ·exact HP.out y hy
     ·have : y = x := by simpa using hy
      rw [this]; exact HB2.out
    go_wp2_with fail
    go_roundw
    case rel => exact ⟨t + 1, by go_num, HL.out, rfl, HP2.out, by trivial⟩
    case measure => have := HL.out; simp [intOf]; omega
  ·obtain rfl : t = ns := by omega
   have HP3 : Hid (∀ y ∈ r.sids, 1 ≤ y ∧ y ≤ 2147483647) := fun y hy => HP.out y (by rw [List.take_of_length_le (by rw [HNN.out]; omega)]; exact hy)
   skip
   have j1 : ¬ (t : Int) < (t : Int) := by omega
   clear hd
   cases hb : (((r.locs.length : Nat) : Int) != 0) with
   | true =>
    have HNL : Hid (¬ ((r.locs.length : Nat) : Int) = 0) := by simpa [Hid] using hb
    go_wp2_with fail
    go_ret
    refine ⟨by rw [HE.out, okR_no (fun F => by obtain ⟨i1, i2, i3, i4, i5, i6, i7, i8, i9, i10, i11, i12, i13, i14, i15⟩ := HI.out.1 F; exact HNL.out (by rw [i8]; omega))]; rfl, U4.out⟩
   | false =>
   have HNL : Hid (((r.locs.length : Nat) : Int) = 0) := by simpa [Hid] using hb
   go_wp2_with fail
   clear hb
   obtain ⟨nl, hnl⟩ : ∃ nl, r.locs.length = nl := ⟨_, rfl⟩
   have HNM := hid hnl
   have hl12 : (nl : Int) ≤ 12 := by have := HNL.out; rw [hnl] at this; omega
   clear hnl x0 x1 x2 x3 x4 x5 x6 x7 x8 x9 x10 x11 x12 n0 n1 n2 n3 n4
   go_loopw [8] (fun i wr => ∃ t : Nat, i = .int .i64 (t : Nat) ∧ t ≤ nl ∧ Hid (∀ l ∈ r.locs.take t, (0 ≤ l.d ∧ l.d ≤ 23) ∧ (0 ≤ l.s ∧ l.s ≤ 63) ∧ 1 ≤ l.i ∧ l.i ≤ 2147483647) ∧ RB wr p r (.slice sa r.sids.length sc) (.slice la r.locs.length lc) ∧ Up Nul w wr) (fun i _ => nl - (intOf i).toNat)
   case atStart => exact ⟨0, rfl, Nat.zero_le _, hid fun x hx => by simp at hx, B4.out, U4.out⟩
   case round =>
    obtain ⟨t2, rfl, ht2, HPL, hb2, hu2⟩ := hrel
    have B5 := hid hb2
    have U5 := hid hu2
    clear hb2 hu2
    have x6 := B5.out.cells.2.2.2.2.2.2.1
    rw [HNM.out] at x6
    have i2 : (0 : Int) ≤ (t2 : Int) := by omega
    have i3 : (t2 : Int) ≤ 12 := by omega
    by_cases hd2 : t2 < nl
    ·have j2 : (t2 : Int) < (nl : Int) := by omega
     obtain ⟨l, hl⟩ : ∃ l, r.locs[t2]? = some l := ⟨_, List.getElem?_eq_getElem (by rw [HNM.out]; exact hd2)⟩
     rcases HR.out.l.nxt U5.out with e0 | ⟨g, o, rfl, hg, hrow⟩
     ·rw [e0] at hl; simp at hl
     have y0 := hrow t2 l hl 0 (.int .i64 l.d) rfl
     have y1 := hrow t2 l hl 1 (.int .i64 l.s) rfl
     have y2 := hrow t2 l hl 2 (.int .i64 l.i) rfl
     simp only [Nat.add_zero] at y0
     have HX2 := hid hl
     have HL2 := hid hd2
     clear hl hrow hd2 ht2
     go_wp2_with fail
     refine (in_any _ _ _ _).mono ?_
     rintro e w6 ⟨rfl, rfl⟩
     cases hb : spn 0 23 l.d with
     | false =>
      have HB2 := hid (spn_no hb)
      go_wp2_with fail
      go_ret
      refine ⟨by rw [HE.out, okR_no (fun F => by obtain ⟨i1, i2, i3, i4, i5, i6, i7, i8, i9, i10, i11, i12, i13, i14, i15⟩ := HI.out.1 F; exact HB2.out (i9 l (List.mem_of_getElem? HX2.out)).1)]; rfl, U5.out.alloc _⟩
     | true =>
     have HB2 := hid (spn_iff.1 hb)
     clear hb
     go_wp2_with fail
     refine (in_any _ _ _ _).mono ?_
     rintro e w6 ⟨rfl, rfl⟩
     cases hb : spn 0 63 l.s with
     | false =>
      have HB3 := hid (spn_no hb)
      go_wp2_with fail
      go_ret
      refine ⟨by rw [HE.out, okR_no (fun F => by obtain ⟨i1, i2, i3, i4, i5, i6, i7, i8, i9, i10, i11, i12, i13, i14, i15⟩ := HI.out.1 F; exact HB3.out (i9 l (List.mem_of_getElem? HX2.out)).2.1)]; rfl, U5.out.alloc _⟩
     | true =>
     have HB3 := hid (spn_iff.1 hb)
     clear hb
     go_wp2_with fail
     refine (in_any _ _ _ _).mono ?_
     rintro e w6 ⟨rfl, rfl⟩
     cases hb : spn 1 2147483647 l.i with
     | false =>
      have HB4 := hid (spn_no hb)
      go_wp2_with fail
      go_ret
      refine ⟨by rw [HE.out, okR_no (fun F => by obtain ⟨i1, i2, i3, i4, i5, i6, i7, i8, i9, i10, i11, i12, i13, i14, i15⟩ := HI.out.1 F; exact HB4.out (i9 l (List.mem_of_getElem? HX2.out)).2.2)]; rfl, U5.out.alloc _⟩
     | true =>
     have HB4 := hid (spn_iff.1 hb)
     clear hb
     have HP2 : Hid (∀ y ∈ r.locs.take (t2 + 1), (0 ≤ y.d ∧ y.d ≤ 23) ∧ (0 ≤ y.s ∧ y.s ≤ 63) ∧ 1 ≤ y.i ∧ y.i ≤ 2147483647) := fun y hy => by
      rw [List.take_add_one, HX2.out, List.mem_append] at hy
      rcases hy with hy | hy
      ·exact HPL.out y hy
      ·have : y = l := by simpa using hy
       rw [this]; exact ⟨HB2.out, HB3.out, HB4.out⟩
     go_wp2_with fail
     go_roundw
     case rel => exact ⟨t2 + 1, by go_num, HL2.out, HP2, B5.out.nxt ((Up.refl Nul _).alloc _), U5.out.alloc _⟩
     case measure => have := HL2.out; simp [intOf]; omega
    ·obtain rfl : t2 = nl := by omega
     have HPL3 : Hid (∀ y ∈ r.locs, (0 ≤ y.d ∧ y.d ≤ 23) ∧ (0 ≤ y.s ∧ y.s ≤ 63) ∧ 1 ≤ y.i ∧ y.i ≤ 2147483647) := fun y hy => HPL.out y (by rw [List.take_of_length_le (by rw [HNM.out]; omega)]; exact hy)
     have j2 : ¬ (t2 : Int) < (t2 : Int) := by omega
     clear hd2 ht2
     obtain ⟨_, _, _, _, _, _, _, x7, x8, x9, x10, x11, x12⟩ := B5.out.cells
     go_wp2_with fail
     refine (tables_any tb0 _).mono ?_
     rintro e w7 ⟨rfl, u7⟩
     go_upto_region 30 with fail
     obtain ⟨W8, hW8⟩ : ∃ W, W = w7.alloc (.cells #[.int .i64 tb0.hot, .int .i64 tb0.warm, .int .i64 tb0.gap, .int .i64 tb0.add, .int .i64 tb0.top, .int .i64 tb0.half] 79) := ⟨_, rfl⟩
     have HC8 : Hid (∀ (i : Nat) (x : Int), tb0.l[i]? = some x → W8.cell? ⟨w7.heap.size, i, none⟩ = some (.int .i64 x)) := by rw [hW8]; exact i6_cells (heap_alloc_new _ _)
     have U8 : Hid (Up Nul w W8) := by show Up _ _ _; rw [hW8]; exact (U5.out.trans u7).alloc _
     first | rw [← hW8] | (have hW9 := hW8; simp only [tb0] at hW9; rw [← hW9]; clear hW9)
     clear hW8 u7 x6 x7 x8 x9 x10 x11 x12
     generalize w7.heap.size = q6 at HC8 ⊢
     go_wp2_with fail
     go_loopw [11] (fun i wr => ∃ t : Nat, i = .int .i64 (t : Nat) ∧ t ≤ 6 ∧ Hid (∀ x ∈ tb0.l.take t, 0 ≤ x ∧ x ≤ 1000000) ∧ wr = W8) (fun i _ => 6 - (intOf i).toNat)
     case atStart => exact ⟨0, rfl, by omega, hid fun x hx => by simp at hx, by trivial⟩
     case round =>
      obtain ⟨t3, rfl, ht3, HPT, rfl⟩ := hrel
      have i4 : (0 : Int) ≤ (t3 : Int) := by omega
      by_cases hd3 : t3 < 6
      ·have j3 : (t3 : Int) < 6 := by omega
       obtain ⟨x, hx⟩ : ∃ x, tb0.l[t3]? = some x := ⟨_, List.getElem?_eq_getElem (by simpa [Tb.l] using hd3)⟩
       have hcx := HC8.out t3 x hx
       have HX3 := hid hx
       have HL3 := hid hd3
       clear hx hd3 ht3
       go_wp2_with fail
       refine (in_any _ _ _ _).mono ?_
       rintro e w9 ⟨rfl, rfl⟩
       cases hb : spn 0 1000000 x with
       | false =>
        have HB5 := hid (spn_no hb)
        go_wp2_with fail
        go_ret
        refine ⟨by rw [HE.out, okR_no (fun F => by obtain ⟨i1, i2, i3, i4, i5, i6, i7, i8, i9, i10, i11, i12, i13, i14, i15⟩ := HI.out.1 F; have hm := List.mem_of_getElem? HX3.out; exact HB5.out (t0_bounds hm))]; rfl, U8.out⟩
       | true =>
       have HB5 := hid (spn_iff.1 hb)
       clear hb
       have HP5 : Hid (∀ y ∈ tb0.l.take (t3 + 1), 0 ≤ y ∧ y ≤ 1000000) := fun y hy => by
        rw [List.take_add_one, HX3.out, List.mem_append] at hy
        rcases hy with hy | hy
        ·exact HPT.out y hy
        ·have : y = x := by simpa using hy
         rw [this]; exact HB5.out
       go_wp2_with fail
       go_roundw
       case rel => exact ⟨t3 + 1, by go_num, HL3.out, HP5, by trivial⟩
       case measure => have := HL3.out; simp [intOf]; omega
      ·obtain rfl : t3 = 6 := by omega
       have HPT6 : Hid (∀ x ∈ tb0.l, 0 ≤ x ∧ x ≤ 1000000) := fun x hx => HPT.out x (by rw [List.take_of_length_le (by simp [Tb.l])]; exact hx)
       clear hd3 ht3
       go_wp2_with fail
       go_ret
       refine ⟨by rw [HE.out, okR_iff.2 (HI.out.2 ⟨HKB.out.1, HKB.out.2, HB.out.1, HB.out.2.1, HB.out.2.2, HNS.out, (fun x hx => by have h0 : r.sids = [] := List.eq_nil_of_length_eq_zero (by have := HNS.out; omega); rw [h0] at hx; cases hx), by have := HNL.out; omega, HPL3.out, by have := HT.out; omega, by have := HT.out; omega, by have := HT.out; omega, by have := HT.out; omega, by have := HT.out; omega, by have := HT.out; omega⟩)]; rfl, U8.out⟩
set_option maxHeartbeats 8000000 in
theorem rok3 (r : Rc) (sa la : Option Addr) (sc lc : Nat) (w : World) (hR : RH w r sa la) (hK : r.key.size ≤ 100000) (hk : r.kind = 3) :
  Calls Tryz.prog 12 #[rv r (.slice sa r.sids.length sc) (.slice la r.locs.length lc)] w fun e w' => e = .returned (.bool (okR r)) ∧ Up Nul w w' := by
 obtain ⟨R, HE0⟩ : ∃ R, R = okR r := ⟨_, rfl⟩
 rw [← HE0]
 have HE := hid HE0
 have HR := hid hR
 have HK1 := hid hk
 have HKS := hid hK
 have HI := hid (okF3 hk)
 clear hR hk hK HE0
 obtain ⟨W1, hW1⟩ : ∃ W, W = w.alloc (.cells (rcellsL r (.slice sa r.sids.length sc) (.slice la r.locs.length lc)) 28) := ⟨_, rfl⟩
 have U1 : Hid (Up Nul w W1) := by show Up _ _ _; rw [hW1]; exact (Up.refl Nul w).alloc _
 have B1 : Hid (RB W1 w.heap.size r (.slice sa r.sids.length sc) (.slice la r.locs.length lc)) := by show RB _ _ _ _ _; rw [hW1]; exact RB.new _ _ _ _
 go_enter Tryz.func12, Tryz.ntmps12
 go_upto_region 1 with fail
 rw [← hW1]
 clear hW1
 obtain ⟨p, hpe⟩ : ∃ p, p = w.heap.size := ⟨_, rfl⟩
 rw [← hpe] at B1 ⊢
 clear hpe
 have x0 := B1.out.cells.1
 have hk := HK1.out
 go_wp2_with fail
 refine (in_any _ _ _ _).mono ?_
 rintro e w2 ⟨rfl, rfl⟩
 rw [show spn 1 8 3 = true from by decide]
 go_wp2_with fail
 refine (names3 _).mono ?_
 rintro e w2 ⟨rfl, u2⟩
 go_upto_region 4 with fail
 obtain ⟨W4, hW4⟩ : ∃ W, W = w2.alloc (.cells #[.bool (nmB 3 0), .bool (nmB 3 1), .bool (nmB 3 2), .bool (nmB 3 3), .bool (nmB 3 4)] 74) := ⟨_, rfl⟩
 have u4 : Up Nul w2 W4 := by rw [hW4]; exact (Up.refl Nul w2).alloc _
 have hq : W4.heap[w2.heap.size]? = some (.cells #[.bool true, .bool false, .bool true, .bool true, .bool false] 74 (0, 0)) := by rw [hW4]; exact heap_alloc_new _ _
 have HQ : Hid (∀ W, Up Nul W4 W → W.heap[w2.heap.size]? = some (.cells #[.bool true, .bool false, .bool true, .bool true, .bool false] 74 (0, 0))) := fun W u => (u.block _ (Array.getElem?_eq_some_iff.1 hq).1 id).trans hq
 have B4 := hid (B1.out.nxt (u2.trans u4))
 have U4 := hid (U1.out.trans (u2.trans u4))
 rw [← hW4]
 clear hW4 hq u2 u4 B1 U1 x0
 generalize w2.heap.size = q at HQ ⊢
 obtain ⟨n0, n1, n2, n3, n4⟩ := b5_cells (HQ.out _ (Up.refl Nul W4))
 obtain ⟨x0, x1, x2, x3, x4, x5, x6, x7, x8, x9, x10, x11, x12⟩ := B4.out.cells
 go_wp2_with fail
 refine (keyok_any _ _ HKS.out).mono ?_
 rintro e w' ⟨rfl, rfl⟩
 cases hkb : kok r.key with
 | false =>
  have HKB := hid hkb
  go_wp2_with fail
  go_ret
  refine ⟨by rw [HE.out, okR_no (fun F => by obtain ⟨i1, i2, i3, i4, i5, i6, i7, i8, i9, i10, i11, i12, i13, i14, i15⟩ := HI.out.1 F; have := kok_iff.2 ⟨⟨by omega, by omega⟩, i2⟩; rw [HKB.out] at this; cases this)]; rfl, U4.out⟩
 | true =>
 have HKB := hid (kok_iff.1 hkb)
 clear hkb
 go_wp2_with fail
 all_goals first | (go_ret; refine ⟨by rw [HE.out, okR_no (fun F => by obtain ⟨i1, i2, i3, i4, i5, i6, i7, i8, i9, i10, i11, i12, i13, i14, i15⟩ := HI.out.1 F; first | omega | (have hz : r.key.size = 0 := (by omega); exact absurd (key_nil.2 hz) (by assumption)))]; rfl, U4.out⟩) | skip
 have HKB : Hid ((1 ≤ ((r.key.size : Nat) : Int) ∧ ((r.key.size : Nat) : Int) ≤ 16) ∧ ∀ c ∈ nums r.key, 33 ≤ c ∧ c ≤ 126) := ⟨⟨by have := HKB.out.1; omega, by have := HKB.out.1; omega⟩, HKB.out.2⟩
 refine (in_any _ _ _ _).mono ?_
 rintro e w' ⟨rfl, rfl⟩
 cases hb : spn 1 2147483647 r.sid with
 | false =>
  have HB := hid (spn_no hb)
  go_wp2_with fail
  go_ret
  refine ⟨by rw [HE.out, okR_no (fun F => by obtain ⟨i1, i2, i3, i4, i5, i6, i7, i8, i9, i10, i11, i12, i13, i14, i15⟩ := HI.out.1 F; have := HB.out; omega)]; rfl, U4.out⟩
 | true =>
 have hc0 := spn_iff.1 hb
 clear hb
 go_wp2_with fail
 refine (in_any _ _ _ _).mono ?_
 rintro e w' ⟨rfl, rfl⟩
 cases hb : spn 0 2 r.colour with
 | false =>
  have HB := hid (spn_no hb)
  go_wp2_with fail
  go_ret
  refine ⟨by rw [HE.out, okR_no (fun F => by obtain ⟨i1, i2, i3, i4, i5, i6, i7, i8, i9, i10, i11, i12, i13, i14, i15⟩ := HI.out.1 F; have := HB.out; omega)]; rfl, U4.out⟩
 | true =>
 have hc1 := spn_iff.1 hb
 clear hb
 go_wp2_with fail
 have HB : Hid ((0 ≤ r.n ∧ r.n ≤ 0) ∧ (1 ≤ r.sid ∧ r.sid ≤ 2147483647) ∧ (0 ≤ r.colour ∧ r.colour ≤ 2)) := ⟨⟨by omega, by omega⟩, ⟨by omega, by omega⟩, ⟨by omega, by omega⟩⟩
 have HT : Hid (r.t.hot = 0 ∧ r.t.warm = 0 ∧ r.t.gap = 0 ∧ r.t.add = 0 ∧ r.t.top = 0 ∧ r.t.half = 0) := ⟨by omega, by omega, by omega, by omega, by omega, by omega⟩
 clear hc0
 clear hc1
 refine (sids3 _).mono ?_
 rintro e w' ⟨rfl, rfl⟩
 rw [show sdN 3 = 0 from rfl, show lcN 3 = 6 from rfl]
 cases hb : (((r.sids.length : Nat) : Int) != 0) with
 | true =>
  have HNS : Hid (¬ ((r.sids.length : Nat) : Int) = 0) := by simpa [Hid] using hb
  go_wp2_with fail
  go_ret
  refine ⟨by rw [HE.out, okR_no (fun F => by obtain ⟨i1, i2, i3, i4, i5, i6, i7, i8, i9, i10, i11, i12, i13, i14, i15⟩ := HI.out.1 F; exact HNS.out i6)]; rfl, U4.out⟩
 | false =>
 have HNS : Hid (((r.sids.length : Nat) : Int) = 0) := by simpa [Hid] using hb
 go_wp2_with fail
 clear hb
 obtain ⟨ns, hns⟩ : ∃ ns, r.sids.length = ns := ⟨_, rfl⟩
 have HNN := hid hns
 rw [hns] at x4
 have hn3 : (ns : Int) ≤ 3 := by have := HNS.out; rw [hns] at this; omega
 clear hns
 go_loopw [5, 7] (fun l i wr => ∃ t : Nat, i = .int .i64 (t : Nat) ∧ t ≤ ns ∧ l = .int .i64 6 ∧ (∀ x ∈ r.sids.take t, 1 ≤ x ∧ x ≤ 2147483647) ∧ wr = w') (fun _ i _ => ns - (intOf i).toNat)
 case atStart => exact ⟨0, rfl, Nat.zero_le _, rfl, fun x hx => by simp at hx, by trivial⟩
 case round =>
  obtain ⟨t, rfl, ht, rfl, hp, rfl⟩ := hrel
  have HP := hid hp
  clear hp
  have i0 : (0 : Int) ≤ (t : Int) := by omega
  by_cases hd : t < ns
  ·have j1 : (t : Int) < (ns : Int) := by omega
   obtain ⟨x, hx⟩ : ∃ x, r.sids[t]? = some x := ⟨_, List.getElem?_eq_getElem (by rw [HNN.out]; exact hd)⟩
   rcases HR.out.s.nxt U4.out with e0 | ⟨g, o, rfl, hg, hrow⟩
   ·rw [e0] at hx; simp at hx
   have hcx := hrow t x hx
   have HX := hid hx
   have HL := hid hd
   clear hx hrow hg hd ht
   go_wp2_with fail
   refine (in_any _ _ _ _).mono ?_
   rintro e w'' ⟨rfl, rfl⟩
   cases hb : spn 1 2147483647 x with
   | false =>
    have HB2 := hid (spn_no hb)
    go_wp2_with fail
    go_ret
    refine ⟨by rw [HE.out, okR_no (fun F => by obtain ⟨i1, i2, i3, i4, i5, i6, i7, i8, i9, i10, i11, i12, i13, i14, i15⟩ := HI.out.1 F; have := i7 x (List.mem_of_getElem? HX.out); have := HB2.out; have h0 : r.sids = [] := List.eq_nil_of_length_eq_zero (by omega); rw [h0] at HX; exact absurd HX.out (by simp))]; rfl, U4.out⟩
   | true =>
    have HB2 := hid (spn_iff.1 hb)
    clear hb
    have HP2 : Hid (∀ y ∈ r.sids.take (t + 1), 1 ≤ y ∧ y ≤ 2147483647) := fun y hy => by
     rw [List.take_add_one, HX.out, List.mem_append] at hy
     rcases hy with hy | hy
     ·exact HP.out y hy
     ·have : y = x := by simpa using hy
      rw [this]; exact HB2.out
    go_wp2_with fail
    go_roundw
    case rel => exact ⟨t + 1, by go_num, HL.out, rfl, HP2.out, by trivial⟩
    case measure => have := HL.out; simp [intOf]; omega
  ·obtain rfl : t = ns := by omega
   have HP3 : Hid (∀ y ∈ r.sids, 1 ≤ y ∧ y ≤ 2147483647) := fun y hy => HP.out y (by rw [List.take_of_length_le (by rw [HNN.out]; omega)]; exact hy)
   skip
   have j1 : ¬ (t : Int) < (t : Int) := by omega
   clear hd
   cases hb : (((r.locs.length : Nat) : Int) != 6) with
   | true =>
    have HNL : Hid (¬ ((r.locs.length : Nat) : Int) = 6) := by simpa [Hid] using hb
    go_wp2_with fail
    go_ret
    refine ⟨by rw [HE.out, okR_no (fun F => by obtain ⟨i1, i2, i3, i4, i5, i6, i7, i8, i9, i10, i11, i12, i13, i14, i15⟩ := HI.out.1 F; exact HNL.out (by rw [i8]; omega))]; rfl, U4.out⟩
   | false =>
   have HNL : Hid (((r.locs.length : Nat) : Int) = 6) := by simpa [Hid] using hb
   go_wp2_with fail
   clear hb
   obtain ⟨nl, hnl⟩ : ∃ nl, r.locs.length = nl := ⟨_, rfl⟩
   have HNM := hid hnl
   have hl12 : (nl : Int) ≤ 12 := by have := HNL.out; rw [hnl] at this; omega
   clear hnl x0 x1 x2 x3 x4 x5 x6 x7 x8 x9 x10 x11 x12 n0 n1 n2 n3 n4
   go_loopw [8] (fun i wr => ∃ t : Nat, i = .int .i64 (t : Nat) ∧ t ≤ nl ∧ Hid (∀ l ∈ r.locs.take t, (0 ≤ l.d ∧ l.d ≤ 23) ∧ (0 ≤ l.s ∧ l.s ≤ 63) ∧ 1 ≤ l.i ∧ l.i ≤ 2147483647) ∧ RB wr p r (.slice sa r.sids.length sc) (.slice la r.locs.length lc) ∧ Up Nul w wr) (fun i _ => nl - (intOf i).toNat)
   case atStart => exact ⟨0, rfl, Nat.zero_le _, hid fun x hx => by simp at hx, B4.out, U4.out⟩
   case round =>
    obtain ⟨t2, rfl, ht2, HPL, hb2, hu2⟩ := hrel
    have B5 := hid hb2
    have U5 := hid hu2
    clear hb2 hu2
    have x6 := B5.out.cells.2.2.2.2.2.2.1
    rw [HNM.out] at x6
    have i2 : (0 : Int) ≤ (t2 : Int) := by omega
    have i3 : (t2 : Int) ≤ 12 := by omega
    by_cases hd2 : t2 < nl
    ·have j2 : (t2 : Int) < (nl : Int) := by omega
     obtain ⟨l, hl⟩ : ∃ l, r.locs[t2]? = some l := ⟨_, List.getElem?_eq_getElem (by rw [HNM.out]; exact hd2)⟩
     rcases HR.out.l.nxt U5.out with e0 | ⟨g, o, rfl, hg, hrow⟩
     ·rw [e0] at hl; simp at hl
     have y0 := hrow t2 l hl 0 (.int .i64 l.d) rfl
     have y1 := hrow t2 l hl 1 (.int .i64 l.s) rfl
     have y2 := hrow t2 l hl 2 (.int .i64 l.i) rfl
     simp only [Nat.add_zero] at y0
     have HX2 := hid hl
     have HL2 := hid hd2
     clear hl hrow hd2 ht2
     go_wp2_with fail
     refine (in_any _ _ _ _).mono ?_
     rintro e w6 ⟨rfl, rfl⟩
     cases hb : spn 0 23 l.d with
     | false =>
      have HB2 := hid (spn_no hb)
      go_wp2_with fail
      go_ret
      refine ⟨by rw [HE.out, okR_no (fun F => by obtain ⟨i1, i2, i3, i4, i5, i6, i7, i8, i9, i10, i11, i12, i13, i14, i15⟩ := HI.out.1 F; exact HB2.out (i9 l (List.mem_of_getElem? HX2.out)).1)]; rfl, U5.out.alloc _⟩
     | true =>
     have HB2 := hid (spn_iff.1 hb)
     clear hb
     go_wp2_with fail
     refine (in_any _ _ _ _).mono ?_
     rintro e w6 ⟨rfl, rfl⟩
     cases hb : spn 0 63 l.s with
     | false =>
      have HB3 := hid (spn_no hb)
      go_wp2_with fail
      go_ret
      refine ⟨by rw [HE.out, okR_no (fun F => by obtain ⟨i1, i2, i3, i4, i5, i6, i7, i8, i9, i10, i11, i12, i13, i14, i15⟩ := HI.out.1 F; exact HB3.out (i9 l (List.mem_of_getElem? HX2.out)).2.1)]; rfl, U5.out.alloc _⟩
     | true =>
     have HB3 := hid (spn_iff.1 hb)
     clear hb
     go_wp2_with fail
     refine (in_any _ _ _ _).mono ?_
     rintro e w6 ⟨rfl, rfl⟩
     cases hb : spn 1 2147483647 l.i with
     | false =>
      have HB4 := hid (spn_no hb)
      go_wp2_with fail
      go_ret
      refine ⟨by rw [HE.out, okR_no (fun F => by obtain ⟨i1, i2, i3, i4, i5, i6, i7, i8, i9, i10, i11, i12, i13, i14, i15⟩ := HI.out.1 F; exact HB4.out (i9 l (List.mem_of_getElem? HX2.out)).2.2)]; rfl, U5.out.alloc _⟩
     | true =>
     have HB4 := hid (spn_iff.1 hb)
     clear hb
     have HP2 : Hid (∀ y ∈ r.locs.take (t2 + 1), (0 ≤ y.d ∧ y.d ≤ 23) ∧ (0 ≤ y.s ∧ y.s ≤ 63) ∧ 1 ≤ y.i ∧ y.i ≤ 2147483647) := fun y hy => by
      rw [List.take_add_one, HX2.out, List.mem_append] at hy
      rcases hy with hy | hy
      ·exact HPL.out y hy
      ·have : y = l := by simpa using hy
       rw [this]; exact ⟨HB2.out, HB3.out, HB4.out⟩
     go_wp2_with fail
     go_roundw
     case rel => exact ⟨t2 + 1, by go_num, HL2.out, HP2, B5.out.nxt ((Up.refl Nul _).alloc _), U5.out.alloc _⟩
     case measure => have := HL2.out; simp [intOf]; omega
    ·obtain rfl : t2 = nl := by omega
     have HPL3 : Hid (∀ y ∈ r.locs, (0 ≤ y.d ∧ y.d ≤ 23) ∧ (0 ≤ y.s ∧ y.s ≤ 63) ∧ 1 ≤ y.i ∧ y.i ≤ 2147483647) := fun y hy => HPL.out y (by rw [List.take_of_length_le (by rw [HNM.out]; omega)]; exact hy)
     have j2 : ¬ (t2 : Int) < (t2 : Int) := by omega
     clear hd2 ht2
     obtain ⟨_, _, _, _, _, _, _, x7, x8, x9, x10, x11, x12⟩ := B5.out.cells
     go_wp2_with fail
     refine (tables_any tb0 _).mono ?_
     rintro e w7 ⟨rfl, u7⟩
     go_upto_region 30 with fail
     obtain ⟨W8, hW8⟩ : ∃ W, W = w7.alloc (.cells #[.int .i64 tb0.hot, .int .i64 tb0.warm, .int .i64 tb0.gap, .int .i64 tb0.add, .int .i64 tb0.top, .int .i64 tb0.half] 79) := ⟨_, rfl⟩
     have HC8 : Hid (∀ (i : Nat) (x : Int), tb0.l[i]? = some x → W8.cell? ⟨w7.heap.size, i, none⟩ = some (.int .i64 x)) := by rw [hW8]; exact i6_cells (heap_alloc_new _ _)
     have U8 : Hid (Up Nul w W8) := by show Up _ _ _; rw [hW8]; exact (U5.out.trans u7).alloc _
     first | rw [← hW8] | (have hW9 := hW8; simp only [tb0] at hW9; rw [← hW9]; clear hW9)
     clear hW8 u7 x6 x7 x8 x9 x10 x11 x12
     generalize w7.heap.size = q6 at HC8 ⊢
     go_wp2_with fail
     go_loopw [11] (fun i wr => ∃ t : Nat, i = .int .i64 (t : Nat) ∧ t ≤ 6 ∧ Hid (∀ x ∈ tb0.l.take t, 0 ≤ x ∧ x ≤ 1000000) ∧ wr = W8) (fun i _ => 6 - (intOf i).toNat)
     case atStart => exact ⟨0, rfl, by omega, hid fun x hx => by simp at hx, by trivial⟩
     case round =>
      obtain ⟨t3, rfl, ht3, HPT, rfl⟩ := hrel
      have i4 : (0 : Int) ≤ (t3 : Int) := by omega
      by_cases hd3 : t3 < 6
      ·have j3 : (t3 : Int) < 6 := by omega
       obtain ⟨x, hx⟩ : ∃ x, tb0.l[t3]? = some x := ⟨_, List.getElem?_eq_getElem (by simpa [Tb.l] using hd3)⟩
       have hcx := HC8.out t3 x hx
       have HX3 := hid hx
       have HL3 := hid hd3
       clear hx hd3 ht3
       go_wp2_with fail
       refine (in_any _ _ _ _).mono ?_
       rintro e w9 ⟨rfl, rfl⟩
       cases hb : spn 0 1000000 x with
       | false =>
        have HB5 := hid (spn_no hb)
        go_wp2_with fail
        go_ret
        refine ⟨by rw [HE.out, okR_no (fun F => by obtain ⟨i1, i2, i3, i4, i5, i6, i7, i8, i9, i10, i11, i12, i13, i14, i15⟩ := HI.out.1 F; have hm := List.mem_of_getElem? HX3.out; exact HB5.out (t0_bounds hm))]; rfl, U8.out⟩
       | true =>
       have HB5 := hid (spn_iff.1 hb)
       clear hb
       have HP5 : Hid (∀ y ∈ tb0.l.take (t3 + 1), 0 ≤ y ∧ y ≤ 1000000) := fun y hy => by
        rw [List.take_add_one, HX3.out, List.mem_append] at hy
        rcases hy with hy | hy
        ·exact HPT.out y hy
        ·have : y = x := by simpa using hy
         rw [this]; exact HB5.out
       go_wp2_with fail
       go_roundw
       case rel => exact ⟨t3 + 1, by go_num, HL3.out, HP5, by trivial⟩
       case measure => have := HL3.out; simp [intOf]; omega
      ·obtain rfl : t3 = 6 := by omega
       have HPT6 : Hid (∀ x ∈ tb0.l, 0 ≤ x ∧ x ≤ 1000000) := fun x hx => HPT.out x (by rw [List.take_of_length_le (by simp [Tb.l])]; exact hx)
       clear hd3 ht3
       go_wp2_with fail
       go_ret
       refine ⟨by rw [HE.out, okR_iff.2 (HI.out.2 ⟨HKB.out.1, HKB.out.2, HB.out.1, HB.out.2.1, HB.out.2.2, HNS.out, (fun x hx => by have h0 : r.sids = [] := List.eq_nil_of_length_eq_zero (by have := HNS.out; omega); rw [h0] at hx; cases hx), by have := HNL.out; omega, HPL3.out, by have := HT.out; omega, by have := HT.out; omega, by have := HT.out; omega, by have := HT.out; omega, by have := HT.out; omega, by have := HT.out; omega⟩)]; rfl, U8.out⟩
end Go.Proofs.YtepggchnhgpcnaaGreatDoor
