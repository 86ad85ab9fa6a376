/- The document's 'fresh': whether new Sids may be. -/
import Derived.Test.YtepggchnhgpcnaaGreatDoorPkTidy
import Derived.Test.YtepggchnhgpcnaaGreatDoorPz22
import Derived.Test.YtepggchnhgpcnaaGreatDoorPz27
namespace Go.Proofs.YtepggchnhgpcnaaGreatDoor
open Go.RowKit Go.Maps Go.Sort
set_option linter.unusedVariables false

abbrev riseF (L : Int) (zs : List Int) : Option Int := rise L (zs.filter fun x => decide (x ≠ 0))
theorem riseF_nil (L : Int) : riseF L [] = some L := rfl
theorem riseF_zero (L : Int) (zs : List Int) : riseF L (0 :: zs) = riseF L zs := by unfold riseF; simp
theorem riseF_bad {L x : Int} (hx : x ≠ 0) (h : x ≤ L) (zs : List Int) : riseF L (x :: zs) = none := by unfold riseF; rw [List.filter_cons_of_pos (by simpa using hx)]; unfold rise; rw [if_pos h]
theorem riseF_good {L x : Int} (hx : x ≠ 0) (h : ¬ x ≤ L) (zs : List Int) : riseF L (x :: zs) = riseF x zs := by
 unfold riseF
 rw [List.filter_cons_of_pos (by simpa using hx), rise, if_neg h]
section
variable {F S : Nat → Prop} {w w' : World} {q n : Nat} {Q : Int → Value} {M : MM} {ks : List ByteArray} {is : List Int} {kv bv iv sv : Value}
set_option maxRecDepth 10000 in
set_option maxHeartbeats 4000000 in
theorem rfresh_1 (h : RM F w q n Q M ks is kv bv iv sv) (hl : 0 ≤ M.last ∧ M.last ≤ 2147483647) (r : Rc) (sa la : Option Addr) (sc lc : Nat) (hr : RH w r sa la) (hk : r.kind = 1) (hs : 1 ≤ r.sid ∧ r.sid ≤ 2147483647 ∨ 1 = 2 ∨ 1 = 8) (hz : ∀ z ∈ r.sids, 0 ≤ z ∧ z ≤ 2147483647) :
  Calls Tryz.prog 24 #[.pointer (some ⟨q, 0, none⟩), rv r (.slice sa r.sids.length sc) (.slice la r.locs.length lc)] w fun e w' => e = .returned (.bool (rise M.last (newS r)).isSome) ∧ Up Nul w w' := by
 obtain ⟨W1, hW1⟩ : ∃ W, W = w.alloc (.cells (rcellsL r (.slice sa r.sids.length sc) (.slice la r.locs.length lc)) 28) := ⟨_, rfl⟩
 have u1 : Up Nul w W1 := by rw [hW1]; exact (Up.refl Nul w).alloc _
 have b1 : RB W1 w.heap.size r (.slice sa r.sids.length sc) (.slice la r.locs.length lc) := by rw [hW1]; exact RB.new _ _ _ _
 obtain ⟨x0, _, _, x3, x4, _⟩ := b1.cells
 have c4 := (h.nxt u1).cells.2.2.2.2
 have HU := hid u1
 have HRS : Hid (RowI W1 sa r.sids) := hr.s.nxt u1
 have HNS : Hid (r.sids.length ≤ 100000) := hr.ns
 have HL := hid hl
 have hs : 1 ≤ r.sid ∧ r.sid ≤ 2147483647 := by omega
 obtain ⟨zs, ZS⟩ : ∃ zs, zs = [r.sid] := ⟨_, rfl⟩
 have HE : Hid ((rise M.last (newS r)).isSome = (riseF M.last zs).isSome) := by
  show _ = _
  unfold newS
  rw [hk, ZS]
  unfold riseF
  rw [List.filter_cons_of_pos (by simp; omega)]; rfl
 have HZ : Hid (∀ z ∈ zs, 0 ≤ z ∧ z ≤ 2147483647) := by
  rw [ZS]; intro z hz; rw [List.mem_singleton] at hz; subst hz; omega
 obtain ⟨W2, hW2⟩ : ∃ W, W = W1.alloc (.cells #[.int .i64 r.sid] 3) := ⟨_, rfl⟩
 have u2 : Up Nul W1 W2 := by rw [hW2]; exact (Up.refl _ _).alloc _
 have c4' := (h.nxt (u1.trans u2)).cells.2.2.2.2
 have x0' : W2.cell? ⟨w.heap.size, 0, none⟩ = some (.int .i64 r.kind) := (u2.cell (p := ⟨w.heap.size, 0, none⟩) b1.lt id).trans x0
 have hb2 : W2.heap[W1.heap.size]? = some (.cells #[.int .i64 r.sid] 3 (0, 0)) := by rw [hW2]; exact heap_alloc_new _ _
 have HC : Hid (∀ i x, zs[i]? = some x → W2.cell? ⟨W1.heap.size, i, none⟩ = some (.int .i64 x)) := fun i x hx => by
  rw [ZS] at hx
  match i, hx with
  | 0, hx => cases hx; simp [World.cell?, hb2]
 have HUW : Hid (Up Nul w W2) := HU.out.trans u2
 obtain ⟨N, NN⟩ : ∃ N, Hid (zs.length = N) := ⟨_, rfl⟩
 have HN : Hid (N ≤ 100000) := by show _ ≤ _; rw [← NN.out, ZS]; show 1 ≤ 100000; omega
 have hN1 : N = 1 := by rw [← NN.out, ZS]; rfl
 rw [hk] at x0'
 have HZS := hid ZS
 clear hk b1 u1 u2 h hr hs hz HRS HNS x0 x4 c4 ZS hb2
 go_enter Tryz.func24, Tryz.ntmps24
 go_upto_region 1 with fail
 rw [← hW1]
 clear hW1
 go_upto_region 2 with fail
 rw [← hW2]
 clear hW2 x3
 generalize W1.heap.size = P1 at *
 have HN1 := hid hN1
 clear hN1
 go_upto_region 10 with fail
 rw [show (1 : Nat) = N from HN1.out.symm]
 go_wp2_with fail
 go_loopw [7, 6] (fun i y wr => ∃ (t : Nat) (nx : Int), i = .int .i64 t ∧ y = .int .i64 nx ∧ t ≤ N ∧ wr = W2 ∧ Hid (1 ≤ nx ∧ nx ≤ 2147483648) ∧ Hid (riseF M.last zs = riseF (nx - 1) (zs.drop t))) (fun i _ _ => N - (intOf i).toNat)
 case atStart => exact ⟨0, _, rfl, rfl, Nat.zero_le _, by first | rfl | trivial, by have := HL.out; show _ ∧ _; omega, by show _ = _; rw [List.drop_zero, Int.add_sub_cancel]⟩
 case round =>
  obtain ⟨t, nx, rfl, rfl, ht, hwr, hnx, hri⟩ := hrel
  have hww := hwr.symm
  subst hww
  by_cases hlt : t < N
  ·obtain ⟨z, hz⟩ : ∃ z, zs[t]? = some z := ⟨zs[t]'(by rw [NN.out]; exact hlt), List.getElem?_eq_getElem _⟩
   have hc := HC.out t z hz
   have hzb : 0 ≤ z ∧ z ≤ 2147483647 := HZ.out z (List.mem_of_getElem? hz)
   have hd : zs.drop t = z :: zs.drop (t + 1) := by
    have hl := (List.getElem?_eq_some_iff.1 hz).1
    have e := (List.getElem?_eq_some_iff.1 hz).2
    rw [List.drop_eq_getElem_cons hl, e]
   have HD := hid hd
   obtain ⟨t1, T1⟩ : ∃ t1, Hid (t + 1 = t1) := ⟨_, rfl⟩
   have e1 : (t : Int) + 1 = (t1 : Int) := by have := T1.out; omega
   have e2 : IntKind.i64.wrap (t1 : Int) = (t1 : Int) := IntWalk.i64_in _ (by have := HN.out; have := T1.out; omega)
   clear hz hd
   by_cases hz0 : z = 0
   ·have hb0 : (z == 0) = true := by simpa using hz0
    have HRI : Hid (riseF M.last zs = riseF (nx - 1) (zs.drop t1)) := by
     show _ = _
     rw [hri.out, HD.out, hz0, riseF_zero, T1.out]
    clear hri
    subst hz0
    go_wp2_with fail
    go_roundw
    case rel => exact ⟨t1, nx, rfl, rfl, by have := T1.out; omega, by first | rfl | trivial, hnx, HRI⟩
    case measure => (have := T1.out; simp [intOf]; omega)
   ·have hb0 : (z == 0) = false := by simpa using hz0
    by_cases hlz : z < nx
    ·have HRI : Hid ((riseF M.last zs).isSome = false) := by
      show _ = _
      rw [hri.out, HD.out, riseF_bad hz0 (by omega)]; rfl
     clear hri hnx
     go_wp2_with fail
     go_ret
     exact ⟨by rw [HE.out, HRI.out]; rfl, HUW.out⟩
    ·have HRI : Hid (riseF M.last zs = riseF (z + 1 - 1) (zs.drop t1)) := by
      show _ = _
      have e : z + 1 - 1 = z := by omega
      rw [hri.out, HD.out, riseF_good hz0 (by omega), T1.out, e]
     have e3 : IntKind.i64.wrap (z + 1) = z + 1 := IntWalk.i64_in _ (by omega)
     clear hri
     go_wp2_with fail
     go_roundw
     case rel => exact ⟨t1, z + 1, rfl, rfl, by have := T1.out; omega, by first | rfl | trivial, by show _ ∧ _; omega, HRI⟩
     case measure => (have := T1.out; simp [intOf]; omega)
  ·obtain rfl : t = N := by omega
   have HRI : Hid ((riseF M.last zs).isSome = true) := by
    show _ = _
    rw [hri.out, List.drop_eq_nil_of_le (by rw [NN.out]; exact Nat.le_refl _)]; rfl
   clear hri
   go_wp2_with fail
   go_ret
   exact ⟨by rw [HE.out, HRI.out]; rfl, HUW.out⟩
set_option maxRecDepth 10000 in
set_option maxHeartbeats 4000000 in
theorem rfresh_2 (h : RM F w q n Q M ks is kv bv iv sv) (hl : 0 ≤ M.last ∧ M.last ≤ 2147483647) (r : Rc) (sa la : Option Addr) (sc lc : Nat) (hr : RH w r sa la) (hk : r.kind = 2) (hs : 1 ≤ r.sid ∧ r.sid ≤ 2147483647 ∨ 2 = 2 ∨ 2 = 8) (hz : ∀ z ∈ r.sids, 0 ≤ z ∧ z ≤ 2147483647) :
  Calls Tryz.prog 24 #[.pointer (some ⟨q, 0, none⟩), rv r (.slice sa r.sids.length sc) (.slice la r.locs.length lc)] w fun e w' => e = .returned (.bool (rise M.last (newS r)).isSome) ∧ Up Nul w w' := by
 obtain ⟨W1, hW1⟩ : ∃ W, W = w.alloc (.cells (rcellsL r (.slice sa r.sids.length sc) (.slice la r.locs.length lc)) 28) := ⟨_, rfl⟩
 have u1 : Up Nul w W1 := by rw [hW1]; exact (Up.refl Nul w).alloc _
 have b1 : RB W1 w.heap.size r (.slice sa r.sids.length sc) (.slice la r.locs.length lc) := by rw [hW1]; exact RB.new _ _ _ _
 obtain ⟨x0, _, _, x3, x4, _⟩ := b1.cells
 have c4 := (h.nxt u1).cells.2.2.2.2
 have HU := hid u1
 have HRS : Hid (RowI W1 sa r.sids) := hr.s.nxt u1
 have HNS : Hid (r.sids.length ≤ 100000) := hr.ns
 have HL := hid hl
 have HE : Hid ((rise M.last (newS r)).isSome = true) := by
  show _ = _
  unfold newS
  rw [hk]; rfl
 rw [HE.out]
 rw [hk] at x0
 obtain ⟨W2, hW2⟩ : ∃ W, W = W1.alloc (.cells #[.int .i64 r.sid] 3) := ⟨_, rfl⟩
 have u2 : Up Nul W1 W2 := by rw [hW2]; exact (Up.refl _ _).alloc _
 have x0' : W2.cell? ⟨w.heap.size, 0, none⟩ = some (.int .i64 2) := (u2.cell (p := ⟨w.heap.size, 0, none⟩) b1.lt id).trans x0
 have HUW : Hid (Up Nul w W2) := HU.out.trans u2
 clear HE hk b1 u1 u2 x0 x4 c4 h hr hs hz
 go_enter Tryz.func24, Tryz.ntmps24
 go_upto_region 1 with fail
 rw [← hW1]
 clear hW1
 go_upto_region 2 with fail
 rw [← hW2]
 clear hW2
 go_wp2_with fail
 go_ret
 exact ⟨rfl, HUW.out⟩
set_option maxRecDepth 10000 in
set_option maxHeartbeats 4000000 in
theorem rfresh_3 (h : RM F w q n Q M ks is kv bv iv sv) (hl : 0 ≤ M.last ∧ M.last ≤ 2147483647) (r : Rc) (sa la : Option Addr) (sc lc : Nat) (hr : RH w r sa la) (hk : r.kind = 3) (hs : 1 ≤ r.sid ∧ r.sid ≤ 2147483647 ∨ 3 = 2 ∨ 3 = 8) (hz : ∀ z ∈ r.sids, 0 ≤ z ∧ z ≤ 2147483647) :
  Calls Tryz.prog 24 #[.pointer (some ⟨q, 0, none⟩), rv r (.slice sa r.sids.length sc) (.slice la r.locs.length lc)] w fun e w' => e = .returned (.bool (rise M.last (newS r)).isSome) ∧ Up Nul w w' := by
 obtain ⟨W1, hW1⟩ : ∃ W, W = w.alloc (.cells (rcellsL r (.slice sa r.sids.length sc) (.slice la r.locs.length lc)) 28) := ⟨_, rfl⟩
 have u1 : Up Nul w W1 := by rw [hW1]; exact (Up.refl Nul w).alloc _
 have b1 : RB W1 w.heap.size r (.slice sa r.sids.length sc) (.slice la r.locs.length lc) := by rw [hW1]; exact RB.new _ _ _ _
 obtain ⟨x0, _, _, x3, x4, _⟩ := b1.cells
 have c4 := (h.nxt u1).cells.2.2.2.2
 have HU := hid u1
 have HRS : Hid (RowI W1 sa r.sids) := hr.s.nxt u1
 have HNS : Hid (r.sids.length ≤ 100000) := hr.ns
 have HL := hid hl
 have hs : 1 ≤ r.sid ∧ r.sid ≤ 2147483647 := by omega
 obtain ⟨zs, ZS⟩ : ∃ zs, zs = [r.sid] := ⟨_, rfl⟩
 have HE : Hid ((rise M.last (newS r)).isSome = (riseF M.last zs).isSome) := by
  show _ = _
  unfold newS
  rw [hk, ZS]
  unfold riseF
  rw [List.filter_cons_of_pos (by simp; omega)]; rfl
 have HZ : Hid (∀ z ∈ zs, 0 ≤ z ∧ z ≤ 2147483647) := by
  rw [ZS]; intro z hz; rw [List.mem_singleton] at hz; subst hz; omega
 obtain ⟨W2, hW2⟩ : ∃ W, W = W1.alloc (.cells #[.int .i64 r.sid] 3) := ⟨_, rfl⟩
 have u2 : Up Nul W1 W2 := by rw [hW2]; exact (Up.refl _ _).alloc _
 have c4' := (h.nxt (u1.trans u2)).cells.2.2.2.2
 have x0' : W2.cell? ⟨w.heap.size, 0, none⟩ = some (.int .i64 r.kind) := (u2.cell (p := ⟨w.heap.size, 0, none⟩) b1.lt id).trans x0
 have hb2 : W2.heap[W1.heap.size]? = some (.cells #[.int .i64 r.sid] 3 (0, 0)) := by rw [hW2]; exact heap_alloc_new _ _
 have HC : Hid (∀ i x, zs[i]? = some x → W2.cell? ⟨W1.heap.size, i, none⟩ = some (.int .i64 x)) := fun i x hx => by
  rw [ZS] at hx
  match i, hx with
  | 0, hx => cases hx; simp [World.cell?, hb2]
 have HUW : Hid (Up Nul w W2) := HU.out.trans u2
 obtain ⟨N, NN⟩ : ∃ N, Hid (zs.length = N) := ⟨_, rfl⟩
 have HN : Hid (N ≤ 100000) := by show _ ≤ _; rw [← NN.out, ZS]; show 1 ≤ 100000; omega
 have hN1 : N = 1 := by rw [← NN.out, ZS]; rfl
 rw [hk] at x0'
 have HZS := hid ZS
 clear hk b1 u1 u2 h hr hs hz HRS HNS x0 x4 c4 ZS hb2
 go_enter Tryz.func24, Tryz.ntmps24
 go_upto_region 1 with fail
 rw [← hW1]
 clear hW1
 go_upto_region 2 with fail
 rw [← hW2]
 clear hW2 x3
 generalize W1.heap.size = P1 at *
 have HN1 := hid hN1
 clear hN1
 go_upto_region 10 with fail
 rw [show (1 : Nat) = N from HN1.out.symm]
 go_wp2_with fail
 go_loopw [7, 6] (fun i y wr => ∃ (t : Nat) (nx : Int), i = .int .i64 t ∧ y = .int .i64 nx ∧ t ≤ N ∧ wr = W2 ∧ Hid (1 ≤ nx ∧ nx ≤ 2147483648) ∧ Hid (riseF M.last zs = riseF (nx - 1) (zs.drop t))) (fun i _ _ => N - (intOf i).toNat)
 case atStart => exact ⟨0, _, rfl, rfl, Nat.zero_le _, by first | rfl | trivial, by have := HL.out; show _ ∧ _; omega, by show _ = _; rw [List.drop_zero, Int.add_sub_cancel]⟩
 case round =>
  obtain ⟨t, nx, rfl, rfl, ht, hwr, hnx, hri⟩ := hrel
  have hww := hwr.symm
  subst hww
  by_cases hlt : t < N
  ·obtain ⟨z, hz⟩ : ∃ z, zs[t]? = some z := ⟨zs[t]'(by rw [NN.out]; exact hlt), List.getElem?_eq_getElem _⟩
   have hc := HC.out t z hz
   have hzb : 0 ≤ z ∧ z ≤ 2147483647 := HZ.out z (List.mem_of_getElem? hz)
   have hd : zs.drop t = z :: zs.drop (t + 1) := by
    have hl := (List.getElem?_eq_some_iff.1 hz).1
    have e := (List.getElem?_eq_some_iff.1 hz).2
    rw [List.drop_eq_getElem_cons hl, e]
   have HD := hid hd
   obtain ⟨t1, T1⟩ : ∃ t1, Hid (t + 1 = t1) := ⟨_, rfl⟩
   have e1 : (t : Int) + 1 = (t1 : Int) := by have := T1.out; omega
   have e2 : IntKind.i64.wrap (t1 : Int) = (t1 : Int) := IntWalk.i64_in _ (by have := HN.out; have := T1.out; omega)
   clear hz hd
   by_cases hz0 : z = 0
   ·have hb0 : (z == 0) = true := by simpa using hz0
    have HRI : Hid (riseF M.last zs = riseF (nx - 1) (zs.drop t1)) := by
     show _ = _
     rw [hri.out, HD.out, hz0, riseF_zero, T1.out]
    clear hri
    subst hz0
    go_wp2_with fail
    go_roundw
    case rel => exact ⟨t1, nx, rfl, rfl, by have := T1.out; omega, by first | rfl | trivial, hnx, HRI⟩
    case measure => (have := T1.out; simp [intOf]; omega)
   ·have hb0 : (z == 0) = false := by simpa using hz0
    by_cases hlz : z < nx
    ·have HRI : Hid ((riseF M.last zs).isSome = false) := by
      show _ = _
      rw [hri.out, HD.out, riseF_bad hz0 (by omega)]; rfl
     clear hri hnx
     go_wp2_with fail
     go_ret
     exact ⟨by rw [HE.out, HRI.out]; rfl, HUW.out⟩
    ·have HRI : Hid (riseF M.last zs = riseF (z + 1 - 1) (zs.drop t1)) := by
      show _ = _
      have e : z + 1 - 1 = z := by omega
      rw [hri.out, HD.out, riseF_good hz0 (by omega), T1.out, e]
     have e3 : IntKind.i64.wrap (z + 1) = z + 1 := IntWalk.i64_in _ (by omega)
     clear hri
     go_wp2_with fail
     go_roundw
     case rel => exact ⟨t1, z + 1, rfl, rfl, by have := T1.out; omega, by first | rfl | trivial, by show _ ∧ _; omega, HRI⟩
     case measure => (have := T1.out; simp [intOf]; omega)
  ·obtain rfl : t = N := by omega
   have HRI : Hid ((riseF M.last zs).isSome = true) := by
    show _ = _
    rw [hri.out, List.drop_eq_nil_of_le (by rw [NN.out]; exact Nat.le_refl _)]; rfl
   clear hri
   go_wp2_with fail
   go_ret
   exact ⟨by rw [HE.out, HRI.out]; rfl, HUW.out⟩
set_option maxRecDepth 10000 in
set_option maxHeartbeats 4000000 in
theorem rfresh_4 (h : RM F w q n Q M ks is kv bv iv sv) (hl : 0 ≤ M.last ∧ M.last ≤ 2147483647) (r : Rc) (sa la : Option Addr) (sc lc : Nat) (hr : RH w r sa la) (hk : r.kind = 4) (hs : 1 ≤ r.sid ∧ r.sid ≤ 2147483647 ∨ 4 = 2 ∨ 4 = 8) (hz : ∀ z ∈ r.sids, 0 ≤ z ∧ z ≤ 2147483647) :
  Calls Tryz.prog 24 #[.pointer (some ⟨q, 0, none⟩), rv r (.slice sa r.sids.length sc) (.slice la r.locs.length lc)] w fun e w' => e = .returned (.bool (rise M.last (newS r)).isSome) ∧ Up Nul w w' := by
 obtain ⟨W1, hW1⟩ : ∃ W, W = w.alloc (.cells (rcellsL r (.slice sa r.sids.length sc) (.slice la r.locs.length lc)) 28) := ⟨_, rfl⟩
 have u1 : Up Nul w W1 := by rw [hW1]; exact (Up.refl Nul w).alloc _
 have b1 : RB W1 w.heap.size r (.slice sa r.sids.length sc) (.slice la r.locs.length lc) := by rw [hW1]; exact RB.new _ _ _ _
 obtain ⟨x0, _, _, x3, x4, _⟩ := b1.cells
 have c4 := (h.nxt u1).cells.2.2.2.2
 have HU := hid u1
 have HRS : Hid (RowI W1 sa r.sids) := hr.s.nxt u1
 have HNS : Hid (r.sids.length ≤ 100000) := hr.ns
 have HL := hid hl
 have hs : 1 ≤ r.sid ∧ r.sid ≤ 2147483647 := by omega
 obtain ⟨zs, ZS⟩ : ∃ zs, zs = [r.sid] := ⟨_, rfl⟩
 have HE : Hid ((rise M.last (newS r)).isSome = (riseF M.last zs).isSome) := by
  show _ = _
  unfold newS
  rw [hk, ZS]
  unfold riseF
  rw [List.filter_cons_of_pos (by simp; omega)]; rfl
 have HZ : Hid (∀ z ∈ zs, 0 ≤ z ∧ z ≤ 2147483647) := by
  rw [ZS]; intro z hz; rw [List.mem_singleton] at hz; subst hz; omega
 obtain ⟨W2, hW2⟩ : ∃ W, W = W1.alloc (.cells #[.int .i64 r.sid] 3) := ⟨_, rfl⟩
 have u2 : Up Nul W1 W2 := by rw [hW2]; exact (Up.refl _ _).alloc _
 have c4' := (h.nxt (u1.trans u2)).cells.2.2.2.2
 have x0' : W2.cell? ⟨w.heap.size, 0, none⟩ = some (.int .i64 r.kind) := (u2.cell (p := ⟨w.heap.size, 0, none⟩) b1.lt id).trans x0
 have hb2 : W2.heap[W1.heap.size]? = some (.cells #[.int .i64 r.sid] 3 (0, 0)) := by rw [hW2]; exact heap_alloc_new _ _
 have HC : Hid (∀ i x, zs[i]? = some x → W2.cell? ⟨W1.heap.size, i, none⟩ = some (.int .i64 x)) := fun i x hx => by
  rw [ZS] at hx
  match i, hx with
  | 0, hx => cases hx; simp [World.cell?, hb2]
 have HUW : Hid (Up Nul w W2) := HU.out.trans u2
 obtain ⟨N, NN⟩ : ∃ N, Hid (zs.length = N) := ⟨_, rfl⟩
 have HN : Hid (N ≤ 100000) := by show _ ≤ _; rw [← NN.out, ZS]; show 1 ≤ 100000; omega
 have hN1 : N = 1 := by rw [← NN.out, ZS]; rfl
 rw [hk] at x0'
 have HZS := hid ZS
 clear hk b1 u1 u2 h hr hs hz HRS HNS x0 x4 c4 ZS hb2
 go_enter Tryz.func24, Tryz.ntmps24
 go_upto_region 1 with fail
 rw [← hW1]
 clear hW1
 go_upto_region 2 with fail
 rw [← hW2]
 clear hW2 x3
 generalize W1.heap.size = P1 at *
 have HN1 := hid hN1
 clear hN1
 go_upto_region 10 with fail
 rw [show (1 : Nat) = N from HN1.out.symm]
 go_wp2_with fail
 go_loopw [7, 6] (fun i y wr => ∃ (t : Nat) (nx : Int), i = .int .i64 t ∧ y = .int .i64 nx ∧ t ≤ N ∧ wr = W2 ∧ Hid (1 ≤ nx ∧ nx ≤ 2147483648) ∧ Hid (riseF M.last zs = riseF (nx - 1) (zs.drop t))) (fun i _ _ => N - (intOf i).toNat)
 case atStart => exact ⟨0, _, rfl, rfl, Nat.zero_le _, by first | rfl | trivial, by have := HL.out; show _ ∧ _; omega, by show _ = _; rw [List.drop_zero, Int.add_sub_cancel]⟩
 case round =>
  obtain ⟨t, nx, rfl, rfl, ht, hwr, hnx, hri⟩ := hrel
  have hww := hwr.symm
  subst hww
  by_cases hlt : t < N
  ·obtain ⟨z, hz⟩ : ∃ z, zs[t]? = some z := ⟨zs[t]'(by rw [NN.out]; exact hlt), List.getElem?_eq_getElem _⟩
   have hc := HC.out t z hz
   have hzb : 0 ≤ z ∧ z ≤ 2147483647 := HZ.out z (List.mem_of_getElem? hz)
   have hd : zs.drop t = z :: zs.drop (t + 1) := by
    have hl := (List.getElem?_eq_some_iff.1 hz).1
    have e := (List.getElem?_eq_some_iff.1 hz).2
    rw [List.drop_eq_getElem_cons hl, e]
   have HD := hid hd
   obtain ⟨t1, T1⟩ : ∃ t1, Hid (t + 1 = t1) := ⟨_, rfl⟩
   have e1 : (t : Int) + 1 = (t1 : Int) := by have := T1.out; omega
   have e2 : IntKind.i64.wrap (t1 : Int) = (t1 : Int) := IntWalk.i64_in _ (by have := HN.out; have := T1.out; omega)
   clear hz hd
   by_cases hz0 : z = 0
   ·have hb0 : (z == 0) = true := by simpa using hz0
    have HRI : Hid (riseF M.last zs = riseF (nx - 1) (zs.drop t1)) := by
     show _ = _
     rw [hri.out, HD.out, hz0, riseF_zero, T1.out]
    clear hri
    subst hz0
    go_wp2_with fail
    go_roundw
    case rel => exact ⟨t1, nx, rfl, rfl, by have := T1.out; omega, by first | rfl | trivial, hnx, HRI⟩
    case measure => (have := T1.out; simp [intOf]; omega)
   ·have hb0 : (z == 0) = false := by simpa using hz0
    by_cases hlz : z < nx
    ·have HRI : Hid ((riseF M.last zs).isSome = false) := by
      show _ = _
      rw [hri.out, HD.out, riseF_bad hz0 (by omega)]; rfl
     clear hri hnx
     go_wp2_with fail
     go_ret
     exact ⟨by rw [HE.out, HRI.out]; rfl, HUW.out⟩
    ·have HRI : Hid (riseF M.last zs = riseF (z + 1 - 1) (zs.drop t1)) := by
      show _ = _
      have e : z + 1 - 1 = z := by omega
      rw [hri.out, HD.out, riseF_good hz0 (by omega), T1.out, e]
     have e3 : IntKind.i64.wrap (z + 1) = z + 1 := IntWalk.i64_in _ (by omega)
     clear hri
     go_wp2_with fail
     go_roundw
     case rel => exact ⟨t1, z + 1, rfl, rfl, by have := T1.out; omega, by first | rfl | trivial, by show _ ∧ _; omega, HRI⟩
     case measure => (have := T1.out; simp [intOf]; omega)
  ·obtain rfl : t = N := by omega
   have HRI : Hid ((riseF M.last zs).isSome = true) := by
    show _ = _
    rw [hri.out, List.drop_eq_nil_of_le (by rw [NN.out]; exact Nat.le_refl _)]; rfl
   clear hri
   go_wp2_with fail
   go_ret
   exact ⟨by rw [HE.out, HRI.out]; rfl, HUW.out⟩
set_option maxRecDepth 10000 in
set_option maxHeartbeats 4000000 in
theorem rfresh_5 (h : RM F w q n Q M ks is kv bv iv sv) (hl : 0 ≤ M.last ∧ M.last ≤ 2147483647) (r : Rc) (sa la : Option Addr) (sc lc : Nat) (hr : RH w r sa la) (hk : r.kind = 5) (hs : 1 ≤ r.sid ∧ r.sid ≤ 2147483647 ∨ 5 = 2 ∨ 5 = 8) (hz : ∀ z ∈ r.sids, 0 ≤ z ∧ z ≤ 2147483647) :
  Calls Tryz.prog 24 #[.pointer (some ⟨q, 0, none⟩), rv r (.slice sa r.sids.length sc) (.slice la r.locs.length lc)] w fun e w' => e = .returned (.bool (rise M.last (newS r)).isSome) ∧ Up Nul w w' := by
 obtain ⟨W1, hW1⟩ : ∃ W, W = w.alloc (.cells (rcellsL r (.slice sa r.sids.length sc) (.slice la r.locs.length lc)) 28) := ⟨_, rfl⟩
 have u1 : Up Nul w W1 := by rw [hW1]; exact (Up.refl Nul w).alloc _
 have b1 : RB W1 w.heap.size r (.slice sa r.sids.length sc) (.slice la r.locs.length lc) := by rw [hW1]; exact RB.new _ _ _ _
 obtain ⟨x0, _, _, x3, x4, _⟩ := b1.cells
 have c4 := (h.nxt u1).cells.2.2.2.2
 have HU := hid u1
 have HRS : Hid (RowI W1 sa r.sids) := hr.s.nxt u1
 have HNS : Hid (r.sids.length ≤ 100000) := hr.ns
 have HL := hid hl
 have hs : 1 ≤ r.sid ∧ r.sid ≤ 2147483647 := by omega
 obtain ⟨zs, ZS⟩ : ∃ zs, zs = [r.sid] := ⟨_, rfl⟩
 have HE : Hid ((rise M.last (newS r)).isSome = (riseF M.last zs).isSome) := by
  show _ = _
  unfold newS
  rw [hk, ZS]
  unfold riseF
  rw [List.filter_cons_of_pos (by simp; omega)]; rfl
 have HZ : Hid (∀ z ∈ zs, 0 ≤ z ∧ z ≤ 2147483647) := by
  rw [ZS]; intro z hz; rw [List.mem_singleton] at hz; subst hz; omega
 obtain ⟨W2, hW2⟩ : ∃ W, W = W1.alloc (.cells #[.int .i64 r.sid] 3) := ⟨_, rfl⟩
 have u2 : Up Nul W1 W2 := by rw [hW2]; exact (Up.refl _ _).alloc _
 have c4' := (h.nxt (u1.trans u2)).cells.2.2.2.2
 have x0' : W2.cell? ⟨w.heap.size, 0, none⟩ = some (.int .i64 r.kind) := (u2.cell (p := ⟨w.heap.size, 0, none⟩) b1.lt id).trans x0
 have hb2 : W2.heap[W1.heap.size]? = some (.cells #[.int .i64 r.sid] 3 (0, 0)) := by rw [hW2]; exact heap_alloc_new _ _
 have HC : Hid (∀ i x, zs[i]? = some x → W2.cell? ⟨W1.heap.size, i, none⟩ = some (.int .i64 x)) := fun i x hx => by
  rw [ZS] at hx
  match i, hx with
  | 0, hx => cases hx; simp [World.cell?, hb2]
 have HUW : Hid (Up Nul w W2) := HU.out.trans u2
 obtain ⟨N, NN⟩ : ∃ N, Hid (zs.length = N) := ⟨_, rfl⟩
 have HN : Hid (N ≤ 100000) := by show _ ≤ _; rw [← NN.out, ZS]; show 1 ≤ 100000; omega
 have hN1 : N = 1 := by rw [← NN.out, ZS]; rfl
 rw [hk] at x0'
 have HZS := hid ZS
 clear hk b1 u1 u2 h hr hs hz HRS HNS x0 x4 c4 ZS hb2
 go_enter Tryz.func24, Tryz.ntmps24
 go_upto_region 1 with fail
 rw [← hW1]
 clear hW1
 go_upto_region 2 with fail
 rw [← hW2]
 clear hW2 x3
 generalize W1.heap.size = P1 at *
 have HN1 := hid hN1
 clear hN1
 go_upto_region 10 with fail
 rw [show (1 : Nat) = N from HN1.out.symm]
 go_wp2_with fail
 go_loopw [7, 6] (fun i y wr => ∃ (t : Nat) (nx : Int), i = .int .i64 t ∧ y = .int .i64 nx ∧ t ≤ N ∧ wr = W2 ∧ Hid (1 ≤ nx ∧ nx ≤ 2147483648) ∧ Hid (riseF M.last zs = riseF (nx - 1) (zs.drop t))) (fun i _ _ => N - (intOf i).toNat)
 case atStart => exact ⟨0, _, rfl, rfl, Nat.zero_le _, by first | rfl | trivial, by have := HL.out; show _ ∧ _; omega, by show _ = _; rw [List.drop_zero, Int.add_sub_cancel]⟩
 case round =>
  obtain ⟨t, nx, rfl, rfl, ht, hwr, hnx, hri⟩ := hrel
  have hww := hwr.symm
  subst hww
  by_cases hlt : t < N
  ·obtain ⟨z, hz⟩ : ∃ z, zs[t]? = some z := ⟨zs[t]'(by rw [NN.out]; exact hlt), List.getElem?_eq_getElem _⟩
   have hc := HC.out t z hz
   have hzb : 0 ≤ z ∧ z ≤ 2147483647 := HZ.out z (List.mem_of_getElem? hz)
   have hd : zs.drop t = z :: zs.drop (t + 1) := by
    have hl := (List.getElem?_eq_some_iff.1 hz).1
    have e := (List.getElem?_eq_some_iff.1 hz).2
    rw [List.drop_eq_getElem_cons hl, e]
   have HD := hid hd
   obtain ⟨t1, T1⟩ : ∃ t1, Hid (t + 1 = t1) := ⟨_, rfl⟩
   have e1 : (t : Int) + 1 = (t1 : Int) := by have := T1.out; omega
   have e2 : IntKind.i64.wrap (t1 : Int) = (t1 : Int) := IntWalk.i64_in _ (by have := HN.out; have := T1.out; omega)
   clear hz hd
   by_cases hz0 : z = 0
   ·have hb0 : (z == 0) = true := by simpa using hz0
    have HRI : Hid (riseF M.last zs = riseF (nx - 1) (zs.drop t1)) := by
     show _ = _
     rw [hri.out, HD.out, hz0, riseF_zero, T1.out]
    clear hri
    subst hz0
    go_wp2_with fail
    go_roundw
    case rel => exact ⟨t1, nx, rfl, rfl, by have := T1.out; omega, by first | rfl | trivial, hnx, HRI⟩
    case measure => (have := T1.out; simp [intOf]; omega)
   ·have hb0 : (z == 0) = false := by simpa using hz0
    by_cases hlz : z < nx
    ·have HRI : Hid ((riseF M.last zs).isSome = false) := by
      show _ = _
      rw [hri.out, HD.out, riseF_bad hz0 (by omega)]; rfl
     clear hri hnx
     go_wp2_with fail
     go_ret
     exact ⟨by rw [HE.out, HRI.out]; rfl, HUW.out⟩
    ·have HRI : Hid (riseF M.last zs = riseF (z + 1 - 1) (zs.drop t1)) := by
      show _ = _
      have e : z + 1 - 1 = z := by omega
      rw [hri.out, HD.out, riseF_good hz0 (by omega), T1.out, e]
     have e3 : IntKind.i64.wrap (z + 1) = z + 1 := IntWalk.i64_in _ (by omega)
     clear hri
     go_wp2_with fail
     go_roundw
     case rel => exact ⟨t1, z + 1, rfl, rfl, by have := T1.out; omega, by first | rfl | trivial, by show _ ∧ _; omega, HRI⟩
     case measure => (have := T1.out; simp [intOf]; omega)
  ·obtain rfl : t = N := by omega
   have HRI : Hid ((riseF M.last zs).isSome = true) := by
    show _ = _
    rw [hri.out, List.drop_eq_nil_of_le (by rw [NN.out]; exact Nat.le_refl _)]; rfl
   clear hri
   go_wp2_with fail
   go_ret
   exact ⟨by rw [HE.out, HRI.out]; rfl, HUW.out⟩
set_option maxRecDepth 10000 in
set_option maxHeartbeats 4000000 in
theorem rfresh_6 (h : RM F w q n Q M ks is kv bv iv sv) (hl : 0 ≤ M.last ∧ M.last ≤ 2147483647) (r : Rc) (sa la : Option Addr) (sc lc : Nat) (hr : RH w r sa la) (hk : r.kind = 6) (hs : 1 ≤ r.sid ∧ r.sid ≤ 2147483647 ∨ 6 = 2 ∨ 6 = 8) (hz : ∀ z ∈ r.sids, 0 ≤ z ∧ z ≤ 2147483647) :
  Calls Tryz.prog 24 #[.pointer (some ⟨q, 0, none⟩), rv r (.slice sa r.sids.length sc) (.slice la r.locs.length lc)] w fun e w' => e = .returned (.bool (rise M.last (newS r)).isSome) ∧ Up Nul w w' := by
 obtain ⟨W1, hW1⟩ : ∃ W, W = w.alloc (.cells (rcellsL r (.slice sa r.sids.length sc) (.slice la r.locs.length lc)) 28) := ⟨_, rfl⟩
 have u1 : Up Nul w W1 := by rw [hW1]; exact (Up.refl Nul w).alloc _
 have b1 : RB W1 w.heap.size r (.slice sa r.sids.length sc) (.slice la r.locs.length lc) := by rw [hW1]; exact RB.new _ _ _ _
 obtain ⟨x0, _, _, x3, x4, _⟩ := b1.cells
 have c4 := (h.nxt u1).cells.2.2.2.2
 have HU := hid u1
 have HRS : Hid (RowI W1 sa r.sids) := hr.s.nxt u1
 have HNS : Hid (r.sids.length ≤ 100000) := hr.ns
 have HL := hid hl
 have HE : Hid ((rise M.last (newS r)).isSome = (riseF M.last r.sids).isSome) := by
  show _ = _
  unfold newS
  rw [hk]; rfl
 have HZ := hid hz
 have u2 : Up Nul W1 (W1.alloc (.cells #[.int .i64 r.sid] 3)) := (Up.refl _ _).alloc _
 have c4 := (h.nxt (u1.trans u2)).cells.2.2.2.2
 have x0 : (W1.alloc (.cells #[.int .i64 r.sid] 3)).cell? ⟨w.heap.size, 0, none⟩ = some (.int .i64 r.kind) := (u2.cell (p := ⟨w.heap.size, 0, none⟩) b1.lt id).trans x0
 have x4 : (W1.alloc (.cells #[.int .i64 r.sid] 3)).cell? ⟨w.heap.size, 4, none⟩ = some (.slice sa r.sids.length sc) := (u2.cell (p := ⟨w.heap.size, 4, none⟩) b1.lt id).trans x4
 have HRS2 : Hid (RowI (W1.alloc (.cells #[.int .i64 r.sid] 3)) sa r.sids) := HRS.out.nxt u2
 have HC : Hid (∀ i x, r.sids[i]? = some x → ∃ g o, sa = some ⟨g, o, none⟩ ∧ (W1.alloc (.cells #[.int .i64 r.sid] 3)).cell? ⟨g, o + i, none⟩ = some (.int .i64 x)) := fun i x hx => by
  rcases HRS2.out with e | ⟨g, o, e, hg, hc⟩
  ·rw [e] at hx; cases hx
  ·exact ⟨g, o, e, hc i x hx⟩
 have HUW : Hid (Up Nul w (W1.alloc (.cells #[.int .i64 r.sid] 3))) := HU.out.trans u2
 obtain ⟨zs, ZS⟩ : ∃ zs, Hid (r.sids = zs) := ⟨_, rfl⟩
 rw [ZS.out] at HE HZ HC HNS x4
 obtain ⟨N, NN⟩ : ∃ N, Hid (zs.length = N) := ⟨_, rfl⟩
 rw [NN.out] at HNS x4
 have HN := HNS
 rw [hk] at x0
 clear hk b1 u1 u2 h hr hs hz HRS HRS2
 go_enter Tryz.func24, Tryz.ntmps24
 go_upto_region 1 with fail
 rw [← hW1]
 clear hW1
 go_wp2_with fail
 go_loopw [7, 6] (fun i y wr => ∃ (t : Nat) (nx : Int), i = .int .i64 t ∧ y = .int .i64 nx ∧ t ≤ N ∧ wr = W1.alloc (.cells #[.int .i64 r.sid] 3) ∧ Hid (1 ≤ nx ∧ nx ≤ 2147483648) ∧ Hid (riseF M.last zs = riseF (nx - 1) (zs.drop t))) (fun i _ _ => N - (intOf i).toNat)
 case atStart => exact ⟨0, _, rfl, rfl, Nat.zero_le _, by first | rfl | trivial, by have := HL.out; show _ ∧ _; omega, by show _ = _; rw [List.drop_zero, Int.add_sub_cancel]⟩
 case round =>
  obtain ⟨t, nx, rfl, rfl, ht, hwr, hnx, hri⟩ := hrel
  have hww := hwr.symm
  subst hww
  by_cases hlt : t < N
  ·obtain ⟨z, hz⟩ : ∃ z, zs[t]? = some z := ⟨zs[t]'(by rw [NN.out]; exact hlt), List.getElem?_eq_getElem _⟩
   obtain ⟨g, o, rfl, hc⟩ := HC.out t z hz
   have hzb : 0 ≤ z ∧ z ≤ 2147483647 := HZ.out z (List.mem_of_getElem? hz)
   have hd : zs.drop t = z :: zs.drop (t + 1) := by
    have hl := (List.getElem?_eq_some_iff.1 hz).1
    have e := (List.getElem?_eq_some_iff.1 hz).2
    rw [List.drop_eq_getElem_cons hl, e]
   have HD := hid hd
   obtain ⟨t1, T1⟩ : ∃ t1, Hid (t + 1 = t1) := ⟨_, rfl⟩
   have e1 : (t : Int) + 1 = (t1 : Int) := by have := T1.out; omega
   have e2 : IntKind.i64.wrap (t1 : Int) = (t1 : Int) := IntWalk.i64_in _ (by have := HN.out; have := T1.out; omega)
   clear hz hd
   by_cases hz0 : z = 0
   ·have hb0 : (z == 0) = true := by simpa using hz0
    have HRI : Hid (riseF M.last zs = riseF (nx - 1) (zs.drop t1)) := by
     show _ = _
     rw [hri.out, HD.out, hz0, riseF_zero, T1.out]
    clear hri
    subst hz0
    go_wp2_with fail
    go_roundw
    case rel => exact ⟨t1, nx, rfl, rfl, by have := T1.out; omega, by first | rfl | trivial, hnx, HRI⟩
    case measure => (have := T1.out; simp [intOf]; omega)
   ·have hb0 : (z == 0) = false := by simpa using hz0
    by_cases hlz : z < nx
    ·have HRI : Hid ((riseF M.last zs).isSome = false) := by
      show _ = _
      rw [hri.out, HD.out, riseF_bad hz0 (by omega)]; rfl
     clear hri hnx
     go_wp2_with fail
     go_ret
     exact ⟨by rw [HE.out, HRI.out]; rfl, HUW.out⟩
    ·have HRI : Hid (riseF M.last zs = riseF (z + 1 - 1) (zs.drop t1)) := by
      show _ = _
      have e : z + 1 - 1 = z := by omega
      rw [hri.out, HD.out, riseF_good hz0 (by omega), T1.out, e]
     have e3 : IntKind.i64.wrap (z + 1) = z + 1 := IntWalk.i64_in _ (by omega)
     clear hri
     go_wp2_with fail
     go_roundw
     case rel => exact ⟨t1, z + 1, rfl, rfl, by have := T1.out; omega, by first | rfl | trivial, by show _ ∧ _; omega, HRI⟩
     case measure => (have := T1.out; simp [intOf]; omega)
  ·obtain rfl : t = N := by omega
   have HRI : Hid ((riseF M.last zs).isSome = true) := by
    show _ = _
    rw [hri.out, List.drop_eq_nil_of_le (by rw [NN.out]; exact Nat.le_refl _)]; rfl
   clear hri
   go_wp2_with fail
   go_ret
   exact ⟨by rw [HE.out, HRI.out]; rfl, HUW.out⟩
set_option maxRecDepth 10000 in
set_option maxHeartbeats 4000000 in
theorem rfresh_7 (h : RM F w q n Q M ks is kv bv iv sv) (hl : 0 ≤ M.last ∧ M.last ≤ 2147483647) (r : Rc) (sa la : Option Addr) (sc lc : Nat) (hr : RH w r sa la) (hk : r.kind = 7) (hs : 1 ≤ r.sid ∧ r.sid ≤ 2147483647 ∨ 7 = 2 ∨ 7 = 8) (hz : ∀ z ∈ r.sids, 0 ≤ z ∧ z ≤ 2147483647) :
  Calls Tryz.prog 24 #[.pointer (some ⟨q, 0, none⟩), rv r (.slice sa r.sids.length sc) (.slice la r.locs.length lc)] w fun e w' => e = .returned (.bool (rise M.last (newS r)).isSome) ∧ Up Nul w w' := by
 obtain ⟨W1, hW1⟩ : ∃ W, W = w.alloc (.cells (rcellsL r (.slice sa r.sids.length sc) (.slice la r.locs.length lc)) 28) := ⟨_, rfl⟩
 have u1 : Up Nul w W1 := by rw [hW1]; exact (Up.refl Nul w).alloc _
 have b1 : RB W1 w.heap.size r (.slice sa r.sids.length sc) (.slice la r.locs.length lc) := by rw [hW1]; exact RB.new _ _ _ _
 obtain ⟨x0, _, _, x3, x4, _⟩ := b1.cells
 have c4 := (h.nxt u1).cells.2.2.2.2
 have HU := hid u1
 have HRS : Hid (RowI W1 sa r.sids) := hr.s.nxt u1
 have HNS : Hid (r.sids.length ≤ 100000) := hr.ns
 have HL := hid hl
 have HE : Hid ((rise M.last (newS r)).isSome = true) := by
  show _ = _
  unfold newS
  rw [hk]; rfl
 rw [HE.out]
 rw [hk] at x0
 obtain ⟨W2, hW2⟩ : ∃ W, W = W1.alloc (.cells #[.int .i64 r.sid] 3) := ⟨_, rfl⟩
 have u2 : Up Nul W1 W2 := by rw [hW2]; exact (Up.refl _ _).alloc _
 have x0' : W2.cell? ⟨w.heap.size, 0, none⟩ = some (.int .i64 7) := (u2.cell (p := ⟨w.heap.size, 0, none⟩) b1.lt id).trans x0
 have HUW : Hid (Up Nul w W2) := HU.out.trans u2
 clear HE hk b1 u1 u2 x0 x4 c4 h hr hs hz
 go_enter Tryz.func24, Tryz.ntmps24
 go_upto_region 1 with fail
 rw [← hW1]
 clear hW1
 go_upto_region 2 with fail
 rw [← hW2]
 clear hW2
 go_wp2_with fail
 go_ret
 exact ⟨rfl, HUW.out⟩
set_option maxRecDepth 10000 in
set_option maxHeartbeats 4000000 in
theorem rfresh_8 (h : RM F w q n Q M ks is kv bv iv sv) (hl : 0 ≤ M.last ∧ M.last ≤ 2147483647) (r : Rc) (sa la : Option Addr) (sc lc : Nat) (hr : RH w r sa la) (hk : r.kind = 8) (hs : 1 ≤ r.sid ∧ r.sid ≤ 2147483647 ∨ 8 = 2 ∨ 8 = 8) (hz : ∀ z ∈ r.sids, 0 ≤ z ∧ z ≤ 2147483647) :
  Calls Tryz.prog 24 #[.pointer (some ⟨q, 0, none⟩), rv r (.slice sa r.sids.length sc) (.slice la r.locs.length lc)] w fun e w' => e = .returned (.bool (rise M.last (newS r)).isSome) ∧ Up Nul w w' := by
 obtain ⟨W1, hW1⟩ : ∃ W, W = w.alloc (.cells (rcellsL r (.slice sa r.sids.length sc) (.slice la r.locs.length lc)) 28) := ⟨_, rfl⟩
 have u1 : Up Nul w W1 := by rw [hW1]; exact (Up.refl Nul w).alloc _
 have b1 : RB W1 w.heap.size r (.slice sa r.sids.length sc) (.slice la r.locs.length lc) := by rw [hW1]; exact RB.new _ _ _ _
 obtain ⟨x0, _, _, x3, x4, _⟩ := b1.cells
 have c4 := (h.nxt u1).cells.2.2.2.2
 have HU := hid u1
 have HRS : Hid (RowI W1 sa r.sids) := hr.s.nxt u1
 have HNS : Hid (r.sids.length ≤ 100000) := hr.ns
 have HL := hid hl
 have HE : Hid ((rise M.last (newS r)).isSome = true) := by
  show _ = _
  unfold newS
  rw [hk]; rfl
 rw [HE.out]
 rw [hk] at x0
 obtain ⟨W2, hW2⟩ : ∃ W, W = W1.alloc (.cells #[.int .i64 r.sid] 3) := ⟨_, rfl⟩
 have u2 : Up Nul W1 W2 := by rw [hW2]; exact (Up.refl _ _).alloc _
 have x0' : W2.cell? ⟨w.heap.size, 0, none⟩ = some (.int .i64 8) := (u2.cell (p := ⟨w.heap.size, 0, none⟩) b1.lt id).trans x0
 have HUW : Hid (Up Nul w W2) := HU.out.trans u2
 clear HE hk b1 u1 u2 x0 x4 c4 h hr hs hz
 go_enter Tryz.func24, Tryz.ntmps24
 go_upto_region 1 with fail
 rw [← hW1]
 clear hW1
 go_upto_region 2 with fail
 rw [← hW2]
 clear hW2
 go_wp2_with fail
 go_ret
 exact ⟨rfl, HUW.out⟩

end
end Go.Proofs.YtepggchnhgpcnaaGreatDoor
