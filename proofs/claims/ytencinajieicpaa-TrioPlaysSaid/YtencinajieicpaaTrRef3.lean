/- The document's Trio: Open. -/
import Derived.Test.YtencinajieicpaaTrRef
import Derived.Test.YtencinajieicpaaTrRef2
import Derived.Test.YtencinajieicpaaTrRSplit
import Derived.Test.YtencinajieicpaaTrAlign
import Derived.Test.YtencinajieicpaaTrOpenR
import Derived.Deep.CutBlock
import Derived.Deep.DeepCutAuto
namespace Go.Proofs.Ytencinajieicpaa
open Go.RowKit
set_option linter.unusedVariables false

def inS (S : Nat → TS) (i : Nat) (m : List (List Nat)) (x : Nat) : List (List Nat) := (List.range x).foldl (fun m y => longer m (cand S i y)) m
def ouS (S : Nat → TS) (i : Nat) : List (List Nat) := (List.range i).foldl (fun m y => inS S y m y) []
theorem inS_succ (S : Nat → TS) (i : Nat) (m : List (List Nat)) (x : Nat) : inS S i m (x + 1) = longer (inS S i m x) (cand S i x) := by unfold inS; rw [List.range_succ, List.foldl_append]; rfl
theorem ouS_succ (S : Nat → TS) (i : Nat) : ouS S (i + 1) = inS S i (ouS S i) i := by unfold ouS; rw [List.range_succ, List.foldl_append]; rfl
theorem ouS_bst (S : Nat → TS) : ouS S 3 = bst S := rfl
theorem longer_none (m : List (List Nat)) : longer m [] = m := by unfold longer; rw [if_neg (by simp)]
theorem cand_off (S : Nat → TS) (i x : Nat) (h : (S i).live = false ∨ (S x).live = false) : cand S i x = [] := by
  unfold cand
  rcases h with h | h <;> rw [h] <;> simp
theorem cand_on (S : Nat → TS) (i x : Nat) (h1 : (S i).live = true) (h2 : (S x).live = true) : cand S i x = com (spl (S i).B) (spl (S x).B) := by
  unfold cand
  rw [h1, h2]
  rfl
theorem str_from (s : ByteArray) (k : Nat) (h : k ≤ s.size) (W : World) : (Instr.slice 9 (.string s) (some (.int .i64 (k : Int))) none none).run Try.prog W = .ok (.string (s.extract k s.size)) W := by
  rw [run_slice_string_l (P := Try.prog) W 9 s Try.underlying9 .i64 k (by omega) (by omega)]
  simp
theorem strOf_drop (z : List Nat) (n : Nat) : (strOf z).extract n (strOf z).size = strOf (z.drop n) := by
  rw [strOf_extract, strOf_size, List.take_of_length_le (by rw [List.length_drop]; exact Nat.le_refl _)]
theorem spl_len (b : List Nat) : (spl b).length ≤ b.length := by
  obtain ⟨t, h⟩ := flt_spl b
  have h1 := congrArg List.length h
  have h2 := flt_many (spl b)
  rw [List.length_append] at h1
  omega
theorem spl_byt {b : List Nat} (hb : ∀ i, b.getD i 0 < 256) : Byt (spl b) := by
  have h0 : ∀ x ∈ b, x < 256 := fun x hx => by
    obtain ⟨i, hi, rfl⟩ := List.mem_iff_getElem.1 hx
    have := hb i
    rwa [List.getD_eq_getElem?_getD, List.getElem?_eq_getElem hi] at this
  obtain ⟨t, ht⟩ := flt_spl b
  intro y hy i
  rw [List.getD_eq_getElem?_getD]
  cases hx : y[i]? with
  | none => simp
  | some x =>
    have hxy := List.mem_of_getElem? hx
    refine h0 x ?_
    rw [ht]
    refine List.mem_append_left _ ?_
    unfold flt
    exact List.mem_flatten.2 ⟨enc y, List.mem_map.2 ⟨y, hy, rfl⟩, List.mem_cons_of_mem _ hxy⟩
/-- The bytes of live Tapes are bytes. -/
def Byl (S : Nat → TS) : Prop := ∀ i, i < 3 → (S i).live = true → ∀ j, (S i).B.getD j 0 < 256
theorem flt_byt {S : Nat → TS} (h : Byl S) : ∀ j, (flt (bst S)).getD j 0 < 256 := by
  rcases bst_pre S with e | ⟨i, t, hi, hv, e⟩
  · rw [e]; intro j; simp [flt]
  · obtain ⟨s, hs⟩ := flt_spl (S i).B
    rw [e, flt_append, List.append_assoc] at hs
    intro j
    have h1 := h i hi hv j
    rw [hs] at h1
    rcases Nat.lt_or_ge j (flt (bst S)).length with hj | hj
    · simp only [List.getD_eq_getElem?_getD] at h1 ⊢
      rwa [List.getElem?_append_left hj] at h1
    · rw [List.getD_eq_getElem?_getD, List.getElem?_eq_none hj]; decide
theorem bst_byt {S : Nat → TS} (h : Byl S) : Byt (bst S) := by
  rcases bst_pre S with e | ⟨i, t, hi, hv, e⟩
  · rw [e]; exact fun y hy => by cases hy
  · exact fun y hy => spl_byt (h i hi hv) y (by rw [e]; exact List.mem_append_left _ hy)
theorem bst_fit {w : World} {qm : Nat → Nat} {v : Nat} {k : Option Nat} {S : Nat → TS} (h : DS w qm v k S) : (∀ y ∈ bst S, Rec y) ∧ (flt (bst S)).length ≤ 65536 := by
  rcases bst_pre S with e | ⟨i, t, hi, hv, e⟩
  · rw [e]; exact ⟨fun y hy => (by cases hy), Nat.zero_le _⟩
  · refine ⟨fun y hy => spl_rec (b := (S i).B) (by rw [e]; exact List.mem_append_left _ hy), ?_⟩
    obtain ⟨s, hs⟩ := flt_spl (S i).B
    have h1 := congrArg List.length hs
    rw [e, flt_append, List.append_assoc, List.length_append] at h1
    have := (h.r.t i hi).le
    omega
section
variable {w w' : World} {qm : Nat → Nat} {v m N : Nat} {k k' : Option Nat} {S S' : Nat → TS}
/-- What the document's Open tells. -/
def ROp (w : World) (qm : Nat → Nat) (v : Nat) (r : Int × List (List Nat) × (Nat → TS) × Option Nat) (e : Ending) (w' : World) : Prop :=
  (r.1 = 0 ∧ ∃ m x, e = .returned (.tuple #[.pointer (some ⟨m, 0, none⟩), x, .int .i64 0]) ∧ RowS w' x r.2.1 ∧ RTx w' m qm v r.2.1.length r.2.2.2 r.2.2.1 ∧ w.heap.size ≤ m ∧ Up (Rx qm v) w w') ∨
  (¬ r.1 = 0 ∧ e = .returned (.tuple #[.pointer none, .slice none 0 0, .int .i64 r.1]) ∧ DS w' qm v r.2.2.2 r.2.2.1 ∧ Up (Rx qm v) w w')
theorem DS.far (h : DS w qm v k S) : ∀ g, w.heap.size ≤ g → ¬ Rx qm v g := fun g hg e => by
  rcases e with ⟨i, hi, e⟩ | e
  · have := (h.r.t i hi).lt; omega
  · have := h.z.lt; omega
set_option maxRecDepth 100000 in
set_option maxHeartbeats 12800000 in
theorem ropen_any (h : DS w qm v k S) (hb : Byl S) : Calls Try.prog 33 #[.agg #[.pointer (some ⟨qm 0, 0, none⟩), .pointer (some ⟨qm 1, 0, none⟩), .pointer (some ⟨qm 2, 0, none⟩)]] w (ROp w qm v (tOpn S k)) := by
  have u1 : Up Nul w (w.alloc (.cells #[.pointer (some ⟨qm 0, 0, none⟩), .pointer (some ⟨qm 1, 0, none⟩), .pointer (some ⟨qm 2, 0, none⟩)] 56)) := (Up.refl Nul w).alloc _
  have u2 : Up Nul (w.alloc (.cells #[.pointer (some ⟨qm 0, 0, none⟩), .pointer (some ⟨qm 1, 0, none⟩), .pointer (some ⟨qm 2, 0, none⟩)] 56)) ((w.alloc (.cells #[.pointer (some ⟨qm 0, 0, none⟩), .pointer (some ⟨qm 1, 0, none⟩), .pointer (some ⟨qm 2, 0, none⟩)] 56)).alloc (rtc qm 0)) := (Up.refl Nul _).alloc _
  have HU := hid (u1.trans u2)
  have HCL : Hid (∀ i, i < 3 → ((w.alloc (.cells #[.pointer (some ⟨qm 0, 0, none⟩), .pointer (some ⟨qm 1, 0, none⟩), .pointer (some ⟨qm 2, 0, none⟩)] 56)).alloc (rtc qm 0)).cell? ⟨w.heap.size, i, none⟩ = some (.pointer (some ⟨qm i, 0, none⟩))) := fun i hi => by
    refine (u2.cell (p := ⟨w.heap.size, i, none⟩) (by simp) id).trans ?_
    match i, hi with
    | 0, _ => exact World.cell?_alloc_new w _ _ 0
    | 1, _ => exact World.cell?_alloc_new w _ _ 1
    | 2, _ => exact World.cell?_alloc_new w _ _ 2
  have HHD : Hid (((w.alloc (.cells #[.pointer (some ⟨qm 0, 0, none⟩), .pointer (some ⟨qm 1, 0, none⟩), .pointer (some ⟨qm 2, 0, none⟩)] 56)).alloc (rtc qm 0)).heap[w.heap.size + 1]? = some (rtc qm 0)) := by
    exact heap_alloc2_new w _ _
  have HD := hid (h.nxt HU.out)
  have HLI := hid (rlive_any HD.out HHD.out)
  have HFAR := hid h.far
  have HB := hid hb
  have HLE : Hid (∀ i, i < 3 → (S i).B.length ≤ 65536) := fun i hi => (h.r.t i hi).le
  obtain ⟨R, HRR⟩ : ∃ R : Ending → World → Prop, Hid (R = ROp w qm v (tOpn S k)) := ⟨_, rfl⟩
  rw [← HRR.out]
  obtain ⟨W2, HW2⟩ : ∃ W2, (w.alloc (.cells #[.pointer (some ⟨qm 0, 0, none⟩), .pointer (some ⟨qm 1, 0, none⟩), .pointer (some ⟨qm 2, 0, none⟩)] 56)).alloc (rtc qm 0) = W2 := ⟨_, rfl⟩
  rw [HW2] at HU HCL HHD HD HLI
  obtain ⟨nl, NL⟩ : ∃ nl, Hid (nlv S = nl) := ⟨_, rfl⟩
  rw [NL.out] at HLI
  have hw2 : (w.alloc (.cells #[.pointer (some ⟨qm 0, 0, none⟩), .pointer (some ⟨qm 1, 0, none⟩), .pointer (some ⟨qm 2, 0, none⟩)] 56)).alloc (.cells #[.pointer (some ⟨qm 0, 0, none⟩), .pointer (some ⟨qm 1, 0, none⟩), .pointer (some ⟨qm 2, 0, none⟩), .int .i64 0] 58) = W2 := HW2
  have HWW := hid hw2
  clear h hb u1 u2 HW2 hw2
  go_enter Try.func33, Try.ntmps33
  go_wp2_with fail
  rw [HWW.out]
  refine HLI.out.mono ?_
  rintro e w1 ⟨rfl, rfl⟩
  clear HWW HLI
  by_cases h2 : nl < 2
  · have ht : tOpn S k = (8, [], S, k) := by unfold tOpn; rw [if_pos (by rw [NL.out]; exact h2)]
    rw [ht] at HRR
    have i1 : (nl : Int) < 2 := by omega
    clear h2 ht
    go_wp2_with fail
    go_ret3
    rw [HRR.out]
    exact .inr ⟨(show ¬ (8 : Int) = 0 by decide), rfl, HD.out, HU.out.nul⟩
  have i1 : ¬ (nl : Int) < 2 := by omega
  have HOP : Hid (tOpn S k = match goN (fxA (bst S)) S k 3 with | (false, S1, k1) => (4, [], S1, k1) | (true, S1, k1) => (0, bst S, S1, k1)) := by
    show _ = _
    unfold tOpn
    rw [if_neg (by rw [NL.out]; exact h2)]
    generalize goN (fxA (bst S)) S k 3 = x
    obtain ⟨b, S1, k1⟩ := x
    cases b <;> rfl
  obtain ⟨lb, LB⟩ : ∃ lb, Hid (w.heap.size = lb) := ⟨_, rfl⟩
  rw [LB.out] at HCL HHD HFAR ⊢
  have HLBS : Hid (lb + 1 < w1.heap.size) := (Array.getElem?_eq_some_iff.1 HHD.out).1
  clear h2
  go_upto_block 0 with fail
  go_cut [6] (fun s6 wx => RSc lb wx s6 (bst S) ∧ Up Nul w1 wx)
  case first =>
    as_aux_lemma =>
      go_wp2_with fail
      go_loopw [6, 7] (fun bv i wr => ∃ j : Nat, j ≤ 3 ∧ i = .int .i64 (j : Nat) ∧ RSc lb wr bv (ouS S j) ∧ (ouS S j).length ≤ 65536 ∧ Up Nul w1 wr) (fun _ i _ => 3 - (intOf i).toNat)
      case atStart => exact ⟨0, Nat.zero_le _, rfl, RSc.nil _ _, Nat.zero_le _, Up.refl _ _⟩
      case round =>
        obtain ⟨j, hj, rfl, hb, hbl, hu⟩ := hrel
        have HB1 := hid hb
        have HBL := hid hbl
        have HU1 := hid hu
        have i0 : (0 : Int) ≤ (j : Int) := by omega
        by_cases hlt : j < 3
        · have i2 : (j : Int) < 3 := by omega
          have HJ := hid hlt
          have HOS := hid (ouS_succ S j)
          generalize ouS S j = m0 at HB1 HBL HOS
          clear hj hb hbl hu
          go_wp2_with fail
          go_loopw [6, 8] (fun bv i wr => ∃ x : Nat, x ≤ j ∧ i = .int .i64 (x : Nat) ∧ RSc lb wr bv (inS S j m0 x) ∧ (inS S j m0 x).length ≤ 65536 ∧ Up Nul w1 wr) (fun _ i _ => j - (intOf i).toNat)
          case atStart => exact ⟨0, Nat.zero_le _, rfl, HB1.out, HBL.out, HU1.out⟩
          case round =>
            clear HB1 HBL HU1
            obtain ⟨x, hx, rfl, hb, hbl, hu⟩ := hrel
            have HB1 := hid hb
            have HBL := hid hbl
            have HU1 := hid hu
            have j0 : (0 : Int) ≤ (x : Int) := by omega
            by_cases hxl : x < j
            · have j1 : (x : Int) < (j : Int) := by omega
              have j2 : (x : Int) < 3 := by omega
              have hx3 : x < 3 := by omega
              have HXJ := hid hxl
              have cj := (HU1.out.cell (p := ⟨lb, j, none⟩) (show lb < w1.heap.size from by have := HLBS.out; omega) id).trans (HCL.out j hlt)
              have cx := (HU1.out.cell (p := ⟨lb, x, none⟩) (show lb < w1.heap.size from by have := HLBS.out; omega) id).trans (HCL.out x hx3)
              have hd := HD.out.nxt HU1.out
              have lj := hd.live hlt
              have lx := hd.live hx3
              have HIS := hid (inS_succ S j m0 x)
              generalize inS S j m0 x = m1 at HB1 HBL HIS
              clear hx hxl hb hbl hu
              cases hvj : (S j).live with
              | false =>
                rw [hvj] at lj
                have HNX : Hid (inS S j m0 (x + 1) = m1) := by show _ = _; rw [HIS.out, cand_off S j x (.inl hvj), longer_none]
                clear hvj hd hlt hx3
                go_wp2_with fail
                go_roundw
                case rel => exact ⟨x + 1, HXJ.out, by go_num, by rw [HNX.out]; exact HB1.out, by rw [HNX.out]; exact HBL.out, HU1.out⟩
                case measure => have := HXJ.out; simp [intOf]; omega
              | true =>
                rw [hvj] at lj
                cases hvx : (S x).live with
                | false =>
                  rw [hvx] at lx
                  have HNX : Hid (inS S j m0 (x + 1) = m1) := by show _ = _; rw [HIS.out, cand_off S j x (.inr hvx), longer_none]
                  clear hvj hvx hd hlt hx3
                  go_wp2_with fail
                  go_roundw
                  case rel => exact ⟨x + 1, HXJ.out, by go_num, by rw [HNX.out]; exact HB1.out, by rw [HNX.out]; exact HBL.out, HU1.out⟩
                  case measure => have := HXJ.out; simp [intOf]; omega
                | true =>
                  rw [hvx] at lx
                  have hby := HB.out
                  have bj := hd.byt hlt
                  have bx := hd.byt hx3
                  have HBJ := hid fun W (u : Up Nul w1 W) => ((HD.out.nxt u).byt hlt)
                  have HBX := hid fun W (u : Up Nul w1 W) => ((HD.out.nxt u).byt hx3)
                  have HLX := hid fun W (u : Up Nul w1 W) => (HD.out.nxt u).live hx3
                  rw [hvx] at HLX
                  have HCX := hid fun W (u : Up Nul w1 W) => (u.cell (p := ⟨lb, x, none⟩) (show lb < w1.heap.size from by have := HLBS.out; omega) id).trans (HCL.out x hx3)
                  have HSJ := hid fun W => rsplit_any W (S j).B (hby j hlt hvj) (by have := HLE.out j hlt; omega)
                  have HSX := hid fun W => rsplit_any W (S x).B (hby x hx3 hvx) (by have := HLE.out x hx3; omega)
                  have HTJ := hid (spl_byt (hby j hlt hvj))
                  have HTX := hid (spl_byt (hby x hx3 hvx))
                  have HNJ := hid (spl_len (S j).B)
                  have HNXL := hid (spl_len (S x).B)
                  have hle1 := HLE.out j hlt
                  have hle2 := HLE.out x hx3
                  have HLL := hid (And.intro hle1 hle2)
                  have HCD := hid (cand_on S j x hvj hvx)
                  rw [HCD.out] at HIS
                  generalize spl (S j).B = sj at HSJ HTJ HNJ HIS
                  generalize spl (S x).B = sx at HSX HTX HNXL HIS
                  generalize strOf (S j).B = zj at bj HBJ HSJ
                  generalize strOf (S x).B = zx at bx HBX HSX
                  clear hvj hvx hd hlt hx3 hby HCD hle1 hle2
                  go_wp2_with fail
                  refine (HSJ.out _).mono ?_
                  rintro e w3 ⟨v3, rfl, ho3, u3⟩
                  have U3 := hid (HU1.out.trans u3)
                  have HB3 := hid (HB1.out.nxt u3)
                  have HO3 : Hid (RSc lb w3 v3 sj) := RSc.of ho3 (by have := HU1.out.size; have := HLBS.out; omega)
                  obtain ⟨s3a, s3c, rfl⟩ := ho3.shape
                  have cx3 := HCX.out _ U3.out
                  have bx3 := HBX.out _ U3.out
                  clear ho3 u3 bj bx cj cx lj lx
                  go_wp2_with fail
                  refine (HSX.out _).mono ?_
                  rintro e w4 ⟨v4, rfl, ho4, u4⟩
                  have U4 := hid (U3.out.trans u4)
                  have HB4 := hid (HB3.out.nxt u4)
                  have HCO := hid (common_any (HO3.out.nxt u4) ho4.rowS (by have := HNJ.out; have := HNXL.out; have := HLL.out; omega) HTJ.out HTX.out)
                  obtain ⟨s4a, s4c, rfl⟩ := ho4.shape
                  clear ho4 u4 cx3 bx3
                  go_wp2_with fail
                  refine HCO.out.mono ?_
                  rintro e w5 ⟨v5, rfl, ho5, u5⟩
                  have U5 := hid (U4.out.trans u5)
                  have HO5 := hid ho5
                  have HB5 := hid (HB4.out.nxt u5)
                  obtain ⟨_, s5a, s5c, rfl, _, _⟩ := ho5
                  obtain ⟨_, bba, bbc, rfl, _, _⟩ := HB5.out
                  obtain ⟨cm, CM⟩ : ∃ cm, Hid (com sj sx = cm) := ⟨_, rfl⟩
                  have HCML : Hid (cm.length ≤ 65536) := by
                    have := (com_le sj sx).1
                    have := HNJ.out
                    have := HLL.out.1
                    show _ ≤ _
                    rw [← CM.out]
                    omega
                  rw [CM.out] at HO5 HIS ⊢
                  obtain ⟨nc, NC⟩ : ∃ nc, Hid (cm.length = nc) := ⟨_, rfl⟩
                  obtain ⟨nm, NM⟩ : ∃ nm, Hid (m1.length = nm) := ⟨_, rfl⟩
                  rw [NC.out] at HO5 ⊢
                  rw [NM.out] at HB5 ⊢
                  clear u5 HCO HB1 HB3 HB4
                  by_cases hmore : nm < nc
                  · have HLG : Hid (inS S j m0 (x + 1) = cm) := by show _ = _; rw [HIS.out]; unfold longer; rw [if_pos (by rw [NM.out, NC.out]; exact hmore)]
                    have j3 : (nm : Int) < (nc : Int) := by omega
                    clear hmore
                    go_wp2_with fail
                    go_roundw
                    case rel => exact ⟨x + 1, HXJ.out, by go_num, by rw [HLG.out]; exact HO5.out, by rw [HLG.out]; exact HCML.out, U5.out⟩
                    case measure => have := HXJ.out; simp [intOf]; omega
                  · have HLG : Hid (inS S j m0 (x + 1) = m1) := by show _ = _; rw [HIS.out]; unfold longer; rw [if_neg (by rw [NM.out, NC.out]; exact hmore)]
                    have j3 : ¬ (nm : Int) < (nc : Int) := by omega
                    clear hmore
                    go_wp2_with fail
                    go_roundw
                    case rel => exact ⟨x + 1, HXJ.out, by go_num, by rw [HLG.out]; exact HB5.out, by rw [HLG.out]; exact HBL.out, U5.out⟩
                    case measure => have := HXJ.out; simp [intOf]; omega
            · obtain rfl : x = j := by omega
              clear hx hxl hb hbl hu
              go_wp2_with fail
              go_roundw
              case rel => exact ⟨x + 1, HJ.out, by go_num, by rw [HOS.out]; exact HB1.out, by rw [HOS.out]; exact HBL.out, HU1.out⟩
              case measure => have := HJ.out; simp [intOf]; omega
        · obtain rfl : j = 3 := by omega
          clear hj hb hbl hu hlt
          go_wp2_with fail
          go_meet
          case rel => exact ⟨HB1.out, HU1.out⟩
  case rest =>
    obtain ⟨hb6, hu6⟩ := hcut
    have HBF := hid (bst_fit HD.out)
    have HBY := hid (bst_byt HB.out)
    have HFB := hid (flt_byt HB.out)
    obtain ⟨BS, BB⟩ : ∃ B, Hid (bst S = B) := ⟨_, rfl⟩
    rw [BB.out] at HBF HBY HFB HOP hb6
    have HBN := hid (flt_many BS)
    have HJO := hid (join_any hb6.1 (fun y hy => by have := HBF.out.1 y hy; unfold Rec at this; omega) (by have := HBF.out.2; have := HBN.out; omega) (by have := HBF.out.2; omega))
    have HB6 := hid hb6
    have HU6 := hid hu6
    obtain ⟨_, ba, bc, rfl, _, _⟩ := hb6
    obtain ⟨nb, NB⟩ : ∃ nb, Hid (BS.length = nb) := ⟨_, rfl⟩
    rw [NB.out] at HJO HB6 ⊢
    obtain ⟨FB, FF⟩ : ∃ F, Hid (flt BS = F) := ⟨_, rfl⟩
    rw [FF.out] at HBF HFB HJO
    have hsF : (strOf FB).size = FB.length := strOf_size FB
    have HSF := hid hsF
    obtain ⟨sF, SF⟩ : ∃ s, Hid (strOf FB = s) := ⟨_, rfl⟩
    rw [SF.out] at HJO hsF
    clear hu6
    go_wp2_with fail
    refine HJO.out.mono ?_
    rintro e w3 ⟨rfl, u3⟩
    have U3 := hid (HU6.out.trans u3)
    have HB3 := hid (HB6.out.nxt u3)
    have HD3 := hid (HD.out.nxt U3.out)
    have HC3 := hid fun i hi => (U3.out.cell (p := ⟨lb, i, none⟩) (show lb < w1.heap.size from by have := HLBS.out; omega) id).trans (HCL.out i hi)
    have HS3 : Hid (lb + 1 < w3.heap.size) := Nat.lt_of_lt_of_le HLBS.out U3.out.size
    have HH3 : Hid (w3.heap[lb + 1]? = some (rtc qm 0)) := (U3.out.block (lb + 1) HLBS.out id).trans HHD.out
    clear u3 HJO HB6 HU6 HCL HHD
    go_wp2_with fail
    go_loopw [15] (fun i wr => ∃ (j : Nat) (S1 : Nat → TS) (k1 : Option Nat), j ≤ 3 ∧ i = .int .i64 (j : Nat) ∧ goN (fxA BS) S k j = (true, S1, k1) ∧ DS wr qm v k1 S1 ∧ Up (Rx qm v) w3 wr) (fun i _ => 3 - (intOf i).toNat)
    case atStart => exact ⟨0, S, k, Nat.zero_le _, rfl, rfl, HD3.out, Up.refl _ _⟩
    case round =>
      obtain ⟨j, S1, k1, hj, rfl, hg, hd, hu⟩ := hrel
      have HX := hid hd
      have HU1 := hid hu
      have i0 : (0 : Int) ≤ (j : Int) := by omega
      by_cases hlt : j < 3
      · have i2 : (j : Int) < 3 := by omega
        have HJ := hid hlt
        have HCJ := hid fun W (u : Up (Rx qm v) w3 W) => (u.cell (p := ⟨lb, j, none⟩) (show lb < w3.heap.size from by have := HS3.out; omega) (HFAR.out lb (Nat.le_refl _))).trans (HC3.out j hlt)
        have cj := HCJ.out _ HU1.out
        have lj := hd.live hlt
        have bj := hd.byt hlt
        have hS : S1 j = S j := by
          have := goN_rest (act := fxA BS) (S := S) (k := k) j j (Nat.le_refl _)
          rw [hg] at this
          exact this
        have H3 : Hid (∀ {S2 : Nat → TS} {k2 : Option Nat}, goN (fxA BS) S k (j + 1) = (false, S2, k2) → goN (fxA BS) S k 3 = (false, S2, k2)) := fun {S2 k2} h1 => by
          obtain e | e | e : j = 0 ∨ j = 1 ∨ j = 2 := by omega
          · subst e; exact goN_no (goN_no h1)
          · subst e; exact goN_no h1
          · subst e; exact h1
        cases hv : (S1 j).live with
        | false =>
          rw [hv] at lj
          have HNX : Hid (goN (fxA BS) S k (j + 1) = (true, S1, k1)) := by
            have := goN_yes hg (fxA_off BS (S1 j) k1 hv)
            rwa [updT_id] at this
          clear hj hg hd hu hlt hS hv
          go_wp2_with fail
          go_roundw
          case rel => exact ⟨j + 1, S1, k1, HJ.out, by go_num, HNX.out, HX.out, HU1.out⟩
          case measure => have := HJ.out; simp [intOf]; omega
        | true =>
          rw [hv] at lj
          have hbt : ∀ x, (S1 j).B.getD x 0 < 256 := by rw [hS]; exact HB.out j hlt (by rw [← hS]; exact hv)
          have hqq := str_beq hbt HFB.out
          rw [SF.out] at hqq
          by_cases heq : (S1 j).B = FB
          · rw [decide_eq_true heq] at hqq
            have HNX : Hid (goN (fxA BS) S k (j + 1) = (true, S1, k1)) := by
              have hfx : fxA BS (S1 j) k1 = (true, S1 j, k1) := by unfold fxA; rw [if_neg fun h => h.2 (by rw [FF.out]; exact heq)]
              have := goN_yes hg hfx
              rwa [updT_id] at this
            generalize strOf (S1 j).B = sj at bj hqq
            clear hj hg hd hu hlt hS hv hbt heq
            go_wp2_with fail
            go_roundw
            case rel => exact ⟨j + 1, S1, k1, HJ.out, by go_num, HNX.out, HX.out, HU1.out⟩
            case measure => have := HJ.out; simp [intOf]; omega
          · rw [decide_eq_false heq] at hqq
            have HFX : Hid (fxA BS (S1 j) k1 = if k1 = some 0 then (false, S1 j, k1) else if less k1 = some 0 then (false, ⟨(S1 j).B.take (flt (com (spl (S1 j).B) BS)).length, 0, true⟩, less k1) else if less (less k1) = some 0 then (false, ⟨(S1 j).B.take (flt (com (spl (S1 j).B) BS)).length ++ FB.drop (flt (com (spl (S1 j).B) BS)).length, FB.length - (flt (com (spl (S1 j).B) BS)).length, true⟩, less (less k1)) else (true, ⟨(S1 j).B.take (flt (com (spl (S1 j).B) BS)).length ++ FB.drop (flt (com (spl (S1 j).B) BS)).length, 0, true⟩, less (less k1))) := by
              show _ = _
              unfold fxA
              rw [if_pos ⟨hv, by rw [FF.out]; exact heq⟩, FF.out]
            have hBl := (hd.r.t j hlt).le
            have HCF := hid (com_fits (S1 j).B BS)
            have HCB : Hid ((flt (com (spl (S1 j).B) BS)).length ≤ FB.length) := by
              obtain ⟨s, h2⟩ := com_right (spl (S1 j).B) BS
              have h3 := congrArg (fun l => (flt l).length) h2
              simp only [flt_append, List.length_append] at h3
              rw [FF.out] at h3
              show _ ≤ _
              omega
            have HCR : Hid ((∀ y ∈ com (spl (S1 j).B) BS, y.length < 256) ∧ (com (spl (S1 j).B) BS).length ≤ 100000) := by
              obtain ⟨s, h2⟩ := com_right (spl (S1 j).B) BS
              refine ⟨fun y hy => ?_, ?_⟩
              · have := HBF.out.1 y (by rw [h2]; exact List.mem_append_left _ hy)
                unfold Rec at this
                omega
              · have := (com_le (spl (S1 j).B) BS).2
                have := HBN.out
                have := HBF.out.2
                rw [FF.out] at HBN
                have := HBN.out
                omega
            have HSJ := hid (rsplit_any wr (S1 j).B hbt (by omega))
            have HTJ := hid (spl_byt hbt)
            have HNJ := hid (spl_len (S1 j).B)
            have HBL := hid hBl
            have HLV := hid hv
            obtain ⟨n, NN⟩ : ∃ n, Hid ((flt (com (spl (S1 j).B) BS)).length = n) := ⟨_, rfl⟩
            rw [NN.out] at HFX HCF HCB
            have HG := hid hg
            generalize hsj : strOf (S1 j).B = sj at bj hqq HSJ
            clear hj hg hd hu hS hv hbt heq hsj hBl
            go_wp2_with fail
            refine HSJ.out.mono ?_
            rintro e w4 ⟨v4, rfl, ho4, u4⟩
            have U4 := hid (HU1.out.trans u4.nul)
            have HO4 : Hid (RSc lb w4 v4 (spl (S1 j).B)) := RSc.of ho4 (by have := HU1.out.size; have := HS3.out; omega)
            have HB4 := hid (HB3.out.up U4.out HFAR.out)
            have HX4 := hid (HX.out.nxt u4)
            obtain ⟨s4a, s4c, rfl⟩ := ho4.shape
            have HCO := hid (common_any HO4.out HB4.out.1 (by have := HNJ.out; have := HBL.out; have := HBN.out; have := HBF.out.2; rw [FF.out] at HBN; have := HBN.out; omega) HTJ.out HBY.out)
            clear ho4 u4 hqq lj bj cj
            go_wp2_with fail
            refine HCO.out.mono ?_
            rintro e w5 ⟨v5, rfl, ho5, u5⟩
            have U5 := hid (U4.out.trans u5.nul)
            have HX5 := hid (HX4.out.nxt u5)
            have HJ5 := hid (join_any ho5.1 HCR.out.1 HCR.out.2 (by rw [NN.out]; have := HCB.out; have := HBF.out.2; omega))
            obtain ⟨_, s5a, s5c, rfl, _, _⟩ := ho5
            have hsn : (strOf (flt (com (spl (S1 j).B) BS))).size = n := by rw [strOf_size]; exact NN.out
            clear u5 HCO
            generalize strOf (flt (com (spl (S1 j).B) BS)) = sn at HJ5 hsn
            go_wp2_with fail
            refine HJ5.out.mono ?_
            rintro e w6 ⟨rfl, u6⟩
            have U6 := hid (U5.out.trans u6.nul)
            have HX6 := hid (HX5.out.nxt u6)
            have HCT := hid (ds_cut HX6.out hlt HLV.out n HCF.out)
            have cj6 := HCJ.out _ U6.out
            clear u6 HJ5
            go_wp2_with fail
            refine HCT.out.mono ?_
            rintro e w7 (⟨hk, rfl, rfl⟩ | ⟨hk, rfl, hd7, u7⟩)
            · have HE : Hid (tOpn S k = (4, [], S1, k1)) := by
                have hfx := HFX.out
                rw [if_pos hk] at hfx
                have h1 := goN_yes HG.out hfx
                rw [updT_id] at h1
                show _ = _
                rw [HOP.out, H3.out h1]
              rw [HE.out] at HRR
              clear hk
              go_wp2_with fail
              go_ret3
              rw [HRR.out]
              exact .inr ⟨(show ¬ (4 : Int) = 0 by decide), rfl, HX6.out, (HU.out.trans U3.out).nul.trans U6.out⟩
            · have HFX1 := hid (HFX.out.trans (if_neg hk))
              have HX7 := hid hd7
              have U7 := hid (U6.out.trans u7)
              have cj7 := HCJ.out _ U7.out
              have hsl := str_from sF n (by rw [hsF]; exact HCB.out)
              rw [← SF.out, strOf_drop] at hsl
              rw [SF.out] at hsl
              have hap := fun W (u : Up Nul w7 W) => ds_append (HX7.out.nxt u) hlt (by rw [updT_same]) (FB.drop n) (by
                rw [updT_same]
                show ((S1 j).B.take n).length + _ ≤ 65536
                rw [List.length_take, List.length_drop]
                have := HBF.out.2
                have := HCB.out
                omega)
              rw [updT_same] at hap
              simp only [updT_twice] at hap
              clear hk hd7 u7 HCT cj6
              by_cases hk1 : less k1 = some 0
              · have ha1 : apA (FB.drop n) ⟨(S1 j).B.take n, 0, true⟩ (less k1) = (false, ⟨(S1 j).B.take n, 0, true⟩, less k1) := by unfold apA; rw [if_pos rfl, if_pos hk1]
                rw [ha1] at hap
                have HAP : Hid (∀ W, Up Nul w7 W → Calls Try.prog 52 #[.pointer (some ⟨qm j, 0, none⟩), .string (strOf (FB.drop n))] W fun e w' => e = .returned (.int .i64 4) ∧ DS w' qm v (less k1) (updT S1 j ⟨(S1 j).B.take n, 0, true⟩) ∧ Up (Rx qm v) W w') := hap
                have HE : Hid (tOpn S k = (4, [], updT S1 j ⟨(S1 j).B.take n, 0, true⟩, less k1)) := by
                  have hfx := HFX1.out
                  rw [if_pos hk1] at hfx
                  have h1 := goN_yes HG.out hfx
                  show _ = _
                  rw [HOP.out, H3.out h1]
                rw [HE.out] at HRR
                generalize strOf (FB.drop n) = sd at hsl HAP
                clear hk1 ha1 hap hlt
                go_wp2_with fail
                go_region_with ((go_at_call 52; (with_reducible refine (HAP.out _ (by first | exact (Up.refl _ _).drew | exact Up.refl _ _)).mono ?_); rintro e w8 ⟨rfl, hd8, u8⟩; have U8 : Hid (Up (Rx qm v) w3 w8) := U7.out.trans (Up.trans (by first | exact (Up.refl _ _).drew | exact Up.refl _ _) u8); have HX8 := hid hd8; clear hd8 u8))
                all_goals
                  go_wp2_with fail
                  go_ret3
                  rw [HRR.out]
                  exact .inr ⟨(show ¬ (4 : Int) = 0 by decide), rfl, HX8.out, (HU.out.trans U3.out).nul.trans U8.out⟩
              · have ha1 : apA (FB.drop n) ⟨(S1 j).B.take n, 0, true⟩ (less k1) = (true, ⟨(S1 j).B.take n ++ FB.drop n, 0 + (FB.drop n).length, true⟩, less (less k1)) := by unfold apA; rw [if_pos rfl, if_neg hk1]
                rw [ha1, Nat.zero_add, List.length_drop] at hap
                have HAP : Hid (∀ W, Up Nul w7 W → Calls Try.prog 52 #[.pointer (some ⟨qm j, 0, none⟩), .string (strOf (FB.drop n))] W fun e w' => e = .returned (.int .i64 0) ∧ DS w' qm v (less (less k1)) (updT S1 j ⟨(S1 j).B.take n ++ FB.drop n, FB.length - n, true⟩) ∧ Up (Rx qm v) W w') := hap
                have HFX2 := hid (HFX1.out.trans (if_neg hk1))
                generalize strOf (FB.drop n) = sd at hsl HAP
                clear hk1 ha1 hap
                go_wp2_with fail
                go_region_with ((go_at_call 52; (with_reducible refine (HAP.out _ (by first | exact (Up.refl _ _).drew | exact Up.refl _ _)).mono ?_); rintro e w8 ⟨rfl, hd8, u8⟩; have U8 : Hid (Up (Rx qm v) w3 w8) := U7.out.trans (Up.trans (by first | exact (Up.refl _ _).drew | exact Up.refl _ _) u8); have HX8 := hid hd8; clear hd8 u8))
                all_goals
                  have hsy := ds_sync HX8.out hlt (by rw [updT_same])
                  rw [updT_same] at hsy
                  simp only [updT_twice] at hsy
                  have cj8 := HCJ.out _ U8.out
                  by_cases hk2 : less (less k1) = some 0
                  · have ha2 : syA ⟨(S1 j).B.take n ++ FB.drop n, FB.length - n, true⟩ (less (less k1)) = (false, ⟨(S1 j).B.take n ++ FB.drop n, FB.length - n, true⟩, less (less k1)) := by unfold syA; rw [if_pos rfl, if_pos hk2]
                    rw [ha2] at hsy
                    have HSY : Hid (Calls Try.prog 53 #[.pointer (some ⟨qm j, 0, none⟩)] w8 fun e w' => e = .returned (.int .i64 4) ∧ DS w' qm v (less (less k1)) (updT S1 j ⟨(S1 j).B.take n ++ FB.drop n, FB.length - n, true⟩) ∧ Up (Rx qm v) w8 w') := hsy
                    have HE : Hid (tOpn S k = (4, [], updT S1 j ⟨(S1 j).B.take n ++ FB.drop n, FB.length - n, true⟩, less (less k1))) := by
                      have hfx := HFX2.out
                      rw [if_pos hk2] at hfx
                      have h1 := goN_yes HG.out hfx
                      show _ = _
                      rw [HOP.out, H3.out h1]
                    rw [HE.out] at HRR
                    clear hk2 ha2 hsy hlt
                    go_wp2_with fail
                    refine HSY.out.mono ?_
                    rintro e w9 ⟨rfl, hd9, u9⟩
                    have HX9 := hid hd9
                    have U9 := hid (U8.out.trans u9)
                    clear hd9 u9
                    go_wp2_with fail
                    go_ret3
                    rw [HRR.out]
                    exact .inr ⟨(show ¬ (4 : Int) = 0 by decide), rfl, HX9.out, (HU.out.trans U3.out).nul.trans U9.out⟩
                  · have ha2 : syA ⟨(S1 j).B.take n ++ FB.drop n, FB.length - n, true⟩ (less (less k1)) = (true, ⟨(S1 j).B.take n ++ FB.drop n, 0, true⟩, less (less k1)) := by unfold syA; rw [if_pos rfl, if_neg hk2]
                    rw [ha2] at hsy
                    have HSY : Hid (Calls Try.prog 53 #[.pointer (some ⟨qm j, 0, none⟩)] w8 fun e w' => e = .returned (.int .i64 0) ∧ DS w' qm v (less (less k1)) (updT S1 j ⟨(S1 j).B.take n ++ FB.drop n, 0, true⟩) ∧ Up (Rx qm v) w8 w') := hsy
                    have HNX := hid (goN_yes HG.out (HFX2.out.trans (if_neg hk2)))
                    clear hk2 ha2 hsy hlt
                    go_wp2_with fail
                    refine HSY.out.mono ?_
                    rintro e w9 ⟨rfl, hd9, u9⟩
                    have HX9 := hid hd9
                    have U9 := hid (U8.out.trans u9)
                    clear hd9 u9
                    go_wp2_with fail
                    go_roundw
                    case rel => exact ⟨j + 1, _, _, HJ.out, by go_num, HNX.out, HX9.out, U9.out⟩
                    case measure => have := HJ.out; simp [intOf]; omega
      · have hj3 : j = 3 := by omega
        have i2 : ¬ (j : Int) < 3 := by omega
        rw [hj3] at hg
        have HE : Hid (tOpn S k = (0, BS, S1, k1)) := by show _ = _; rw [HOP.out, hg]
        rw [HE.out] at HRR
        have hfar := HFAR.out (lb + 1) (by omega)
        have hh : wr.heap[lb + 1]? = some (rtc qm 0) := (HU1.out.block (lb + 1) HS3.out hfar).trans HH3.out
        obtain ⟨_, c3, fr⟩ := rtc_cells hh
        have f3 := fr 3
        have HFIN : Hid (RTx (wr.setCell ⟨lb + 1, 3, none⟩ (.int .i64 (nb : Nat))) (lb + 1) qm v nb k1 S1 ∧ Up (Rx qm v) w (wr.setCell ⟨lb + 1, 3, none⟩ (.int .i64 (nb : Nat))) ∧ RowS (wr.setCell ⟨lb + 1, 3, none⟩ (.int .i64 (nb : Nat))) (.slice ba nb bc) BS) := by
          have u : Up (One (lb + 1)) wr (wr.setCell ⟨lb + 1, 3, none⟩ (.int .i64 (nb : Nat))) := (Up.refl (One (lb + 1)) wr).put rfl 3 _
          have hrow := HB3.out.up HU1.out HFAR.out
          refine ⟨⟨?_, ⟨⟨fun i hi => (HX.out.r.t i hi).up u fun e => hfar (.inl ⟨i, hi, (show qm i = lb + 1 from e).symm⟩), HX.out.r.ne⟩, HX.out.z.up u fun e => hfar (.inr (show v = lb + 1 from e).symm)⟩⟩, ((HU.out.trans U3.out).nul.trans HU1.out).past2 u fun g hg e => by have := LB.out; have e : g = lb + 1 := e; omega, ?_⟩
          · unfold rtc at hh ⊢
            rw [heap_setCell_same wr (lb + 1) 3 _ _ _ hh]
            rfl
          · obtain ⟨a', c', e', h'⟩ := hrow.1
            refine ⟨a', c', e', h'.imp id ?_⟩
            rintro ⟨g, o, e1, hgl, hcell⟩
            refine ⟨g, o, e1, Nat.lt_of_lt_of_le hgl u.size, fun i z hi => (u.cell (p := ⟨g, o + i, none⟩) hgl fun e => ?_).trans (hcell i z hi)⟩
            have h1 := hcell i z hi
            have e : g = lb + 1 := e
            subst e
            unfold rtc at hh
            have h2 : ∃ y, wr.cell? ⟨lb + 1, o + i, none⟩ = some y := ⟨_, h1⟩
            rcases Nat.lt_or_ge (o + i) 4 with h3 | h3
            · obtain e5 | e5 | e5 | e5 : o + i = 0 ∨ o + i = 1 ∨ o + i = 2 ∨ o + i = 3 := by omega
              all_goals
                rw [e5] at h1
                simp [World.cell?, hh] at h1
            · have h4 : wr.cell? ⟨lb + 1, o + i, none⟩ = none := by
                simp only [World.cell?, hh]
                exact Array.getElem?_eq_none (by simpa using h3)
              rw [h4] at h1
              cases h1
        clear hj hg hd hu hlt hfar hh hj3
        go_wp2_with fail
        go_ret3
        rw [HRR.out]
        exact .inl ⟨by trivial, lb + 1, _, rfl, HFIN.out.2.2, by rw [NB.out]; exact HFIN.out.1, by have := LB.out; omega, HFIN.out.2.1⟩
end
end Go.Proofs.Ytencinajieicpaa
