/- The program's 'live' and 'Sync' of a Rack whose power is gone. -/
import Derived.Test.YtcejdobmgbielaaRkTake
namespace Go.Proofs.Ytcejdobmgbielaa
open Go.RowKit
set_option linter.unusedVariables false

/-! ### 'cmp.Or' of errors -/
theorem rore_any (g c : Nat) (x y : Int) (w : World) (h0 : w.cell? ⟨g, 0, none⟩ = some (.int .i64 x)) (h1 : w.cell? ⟨g, 1, none⟩ = some (.int .i64 y)) :
    Calls Try.prog 44 #[.slice (some ⟨g, 0, none⟩) 2 c] w fun e w' => e = .returned (.int .i64 (if x = 0 then y else x)) ∧ w' = w := by
  have HC : Hid (∀ i : Nat, i < 2 → w.cell? ⟨g, i, none⟩ = some (.int .i64 (if i = 0 then x else y))) := fun i hi => by
    match i, hi with
    | 0, _ => exact h0
    | 1, _ => exact h1
  obtain ⟨z, Z⟩ : ∃ z, Hid ((if x = 0 then y else x) = z) := ⟨_, rfl⟩
  rw [Z.out]
  clear h0 h1
  go_enter Try.func44, Try.ntmps44
  go_wp2_with fail
  go_loopw [8] (fun i wr => ∃ t : Nat, t ≤ 2 ∧ i = .int .i64 (t : Nat) ∧ (∀ j, j < t → (if j = 0 then x else y) = 0) ∧ wr = w) (fun i _ => 2 - (intOf i).toNat)
  case atStart => exact ⟨0, Nat.zero_le _, rfl, fun j hj => absurd hj (Nat.not_lt_zero j), rfl⟩
  case round =>
    obtain ⟨t, ht, rfl, ho, rfl⟩ := hrel
    have HO := hid ho
    clear ho
    have i0 : (0 : Int) ≤ (t : Int) := by omega
    by_cases hlt : t < 2
    · have i1 : (t : Int) < 2 := by omega
      have k1 := HC.out t hlt
      obtain ⟨v, V⟩ : ∃ v, Hid ((if t = 0 then x else y) = v) := ⟨_, rfl⟩
      rw [V.out] at k1
      have HT := hid hlt
      clear hlt ht
      by_cases hv : v = 0
      · have HV := hid hv
        have hb : (v == 0) = true := by simp [hv]
        clear hv
        go_wp2_with fail
        go_roundw
        case rel => exact ⟨t + 1, HT.out, by go_num, fun j hj => by
          rcases Nat.lt_or_ge j t with e | e
          · exact HO.out j e
          · obtain rfl : j = t := by omega
            rw [V.out]; exact HV.out, by first | rfl | trivial⟩
        case measure => have := HT.out; simp [intOf]; omega
      · have HV := hid hv
        have hb : (v == 0) = false := by simp [hv]
        have HE : Hid (z = v) := by
          show _ = _
          rw [← Z.out, ← V.out]
          match t, HT.out with
          | 0, _ =>
            have hx : ¬ x = 0 := fun e => HV.out (by rw [← V.out, if_pos rfl]; exact e)
            rw [if_neg hx, if_pos rfl]
          | 1, _ =>
            have hx : x = 0 := HO.out 0 Nat.one_pos
            rw [if_pos hx, if_neg (by decide)]
        clear hv
        go_wp2_with fail
        go_ret
        exact ⟨by rw [HE.out]; rfl, rfl⟩
    · have i1 : ¬ (t : Int) < 2 := by omega
      have HN : Hid (z = 0) := by
        have hx : x = 0 := HO.out 0 (by omega)
        have hy : y = 0 := HO.out 1 (by omega)
        show _ = _
        rw [← Z.out, if_pos hx, hy]
      clear hlt ht
      go_wp2_with fail
      go_ret
      exact ⟨by rw [HN.out]; rfl, rfl⟩
section
variable {w w' : World} {r bb n m cap nx : Nat} {fu k : Option Nat} {D : Nat → DS} {T : Nat → Prop}
theorem info_pdisk : (Try.prog.info? 45).map (fun i => (i.zero, i.size, i.bytes)) = some (some (.pointer none), 1, 8) := by kernel_rfl
/-- The disks that are live. -/
def lvV (D : Nat → DS) (t : Nat) : List Value := ((List.range t).filter fun i => (D i).live).map fun i => .pointer (some ⟨(D i).b, 0, none⟩)
theorem lvV_yes {t : Nat} (h : (D t).live = true) : lvV D (t + 1) = lvV D t ++ [.pointer (some ⟨(D t).b, 0, none⟩)] := by
  unfold lvV
  rw [List.range_succ, List.filter_append, List.map_append]
  simp [h]
theorem lvV_no {t : Nat} (h : (D t).live = false) : lvV D (t + 1) = lvV D t := by
  unfold lvV
  rw [List.range_succ, List.filter_append]
  simp [h]
theorem lvV_length (D : Nat → DS) (t : Nat) : (lvV D t).length ≤ t := by
  unfold lvV
  rw [List.length_map]
  exact Nat.le_trans (List.length_filter_le _ _) (by rw [List.length_range]; exact Nat.le_refl _)
set_option maxHeartbeats 1600000 in
theorem rlive_any (h : RK w r n m fu D nx T) : Calls Try.prog 43 #[.pointer (some ⟨r, 0, none⟩)] w fun e w' => ∃ v, e = .returned v ∧ OwnV 45 w.heap.size w' v (lvV D n) ∧ Up Nul w w' := by
  have HLE := hid h.le
  obtain ⟨bb, cap, T0, h1, hm, _⟩ := h.ex
  obtain ⟨G, g1, _, _⟩ := hm.ex
  have H1 := hid h1
  have HG := hid g1
  have c0 := h1.c0
  clear h h1 hm g1
  go_enter Try.func43, Try.ntmps43
  go_wp2_with fail
  clear c0
  go_loopw [3, 12] (fun v i wr => ∃ t : Nat, t ≤ n ∧ i = .int .i64 (t : Nat) ∧ OwnV 45 w.heap.size wr v (lvV D t) ∧ Up Nul w wr) (fun _ i _ => n - (intOf i).toNat)
  case atStart => exact ⟨0, Nat.zero_le _, rfl, OwnV.nil _ _ _, Up.refl _ _⟩
  case round =>
    obtain ⟨t, ht, rfl, ho, hu⟩ := hrel
    have HO := hid ho
    have HU := hid hu
    clear ho hu
    have i0 : (0 : Int) ≤ (t : Int) := by omega
    have i2 : (n : Int) ≤ 24 := by have := HLE.out; omega
    obtain ⟨va, vc, rfl⟩ := HO.out.shape
    have HL : Hid ((lvV D t).length + 1 ≤ 1000000) := by show _ ≤ _; have := lvV_length D t; have := HLE.out; omega
    by_cases hlt : t < n
    · have i1 : (t : Int) < (n : Int) := by omega
      have HT := hid hlt
      have c1 := (H1.out.nxt HU.out).cell hlt
      have HDI : Hid (∀ W, Up Nul w W → Calls Try.prog 19 #[.pointer (some ⟨(D t).q, 0, none⟩)] W fun e w' => e = .returned (.pointer (some ⟨(D t).b, 0, none⟩)) ∧ Up Nul W w') := fun W u => dk_disk ((HG.out t hlt).up u fun _ _ => id)
      have HLV : Hid (∀ W, Up Nul w W → Calls Try.prog 47 #[.pointer (some ⟨(D t).b, 0, none⟩)] W fun e w' => e = .returned (.bool (D t).live) ∧ w' = W) := fun W u => dk_live ((HG.out t hlt).up u fun _ _ => id)
      have HY := hid (lvV_yes (D := D) (t := t))
      have HN := hid (lvV_no (D := D) (t := t))
      generalize (D t).q = q at c1 HDI
      generalize (D t).b = b at HDI HLV HY
      clear ht hlt
      go_wp2_with fail
      refine (HDI.out _ HU.out).mono ?_
      rintro e wa ⟨rfl, ua⟩
      have UA : Hid (Up Nul w wa) := HU.out.trans ua
      have HOA := hid (HO.out.up ua fun _ _ _ h => h)
      clear ua
      go_wp2_with fail
      refine (HLV.out _ UA.out).mono ?_
      rintro e wx ⟨rfl, rfl⟩
      cases hlv : (D t).live with
      | false =>
        have HN2 := hid (HN.out hlv)
        clear hlv
        go_wp2_with fail
        go_roundw
        case rel => exact ⟨t + 1, HT.out, by go_num, by rw [HN2.out]; exact HOA.out, UA.out⟩
        case measure => have := HT.out; simp [intOf]; omega
      | true =>
        have HY2 := hid (HY.out hlv)
        have HOC := hid (HOA.out.alloc (.cells #[.pointer (some ⟨b, 0, none⟩)] 45))
        have HSZ : Hid (w.heap.size ≤ (wx.alloc (.cells #[.pointer (some ⟨b, 0, none⟩)] 45)).heap.size) := (UA.out.alloc _).size
        clear hlv
        generalize (lvV D t).length = L at HO HOA HOC ⊢
        go_wp2_with (first
          | (at_builtin; refine wpList_append_vals Try.underlying85 info_pdisk rfl (by omega) rfl (.tmp 20) (.tmp 22) rfl w.heap.size _ _ rfl HOC.out ⟨wx.heap.size, 0, none⟩ 1 1 [.pointer (some ⟨b, 0, none⟩)] rfl (fun j u hj => by
              rw [add_off, Nat.zero_add]
              exact (World.cell?_alloc_new _ _ _ j).trans (by simpa using hj)) (fun u hu => by
              obtain rfl : u = .pointer (some ⟨b, 0, none⟩) := by simpa using hu
              rfl) rfl HL.out HSZ.out ?_; intro v2 w2 H2 K2)
          | fail)
        have H3 : Hid (OwnV 45 w.heap.size w2 v2 (lvV D (t + 1))) := by show OwnV _ _ _ _ _; rw [HY2.out]; exact H2.out
        have U3 : Hid (Up Nul w w2) := (UA.out.alloc _).grown K2.out fun q hq => HOA.out.base q hq
        clear H2 K2
        go_wp2_with fail
        go_roundw
        case rel => exact ⟨t + 1, HT.out, by go_num, H3.out, U3.out⟩
        case measure => have := HT.out; simp [intOf]; omega
    · obtain rfl : t = n := by omega
      go_wp2_with fail
      go_ret
      exact ⟨_, rfl, HO.out, HU.out⟩
theorem lvV_get {j : Nat} {x : Value} (h : (lvV D n)[j]? = some x) : ∃ i, i < n ∧ (D i).live = true ∧ x = .pointer (some ⟨(D i).b, 0, none⟩) := by
  unfold lvV at h
  have hm := List.mem_of_getElem? h
  obtain ⟨i, hi, rfl⟩ := List.mem_map.1 hm
  obtain ⟨a, b⟩ := List.mem_filter.1 hi
  exact ⟨i, List.mem_range.1 a, b, rfl⟩
theorem lvV_some {i : Nat} (hi : i < n) (hl : (D i).live = true) : 0 < (lvV D n).length := by
  unfold lvV
  rw [List.length_map]
  exact List.length_pos_of_mem (List.mem_filter.2 ⟨List.mem_range.2 hi, hl⟩)
set_option maxHeartbeats 1600000 in
theorem rsyncDead_any (h : RK w r n m fu D nx T) (hf : FzO w fu (some 0)) (hl : ∃ i, i < n ∧ (D i).live = true) : Calls Try.prog 25 #[.pointer (some ⟨r, 0, none⟩)] w fun e w' => e = .returned (.int .i64 4) ∧ Up Nul w w' := by
  have HLE := hid h.le
  have H := hid h
  have HF := hid hf
  have HLV := hid (rlive_any h)
  have HPOS : Hid (0 < (lvV D n).length) := by
    obtain ⟨i, hi, e⟩ := hl
    exact lvV_some hi e
  have HLEN : Hid ((lvV D n).length ≤ 24) := by show _ ≤ _; have := lvV_length D n; have := HLE.out; omega
  clear h hf hl
  go_enter Try.func25, Try.ntmps25
  go_wp2_with fail
  refine HLV.out.mono ?_
  rintro e w1 ⟨v, rfl, ho, u1⟩
  obtain ⟨g, gc, rfl, _, hg, hcl, _, _⟩ := ho.row HPOS.out
  have HCL := hid hcl
  have HG := hid hg
  have U1 := hid u1
  obtain ⟨L, LL⟩ : ∃ L, Hid ((lvV D n).length = L) := ⟨_, rfl⟩
  rw [LL.out] at HPOS HLEN ⊢
  clear ho u1 hg hcl HLV
  go_wp2_with fail
  go_loopw [3, 9] (fun s i wr => ∃ t : Nat, t ≤ L ∧ i = .int .i64 (t : Nat) ∧ (∃ z : Int, s = .int .i64 z ∧ ((t = 0 ∧ z = 0) ∨ (0 < t ∧ z = 4))) ∧ Up Nul w1 wr) (fun _ i _ => L - (intOf i).toNat)
  case atStart => exact ⟨0, Nat.zero_le _, rfl, ⟨0, rfl, .inl ⟨rfl, rfl⟩⟩, Up.refl _ _⟩
  case round =>
    obtain ⟨t, ht, rfl, ⟨z, rfl, hz⟩, hu⟩ := hrel
    have HU := hid hu
    have HZ := hid hz
    clear hu hz
    have i0 : (0 : Int) ≤ (t : Int) := by omega
    have i2 : (L : Int) ≤ 24 := by have := HLEN.out; omega
    by_cases hlt : t < L
    · have i1 : (t : Int) < (L : Int) := by omega
      have HT := hid hlt
      have hlt2 : t < (lvV D n).length := by rw [LL.out]; exact hlt
      obtain ⟨x, hx⟩ : ∃ x, (lvV D n)[t]? = some x := ⟨_, List.getElem?_eq_getElem hlt2⟩
      have c1 : wr.cell? ⟨g, t, none⟩ = some x := (HU.out.cell (p := ⟨g, t, none⟩) HG.out id).trans (HCL.out t x hx)
      obtain ⟨i, hi, hl, rfl⟩ := lvV_get hx
      have HSY : Hid (Calls Try.prog 45 #[.pointer (some ⟨(D i).b, 0, none⟩)] wr fun e w' => e = .returned (.int .i64 4) ∧ w' = wr) := by
        have u := U1.out.trans HU.out
        obtain ⟨F, g1, _⟩ := (H.out.nxt u).one (HF.out.up u fun _ _ => id) i hi
        refine (dk_sync g1 (HF.out.up u fun _ _ => id)).mono ?_
        rintro e w' (⟨e1, _⟩ | ⟨_, _, rfl, rfl⟩ | ⟨_, e1, _⟩)
        · rw [hl] at e1; cases e1
        · exact ⟨rfl, rfl⟩
        · exact absurd rfl e1
      generalize (D i).b = b at c1 HSY
      clear ht hlt hlt2 hx hi hl
      go_wp2_with fail
      refine HSY.out.mono ?_
      rintro e w2 ⟨rfl, rfl⟩
      have HOR : Hid (Calls Try.prog 44 #[.slice (some ⟨w2.heap.size, 0, none⟩) 2 2] (w2.alloc (.cells #[.int .i64 z, .int .i64 4] 24)) fun e w' => e = .returned (.int .i64 4) ∧ w' = w2.alloc (.cells #[.int .i64 z, .int .i64 4] 24)) := by
        refine (rore_any w2.heap.size 2 z 4 _ (World.cell?_alloc_new _ _ _ 0) (World.cell?_alloc_new _ _ _ 1)).mono ?_
        rintro e w' ⟨rfl, rfl⟩
        refine ⟨?_, rfl⟩
        rcases HZ.out with ⟨_, e⟩ | ⟨_, e⟩
        · rw [e]; rfl
        · rw [e]; rfl
      have U2 : Hid (Up Nul w1 (w2.alloc (.cells #[.int .i64 z, .int .i64 4] 24))) := HU.out.alloc _
      go_wp2_with fail
      refine HOR.out.mono ?_
      rintro e w3 ⟨rfl, rfl⟩
      go_wp2_with fail
      go_roundw
      case rel => exact ⟨t + 1, HT.out, by go_num, ⟨4, rfl, .inr ⟨Nat.succ_pos t, rfl⟩⟩, U2.out⟩
      case measure => have := HT.out; simp [intOf]; omega
    · obtain rfl : t = L := by omega
      obtain rfl : z = 4 := by
        rcases HZ.out with ⟨e, _⟩ | ⟨_, e⟩
        · have := HPOS.out; omega
        · exact e
      have UE := hid (U1.out.trans HU.out)
      go_wp2_with fail
      go_ret
      exact ⟨rfl, UE.out⟩
end
end Go.Proofs.Ytcejdobmgbielaa
