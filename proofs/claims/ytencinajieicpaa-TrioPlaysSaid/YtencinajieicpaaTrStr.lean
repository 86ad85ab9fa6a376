/- Rows of rows of bytes, and rows of strings: the document's 'Strings' and 'Same'. -/
import Derived.Test.YtencinajieicpaaTrOpen
import Derived.BigQuiet
import Derived.Deep.QuietTactic
namespace Go.Proofs.Ytencinajieicpaa
open Go.RowKit
set_option linter.unusedVariables false

/-- The slice v has the rows l of bytes. -/
def RRs (w : World) (v : Value) (l : List (List Nat)) : Prop :=
  ∃ a c, v = .slice a l.length c ∧ (l.length = 0 ∨ ∃ g o, a = some ⟨g, o, none⟩ ∧ g < w.heap.size ∧ ∀ i z, l[i]? = some z → ∃ ea ec, w.cell? ⟨g, o + i, none⟩ = some (.slice ea z.length ec) ∧ SlN w ea z.length z)
theorem RRs.nxt {w w' : World} {v : Value} {l : List (List Nat)} (h : RRs w v l) (u : Up Nul w w') : RRs w' v l := by
  obtain ⟨a, c, e, h⟩ := h
  refine ⟨a, c, e, h.imp id ?_⟩
  rintro ⟨g, o, e1, hg, hc⟩
  refine ⟨g, o, e1, Nat.lt_of_lt_of_le hg u.size, fun i z hi => ?_⟩
  obtain ⟨ea, ec, h1, h2⟩ := hc i z hi
  exact ⟨ea, ec, (u.cell (p := ⟨g, o + i, none⟩) hg id).trans h1, h2.nxt u⟩
/-- Rows as strings. -/
def SrV (l : List (List Nat)) : List Value := l.map fun z => .string (strOf z)
theorem SrV_length (l : List (List Nat)) : (SrV l).length = l.length := by simp [SrV]
theorem SrV_append (l m : List (List Nat)) : SrV (l ++ m) = SrV l ++ SrV m := by simp [SrV]
theorem SrV_get {l : List (List Nat)} {i : Nat} {z : List Nat} (h : l[i]? = some z) : (SrV l)[i]? = some (.string (strOf z)) := by simp [SrV, h]
/-- The slice v has the strings l. -/
def RowS (w : World) (v : Value) (l : List (List Nat)) : Prop :=
  ∃ a c, v = .slice a l.length c ∧ (l.length = 0 ∨ ∃ g o, a = some ⟨g, o, none⟩ ∧ g < w.heap.size ∧ ∀ i z, l[i]? = some z → w.cell? ⟨g, o + i, none⟩ = some (.string (strOf z)))
theorem RowS.nxt {w w' : World} {v : Value} {l : List (List Nat)} (h : RowS w v l) (u : Up Nul w w') : RowS w' v l := by
  obtain ⟨a, c, e, h⟩ := h
  refine ⟨a, c, e, h.imp id ?_⟩
  rintro ⟨g, o, e1, hg, hc⟩
  exact ⟨g, o, e1, Nat.lt_of_lt_of_le hg u.size, fun i z hi => (u.cell (p := ⟨g, o + i, none⟩) hg id).trans (hc i z hi)⟩
theorem OwnV.rowS {base : Nat} {w : World} {v : Value} {l : List (List Nat)} (h : OwnV 9 base w v (SrV l)) : RowS w v l := by
  obtain ⟨a, c, e⟩ := h.shape
  rw [SrV_length] at e
  refine ⟨a, c, e, ?_⟩
  by_cases h0 : l.length = 0
  · exact .inl h0
  · obtain ⟨g, cap, e1, _, hg, hc, _, _⟩ := h.row (by rw [SrV_length]; omega)
    rw [e] at e1
    injection e1 with e1
    exact .inr ⟨g, 0, e1, hg, fun i z hi => by rw [Nat.zero_add]; exact hc i _ (SrV_get hi)⟩
theorem info_strT : (Try.prog.info? 9).map (fun i => (i.zero, i.size, i.bytes)) = some (some (.string ByteArray.empty), 1, 16) := by kernel_rfl
set_option maxRecDepth 100000 in
set_option maxHeartbeats 1600000 in
theorem strings_all {w : World} {v : Value} {l : List (List Nat)} (hv : RRs w v l) (hn : l.length ≤ 1000) :
    Calls Try.prog 20 #[v] w fun e w' => ∃ v', e = .returned v' ∧ OwnV 9 w.heap.size w' v' (SrV l) ∧ Up Nul w w' := by
  obtain ⟨a, c, rfl, hr⟩ := hv
  have HR := hid hr
  have HN := hid hn
  obtain ⟨n, N⟩ : ∃ n, Hid (l.length = n) := ⟨_, rfl⟩
  have HE : Hid (SrV (l.take n) = SrV l) := by show _ = _; rw [← N.out, List.take_length]
  rw [N.out] at HR HN ⊢
  clear hr hn
  go_enter Try.func20, Try.ntmps20
  go_wp2_with fail
  go_loopw [3, 4] (fun v i wr => ∃ t : Nat, t ≤ n ∧ i = .int .i64 (t : Nat) ∧ OwnV 9 w.heap.size wr v (SrV (l.take t)) ∧ Up Nul w wr) (fun _ i _ => n - (intOf i).toNat)
  case atStart => exact ⟨0, Nat.zero_le _, rfl, OwnV.nil _ _ _, Up.refl _ _⟩
  case round =>
    obtain ⟨t, ht, rfl, ho, hu⟩ := hrel
    have HO := hid ho
    have HU := hid hu
    clear ho hu
    have i1 : (0 : Int) ≤ (t : Int) := by omega
    have i3 : (t : Int) ≤ 1000 := by have := HN.out; omega
    by_cases hlt : t < n
    · obtain ⟨g, o, rfl, hg, hc⟩ := HR.out.resolve_left (by omega)
      have htl : t < l.length := by rw [N.out]; exact hlt
      obtain ⟨ea, ec, x0, s1⟩ := hc t l[t] (List.getElem?_eq_getElem htl)
      have x1 := (HU.out.cell (p := ⟨g, o + t, none⟩) hg id).trans x0
      have z1 := (s1.nxt HU.out).conv ec
      have HNX : Hid (SrV (l.take (t + 1)) = SrV (l.take t) ++ [.string (strOf l[t])]) := by
        show _ = _
        rw [List.take_succ_eq_append_getElem htl, SrV_append]
        rfl
      have HL : Hid ((SrV (l.take t)).length + 1 ≤ 1000000) := by show _ ≤ _; rw [SrV_length, List.length_take]; omega
      generalize l[t].length = lr at x1 z1
      generalize strOf l[t] = sr at z1 HNX
      have i2 : (t : Int) < (n : Int) := by omega
      have HT := hid hlt
      clear s1 hc hg ht hlt x0 htl
      go_wp2_with (first
        | (at_builtin; refine wpList_append_vals Try.underlying29 info_strT rfl (by omega) rfl (.tmp 11) (.tmp 17) rfl w.heap.size _ (SrV (l.take t)) rfl (OwnV.alloc HO.out _) ⟨wr.heap.size, 0, none⟩ 1 1 [.string sr] rfl (fun j u hj => by
            match j, hj with
            | 0, hj => cases hj; exact World.cell?_alloc_new wr _ _ 0) (fun u hu => by cases hu with | head => rfl | tail _ h => cases h) rfl HL.out (by have := HU.out.size; simp; omega) ?_; intro v2 w2 G1 G2)
        | fail)
      have HFO : Hid (OwnV 9 w.heap.size w2 v2 (SrV (l.take (t + 1)))) := by show OwnV _ _ _ _ _; rw [HNX.out]; exact G1.out
      have HFU : Hid (Up Nul w w2) := (HU.out.alloc _).grown G2.out fun q hq => HO.out.base q hq
      clear G1 G2 HNX
      go_wp2_with fail
      go_roundw
      case rel => exact ⟨t + 1, HT.out, by go_num, HFO.out, HFU.out⟩
      case measure => have := HT.out; simp [intOf]; omega
    · obtain rfl : t = n := by omega
      go_wp2_with fail
      go_ret
      exact ⟨_, rfl, by rw [← HE.out]; exact HO.out, HU.out⟩
set_option maxRecDepth 100000 in
set_option maxHeartbeats 1600000 in
theorem same_all {w : World} {v1 v2 : Value} {l1 l2 : List (List Nat)} (h1 : RowS w v1 l1) (h2 : RowS w v2 l2) (hn : l1.length ≤ 1000 ∧ l2.length ≤ 1000) (s1 : ∀ z ∈ l1, ∀ i, z.getD i 0 < 256) (s2 : ∀ z ∈ l2, ∀ i, z.getD i 0 < 256) :
    Calls Try.prog 19 #[v1, v2] w fun e w' => e = .returned (.bool (decide (l1 = l2))) ∧ Up Nul w w' := by
  obtain ⟨a1, c1, rfl, r1⟩ := h1
  obtain ⟨a2, c2, rfl, r2⟩ := h2
  by_cases hl : l1.length = l2.length
  · have HR1 := hid r1
    have HR2 := hid r2
    have HS : Hid (∀ i x y, l1[i]? = some x → l2[i]? = some y → ((strOf x).toList == (strOf y).toList) = decide (x = y)) := fun i x y hx hy => str_beq (s1 x (List.mem_of_getElem? hx)) (s2 y (List.mem_of_getElem? hy))
    have HL : Hid (l1.length = l2.length) := hl
    obtain ⟨n, N⟩ : ∃ n, Hid (l2.length = n) := ⟨_, rfl⟩
    have HN : Hid (n ≤ 1000) := by show _ ≤ _; rw [← N.out]; exact hn.2
    rw [hl, N.out] at HR1 ⊢
    rw [N.out] at HR2 HL
    have hll : ((n : Int) == (n : Int)) = true := by simp
    obtain ⟨b, B⟩ : ∃ b, Hid (decide (l1 = l2) = b) := ⟨_, rfl⟩
    rw [B.out]
    clear r1 r2 hn hl s1 s2
    go_enter Try.func19, Try.ntmps19
    go_wp2_with fail
    go_loopw [5] (fun i wr => ∃ t : Nat, t ≤ n ∧ i = .int .i64 (t : Nat) ∧ (∀ j, j < t → l1[j]? = l2[j]?) ∧ Up Nul w wr) (fun i _ => n - (intOf i).toNat)
    case atStart => exact ⟨0, Nat.zero_le _, rfl, fun j hj => absurd hj (Nat.not_lt_zero j), Up.refl _ _⟩
    case round =>
      obtain ⟨t, ht, rfl, ho, hu⟩ := hrel
      have HO := hid ho
      have HU := hid hu
      clear ho hu
      have i1 : (0 : Int) ≤ (t : Int) := by omega
      have i3 : (t : Int) ≤ 1000 := by have := HN.out; omega
      by_cases hlt : t < n
      · have i2 : (t : Int) < (n : Int) := by omega
        obtain ⟨g1, o1, rfl, hg1, hc1⟩ := HR1.out.resolve_left (by omega)
        obtain ⟨g2, o2, rfl, hg2, hc2⟩ := HR2.out.resolve_left (by omega)
        obtain ⟨x, hx⟩ : ∃ x, l1[t]? = some x := ⟨_, List.getElem?_eq_getElem (by rw [HL.out]; exact hlt)⟩
        obtain ⟨y, hy⟩ : ∃ y, l2[t]? = some y := ⟨_, List.getElem?_eq_getElem (by rw [N.out]; exact hlt)⟩
        have x1 := (HU.out.cell (p := ⟨g1, o1 + t, none⟩) hg1 id).trans (hc1 t x hx)
        have x2 := (HU.out.cell (p := ⟨g2, o2 + t, none⟩) hg2 id).trans (hc2 t y hy)
        have hqq := HS.out t x y hx hy
        have HX := hid hx
        have HY := hid hy
        have HT := hid hlt
        by_cases hxy : x = y
        · have HXY := hid hxy
          rw [decide_eq_true hxy] at hqq
          generalize strOf x = sx at x1 hqq
          generalize strOf y = sy at x2 hqq
          clear hx hy hxy hg1 hg2 hc1 hc2 hlt ht
          go_wp2_with fail
          go_quiet (fail)
          have UQ : Hid (Up Nul w (wr.drewN nq)) := HU.out.drewN nq
          generalize wr.drewN nq = w2 at UQ ⊢
          go_wp2_with fail
          go_roundw
          case rel => exact ⟨t + 1, HT.out, by go_num, fun j hj => by
            rcases Nat.lt_or_ge j t with e | e
            · exact HO.out j e
            · obtain rfl : j = t := by omega
              rw [HX.out, HY.out, HXY.out], UQ.out⟩
          case measure => have := HT.out; simp [intOf]; omega
        · have HNE : Hid (decide (l1 = l2) = false) := decide_eq_false fun e => hxy (by rw [e, hy] at hx; injection hx with hx; exact hx.symm)
          rw [decide_eq_false hxy] at hqq
          generalize strOf x = sx at x1 hqq
          generalize strOf y = sy at x2 hqq
          clear hx hy hxy hg1 hg2 hc1 hc2 hlt ht
          go_wp2_with fail
          go_quiet (fail)
          have UQ : Hid (Up Nul w (wr.drewN nq)) := HU.out.drewN nq
          generalize wr.drewN nq = w2 at UQ ⊢
          go_wp2_with fail
          go_ret
          exact ⟨by rw [← B.out, HNE.out]; rfl, UQ.out⟩
      · obtain rfl : t = n := by omega
        have HEQ : Hid (decide (l1 = l2) = true) := decide_eq_true (List.ext_getElem? fun j => by
          by_cases hj : j < t
          · exact HO.out j hj
          · rw [List.getElem?_eq_none (by rw [HL.out]; omega), List.getElem?_eq_none (by rw [N.out]; omega)])
        go_wp2_with fail
        go_ret
        exact ⟨by rw [← B.out, HEQ.out]; rfl, HU.out⟩
  · have HNE : Hid (decide (l1 = l2) = false) := decide_eq_false fun e => hl (by rw [e])
    have hll : ((l1.length : Int) == (l2.length : Int)) = false := by simp; omega
    rw [HNE.out]
    generalize l1.length = n1 at hll ⊢
    generalize l2.length = n2 at hll ⊢
    clear r1 r2 hl hn s1 s2 HNE
    go_enter Try.func19, Try.ntmps19
    go_wp2_with fail
    go_ret
    exact ⟨rfl, Up.refl _ _⟩
end Go.Proofs.Ytencinajieicpaa
