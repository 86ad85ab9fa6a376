/- 'Peel'. -/
import Derived.Test.YtmaffnadmfphpaaGreatConvSums
namespace Go.Proofs.YtmaffnadmfphpaaGreat
open Go.RowKit
set_option linter.unusedVariables false

/-- What lies in n cells. -/
def rowV (w : World) (g o n : Nat) : List Value := (List.range n).map fun i => (w.cell? ⟨g, o + i, none⟩).getD (.bool false)
theorem rowV_length (w : World) (g o n : Nat) : (rowV w g o n).length = n := by simp [rowV]
theorem rowV_at {w : World} {g o n i : Nat} {v : Value} (hi : i < n) (h : w.cell? ⟨g, o + i, none⟩ = some v) : (rowV w g o n)[i]? = some v := by simp [rowV, hi, h]
theorem rowV_mem {w : World} {g o n : Nat} {u : Value} (h : u ∈ rowV w g o n) : ∃ i, i < n ∧ u = (w.cell? ⟨g, o + i, none⟩).getD (.bool false) := by
  obtain ⟨i, hi, e⟩ := List.mem_map.1 h
  exact ⟨i, List.mem_range.1 hi, e.symm⟩
theorem rowV_srow {w : World} {g o n c : Nat} {l : Nat → Nat} (hg : g < w.heap.size) (h : RowL w g o n l) : Srow w (some ⟨g, o, none⟩) n c (rowV w g o n) :=
  ⟨⟨rowV_length _ _ _ _, fun u hu => by
    obtain ⟨i, hi, rfl⟩ := rowV_mem hu
    obtain ⟨a, c, e⟩ := h i hi
    rw [e]
    rfl, (fun e => by cases e), fun ad e => by
    cases e
    refine ⟨hg, fun j u hj => ?_⟩
    have hjn : j < n := by
      rcases Nat.lt_or_ge j n with h | h
      · exact h
      · rw [List.getElem?_eq_none (by rw [rowV_length]; exact h)] at hj; cases hj
    obtain ⟨a, c, e⟩ := h j hjn
    rw [rowV_at hjn e] at hj
    cases hj
    rw [add_at]
    exact e⟩, fun u hu => by
    obtain ⟨i, hi, rfl⟩ := rowV_mem hu
    obtain ⟨a, c, e⟩ := h i hi
    rw [e]
    exact ⟨_, _, _, rfl⟩⟩
theorem rowV_len {w : World} {g o n L : Nat} (h : RowL w g o n fun _ => L) : ∀ u ∈ rowV w g o n, vlen u = L := fun u hu => by
  obtain ⟨i, hi, rfl⟩ := rowV_mem hu
  obtain ⟨a, c, e⟩ := h i hi
  rw [e]
  rfl
theorem LL.rowL {FS : List Nat} {w : World} {g o n L : Nat} {R : Nat → List Nat} (h : LL FS w g o n fun j => some (R j)) (hl : ∀ j, j < n → (R j).length = L) : RowL w g o n fun _ => L := fun i hi => by
  obtain ⟨b, so, cap, e, _⟩ := h.at hi rfl
  rw [hl i hi] at e
  exact ⟨_, _, e⟩
theorem Srow.nil (w : World) : Srow w none 0 0 [] := ⟨⟨rfl, (fun _ h => by cases h), (fun _ => ⟨rfl, rfl⟩), (fun _ e => by cases e)⟩, (fun _ h => by cases h)⟩
/-- 'alike' of stripes that are. -/
theorem calike_good (FS : List Nat) (go oo m co nb cb L : Nat) (G O C : Nat → Nat) (R : Nat → Nat → List Nat) (ab : Option Addr) (xb : List Value) (w : World) (m1 : 1 ≤ m) (m2 : m ≤ 16) (hg : go < w.heap.size)
    (h0 : ∀ i, i < m → w.cell? ⟨go, oo + i, none⟩ = some (.slice (some ⟨G i, O i, none⟩) 6 (C i))) (hl : ∀ i, i < m → LL FS w (G i) (O i) 6 fun j => some (R i j)) (lR : ∀ i, i < m → ∀ j, j < 6 → (R i j).length = L) (L1 : 1 ≤ L) (L64 : L ≤ 64)
    (hb : Srow w ab nb cb xb) (hbl : ∀ u ∈ xb, vlen u = L) (nb16 : nb ≤ 16) :
    Calls Tryz.prog 28 #[.slice (some ⟨go, oo, none⟩) m co, .slice ab nb cb] w fun e w' => e = .returned (.bool true) ∧ Up Nul w w' := by
  have hrow : ∀ i, i < m → RowL w (G i) (O i) 6 fun _ => L := fun i hi => (hl i hi).rowL (lR i hi)
  obtain ⟨a0, c0, e0⟩ := hrow 0 m1 0 (by omega)
  refine (calike_any go oo m co L nb cb c0 G O C (fun i => rowV w (G i) (O i) 6) a0 ab xb w m1 m2 hg h0 (fun i hi => rowV_srow (lt_of_cell (hrow i hi 0 (by omega)).choose_spec.choose_spec) (hrow i hi)) hb nb16 (rowV_at (by omega) e0) (by omega) True ⟨fun _ => ⟨⟨L1, L64⟩, fun u hu => ?_⟩, fun _ => trivial⟩).mono ?_
  · rcases List.mem_append.1 hu with hu | hu
    · obtain ⟨i, hi, hu⟩ := flat_mem.1 hu
      exact rowV_len (hrow i hi) u hu
    · exact hbl u hu
  · rintro e w' ⟨⟨rfl, _⟩ | ⟨rfl, h⟩, u⟩
    · exact ⟨rfl, u⟩
    · exact absurd trivial h
/-- .. of stripes that are, and a row beside with one that is of another length. -/
theorem calike_odd (FS : List Nat) (go oo m co nb cb L : Nat) (G O C : Nat → Nat) (R : Nat → Nat → List Nat) (ab : Option Addr) (xb : List Value) (w : World) (m1 : 1 ≤ m) (m2 : m ≤ 16) (hg : go < w.heap.size)
    (h0 : ∀ i, i < m → w.cell? ⟨go, oo + i, none⟩ = some (.slice (some ⟨G i, O i, none⟩) 6 (C i))) (hl : ∀ i, i < m → LL FS w (G i) (O i) 6 fun j => some (R i j)) (lR : ∀ i, i < m → ∀ j, j < 6 → (R i j).length = L) (L64 : L ≤ 64)
    (hb : Srow w ab nb cb xb) (hbl : ∃ u ∈ xb, vlen u ≠ L) (nb16 : nb ≤ 16) :
    Calls Tryz.prog 28 #[.slice (some ⟨go, oo, none⟩) m co, .slice ab nb cb] w fun e w' => e = .returned (.bool false) ∧ Up Nul w w' := by
  have hrow : ∀ i, i < m → RowL w (G i) (O i) 6 fun _ => L := fun i hi => (hl i hi).rowL (lR i hi)
  obtain ⟨a0, c0, e0⟩ := hrow 0 m1 0 (by omega)
  refine (calike_any go oo m co L nb cb c0 G O C (fun i => rowV w (G i) (O i) 6) a0 ab xb w m1 m2 hg h0 (fun i hi => rowV_srow (lt_of_cell (hrow i hi 0 (by omega)).choose_spec.choose_spec) (hrow i hi)) hb nb16 (rowV_at (by omega) e0) (by omega) False ⟨fun h => h.elim, fun h => ?_⟩).mono ?_
  · obtain ⟨u, hu, hne⟩ := hbl
    exact hne (h.2 u (List.mem_append_right _ hu))
  · rintro e w' ⟨⟨rfl, h⟩ | ⟨rfl, _⟩, u⟩
    · exact h.elim
    · exact ⟨rfl, u⟩

/-- The two others. -/
def oth (t i : Nat) : Nat := if i < t then i else i + 1
theorem oth_lt {t i : Nat} (ht : t < 3) (hi : i < 2) : oth t i < 3 := by unfold oth; split <;> omega
theorem oth_ne (t i : Nat) : oth t i ≠ t := by unfold oth; split <;> omega
/-- Three stripes in a row, but for the one at t, in whose place anything is. -/
structure SO (FS : List Nat) (w : World) (go t L : Nat) (G O C : Nat → Nat) (R : Nat → Nat → List Nat) : Prop where
  cell : ∀ s, s < 3 → s ≠ t → w.cell? ⟨go, s, none⟩ = some (.slice (some ⟨G s, O s, none⟩) 6 (C s))
  lt : go < w.heap.size
  ll : ∀ s, s < 3 → s ≠ t → LL FS w (G s) (O s) 6 fun j => some (R s j)
  len : ∀ s, s < 3 → s ≠ t → ∀ j, j < 6 → (R s j).length = L
theorem others_any {w W : World} {gs go t co a c1 n1 : Nat} {V : Nat → Value} (ht : t < 3) (hlt : go < w.heap.size) (hV : ∀ s, s < 3 → s ≠ t → w.cell? ⟨go, s, none⟩ = some (V s)) (hV1 : ∀ s, (V s).oneCell' = true) (U : Up Nul w W) (hn : n1 = 2 - t) (ha : t < 2 → a = t + 1)
    (h0 : W.cell? ⟨gs, 0, none⟩ = some (.slice (some ⟨go, 0, none⟩) t co)) (h1 : W.cell? ⟨gs, 1, none⟩ = some (.slice (some ⟨go, a, none⟩) n1 c1)) :
    Calls Tryz.prog 36 #[.slice (some ⟨gs, 0, none⟩) 2 2] W
      fun e w' => ∃ h c, e = .returned (.slice (some ⟨h, 0, none⟩) 2 c) ∧ (∀ i, i < 2 → w'.cell? ⟨h, i, none⟩ = some (V (oth t i))) ∧ h < w'.heap.size ∧ Up Nul W w' := by
  have hcell : ∀ s, s < 3 → s ≠ t → W.cell? ⟨go, s, none⟩ = some (V s) := fun s h1 h2 => (U.cell (p := ⟨go, s, none⟩) hlt id).trans (hV s h1 h2)
  let X : Nat → List Value := fun i => if i = 0 then (List.range t).map (fun i => V (oth t i)) else (List.range (2 - t)).map fun j => V (oth t (t + j))
  have hfl : flat X 2 = (List.range 2).map (fun i => V (oth t i)) := by
    rw [flat_two]
    show (List.range t).map (fun i => V (oth t i)) ++ (List.range (2 - t)).map (fun j => V (oth t (t + j))) = _
    obtain rfl | rfl | rfl : t = 0 ∨ t = 1 ∨ t = 2 := by omega
    · rfl
    · rfl
    · rfl
  have hlen : (flat X 2).length = 2 := by rw [hfl]; simp
  refine (cats_ss gs 0 2 2 (fun i => if i = 0 then some ⟨go, 0, none⟩ else some ⟨go, a, none⟩) (fun i => if i = 0 then t else n1) (fun i => if i = 0 then co else c1) X W (by omega) (fun i hi => ?_) (fun i hi => ?_) (by rw [hlen]; omega) (by rw [hlen]; omega)).mono ?_
  · match i, hi with
    | 0, _ => exact h0
    | 1, _ => exact h1
  · have one : ∀ n (f : Nat → Nat), ∀ u ∈ (List.range n).map (fun j => V (oth t (f j))), u.oneCell' = true := fun n f u hu => by
      obtain ⟨j, _, rfl⟩ := List.mem_map.1 hu
      exact hV1 _
    match i, hi with
    | 0, _ =>
      refine ⟨by show ((List.range t).map fun i => V (oth t i)).length = t; simp, one t id, (fun e => by cases e), fun ad e => ?_⟩
      cases e
      refine ⟨Nat.lt_of_lt_of_le hlt U.size, fun j u hj => ?_⟩
      have hj' : ((List.range t).map fun i => V (oth t i))[j]? = some u := hj
      have hjt : j < t := by
        rcases Nat.lt_or_ge j t with h | h
        · exact h
        · rw [List.getElem?_eq_none (by simp; exact h)] at hj'; cases hj'
      rw [List.getElem?_map, List.getElem?_range hjt] at hj'
      cases hj'
      have e2 : oth t j = j := by unfold oth; rw [if_pos hjt]
      rw [add_at, Nat.zero_add]
      show _ = some (V (oth t j))
      rw [e2]
      exact hcell j (by omega) (by omega)
    | 1, _ =>
      refine ⟨by show ((List.range (2 - t)).map fun j => V (oth t (t + j))).length = n1; simp [hn], one (2 - t) (fun j => t + j), (fun e => by cases e), fun ad e => ?_⟩
      cases e
      refine ⟨Nat.lt_of_lt_of_le hlt U.size, fun j u hj => ?_⟩
      have hj' : ((List.range (2 - t)).map fun j => V (oth t (t + j)))[j]? = some u := hj
      have hjt : j < 2 - t := by
        rcases Nat.lt_or_ge j (2 - t) with h | h
        · exact h
        · rw [List.getElem?_eq_none (by simp; omega)] at hj'; cases hj'
      rw [List.getElem?_map, List.getElem?_range hjt] at hj'
      cases hj'
      have e2 : oth t (t + j) = t + 1 + j := by unfold oth; rw [if_neg (by omega)]; omega
      rw [add_at, ha (by omega)]
      show _ = some (V (oth t (t + j)))
      rw [e2]
      exact hcell (t + 1 + j) (by omega) (by omega)
  · rintro e w' ⟨v, rfl, ho, u⟩
    obtain ⟨h, c, rfl, _, hl, hc, _, _⟩ := ho.row (by rw [hlen]; omega)
    rw [hlen]
    exact ⟨h, c, rfl, fun i hi => hc i _ (by rw [hfl, List.getElem?_map, List.getElem?_range hi]; rfl), hl, u⟩
set_option maxRecDepth 100000 in
set_option maxHeartbeats 3200000 in
theorem peelL (FS : List Nat) (w0 w : World) (F : Addr) (t gw ow cw go co L : Nat) (G O C : Nat → Nat) (R : Nat → Nat → List Nat) (Wd : Nat → List Nat) (hs : LS w0 FS w) (ht : t < 3) (co3 : 3 ≤ co) (hso : SO FS w go t L G O C R) (hw : LL FS w gw ow 4 fun j => some (Wd j)) (lW : ∀ j, j < 4 → (Wd j).length = L) (L1 : 1 ≤ L) (L64 : L ≤ 64) :
    Calls Tryz.prog 14 #[.pointer (some F), .int .i64 t, .slice (some ⟨gw, ow, none⟩) 4 cw, .slice (some ⟨go, 0, none⟩) 3 co] w
      fun e w' => ∃ S b, e = .returned (.tuple #[.slice (some ⟨S, 0, none⟩) 2 2, .int .i64 0]) ∧ Elim w 0 S 2 L b (fun j => tab L fun u => (sumK 2 L (fun i => R (oth t i)) j).getD u 0 ^^^ (Wd j).getD u 0) w' ∧ Up Nul w w' := by
  have hnot : ∀ (x : Bool) (w : World), (Op.unary .not (.bool x)).run Tryz.prog w = .ok (.bool (!x)) w := fun _ _ => rfl
  have HS := hid (And.intro hs (And.intro hso (And.intro hw lW)))
  obtain ⟨RR, HRR⟩ : ∃ RR, Hid (RR = sumK 2 L fun i => R (oth t i)) := ⟨_, rfl⟩
  rw [← HRR.out]
  have HNC := hid (noColour_any (t : Int) w)
  rw [show decide ((t : Int) < 0 ∨ 3 ≤ (t : Int)) = false from decide_eq_false (by omega)] at HNC
  clear hs hso hw lW
  go_enter Tryz.func14, Tryz.ntmps14
  go_wp2_with fail
  refine HNC.out.mono ?_
  rintro e w1 ⟨rfl, u1⟩
  have H1 := hid (HS.out.1.nul u1)
  have HU1 := hid u1
  clear HNC u1
  go_upto_region 3 with fail
  go_cut [10] (fun s10 wx => ∃ h c, s10 = .slice (some ⟨h, 0, none⟩) 2 c ∧ (∀ i, i < 2 → wx.cell? ⟨h, i, none⟩ = some (.slice (some ⟨G (oth t i), O (oth t i), none⟩) 6 (C (oth t i)))) ∧ h < wx.heap.size ∧ Up Nul w wx)
  case first =>
    as_aux_lemma =>
    obtain rfl | rfl | rfl : t = 0 ∨ t = 1 ∨ t = 2 := by omega
    · have i2 : ¬ co = 1 := by omega
      go_wp2_with fail
      go_region_with ((go_at_call 36; (refine (others_any (V := fun s => .slice (some ⟨G s, O s, none⟩) 6 (C s)) (t := 0) ht HS.out.2.1.lt HS.out.2.1.cell (fun _ => rfl) (by repeat (first | exact HU1.out | refine Up.alloc ?_ _ | refine Up.drew ?_)) rfl (fun h => by first | rfl | omega) (World.cell?_alloc_new _ _ _ 0) (World.cell?_alloc_new _ _ _ 1)).mono ?_); rintro e w2 ⟨h, c, rfl, hc, hl, u2⟩; have H2 := hid (And.intro hc (And.intro hl u2)); clear hc hl u2))
      all_goals
        go_wp2_with fail
        go_meet
        case rel => exact ⟨h, c, rfl, H2.out.1, H2.out.2.1, (by repeat (first | exact HU1.out | refine Up.alloc ?_ _ | refine Up.drew ?_) : Up Nul w _).trans H2.out.2.2⟩
    · have i1 : (1 : Int) ≤ (co : Int) := by omega
      have i2 : ¬ co = 2 := by omega
      go_wp2_with fail
      go_region_with ((go_at_call 36; (refine (others_any (V := fun s => .slice (some ⟨G s, O s, none⟩) 6 (C s)) (t := 1) ht HS.out.2.1.lt HS.out.2.1.cell (fun _ => rfl) (by repeat (first | exact HU1.out | refine Up.alloc ?_ _ | refine Up.drew ?_)) rfl (fun h => by first | rfl | omega) (World.cell?_alloc_new _ _ _ 0) (World.cell?_alloc_new _ _ _ 1)).mono ?_); rintro e w2 ⟨h, c, rfl, hc, hl, u2⟩; have H2 := hid (And.intro hc (And.intro hl u2)); clear hc hl u2))
      all_goals
        go_wp2_with fail
        go_meet
        case rel => exact ⟨h, c, rfl, H2.out.1, H2.out.2.1, (by repeat (first | exact HU1.out | refine Up.alloc ?_ _ | refine Up.drew ?_) : Up Nul w _).trans H2.out.2.2⟩
    · by_cases c3 : co = 3
      · subst c3
        go_wp2_with fail
        go_region_with ((go_at_call 36; (refine (others_any (V := fun s => .slice (some ⟨G s, O s, none⟩) 6 (C s)) (t := 2) ht HS.out.2.1.lt HS.out.2.1.cell (fun _ => rfl) (by repeat (first | exact HU1.out | refine Up.alloc ?_ _ | refine Up.drew ?_)) rfl (fun h => by first | rfl | omega) (World.cell?_alloc_new _ _ _ 0) (World.cell?_alloc_new _ _ _ 1)).mono ?_); rintro e w2 ⟨h, c, rfl, hc, hl, u2⟩; have H2 := hid (And.intro hc (And.intro hl u2)); clear hc hl u2))
        all_goals
          go_wp2_with fail
          go_meet
          case rel => exact ⟨h, c, rfl, H2.out.1, H2.out.2.1, (by repeat (first | exact HU1.out | refine Up.alloc ?_ _ | refine Up.drew ?_) : Up Nul w _).trans H2.out.2.2⟩
      · have i1 : (2 : Int) ≤ (co : Int) := by omega
        go_wp2_with fail
        go_region_with ((go_at_call 36; (refine (others_any (V := fun s => .slice (some ⟨G s, O s, none⟩) 6 (C s)) (t := 2) ht HS.out.2.1.lt HS.out.2.1.cell (fun _ => rfl) (by repeat (first | exact HU1.out | refine Up.alloc ?_ _ | refine Up.drew ?_)) rfl (fun h => by first | rfl | omega) (World.cell?_alloc_new _ _ _ 0) (World.cell?_alloc_new _ _ _ 1)).mono ?_); rintro e w2 ⟨h, c, rfl, hc, hl, u2⟩; have H2 := hid (And.intro hc (And.intro hl u2)); clear hc hl u2))
        all_goals
          go_wp2_with fail
          go_meet
          case rel => exact ⟨h, c, rfl, H2.out.1, H2.out.2.1, (by repeat (first | exact HU1.out | refine Up.alloc ?_ _ | refine Up.drew ?_) : Up Nul w _).trans H2.out.2.2⟩
  case rest =>
    as_aux_lemma =>
    obtain ⟨h, c, rfl, hc, hl, hu⟩ := hcut
    have H2 := hid (And.intro hc (And.intro hl hu))
    have HLL : Hid (∀ i, i < 2 → LL FS wc (G (oth t i)) (O (oth t i)) 6 fun j => some (R (oth t i) j)) := fun i hi => (HS.out.2.1.ll _ (oth_lt ht hi) (oth_ne _ _)).nxt (HS.out.1.nul hu)
    have HLN : Hid (∀ i, i < 2 → ∀ j, j < 6 → (R (oth t i) j).length = L) := fun i hi => HS.out.2.1.len _ (oth_lt ht hi) (oth_ne _ _)
    have HWL : Hid (RowL wc gw ow 4 fun _ => L) := (HS.out.2.2.1.nxt (HS.out.1.nul hu)).rowL HS.out.2.2.2
    have HLS := hid (HS.out.1.nxt (HS.out.1.nul hu))
    have HGW := hid (HS.out.2.2.1.nxt (HS.out.1.nul hu)).lt
    clear hc hl hu H1 HU1
    go_wp2_with fail
    refine (calike_good FS h 0 2 c 4 cw L (fun i => G (oth t i)) (fun i => O (oth t i)) (fun i => C (oth t i)) (fun i => R (oth t i)) (some ⟨gw, ow, none⟩) (rowV wc gw ow 4) wc (by omega) (by omega) H2.out.2.1 (fun i hi => by rw [Nat.zero_add]; exact H2.out.1 i hi) HLL.out HLN.out L1 L64 (rowV_srow HGW.out HWL.out) (rowV_len HWL.out) (by omega)).mono ?_
    rintro e w3 ⟨rfl, u3⟩
    have n3 := HLS.out.nul u3
    have H3 := hid (And.intro (HLS.out.nxt n3) (And.intro (fun i hi => (HLL.out i hi).nxt n3 : ∀ i, i < 2 → LL FS w3 (G (oth t i)) (O (oth t i)) 6 fun j => some (R (oth t i) j)) (H2.out.2.2.trans u3)))
    have HC3 : Hid (∀ i, i < 2 → w3.cell? ⟨h, 0 + i, none⟩ = some (.slice (some ⟨G (oth t i), O (oth t i), none⟩) 6 (C (oth t i)))) := fun i hi => by rw [Nat.zero_add]; exact (u3.cell (p := ⟨h, i, none⟩) H2.out.2.1 id).trans (H2.out.1 i hi)
    have HH3 := hid (Nat.lt_of_lt_of_le H2.out.2.1 u3.size)
    clear n3 u3
    go_wp2_with fail
    refine (csums_any FS w0 w3 h 0 2 c L (fun i => G (oth t i)) (fun i => O (oth t i)) (fun i => C (oth t i)) (fun i => R (oth t i)) H3.out.1 (by omega) (by omega) HH3.out HC3.out H3.out.2.1 HLN.out L64).mono ?_
    rintro e w4 ⟨S, b, rfl, he, u4⟩
    have H4 := hid (And.intro he (H3.out.2.2.trans u4))
    have HB3 := hid H3.out.2.2.size
    clear he u4 HC3 HH3 HLL HWL HLS HGW H2
    rw [← HRR.out] at H4
    go_wp2_with fail
    go_loopw [47] (fun i wr => ∃ j : Nat, j ≤ 2 ∧ i = .int .i64 j ∧ ∃ P, Elim w3 0 S 2 L b P wr ∧ Up Nul w wr ∧ ∀ i, i < 2 → P i = if i < j then (tab L fun u => (RR i).getD u 0 ^^^ (Wd i).getD u 0) else RR i) (fun i _ => 2 - (intOf i).toNat)
    case atStart => exact ⟨0, by omega, rfl, _, H4.out.1, H4.out.2, fun i _ => by rw [if_neg (Nat.not_lt_zero _)]⟩
    case round =>
      clear H4
      obtain ⟨j, hj, rfl, P, he, hu, hP⟩ := hrel
      have HE := hid (And.intro he (And.intro hu hP))
      clear he hu hP
      by_cases hlt : j < 2
      · have x0 := HE.out.1.lin j hlt
        obtain ⟨bb, ob, cb, x1, r1⟩ := (HS.out.2.2.1.nxt (HS.out.1.nul HE.out.2.1)).at (i := j) (by omega) rfl
        obtain ⟨bb', ob', cb', x1', r1'⟩ := HS.out.2.2.1.at (i := j) (by omega) rfl
        have hxx := (HE.out.2.1.cell (p := ⟨gw, ow + j, none⟩) HS.out.2.2.1.lt id).trans x1'
        rw [x1] at hxx
        have hbb : bb' = bb := by cases hxx; rfl
        rw [HS.out.2.2.2 j (by omega)] at x1
        have HCA := hid (cadd_any (b j) bb ob L L cb (P j) (Wd j) wr (HE.out.1.rows j hlt) r1.row r1.lt (by have h1 := r1'.lt; have h2 := (HE.out.1.own j hlt).1; have h3 := HB3.out; omega) (HE.out.1.lens j hlt) (HS.out.2.2.2 j (by omega)) L64)
        clear hxx hbb x1' r1' r1
        have i1 : (0 : Int) ≤ (j : Int) := by omega
        have i2 : (j : Int) < 2 := by omega
        have i3 : (j : Int) < 4 := by omega
        obtain ⟨Bq, BQ⟩ : ∃ q, Hid (b j = q) := ⟨_, rfl⟩
        rw [BQ.out] at x0 HCA
        go_wp2_with fail
        refine HCA.out.mono ?_
        rintro e w5 ⟨rfl, hbk, hu5⟩
        have HT : Hid (Elim w3 0 S 2 L b (updL P j (tab L fun u => (P j).getD u 0 ^^^ (Wd j).getD u 0)) w5) := HE.out.1.turn hlt (by rw [BQ.out]; exact hbk) (tab_length _ _) (by rw [BQ.out]; exact hu5)
        have HU5 : Hid (Up Nul w w5) := HE.out.2.1.fresh hu5 (by have h2 := (HE.out.1.own j hlt).1; rw [BQ.out] at h2; have h3 := HB3.out; omega)
        clear hbk hu5
        go_wp2
        go_roundw
        case rel => exact ⟨j + 1, by omega, by go_num, _, HT.out, HU5.out, fun i hi => by
          unfold updL
          by_cases e : i = j
          · subst e
            rw [if_pos rfl, if_pos (Nat.lt_succ_self _), HE.out.2.2 i hi, if_neg (Nat.lt_irrefl _)]
          · rw [if_neg e, HE.out.2.2 i hi]
            by_cases e2 : i < j
            · rw [if_pos e2, if_pos (by omega)]
            · rw [if_neg e2, if_neg (by omega)]⟩
        case measure => simp [intOf]; omega
      · obtain rfl : j = 2 := by omega
        have HF : Hid (Elim w 0 S 2 L b (fun j => tab L fun u => (RR j).getD u 0 ^^^ (Wd j).getD u 0) wr) := (HE.out.1.congr fun i hi => by rw [HE.out.2.2 i hi, if_pos hi]).back H3.out.2.2.nul
        go_wp2
        go_ret2
        exact ⟨S, b, rfl, HF.out, HE.out.2.1⟩
end Go.Proofs.YtmaffnadmfphpaaGreat
