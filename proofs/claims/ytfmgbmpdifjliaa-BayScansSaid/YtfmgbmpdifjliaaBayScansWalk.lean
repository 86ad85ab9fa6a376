/- The law BayScans, walked, whatever the program's Bay is. -/
import Derived.Test.YtfmgbmpdifjliaaBayTakesWalk
import Derived.Test.YtfmgbmpdifjliaaCkSame
import Derived.WalkSmall
import Derived.Laws.Bits64b
import Derived.Deep.CutRange
import Derived.BigQuiet
import Derived.Deep.QuietTactic
namespace Go.Proofs.Ytfmgbmpdifjliaa
open Go.RowKit
set_option linter.unusedVariables false

namespace BaL
theorem bit_at {x t : Nat} (hx : x < 18446744073709551616) : (bits .and .u64 ((x : Int) / 2 ^ t) 1 == 1) = x.testBit t := by
  have e : (x : Int) / 2 ^ t = ((x / 2 ^ t : Nat) : Int) := by simp
  have hlt : x / 2 ^ t ≤ x := Nat.div_le_self _ _
  rw [e, Nat.testBit_eq_decide_div_mod_eq]
  clear e
  generalize x / 2 ^ t = d at hlt ⊢
  rw [and_one_u64 _ (by omega) (by omega), show ((d : Nat) : Int) % 2 = ((d % 2 : Nat) : Int) by omega]
  have h2 : d % 2 = 0 ∨ d % 2 = 1 := by omega
  rcases h2 with h | h <;> rw [h] <;> rfl
/-- What is used and what lies there, while the first t slots have been taken. -/
def U1 (t s : Nat) : Bool := decide (s < t)
def R1 (D : Nat → Nat) (t s : Nat) : List Nat := if s < t then FrM.fr (D s) (zer s) else zer 96
theorem U1_put (t : Nat) : updB (U1 t) t true = U1 (t + 1) := by
  funext s
  unfold updB U1
  by_cases e : s = t
  · subst e; simp
  · rw [if_neg e]
    by_cases e2 : s < t
    · have : s < t + 1 := by omega
      simp [e2, this]
    · have : ¬ s < t + 1 := by omega
      simp [e2, this]
theorem R1_put (D : Nat → Nat) (t : Nat) : upd (R1 D t) t (FrM.fr (D t) (zer t)) = R1 D (t + 1) := by
  funext s
  unfold upd R1
  by_cases e : s = t
  · subst e; rw [if_pos rfl, if_pos (Nat.lt_succ_self _)]
  · rw [if_neg e]
    by_cases e2 : s < t
    · rw [if_pos e2, if_pos (by omega)]
    · rw [if_neg e2, if_neg (by omega)]
/-- What lies there when the first t slots have been spoilt where P tells so. -/
def R2 (D : Nat → Nat) (P : Nat → Bool) (n t s : Nat) : List Nat := if s < t ∧ P s = true then turn (FrM.fr (D s) (zer s)) 5 16 else R1 D n s
theorem R2_zero (D : Nat → Nat) (P : Nat → Bool) (n : Nat) : R2 D P n 0 = R1 D n := by
  funext s
  unfold R2
  rw [if_neg fun h => Nat.not_lt_zero _ h.1]
theorem R2_yes (D : Nat → Nat) {P : Nat → Bool} {n t : Nat} (hp : P t = true) (ht : t < n) : upd (R2 D P n t) t (turn (R2 D P n t t) 5 16) = R2 D P n (t + 1) := by
  funext s
  unfold upd
  by_cases e : s = t
  · subst e
    rw [if_pos rfl]
    unfold R2
    rw [if_neg fun h => Nat.lt_irrefl _ h.1, if_pos ⟨Nat.lt_succ_self _, hp⟩]
    unfold R1
    rw [if_pos ht]
  · rw [if_neg e]
    unfold R2
    by_cases e2 : s < t ∧ P s = true
    · rw [if_pos e2, if_pos ⟨by omega, e2.2⟩]
    · rw [if_neg e2, if_neg fun h => e2 ⟨by omega, h.2⟩]
theorem R2_no (D : Nat → Nat) {P : Nat → Bool} {n t : Nat} (hp : P t = false) : R2 D P n t = R2 D P n (t + 1) := by
  funext s
  unfold R2
  by_cases e2 : s < t ∧ P s = true
  · rw [if_pos e2, if_pos ⟨by omega, e2.2⟩]
  · have h3 : ¬ (s < t + 1 ∧ P s = true) := fun h => by
      rcases (by omega : s < t ∨ s = t) with e | rfl
      · exact e2 ⟨e, h.2⟩
      · rw [hp] at h
        exact absurd h.2 (by decide)
    rw [if_neg e2, if_neg h3]
theorem zer_len (n : Nat) : (zer n).length = n := by simp [zer]
/-- What Scan finds of them. -/
theorem tk_spoilt {D : Nat → Nat} {P : Nat → Bool} {n s : Nat} (hs : s < n) (hn : n ≤ 8) (hp : P s = true) : FrM.tk (R2 D P n n s) = none := by
  unfold R2
  rw [if_pos ⟨hs, hp⟩]
  unfold turn
  exact FrM.tk_one (j := 4) (by rw [zer_len]; omega) (zer_small s) (by omega) (by omega)
theorem tk_good {D : Nat → Nat} {P : Nat → Bool} {n s : Nat} (hD : ∀ s, D s < 16777216) (hs : s < n) (hn : n ≤ 8) (hp : P s = false) : FrM.tk (R2 D P n n s) = some (D s, zer s) := by
  unfold R2
  rw [if_neg fun h => by rw [hp] at h; cases h.2]
  unfold R1
  rw [if_pos hs]
  exact FrM.tk_fr (by have := hD s; omega) (by rw [zer_len]; omega)
theorem tk_empty {D : Nat → Nat} {P : Nat → Bool} {n s : Nat} (hs : n ≤ s) : FrM.tk (R2 D P n n s) = none := by
  unfold R2
  rw [if_neg fun h => by omega]
  unfold R1
  rw [if_neg (by omega)]
  exact tk_zer
theorem R2_small {D : Nat → Nat} {P : Nat → Bool} {n : Nat} (hn : n ≤ 8) : ∀ s, ∀ v ∈ R2 D P n n s, v < 256 := fun s => by
  unfold R2
  split
  · rename_i h
    intro v hv
    unfold turn at hv
    rcases List.mem_or_eq_of_mem_set hv with hv | rfl
    · exact FrM.fr_small (by rw [zer_len]; omega) (zer_small s) v hv
    · exact Nat.xor_lt_two_pow (n := 8) (small_getD (FrM.fr_small (by rw [zer_len]; omega) (zer_small s)) _) (by omega)
  · unfold R1
    split
    · exact FrM.fr_small (by rw [zer_len]; omega) (zer_small s)
    · exact zer_small 96
theorem scn_none {R : Nat → List Nat} {n : Nat} : ∀ k, (∀ s, n ≤ s → FrM.tk (R s) = none) → scn R (n + k) = scn R n := by
  intro k h
  induction k with
  | zero => rfl
  | succ k ih => rw [show n + (k + 1) = (n + k) + 1 by omega, scn_no (h _ (by omega)), ih]
theorem scn_pre (R : Nat → List Nat) (s : Nat) : ∀ k, ∃ l, scn R (s + k) = scn R s ++ l := by
  intro k
  induction k with
  | zero => exact ⟨[], by simp⟩
  | succ k ih =>
    obtain ⟨l, e⟩ := ih
    cases h : FrM.tk (R (s + k)) with
    | none => exact ⟨l, by rw [show s + (k + 1) = (s + k) + 1 by omega, scn_no h, e]⟩
    | some p =>
      obtain ⟨id, d⟩ := p
      exact ⟨l ++ [⟨s + k, id, d.length⟩], by rw [show s + (k + 1) = (s + k) + 1 by omega, scn_yes h, e, List.append_assoc]⟩
theorem scn_get {R : Nat → List Nat} {s n id : Nat} {d : List Nat} (h : FrM.tk (R s) = some (id, d)) (hs : s < n) : (scn R n)[(scn R s).length]? = some ⟨s, id, d.length⟩ := by
  obtain ⟨l, e⟩ := scn_pre R (s + 1) (n - (s + 1))
  rw [show s + 1 + (n - (s + 1)) = n by omega, scn_yes h, List.append_assoc] at e
  rw [e, List.getElem?_append_right (Nat.le_refl _), Nat.sub_self]
  rfl
end BaL
set_option maxRecDepth 100000 in
set_option maxHeartbeats 3200000 in
theorem bscans_nat (O : BayOps) (a0 : Option Addr) (l0 c0 : Nat) (f : Nat → Int) (x1 x2 : Nat) (w : World) (hx1 : x1 < 18446744073709551616) (hx2 : x2 < 18446744073709551616) (hf : SlI w a0 l0 f) :
    Calls Try.prog 3 #[.slice a0 l0 c0, .int .u64 (x1 : Nat), .int .u64 (x2 : Nat)] w fun e w' => e = .returned (.bool true) ∧ Below w.heap.size w w' := by
  have HF := hid hf
  have X1 := hid hx1
  have X2 := hid hx2
  obtain ⟨D, HD⟩ : ∃ D : Nat → Nat, Hid (∀ s, bits .and .i64 (f s) 16777215 = (D s : Int) ∧ D s < 16777216) := ⟨fun s => (BaL.mask24 (f s)).choose, fun s => (BaL.mask24 (f s)).choose_spec⟩
  have l2 : (l0 : Int) ≤ 9223372036854775807 := by have := hf.le; omega
  obtain ⟨n, N⟩ : ∃ n : Nat, n = min l0 8 := ⟨_, rfl⟩
  have HN : Hid (n ≤ 8 ∧ n ≤ l0) := by show _ ∧ _; omega
  have hmin : min (l0 : Int) 8 = (n : Int) := by omega
  have n8 : (n : Int) ≤ 8 := by omega
  have n0 : (0 : Int) ≤ (n : Int) := by omega
  clear hf hx1 hx2 N
  go_enter Try.func3, Try.ntmps3
  go_wp2_with fail
  refine (bh_new (O := O) (Up.refl Nul w) 8 8 rfl).mono ?_
  rintro e w1 ⟨b, rfl, u1, hn⟩
  have HNW := hid hn
  clear hn u1
  go_wp2_with fail
  refine HNW.out.mono ?_
  rintro e w2 ⟨q, rfl, h2⟩
  have G2 := hid h2
  clear h2 HNW
  go_wp2_with fail
  go_loopw [10] (fun i wr => ∃ t : Nat, t ≤ n ∧ i = .int .i64 (t : Nat) ∧ BH O Nul w wr q b 8 (BaL.U1 t) (BaL.R1 D t) t) (fun i _ => n - (intOf i).toNat)
  case atStart => exact ⟨0, Nat.zero_le _, rfl, G2.out⟩
  case round =>
    obtain ⟨t, ht, rfl, hb⟩ := hrel
    have HB := hid hb
    clear hb G2
    have t0 : (0 : Int) ≤ (t : Int) := by omega
    by_cases hlt : t < n
    · have t1 : (t : Int) < (n : Int) := by omega
      have t3 : (t : Int) < (l0 : Int) := by have := HN.out; omega
      have HT : Hid (t < n ∧ t < 8 ∧ t < l0) := by have := HN.out; show _ ∧ _; omega
      have HFS : Hid (fst0 (BaL.U1 t) 8 0 = some t) := fst0_is 8 0 t (Nat.zero_le _) (by have := HT.out; omega) (fun s _ hs => by unfold BaL.U1; simpa using hs) (by unfold BaL.U1; simp)
      clear hlt ht
      go_wp2_with fail
      refine (bh_take HB.out HFS.out).mono ?_
      rintro e w3 ⟨rfl, h3, _⟩
      rw [BaL.U1_put] at h3
      have G3 := hid h3
      obtain ⟨lg, lo, rfl, hlg, hcl⟩ : ∃ g o, a0 = some ⟨g, o, none⟩ ∧ g < w.heap.size ∧ ∀ W, Up Nul w W → W.cell? ⟨g, o + t, none⟩ = some (.int .i64 (f t)) := by
        rcases HF.out.row with e | ⟨g, o, e, hg, hc⟩
        · have := HT.out; omega
        · exact ⟨g, o, e, hg, fun W u => (u.cell (p := ⟨g, o + t, none⟩) hg id).trans (hc t HT.out.2.2)⟩
      have HCL := hid hcl
      clear h3 hcl hlg
      have hdt := (HD.out t).1
      have UR : Hid (Up Nul w3 w3.drew) := (Up.refl _ _).drew
      have VC : Hid (w3.drew.cell? ⟨lg, lo + t, none⟩ = some (.int .i64 (f t))) := HCL.out _ (G3.out.up.trans UR.out)
      have UA := hid (UR.out.alloc (.cells (bys (zer t)) 5))
      have VA : Hid ((w3.drew.alloc (.cells (bys (zer t)) 5)).cell? ⟨lg, lo + t, none⟩ = some (.int .i64 (f t))) := HCL.out _ (G3.out.up.trans UA.out)
      have HZ : Hid (SlN (w3.drew.alloc (.cells (bys (zer t)) 5)) (some ⟨w3.drew.heap.size, 0, none⟩) t (zer t)) := by
        have := slm_mark w3.drew (zer t) (0, 0) (zer_small t) (by rw [BaL.zer_len]; have := HT.out; omega) _ rfl
        rw [BaL.zer_len] at this
        exact this
      have HW : Hid (∀ (e : Ending) (w4 : World), e = .returned (.int .i64 0) ∧ BH O Nul w w4 q b 8 (BaL.U1 (t + 1)) (upd (BaL.R1 D t) t (FrM.fr (D t) (zer t))) (t + 1) ∧ Sv Nul (w3.drew.alloc (.cells (bys (zer t)) 5)) w4 → e = .returned (.int .i64 0) ∧ BH O Nul w w4 q b 8 (BaL.U1 (t + 1)) (BaL.R1 D (t + 1)) (t + 1) ∧ w4.cell? ⟨lg, lo + t, none⟩ = some (.int .i64 (f t))) := fun e w4 h => by
        obtain ⟨h1, h2, _⟩ := h
        rw [BaL.R1_put] at h2
        exact ⟨h1, h2, HCL.out _ h2.up⟩
      have HUT : Hid (BaL.U1 (t + 1) t = true) := by show _ = _; unfold BaL.U1; simp
      go_upto_region 10 with fail
      refine wp_region_held_drew (S := (fun W => W.cell? ⟨lg, lo + t, none⟩ = some (.int .i64 (f t)))) (by kernel_rfl) (by exact VC.out) (fun hHeld => ?_)
      refine wpAnyH_take (i := 0) (oi := ⟨some 39, _, _, _, _, _⟩) (v := ?vg1) rfl (by kernel_rfl) (by kernel_rfl) (by kernel_rfl) (fun _ _ _ h => h) (Or.inl ⟨by rfl, ?yg1⟩) (by assumption) ?rg1
      case yg1 => (intro w hSw; (try dsimp only at hSw); go_simp; try with_reducible rfl)
      try simp only [Act.put, List.setIfInBounds_toArray, List.set_cons_zero, List.set_cons_succ]
      refine wpAnyH_take (i := 1) (oi := ⟨some 40, _, _, _, _, _⟩) (v := ?vg2) rfl (by kernel_rfl) (by kernel_rfl) (by kernel_rfl) (fun _ _ _ h => h) (Or.inl ⟨by rfl, ?yg2⟩) (by assumption) ?rg2
      case yg2 => (intro w hSw; (try dsimp only at hSw); go_simp; try with_reducible rfl)
      try simp only [Act.put, List.setIfInBounds_toArray, List.set_cons_zero, List.set_cons_succ]
      refine wpAnyH_take (i := 2) (oi := ⟨some 41, _, _, _, _, _⟩) (v := ?vg3) rfl (by kernel_rfl) (by kernel_rfl) (by kernel_rfl) (fun _ _ _ h => h) (Or.inl ⟨by rfl, ?yg3⟩) (by assumption) ?rg3
      case yg3 => (intro w hSw; (try dsimp only at hSw); go_simp; try with_reducible rfl)
      try simp only [Act.put, List.setIfInBounds_toArray, List.set_cons_zero, List.set_cons_succ]
      refine wpAnyH_take (i := 3) (oi := ⟨some 42, _, _, _, _, _⟩) (v := ?vg4) rfl (by kernel_rfl) (by kernel_rfl) (by kernel_rfl) (fun _ _ _ h => h) (Or.inl ⟨by rfl, ?yg4⟩) (by assumption) ?rg4
      case yg4 => (intro w hSw; (try dsimp only at hSw); go_simp; try with_reducible rfl)
      try simp only [Act.put, List.setIfInBounds_toArray, List.set_cons_zero, List.set_cons_succ]
      refine wpAnyH_take (i := 4) (oi := ⟨some 43, _, _, _, _, _⟩) (v := ?vg5) rfl (by kernel_rfl) (by kernel_rfl) (by kernel_rfl) (fun _ _ _ h => h) (Or.inl ⟨by rfl, ?yg5⟩) (by assumption) ?rg5
      case yg5 => (intro w hSw; (try dsimp only at hSw); go_simp; try with_reducible rfl)
      try simp only [Act.put, List.setIfInBounds_toArray, List.set_cons_zero, List.set_cons_succ]
      refine wpAnyH_take (i := 5) (oi := ⟨some 44, _, _, _, _, _⟩) (v := ?vg6) rfl (by kernel_rfl) (by kernel_rfl) (by kernel_rfl) (fun _ _ _ h => h) (Or.inl ⟨by rfl, ?yg6⟩) (by assumption) ?rg6
      case yg6 => (intro w hSw; (try dsimp only at hSw); go_simp; try with_reducible rfl)
      try simp only [Act.put, List.setIfInBounds_toArray, List.set_cons_zero, List.set_cons_succ]
      refine wpAnyH_take (i := 6) (oi := ⟨some 45, _, _, _, _, _⟩) (v := ?vg7) rfl (by kernel_rfl) (by kernel_rfl) (by kernel_rfl) (fun _ _ _ h => h) (Or.inl ⟨by rfl, ?yg7⟩) (by assumption) ?rg7
      case yg7 => (intro w hSw; (try dsimp only at hSw); go_simp; try with_reducible rfl)
      try simp only [Act.put, List.setIfInBounds_toArray, List.set_cons_zero, List.set_cons_succ]
      refine wpAnyH_take (i := 7) (oi := ⟨some 46, _, _, _, _, _⟩) (v := ?vg8) rfl (by kernel_rfl) (by kernel_rfl) (by kernel_rfl) (fun _ _ _ h => h) (Or.inl ⟨by rfl, ?yg8⟩) (by assumption) ?rg8
      case yg8 => (intro w hSw; (try dsimp only at hSw); go_simp; try with_reducible rfl)
      try simp only [Act.put, List.setIfInBounds_toArray, List.set_cons_zero, List.set_cons_succ]
      refine wpAnyH_take (i := 8) (oi := ⟨some 47, _, _, _, _, _⟩) (v := ?vg9) rfl (by kernel_rfl) (by kernel_rfl) (by kernel_rfl) (fun _ _ _ h => h) (Or.inl ⟨by rfl, ?yg9⟩) (by assumption) ?rg9
      case yg9 => (intro w hSw; (try dsimp only at hSw); go_simp; try with_reducible rfl)
      try simp only [Act.put, List.setIfInBounds_toArray, List.set_cons_zero, List.set_cons_succ]
      refine wpAnyH_take (i := 9) (oi := ⟨some 48, _, _, _, _, _⟩) (v := ?vg10) rfl (by kernel_rfl) (by kernel_rfl) (by kernel_rfl) (fun _ _ _ h => h) (Or.inl ⟨by rfl, ?yg10⟩) (by assumption) ?rg10
      case yg10 => (intro w hSw; (try dsimp only at hSw); go_simp; try with_reducible rfl)
      try simp only [Act.put, List.setIfInBounds_toArray, List.set_cons_zero, List.set_cons_succ]
      refine wpAnyH_take (i := 10) (oi := ⟨some 49, _, _, _, _, _⟩) (v := ?vg11) rfl (by kernel_rfl) (by kernel_rfl) (by kernel_rfl) (fun _ _ _ h => h) (Or.inl ⟨by rfl, ?yg11⟩) (by assumption) ?rg11
      case yg11 => (intro w hSw; (try dsimp only at hSw); go_simp; try with_reducible rfl)
      try simp only [Act.put, List.setIfInBounds_toArray, List.set_cons_zero, List.set_cons_succ]
      refine wpAnyH_ready (rs := [11]) (by kernel_rfl) (by simp) ?_
      refine AllReadyH.cons (o := ⟨some 50, _, _, _, _, _⟩) rfl (fun K hK => ?_) AllReadyH.nil
      go_simp
      have hmk := make_bytes w3.drew t (by omega); rw [hmk]; clear hmk
      refine hK.out _ _ ?kg12 (fun hHeld => ?_)
      case kg12 => exact VA.out
      clear hK K
      try simp only [Act.put, List.setIfInBounds_toArray, List.set_cons_zero, List.set_cons_succ]
      refine wpAnyH_ready (rs := [12]) (by kernel_rfl) (by simp) ?_
      refine AllReadyH.cons (o := ⟨some 51, _, _, _, _, _⟩) rfl (fun K hK => ?_) AllReadyH.nil
      go_simp
      refine (bh_write (i := t) (id := D t) (G3.out.nxt UA.out) (by have := HT.out; omega) HZ.out (Nat.le_refl _) HT.out.2.1 HUT.out (by have := (HD.out t).2; omega) (by have := HT.out; omega)).mono ?_; intro e w4 hor; obtain ⟨rfl, hb4, vc4⟩ := HW.out e w4 hor; have HB4 := hid hb4; have HV4 := hid vc4; clear hor hb4 vc4
      refine hK.out _ _ ?kg13 (fun hHeld => ?_)
      case kg13 => exact HV4.out
      clear hK K
      try simp only [Act.put, List.setIfInBounds_toArray, List.set_cons_zero, List.set_cons_succ]
      refine wpAnyH_take (i := 13) (oi := ⟨some 52, _, _, _, _, _⟩) (v := ?vg14) rfl (by kernel_rfl) (by kernel_rfl) (by kernel_rfl) (fun _ _ _ h => h) (Or.inl ⟨by rfl, ?yg14⟩) (by assumption) ?rg14
      case yg14 => (intro w hSw; (try dsimp only at hSw); go_simp; try with_reducible rfl)
      try simp only [Act.put, List.setIfInBounds_toArray, List.set_cons_zero, List.set_cons_succ]
      refine wpAnyH_ready (rs := [14]) (by kernel_rfl) (by simp) ?_
      refine AllReadyH.cons (o := ⟨some 53, _, _, _, _, _⟩) rfl (fun K hK => ?_) AllReadyH.nil
      go_simp
      skip
      refine hK.out _ _ ?kg15 (fun hHeld => ?_)
      case kg15 => exact HV4.out
      clear hK K
      try simp only [Act.put, List.setIfInBounds_toArray, List.set_cons_zero, List.set_cons_succ]
      refine wpAnyH_done (by kernel_rfl) ?_ _
      go_wp2_with fail
      go_round
      case rel => exact ⟨t + 1, HT.out.1, by go_num, HB4.out⟩
      case measure => have := HT.out; simp [intOf]; omega
    · obtain rfl : t = n := by omega
      clear hlt ht
      have HST : Hid (∃ U, BH O Nul w wr q b 8 U (BaL.R2 D x2.testBit t 0) t ∧ ∀ s, 0 ≤ s → s < t → U s = true) := ⟨_, by rw [BaL.R2_zero]; exact HB.out, fun s _ hs => by unfold BaL.U1; simpa using hs⟩
      clear HB
      go_wp2_with fail
      go_loopw [13] (fun i wr => ∃ s : Nat, s ≤ t ∧ i = .int .i64 (s : Nat) ∧ ∃ U, BH O Nul w wr q b 8 U (BaL.R2 D x2.testBit t s) t ∧ ∀ x, s ≤ x → x < t → U x = true) (fun i _ => t - (intOf i).toNat)
      case atStart => exact ⟨0, Nat.zero_le _, rfl, HST.out⟩
      case round =>
        obtain ⟨s, hs, rfl, U, hb, hu⟩ := hrel
        have HB := hid hb
        have HU := hid hu
        clear hb hu HST
        have s0 : (0 : Int) ≤ (s : Int) := by omega
        by_cases hlt : s < t
        · have s1 : (s : Int) < (t : Int) := by omega
          have s3 : (s : Int) < 64 := by omega
          have HS : Hid (s < t ∧ s < 8) := by have := HN.out; show _ ∧ _; omega
          clear hlt hs
          obtain ⟨g, hg⟩ : ∃ g, x1.testBit s = g := ⟨_, rfl⟩
          obtain ⟨p, hp⟩ : ∃ g, x2.testBit s = g := ⟨_, rfl⟩
          have zg : (bits .and .u64 ((x1 : Int) / 2 ^ s) 1 == 1) = g := by rw [BaL.bit_at X1.out, hg]
          have zp : (bits .and .u64 ((x2 : Int) / 2 ^ s) 1 == 1) = p := by rw [BaL.bit_at X2.out, hp]
          have HP := hid hp
          clear hg hp
          cases g with
          | true =>
            go_wp2_with fail
            refine (bh_give HB.out (s : Nat)).mono ?_
            rintro e w5 (⟨_, rfl, h5, _⟩ | ⟨hx, _⟩)
            rotate_left
            · exact absurd ⟨s0, by have := HS.out; omega, by rw [Int.toNat_natCast]; exact HU.out s (Nat.le_refl _) HS.out.1⟩ hx
            rw [Int.toNat_natCast] at h5
            have G5 := hid h5
            have HU2 : Hid (∀ x, s + 1 ≤ x → x < t → updB U s false x = true) := fun x h1 h2 => by
              unfold updB
              rw [if_neg (by omega)]
              exact HU.out x (by omega) h2
            clear h5 HB
            cases p with
            | true =>
              go_wp2_with fail
              refine (bh_rot (s := s) (t := 5) (c := 16) G5.out HS.out.2 (by omega) (by omega)).mono ?_
              rintro e w6 ⟨rfl, h6, _⟩
              rw [BaL.R2_yes D HP.out HS.out.1] at h6
              have G6 := hid h6
              clear h6 G5
              go_wp2_with fail
              go_round
              case rel => exact ⟨s + 1, HS.out.1, by go_num, _, G6.out, HU2.out⟩
              case measure => have := HS.out; simp [intOf]; omega
            | false =>
              have h6 := G5.out
              rw [BaL.R2_no D HP.out] at h6
              have G6 := hid h6
              clear h6
              go_wp2_with fail
              go_round
              case rel => exact ⟨s + 1, HS.out.1, by go_num, _, G6.out, HU2.out⟩
              case measure => have := HS.out; simp [intOf]; omega
          | false =>
            have HU2 : Hid (∀ x, s + 1 ≤ x → x < t → U x = true) := fun x h1 h2 => HU.out x (by omega) h2
            cases p with
            | true =>
              go_wp2_with fail
              refine (bh_rot (s := s) (t := 5) (c := 16) HB.out HS.out.2 (by omega) (by omega)).mono ?_
              rintro e w6 ⟨rfl, h6, _⟩
              rw [BaL.R2_yes D HP.out HS.out.1] at h6
              have G6 := hid h6
              clear h6 HB
              go_wp2_with fail
              go_round
              case rel => exact ⟨s + 1, HS.out.1, by go_num, _, G6.out, HU2.out⟩
              case measure => have := HS.out; simp [intOf]; omega
            | false =>
              have h6 := HB.out
              rw [BaL.R2_no D HP.out] at h6
              have G6 := hid h6
              clear h6
              go_wp2_with fail
              go_round
              case rel => exact ⟨s + 1, HS.out.1, by go_num, _, G6.out, HU2.out⟩
              case measure => have := HS.out; simp [intOf]; omega
        · obtain rfl : s = t := by omega
          clear hlt hs
          go_wp2_with fail
          refine (bh_scan HB.out fun x _ => BaL.R2_small HN.out.1 x).mono ?_
          rintro e w5 ⟨v, rfl, o, h5, _⟩
          obtain ⟨va, vc, rfl⟩ := o.shape
          have U5 : Hid (Up Nul w w5) := h5.up
          have HO := hid o
          obtain ⟨L, HL⟩ : ∃ L, Hid ((scn (BaL.R2 D x2.testBit s s) 8).length = L) := ⟨_, rfl⟩
          have HE : Hid ((scn (BaL.R2 D x2.testBit s s) s).length = L) := by
            show _ = _
            rw [← HL.out]
            have := BaL.scn_none (R := BaL.R2 D x2.testBit s s) (n := s) (8 - s) fun x hx => BaL.tk_empty hx
            rw [show s + (8 - s) = 8 by have := HN.out; omega] at this
            rw [this]
          rw [HL.out] at HO ⊢
          have L8 : (L : Int) ≤ 8 := by have := scn_length (BaL.R2 D x2.testBit s s) 8; rw [HL.out] at this; omega
          clear h5 o HB HU
          go_wp2_with fail
          go_loopw [15, 16] (fun k i wr => ∃ t : Nat, t ≤ s ∧ i = .int .i64 (t : Nat) ∧ k = .int .i64 ((scn (BaL.R2 D x2.testBit s s) t).length : Nat) ∧ Up Nul w5 wr) (fun _ i _ => s - (intOf i).toNat)
          case atStart => exact ⟨0, Nat.zero_le _, rfl, rfl, Up.refl _ _⟩
          case round =>
            obtain ⟨t, ht, rfl, rfl, hu⟩ := hrel
            have HV := hid hu
            clear hu
            have t0 : (0 : Int) ≤ (t : Int) := by omega
            by_cases hlt : t < s
            · have t1 : (t : Int) < (s : Int) := by omega
              have t3 : (t : Int) < 64 := by omega
              have t4 : (t : Int) < (l0 : Int) := by have := HN.out; omega
              have HT : Hid (t < s ∧ t < 8 ∧ t < l0) := by have := HN.out; show _ ∧ _; omega
              clear hlt ht
              obtain ⟨p, hp⟩ : ∃ g, x2.testBit t = g := ⟨_, rfl⟩
              have zp : (bits .and .u64 ((x2 : Int) / 2 ^ t) 1 == 1) = p := by rw [BaL.bit_at X2.out, hp]
              have HP := hid hp
              clear hp
              cases p with
              | true =>
                have HK : Hid (scn (BaL.R2 D x2.testBit s s) (t + 1) = scn (BaL.R2 D x2.testBit s s) t) := scn_no (BaL.tk_spoilt HT.out.1 HN.out.1 HP.out)
                go_wp2_with fail
                go_round
                case rel => exact ⟨t + 1, HT.out.1, by go_num, by rw [HK.out], HV.out⟩
                case measure => have := HT.out; simp [intOf]; omega
              | false =>
                have htk := BaL.tk_good (D := D) (P := x2.testBit) (n := s) (fun s => (HD.out s).2) HT.out.1 HN.out.1 HP.out
                have HK : Hid ((scn (BaL.R2 D x2.testBit s s) (t + 1)).length = (scn (BaL.R2 D x2.testBit s s) t).length + 1) := by show _ = _; rw [scn_yes htk, List.length_append]; rfl
                have hge := BaL.scn_get htk HT.out.2.1
                rw [BaL.zer_len] at hge
                obtain ⟨k, KK⟩ : ∃ k, Hid ((scn (BaL.R2 D x2.testBit s s) t).length = k) := ⟨_, rfl⟩
                rw [KK.out] at hge HK ⊢
                obtain ⟨hkl, hke⟩ := List.getElem?_eq_some_iff.1 hge
                obtain ⟨g1, gc, e1, lg1, r1⟩ := OwnK.at HO.out hkl
                rw [hke] at r1
                have e1 : va = some ⟨g1, 0, none⟩ := by injection e1
                subst e1
                obtain ⟨lg, lo, rfl, hlg, hcl⟩ : ∃ g o, a0 = some ⟨g, o, none⟩ ∧ g < w.heap.size ∧ ∀ W, Up Nul w W → W.cell? ⟨g, o + t, none⟩ = some (.int .i64 (f t)) := by
                  rcases HF.out.row with e | ⟨g, o, e, hg, hc⟩
                  · have := HT.out; omega
                  · exact ⟨g, o, e, hg, fun W u => (u.cell (p := ⟨g, o + t, none⟩) hg id).trans (hc t HT.out.2.2)⟩
                rw [HL.out] at hkl
                have k0 : (0 : Int) ≤ (k : Int) := by omega
                have k1 : (k : Int) < (L : Int) := by omega
                have k2 : ¬ (L : Int) ≤ (k : Int) := by omega
                have k3 : ¬ L ≤ k := by omega
                have UD : Hid (Up Nul w5 wr.drew) := HV.out.drew
                have VC : Hid (wr.drew.rangeAt g1 (k * 3) [.int .i64 (t : Nat), .int .i64 (D t : Nat), .int .i64 (t : Nat)] ∧ wr.drew.cell? ⟨lg, lo + t, none⟩ = some (.int .i64 (f t))) :=
                  ⟨fun m x hm => (UD.out.cell (p := ⟨g1, k * 3 + m, none⟩) lg1 id).trans (r1 m x hm), hcl _ (U5.out.trans UD.out)⟩
                have hdt := (HD.out t).1
                clear hge hkl hke lg1 r1 hlg hcl htk
                go_upto_region 25 with fail
                refine wp_region_held_drew (S := (fun W => W.rangeAt g1 (k * 3) [.int .i64 (t : Nat), .int .i64 (D t : Nat), .int .i64 (t : Nat)] ∧ W.cell? ⟨lg, lo + t, none⟩ = some (.int .i64 (f t)))) (by kernel_rfl) (by exact VC.out) (fun hHeld => ?_)
                refine wpAnyH_take (i := 0) (oi := ⟨some 93, _, _, _, _, _⟩) (v := ?vz1) rfl (by kernel_rfl) (by kernel_rfl) (by kernel_rfl) (fun _ _ _ h => h) (Or.inl ⟨by rfl, ?yz1⟩) (by assumption) ?rz1
                case yz1 => (intro w hSw; (try dsimp only at hSw); go_simp; try with_reducible rfl)
                try simp only [Act.put, List.setIfInBounds_toArray, List.set_cons_zero, List.set_cons_succ]
                refine wpAnyH_take (i := 1) (oi := ⟨some 94, _, _, _, _, _⟩) (v := ?vz2) rfl (by kernel_rfl) (by kernel_rfl) (by kernel_rfl) (fun _ _ _ h => h) (Or.inl ⟨by rfl, ?yz2⟩) (by assumption) ?rz2
                case yz2 => (intro w hSw; (try dsimp only at hSw); go_simp; try with_reducible rfl)
                try simp only [Act.put, List.setIfInBounds_toArray, List.set_cons_zero, List.set_cons_succ]
                refine wpAnyH_take (i := 2) (oi := ⟨some 95, _, _, _, _, _⟩) (v := ?vz3) rfl (by kernel_rfl) (by kernel_rfl) (by kernel_rfl) (fun _ _ _ h => h) (Or.inl ⟨by rfl, ?yz3⟩) (by assumption) ?rz3
                case yz3 => (intro w hSw; (try dsimp only at hSw); go_simp; try with_reducible rfl)
                try simp only [Act.put, List.setIfInBounds_toArray, List.set_cons_zero, List.set_cons_succ]
                refine wpAnyH_take (i := 3) (oi := ⟨some 96, _, _, _, _, _⟩) (v := ?vz4) rfl (by kernel_rfl) (by kernel_rfl) (by kernel_rfl) (fun _ _ _ h => h) (Or.inl ⟨by rfl, ?yz4⟩) (by assumption) ?rz4
                case yz4 => (intro w hSw; (try dsimp only at hSw); go_simp; try with_reducible rfl)
                try simp only [Act.put, List.setIfInBounds_toArray, List.set_cons_zero, List.set_cons_succ]
                refine wpAnyH_take (i := 4) (oi := ⟨some 97, _, _, _, _, _⟩) (v := ?vz5) rfl (by kernel_rfl) (by kernel_rfl) (by kernel_rfl) (fun _ _ _ h => h) (Or.inl ⟨by rfl, ?yz5⟩) (by assumption) ?rz5
                case yz5 => (intro w hSw; (try dsimp only at hSw); go_simp; try with_reducible rfl)
                try simp only [Act.put, List.setIfInBounds_toArray, List.set_cons_zero, List.set_cons_succ]
                refine wpAnyH_take (i := 5) (oi := ⟨some 98, _, _, _, _, _⟩) (v := ?vz6) rfl (by kernel_rfl) (by kernel_rfl) (by kernel_rfl) (fun _ _ _ h => h) (Or.inl ⟨by rfl, ?yz6⟩) (by assumption) ?rz6
                case yz6 => (intro w hSw; (try dsimp only at hSw); go_simp; try with_reducible rfl)
                try simp only [Act.put, List.setIfInBounds_toArray, List.set_cons_zero, List.set_cons_succ]
                refine wpAnyH_take (i := 6) (oi := ⟨some 99, _, _, _, _, _⟩) (v := ?vz7) rfl (by kernel_rfl) (by kernel_rfl) (by kernel_rfl) (fun _ _ _ h => h) (Or.inl ⟨by rfl, ?yz7⟩) (by assumption) ?rz7
                case yz7 => (intro w hSw; (try dsimp only at hSw); go_simp; try with_reducible rfl)
                try simp only [Act.put, List.setIfInBounds_toArray, List.set_cons_zero, List.set_cons_succ]
                refine wpAnyH_take (i := 7) (oi := ⟨some 100, _, _, _, _, _⟩) (v := ?vz8) rfl (by kernel_rfl) (by kernel_rfl) (by kernel_rfl) (fun _ _ _ h => h) (Or.inl ⟨by rfl, ?yz8⟩) (by assumption) ?rz8
                case yz8 => (intro w hSw; (try dsimp only at hSw); go_simp; try with_reducible rfl)
                try simp only [Act.put, List.setIfInBounds_toArray, List.set_cons_zero, List.set_cons_succ]
                refine wpAnyH_take (i := 8) (oi := ⟨some 101, _, _, _, _, _⟩) rfl (by kernel_rfl) (by kernel_rfl) (by kernel_rfl) (fun _ _ _ h => h) (yieldsIf_load_mid (by rfl) 38 (.tmp 100) rfl g1 (k * 3) rfl [.int .i64 (t : Nat), .int .i64 (D t : Nat), .int .i64 (t : Nat)] _ (fun W hW => hW.1) Try.underlying38 rfl info_ck3) (by assumption) ?rz9
                try simp only [Act.put, List.setIfInBounds_toArray, List.set_cons_zero, List.set_cons_succ]
                refine wpAnyH_take (i := 9) (oi := ⟨some 102, _, _, _, _, _⟩) (v := ?vz10) rfl (by kernel_rfl) (by kernel_rfl) (by kernel_rfl) (fun _ _ _ h => h) (Or.inl ⟨by rfl, ?yz10⟩) (by assumption) ?rz10
                case yz10 => (intro w hSw; (try dsimp only at hSw); go_simp; try with_reducible rfl)
                try simp only [Act.put, List.setIfInBounds_toArray, List.set_cons_zero, List.set_cons_succ]
                refine wpAnyH_take (i := 10) (oi := ⟨some 103, _, _, _, _, _⟩) (v := ?vz11) rfl (by kernel_rfl) (by kernel_rfl) (by kernel_rfl) (fun _ _ _ h => h) (Or.inl ⟨by rfl, ?yz11⟩) (by assumption) ?rz11
                case yz11 => (intro w hSw; (try dsimp only at hSw); go_simp; try with_reducible rfl)
                try simp only [Act.put, List.setIfInBounds_toArray, List.set_cons_zero, List.set_cons_succ]
                refine wpAnyH_take (i := 11) (oi := ⟨some 104, _, _, _, _, _⟩) (v := ?vz12) rfl (by kernel_rfl) (by kernel_rfl) (by kernel_rfl) (fun _ _ _ h => h) (Or.inl ⟨by rfl, ?yz12⟩) (by assumption) ?rz12
                case yz12 => (intro w hSw; (try dsimp only at hSw); go_simp; try with_reducible rfl)
                try simp only [Act.put, List.setIfInBounds_toArray, List.set_cons_zero, List.set_cons_succ]
                refine wpAnyH_take (i := 12) (oi := ⟨some 105, _, _, _, _, _⟩) (v := ?vz13) rfl (by kernel_rfl) (by kernel_rfl) (by kernel_rfl) (fun _ _ _ h => h) (Or.inl ⟨by rfl, ?yz13⟩) (by assumption) ?rz13
                case yz13 => (intro w hSw; (try dsimp only at hSw); go_simp; try with_reducible rfl)
                try simp only [Act.put, List.setIfInBounds_toArray, List.set_cons_zero, List.set_cons_succ]
                refine wpAnyH_take (i := 13) (oi := ⟨some 106, _, _, _, _, _⟩) (v := ?vz14) rfl (by kernel_rfl) (by kernel_rfl) (by kernel_rfl) (fun _ _ _ h => h) (Or.inl ⟨by rfl, ?yz14⟩) (by assumption) ?rz14
                case yz14 => (intro w hSw; (try dsimp only at hSw); go_simp; try with_reducible rfl)
                try simp only [Act.put, List.setIfInBounds_toArray, List.set_cons_zero, List.set_cons_succ]
                refine wpAnyH_take (i := 14) (oi := ⟨some 107, _, _, _, _, _⟩) (v := ?vz15) rfl (by kernel_rfl) (by kernel_rfl) (by kernel_rfl) (fun _ _ _ h => h) (Or.inl ⟨by rfl, ?yz15⟩) (by assumption) ?rz15
                case yz15 => (intro w hSw; (try dsimp only at hSw); go_simp; try with_reducible rfl)
                try simp only [Act.put, List.setIfInBounds_toArray, List.set_cons_zero, List.set_cons_succ]
                refine wpAnyH_take (i := 15) (oi := ⟨some 108, _, _, _, _, _⟩) (v := ?vz16) rfl (by kernel_rfl) (by kernel_rfl) (by kernel_rfl) (fun _ _ _ h => h) (Or.inl ⟨by rfl, ?yz16⟩) (by assumption) ?rz16
                case yz16 => (intro w hSw; (try dsimp only at hSw); go_simp; try with_reducible rfl)
                try simp only [Act.put, List.setIfInBounds_toArray, List.set_cons_zero, List.set_cons_succ]
                refine wpAnyH_take (i := 16) (oi := ⟨some 109, _, _, _, _, _⟩) (v := ?vz17) rfl (by kernel_rfl) (by kernel_rfl) (by kernel_rfl) (fun _ _ _ h => h) (Or.inl ⟨by rfl, ?yz17⟩) (by assumption) ?rz17
                case yz17 => (intro w hSw; (try dsimp only at hSw); go_simp; try with_reducible rfl)
                try simp only [Act.put, List.setIfInBounds_toArray, List.set_cons_zero, List.set_cons_succ]
                refine wpAnyH_take (i := 17) (oi := ⟨some 110, _, _, _, _, _⟩) (v := ?vz18) rfl (by kernel_rfl) (by kernel_rfl) (by kernel_rfl) (fun _ _ _ h => h) (Or.inl ⟨by rfl, ?yz18⟩) (by assumption) ?rz18
                case yz18 => (intro w hSw; (try dsimp only at hSw); go_simp; try with_reducible rfl)
                try simp only [Act.put, List.setIfInBounds_toArray, List.set_cons_zero, List.set_cons_succ]
                refine wpAnyH_take (i := 18) (oi := ⟨some 111, _, _, _, _, _⟩) (v := ?vz19) rfl (by kernel_rfl) (by kernel_rfl) (by kernel_rfl) (fun _ _ _ h => h) (Or.inl ⟨by rfl, ?yz19⟩) (by assumption) ?rz19
                case yz19 => (intro w hSw; (try dsimp only at hSw); go_simp; try with_reducible rfl)
                try simp only [Act.put, List.setIfInBounds_toArray, List.set_cons_zero, List.set_cons_succ]
                refine wpAnyH_done (by kernel_rfl) ?_ _
                go_wp2_with fail
                go_roundw
                case rel => exact ⟨t + 1, HT.out.1, by go_num, by rw [HK.out]; go_num, HV.out.drew⟩
                case measure => have := HT.out; simp [intOf]; omega
            · obtain rfl : t = s := by omega
              clear hlt ht
              rw [HE.out]
              have ll : ((L : Int) == (L : Int)) = true := by simp
              have U6 := hid (U5.out.trans HV.out)
              go_wp2_with fail
              refine (bawake_any O _).mono ?_
              rintro e w7 ⟨rfl, k7⟩
              have H7 := hid (U6.out.trans k7)
              clear k7
              go_wp2
              go_ret
              exact ⟨rfl, H7.out.below (Nat.le_refl _) fun _ _ => fun h => h⟩
theorem bscans_walk (O : BayOps) (a0 : Option Addr) (l0 c0 : Nat) (z0 : List Int) (a1 a2 : Int) (w : World) (w0 : CameI w a0 l0 c0 z0) (b1 : 0 ≤ a1 ∧ a1 ≤ 18446744073709551615) (b2 : 0 ≤ a2 ∧ a2 ≤ 18446744073709551615) :
    Calls Try.prog 3 #[.slice a0 l0 c0, .int .u64 a1, .int .u64 a2] w fun e w' => e = .returned (.bool true) ∧ Below w.heap.size w w' := by
  obtain ⟨f, hf⟩ := SlI.of w0
  obtain ⟨x1, rfl⟩ : ∃ x : Nat, a1 = (x : Int) := ⟨a1.toNat, by omega⟩
  obtain ⟨x2, rfl⟩ : ∃ x : Nat, a2 = (x : Int) := ⟨a2.toNat, by omega⟩
  exact bscans_nat O a0 l0 c0 f x1 x2 w (by omega) (by omega) hf
end Go.Proofs.Ytfmgbmpdifjliaa
