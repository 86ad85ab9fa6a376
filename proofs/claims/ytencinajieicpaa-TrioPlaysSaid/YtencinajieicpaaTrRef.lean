/- The document's Trio in memory: live, Append. -/
import Derived.Test.YtencinajieicpaaTrTapes
import Derived.Test.YtencinajieicpaaTrPack
namespace Go.Proofs.Ytencinajieicpaa
open Go.RowKit
set_option linter.unusedVariables false

/-- The document's three Tapes. -/
structure R3t (w : World) (qm : Nat → Nat) (v : Nat) (S : Nat → TS) : Prop where
  t : ∀ i, i < 3 → RTp w (qm i) v (S i)
  ne : ∀ i j, i < 3 → j < 3 → qm i = qm j → i = j
def Rx (qm : Nat → Nat) (v g : Nat) : Prop := (∃ i, i < 3 ∧ g = qm i) ∨ g = v
/-- .. and their Fuse. -/
structure DS (w : World) (qm : Nat → Nat) (v : Nat) (k : Option Nat) (S : Nat → TS) : Prop where
  r : R3t w qm v S
  z : RFz w v k
/-- The head of the document's Trio. -/
def rtc (qm : Nat → Nat) (N : Nat) : Obj := .cells #[.pointer (some ⟨qm 0, 0, none⟩), .pointer (some ⟨qm 1, 0, none⟩), .pointer (some ⟨qm 2, 0, none⟩), .int .i64 (N : Nat)] 58 (0, 0)
section
variable {w w' : World} {qm : Nat → Nat} {v m N : Nat} {k k' : Option Nat} {S S' : Nat → TS}
theorem DS.nxt (h : DS w qm v k S) (u : Up Nul w w') : DS w' qm v k S := ⟨⟨fun i hi => (h.r.t i hi).up u id, h.r.ne⟩, h.z.up u id⟩
theorem DS.congr (h : DS w qm v k S) (hs : ∀ i, i < 3 → S' i = S i) : DS w qm v k S' := ⟨⟨fun i hi => by rw [hs i hi]; exact h.r.t i hi, h.r.ne⟩, h.z⟩
theorem DS.one (h : DS w qm v k S) {i : Nat} (hi : i < 3) {s : TS} (r : RTp w' (qm i) v s) (z : RFz w' v k') (u : Up (fun g => g = qm i ∨ g = v) w w') : DS w' qm v k' (updT S i s) ∧ Up (Rx qm v) w w' := by
  refine ⟨⟨⟨fun j hj => ?_, h.r.ne⟩, z⟩, u.mono fun g _ e => e.imp (fun e => ⟨i, hi, e⟩) id⟩
  by_cases e : j = i
  · subst e; rw [updT_same]; exact r
  · rw [updT_other _ _ e]
    refine (h.r.t j hj).up u fun e2 => ?_
    rcases e2 with e2 | e2
    · exact e (h.r.ne j i hj hi e2)
    · exact (h.r.t j hj).ne h.z e2
theorem DS.live (h : DS w qm v k S) {i : Nat} (hi : i < 3) : w.cell? ⟨qm i, 2, none⟩ = some (.bool (S i).live) := (h.r.t i hi).c2
theorem DS.byt (h : DS w qm v k S) {i : Nat} (hi : i < 3) : w.cell? ⟨qm i, 0, none⟩ = some (.string (strOf (S i).B)) := (h.r.t i hi).c0
theorem rtc_lt (h : w.heap[m]? = some (rtc qm N)) : m < w.heap.size := (Array.getElem?_eq_some_iff.1 h).1
theorem rtc_cells (h : w.heap[m]? = some (rtc qm N)) : (∀ i, i < 3 → w.cell? ⟨m, i, none⟩ = some (.pointer (some ⟨qm i, 0, none⟩))) ∧ w.cell? ⟨m, 3, none⟩ = some (.int .i64 (N : Nat)) ∧ ∀ i, w.frozen? ⟨m, i, none⟩ = false := by
  unfold rtc at h
  refine ⟨fun i hi => ?_, by simp [World.cell?, h], fun i => by simp [World.frozen?, h]⟩
  match i, hi with
  | 0, _ => simp [World.cell?, h]
  | 1, _ => simp [World.cell?, h]
  | 2, _ => simp [World.cell?, h]
theorem rtc_far (h : w.heap[m]? = some (rtc qm N)) (d : DS w qm v k S) : ¬ Rx qm v m := by
  unfold rtc at h
  rintro (⟨i, hi, e⟩ | e)
  · exact ne_type (d.r.t i hi).heap h (by decide) e.symm
  · exact ne_type d.z.heap h (by decide) e.symm
theorem rtc_up (h : w.heap[m]? = some (rtc qm N)) (d : DS w qm v k S) (u : Up (Rx qm v) w w') : w'.heap[m]? = some (rtc qm N) := (u.block m (rtc_lt h) (rtc_far h d)).trans h
/-! ### One live Tape's calls -/
theorem ds_append (h : DS w qm v k S) {i : Nat} (hi : i < 3) (hv : (S i).live = true) (z : List Nat) (hz : (S i).B.length + z.length ≤ 65536) :
    Calls Try.prog 52 #[.pointer (some ⟨qm i, 0, none⟩), .string (strOf z)] w fun e w' => e = .returned (.int .i64 (if (apA z (S i) k).1 = true then 0 else 4)) ∧ DS w' qm v (apA z (S i) k).2.2 (updT S i (apA z (S i) k).2.1) ∧ Up (Rx qm v) w w' := by
  have hm : apA z (S i) k = if k = some 0 then (false, S i, k) else (true, ⟨(S i).B ++ z, (S i).loose + z.length, true⟩, less k) := by unfold apA; rw [if_pos hv]
  rw [hm]
  refine (rt_append (h.r.t i hi) h.z z (by omega)).mono ?_
  rintro e w' (⟨q1, _⟩ | ⟨_, q2, _⟩ | ⟨_, _, q3, rfl, rfl⟩ | ⟨_, _, q3, rfl, r, z2, u⟩)
  · rw [hv] at q1; cases q1
  · omega
  · rw [if_pos q3, updT_id]
    exact ⟨rfl, h, Up.refl _ _⟩
  · rw [if_neg q3]
    exact ⟨rfl, h.one hi r z2 u⟩
theorem ds_sync (h : DS w qm v k S) {i : Nat} (hi : i < 3) (hv : (S i).live = true) :
    Calls Try.prog 53 #[.pointer (some ⟨qm i, 0, none⟩)] w fun e w' => e = .returned (.int .i64 (if (syA (S i) k).1 = true then 0 else 4)) ∧ DS w' qm v (syA (S i) k).2.2 (updT S i (syA (S i) k).2.1) ∧ Up (Rx qm v) w w' := by
  have hm : syA (S i) k = if k = some 0 then (false, S i, k) else (true, ⟨(S i).B, 0, true⟩, k) := by unfold syA; rw [if_pos hv]
  rw [hm]
  refine (rt_sync (h.r.t i hi) h.z).mono ?_
  rintro e w' (⟨q1, _⟩ | ⟨_, q3, rfl, rfl⟩ | ⟨_, q3, rfl, r, z2, u⟩)
  · rw [hv] at q1; cases q1
  · rw [if_pos q3, updT_id]
    exact ⟨rfl, h, Up.refl _ _⟩
  · rw [if_neg q3]
    exact ⟨rfl, h.one hi r z2 u⟩
theorem ds_cut (h : DS w qm v k S) {i : Nat} (hi : i < 3) (hv : (S i).live = true) (n : Nat) (hn : n ≤ (S i).B.length) :
    Calls Try.prog 54 #[.pointer (some ⟨qm i, 0, none⟩), .int .i64 (n : Nat)] w fun e w' => (k = some 0 ∧ e = .returned (.int .i64 4) ∧ w' = w) ∨ (k ≠ some 0 ∧ e = .returned (.int .i64 0) ∧ DS w' qm v (less k) (updT S i ⟨(S i).B.take n, 0, true⟩) ∧ Up (Rx qm v) w w') := by
  refine (rt_cut (h.r.t i hi) h.z (n : Nat)).mono ?_
  rintro e w' (⟨q1, _⟩ | ⟨_, q2, _⟩ | ⟨_, _, q3, rfl, rfl⟩ | ⟨_, _, q3, rfl, r, z2, u⟩)
  · rw [hv] at q1; cases q1
  · omega
  · exact .inl ⟨q3, rfl, rfl⟩
  · exact .inr ⟨q3, rfl, h.one hi r z2 u⟩
/-! ### 'live' -/
def cntL (S : Nat → TS) (j : Nat) : Nat := ((List.range j).filter fun i => (S i).live).length
theorem cntL_succ (S : Nat → TS) (j : Nat) : cntL S (j + 1) = cntL S j + one (S j).live := by
  unfold cntL one
  rw [List.range_succ, List.filter_append, List.length_append]
  cases h : (S j).live <;> simp [h]
theorem cntL_three (S : Nat → TS) : cntL S 3 = nlv S := lvs_length S
theorem cntL_le (S : Nat → TS) (j : Nat) : cntL S j ≤ j := by
  unfold cntL
  have := List.length_filter_le (fun i => (S i).live) (List.range j)
  rw [List.length_range] at this
  exact this
theorem rlive_any (h : DS w qm v k S) (hm : w.heap[m]? = some (rtc qm N)) : Calls Try.prog 51 #[.pointer (some ⟨m, 0, none⟩)] w fun e w' => e = .returned (.int .i64 (nlv S : Nat)) ∧ w' = w := by
  have HC := hid (rtc_cells hm).1
  have HL := hid fun i hi => h.live (i := i) hi
  have HS := hid fun j => cntL_succ S j
  have HLE := hid fun j => cntL_le S j
  rw [← cntL_three]
  clear h hm
  go_enter Try.func51, Try.ntmps51
  go_wp2_with fail
  go_loopw [3, 4] (fun n i wr => ∃ j : Nat, j ≤ 3 ∧ i = .int .i64 (j : Nat) ∧ n = .int .i64 (cntL S j : Nat) ∧ wr = w) (fun _ i _ => 3 - (intOf i).toNat)
  case atStart => exact ⟨0, Nat.zero_le _, rfl, rfl, rfl⟩
  case round =>
    obtain ⟨j, hj, rfl, rfl, rfl⟩ := hrel
    have i0 : (0 : Int) ≤ (j : Int) := by omega
    by_cases hlt : j < 3
    · have i1 : (j : Int) < 3 := by omega
      have c := HC.out j hlt
      have l := HL.out j hlt
      have hs := HS.out j
      have HSS := hid hs
      have HJ := hid hlt
      have n0 : (0 : Int) ≤ (cntL S j : Int) := by omega
      have n1 : (cntL S j : Int) ≤ 3 := by have := HLE.out j; omega
      clear hlt hj hs
      cases hb : (S j).live with
      | true =>
        rw [hb] at l HSS
        generalize cntL S j = n at n0 n1 HSS
        clear hb
        go_wp2_with fail
        go_roundw
        case rel => exact ⟨j + 1, HJ.out, by go_num, by rw [HSS.out]; rfl, trivial⟩
        case measure => have := HJ.out; simp [intOf]; omega
      | false =>
        rw [hb] at l HSS
        generalize cntL S j = n at n0 n1 HSS
        clear hb
        go_wp2_with fail
        go_roundw
        case rel => exact ⟨j + 1, HJ.out, by go_num, by rw [HSS.out]; rfl, trivial⟩
        case measure => have := HJ.out; simp [intOf]; omega
    · obtain rfl : j = 3 := by omega
      clear hlt hj
      go_wp2_with fail
      go_ret
      exact ⟨rfl, rfl⟩
/-! ### 'Append' -/
theorem fullT_not {S : Nat → TS} {n : Nat} (h : ∀ i, i < 3 → (S i).live = true → ¬ 65536 < (S i).B.length + n) : fullT S n = false := by
  unfold fullT
  rw [List.any_eq_false]
  intro i hi
  have hi := List.mem_range.1 hi
  cases hv : (S i).live with
  | false => simp
  | true => have := h i hi hv; simp; omega
theorem fullT_one {S : Nat → TS} {n i : Nat} (hi : i < 3) (hv : (S i).live = true) (h : 65536 < (S i).B.length + n) : fullT S n = true := by
  unfold fullT
  rw [List.any_eq_true]
  exact ⟨i, List.mem_range.2 hi, by simp [hv]; omega⟩
/-- What is left of the document's Trio. -/
structure RTx (w : World) (m : Nat) (qm : Nat → Nat) (v : Nat) (N : Nat) (k : Option Nat) (S : Nat → TS) : Prop where
  head : w.heap[m]? = some (rtc qm N)
  ds : DS w qm v k S
def Rm (m : Nat) (qm : Nat → Nat) (v g : Nat) : Prop := g = m ∨ Rx qm v g
theorem RTx.nxt (h : RTx w m qm v N k S) (u : Up Nul w w') : RTx w' m qm v N k S := ⟨(u.block m (rtc_lt h.head) id).trans h.head, h.ds.nxt u⟩
set_option maxRecDepth 100000 in
set_option maxHeartbeats 6400000 in
theorem rapp_any (h : RTx w m qm v N k S) (hN : N ≤ 1000000) (z : List Nat) (hz : z.length ≤ 1000) :
    Calls Try.prog 28 #[.pointer (some ⟨m, 0, none⟩), .string (strOf z)] w fun e w' =>
      e = .returned (.int .i64 (tApp S k z).1) ∧ RTx w' m qm v (if (tApp S k z).1 = 0 then N + 1 else N) (tApp S k z).2.2 (tApp S k z).2.1 ∧ Up (Rm m qm v) w w' := by
  have hsz : (strOf z).size = z.length := strOf_size z
  have HH := hid h
  have HLI := hid (rlive_any h.ds h.head)
  obtain ⟨R, HRR⟩ : ∃ R : Ending → World → Prop, Hid (R = fun e w' => e = .returned (.int .i64 (tApp S k z).1) ∧ RTx w' m qm v (if (tApp S k z).1 = 0 then N + 1 else N) (tApp S k z).2.2 (tApp S k z).2.1 ∧ Up (Rm m qm v) w w') := ⟨_, rfl⟩
  rw [← HRR.out]
  obtain ⟨l, hl⟩ : ∃ l, z.length = l := ⟨_, rfl⟩
  have HL := hid (And.intro hl hz)
  have b0 : (l : Int) ≤ 1000 := by omega
  rw [hl] at hsz hz
  by_cases h1 : l < 1 ∨ 250 < l
  · have ht : tApp S k z = (1, S, k) := by unfold tApp; rw [if_pos (by rw [hl]; exact h1)]
    rw [ht] at HRR
    generalize strOf z = s at hsz ⊢
    rcases h1 with h1 | h1
    · have i1 : (l : Int) < 1 := by omega
      clear h hz hl h1 ht
      go_enter Try.func28, Try.ntmps28
      go_wp2_with fail
      rw [HRR.out]
      exact ⟨rfl, HH.out, Up.refl _ _⟩
    · have i1 : ¬ (l : Int) < 1 := by omega
      have i2 : (250 : Int) < (l : Int) := by omega
      clear h hz hl h1 ht
      go_enter Try.func28, Try.ntmps28
      go_wp2_with fail
      rw [HRR.out]
      exact ⟨rfl, HH.out, Up.refl _ _⟩
  have i1 : ¬ (l : Int) < 1 := by omega
  have i2 : ¬ (250 : Int) < (l : Int) := by omega
  have hg1 : ¬ (z.length < 1 ∨ 250 < z.length) := by rw [hl]; exact h1
  by_cases h2 : nlv S < 2
  · have ht : tApp S k z = (8, S, k) := by unfold tApp; rw [if_neg hg1, if_pos h2]
    rw [ht] at HRR
    have i3 : (nlv S : Int) < 2 := by omega
    generalize strOf z = s at hsz ⊢
    generalize nlv S = nl at i3 HLI
    clear h hz hl h1 ht h2 hg1
    go_enter Try.func28, Try.ntmps28
    go_wp2_with fail
    refine HLI.out.mono ?_
    rintro e w1 ⟨rfl, rfl⟩
    go_wp2_with fail
    rw [HRR.out]
    exact ⟨rfl, HH.out, Up.refl _ _⟩
  have i3 : ¬ (nlv S : Int) < 2 := by omega
  have HTA : Hid (tApp S k z = if fullT S (l + 1) then ((7 : Int), S, k) else match goN (apA (enc z)) S k 3 with | (false, S1, k1) => (4, S1, k1) | (true, S1, k1) => match goN syA S1 k1 3 with | (false, S2, k2) => (4, S2, k2) | (true, S2, k2) => (0, S2, k2)) := by
    show _ = _
    rw [← hl]
    unfold tApp
    rw [if_neg hg1, if_neg h2]
    by_cases hf : fullT S (z.length + 1) = true
    · rw [if_pos hf, if_pos hf]
    · rw [if_neg hf, if_neg hf]
      generalize goN (apA (enc z)) S k 3 = x
      obtain ⟨b, S1, k1⟩ := x
      cases b with
      | false => rfl
      | true =>
        dsimp only
        generalize goN syA S1 k1 3 = y
        obtain ⟨b, S2, k2⟩ := y
        cases b <;> rfl
  have HB1 : Hid (1 ≤ l ∧ l ≤ 250) := ⟨by omega, by omega⟩
  generalize nlv S = nl at i3 HLI
  have HEN : Hid (strOf [l] ++ strOf z = strOf (enc z)) := by show _ = _; rw [strOf_append]; unfold enc; rw [hl]; rfl
  have HEL : Hid ((enc z).length = l + 1) := by show _ = _; rw [enc_length, hl]
  have hes : (strOf (enc z)).size = l + 1 := by rw [strOf_size, HEL.out]
  have HNN := hid hN
  have kc := (byte_sln w l (by have := HB1.out; omega)).conv 1
  have lm : (l : Int) % 256 = (l : Int) := by have := HB1.out; omega
  have e0 := HEN.out
  have hua : Up Nul w (w.alloc (.cells #[.int .u8 (l : Nat)] 5)) := (Up.refl Nul w).alloc _
  have HUA := hid hua
  have HA := hid (h.nxt hua)
  generalize strOf z = s at hsz e0
  have hs1 : (strOf [l]).size = 1 := strOf_size [l]
  generalize strOf [l] = s1 at kc e0 hs1
  obtain ⟨se, SE⟩ : ∃ se, Hid (strOf (enc z) = se) := ⟨_, rfl⟩
  rw [SE.out] at e0 hes
  clear h hz hl h1 h2 hg1 hua HEN
  go_enter Try.func28, Try.ntmps28
  go_wp2_with fail
  refine HLI.out.mono ?_
  rintro e w1 ⟨rfl, rfl⟩
  go_wp2_with fail
  generalize World.alloc w1 _ = wa at HUA HA ⊢
  clear kc e0 lm HLI HH i1 i2 i3
  go_loopw [6] (fun i wr => ∃ j : Nat, j ≤ 3 ∧ i = .int .i64 (j : Nat) ∧ wr = wa ∧ ∀ x, x < j → (S x).live = true → ¬ 65536 < (S x).B.length + (l + 1)) (fun i _ => 3 - (intOf i).toNat)
  case atStart => exact ⟨0, Nat.zero_le _, rfl, rfl, fun x hx => absurd hx (Nat.not_lt_zero x)⟩
  case round =>
    obtain ⟨j, hj, rfl, rfl, hno⟩ := hrel
    have HNO := hid hno
    have i0 : (0 : Int) ≤ (j : Int) := by omega
    by_cases hlt : j < 3
    · have i1 : (j : Int) < 3 := by omega
      have c := (rtc_cells HA.out.head).1 j hlt
      have lv := HA.out.ds.live hlt
      have by_ := HA.out.ds.byt hlt
      have hs2 : ((strOf (S j).B).size : Int) = ((S j).B.length : Int) := by rw [strOf_size]
      have hBl := (HA.out.ds.r.t j hlt).le
      have HJ := hid hlt
      clear hj hno
      cases hb : (S j).live with
      | false =>
        rw [hb] at lv
        have HNX : Hid (∀ x, x < j + 1 → (S x).live = true → ¬ 65536 < (S x).B.length + (l + 1)) := fun x hx hv => by
          rcases Nat.lt_or_ge x j with h | h
          · exact HNO.out x h hv
          · obtain rfl : x = j := by omega
            rw [hb] at hv; cases hv
        clear hb hlt by_ hs2
        go_wp2_with fail
        go_roundw
        case rel => exact ⟨j + 1, HJ.out, by go_num, by trivial, HNX.out⟩
        case measure => have := HJ.out; simp [intOf]; omega
      | true =>
        rw [hb] at lv
        by_cases hfl : 65536 < (S j).B.length + (l + 1)
        · have hft := fullT_one hlt hb hfl
          have HTF := HTA.out
          rw [if_pos hft] at HTF
          rw [HTF] at HRR
          have k4 : wrap64 (65536 - ((S j).B.length : Int)) = 65536 - ((S j).B.length : Int) := by rw [← IntWalk.i64_left]; exact IntWalk.i64_in _ (by omega)
          have k5 : 65536 - ((S j).B.length : Int) < ((l : Int) + 1) := by omega
          have hes2 : ((se.size : Nat) : Int) = (l : Int) + 1 := by rw [hes]; omega
          generalize (S j).B.length = bl at hs2 k4 k5 hBl
          generalize strOf (S j).B = sb at by_ hs2
          clear hb hlt hfl hft HTF hes
          go_wp2_with fail
          rw [HRR.out]
          exact ⟨rfl, HA.out, HUA.out.nul⟩
        · have HNX : Hid (∀ x, x < j + 1 → (S x).live = true → ¬ 65536 < (S x).B.length + (l + 1)) := fun x hx hv => by
            rcases Nat.lt_or_ge x j with h | h
            · exact HNO.out x h hv
            · obtain rfl : x = j := by omega
              exact hfl
          have k4 : wrap64 (65536 - ((S j).B.length : Int)) = 65536 - ((S j).B.length : Int) := by rw [← IntWalk.i64_left]; exact IntWalk.i64_in _ (by omega)
          have k5 : ¬ 65536 - ((S j).B.length : Int) < ((l : Int) + 1) := by omega
          have hes2 : ((se.size : Nat) : Int) = (l : Int) + 1 := by rw [hes]; omega
          generalize (S j).B.length = bl at hs2 k4 k5 hBl
          generalize strOf (S j).B = sb at by_ hs2
          clear hb hlt hfl hes
          go_wp2_with fail
          go_roundw
          case rel => exact ⟨j + 1, HJ.out, by go_num, by trivial, HNX.out⟩
          case measure => have := HJ.out; simp [intOf]; omega
    · have hj3 : j = 3 := by omega
      have i1 : ¬ (j : Int) < 3 := by omega
      have HNO : Hid (∀ x, x < 3 → (S x).live = true → ¬ 65536 < (S x).B.length + (l + 1)) := by show ∀ x, _; rw [← hj3]; exact HNO.out
      have hft : fullT S (l + 1) = false := fullT_not HNO.out
      have HTF := HTA.out
      rw [hft, if_neg (by decide)] at HTF
      have HTT := hid HTF
      clear hlt hj hno HTF hft HTA i0 hes hsz hj3
      go_wp2_with fail
      go_loopw [7] (fun i wr2 => ∃ (j : Nat) (S1 : Nat → TS) (k1 : Option Nat), j ≤ 3 ∧ i = .int .i64 (j : Nat) ∧ goN (apA (enc z)) S k j = (true, S1, k1) ∧ RTx wr2 m qm v N k1 S1 ∧ Up (Rm m qm v) w1 wr2) (fun i _ => 3 - (intOf i).toNat)
      case atStart => exact ⟨0, S, k, Nat.zero_le _, rfl, rfl, HA.out, HUA.out.nul⟩
      case round =>
        clear HA
        obtain ⟨j, S1, k1, hj, rfl, hg, hx, hu⟩ := hrel
        have HX := hid hx
        have HU := hid hu
        have i0 : (0 : Int) ≤ (j : Int) := by omega
        by_cases hlt : j < 3
        · have i1 : (j : Int) < 3 := by omega
          have c := (rtc_cells HX.out.head).1 j hlt
          have lv := HX.out.ds.live hlt
          have hS : S1 j = S j := by
            have := goN_rest (act := apA (enc z)) (S := S) (k := k) j j (Nat.le_refl _)
            rw [hg] at this
            exact this
          have HJ := hid hlt
          cases hb : (S1 j).live with
          | false =>
            rw [hb] at lv
            have HNX : Hid (goN (apA (enc z)) S k (j + 1) = (true, S1, k1)) := by
              have := goN_yes hg (apA_off (enc z) (S1 j) k1 hb)
              rwa [updT_id] at this
            clear hb hlt hj hg hx hu hS
            go_wp2_with fail
            go_roundw
            case rel => exact ⟨j + 1, S1, k1, HJ.out, by go_num, HNX.out, HX.out, HU.out⟩
            case measure => have := HJ.out; simp [intOf]; omega
          | true =>
            rw [hb] at lv
            have hap := ds_append HX.out.ds hlt hb (enc z) (by
              rw [HEL.out, hS]
              have := HNO.out j hlt (by rw [← hS]; exact hb)
              omega)
            rw [SE.out] at hap
            cases hact : apA (enc z) (S1 j) k1 with
            | mk b r =>
              obtain ⟨s, k2⟩ := r
              have HNX := hid (goN_yes hg hact)
              rw [hact] at hap
              cases b with
              | false =>
                have HAP : Hid (Calls Try.prog 52 #[.pointer (some ⟨qm j, 0, none⟩), .string se] wr fun e w' => e = .returned (.int .i64 4) ∧ DS w' qm v k2 (updT S1 j s) ∧ Up (Rx qm v) wr w') := hap
                have HE : Hid (goN (apA (enc z)) S k 3 = (false, updT S1 j s, k2)) := by
                  show _ = _
                  have h1 := HNX.out
                  obtain e | e | e : j = 0 ∨ j = 1 ∨ j = 2 := by omega
                  · subst e; exact goN_no (goN_no h1)
                  · subst e; exact goN_no h1
                  · subst e; exact h1
                have HTF := HTT.out
                rw [HE.out] at HTF
                rw [HTF] at HRR
                clear hb hlt hj hg hx hu hS hap hact HTF
                go_wp2_with fail
                refine HAP.out.mono ?_
                rintro e w5 ⟨rfl, d, u⟩
                have HD : Hid (RTx w5 m qm v N k2 (updT S1 j s) ∧ Up (Rm m qm v) w1 w5) := ⟨⟨rtc_up HX.out.head HX.out.ds u, d⟩, HU.out.trans (u.mono fun g _ e => .inr e)⟩
                clear d u
                go_wp2_with fail
                rw [HRR.out]
                exact ⟨rfl, HD.out⟩
              | true =>
                have HAP : Hid (Calls Try.prog 52 #[.pointer (some ⟨qm j, 0, none⟩), .string se] wr fun e w' => e = .returned (.int .i64 0) ∧ DS w' qm v k2 (updT S1 j s) ∧ Up (Rx qm v) wr w') := hap
                clear hb hlt hj hg hx hu hS hap hact
                go_wp2_with fail
                refine HAP.out.mono ?_
                rintro e w5 ⟨rfl, d, u⟩
                have HD : Hid (RTx w5 m qm v N k2 (updT S1 j s) ∧ Up (Rm m qm v) w1 w5) := ⟨⟨rtc_up HX.out.head HX.out.ds u, d⟩, HU.out.trans (u.mono fun g _ e => .inr e)⟩
                clear d u
                go_wp2_with fail
                go_roundw
                case rel => exact ⟨j + 1, _, _, HJ.out, by go_num, HNX.out, HD.out.1, HD.out.2⟩
                case measure => have := HJ.out; simp [intOf]; omega
        · have hj3 : j = 3 := by omega
          have i1 : ¬ (j : Int) < 3 := by omega
          have HTF := HTT.out
          rw [hj3] at hg
          rw [hg] at HTF
          have HT3 : Hid (tApp S k z = match goN syA S1 k1 3 with | (false, S2, k2) => (4, S2, k2) | (true, S2, k2) => (0, S2, k2)) := HTF
          clear hlt hj hg hx hu HTF HTT i0 hj3
          go_wp2_with fail
          go_loopw [9] (fun i wr2 => ∃ (j : Nat) (S2 : Nat → TS) (k2 : Option Nat), j ≤ 3 ∧ i = .int .i64 (j : Nat) ∧ goN syA S1 k1 j = (true, S2, k2) ∧ RTx wr2 m qm v N k2 S2 ∧ Up (Rm m qm v) w1 wr2) (fun i _ => 3 - (intOf i).toNat)
          case atStart => exact ⟨0, S1, k1, Nat.zero_le _, rfl, rfl, HX.out, HU.out⟩
          case round =>
            clear HX HU
            obtain ⟨j, S2, k2, hj, rfl, hg, hx, hu⟩ := hrel
            have HX := hid hx
            have HU := hid hu
            have i0 : (0 : Int) ≤ (j : Int) := by omega
            by_cases hlt : j < 3
            · have i1 : (j : Int) < 3 := by omega
              have c := (rtc_cells HX.out.head).1 j hlt
              have lv := HX.out.ds.live hlt
              have HJ := hid hlt
              cases hb : (S2 j).live with
              | false =>
                rw [hb] at lv
                have HNX : Hid (goN syA S1 k1 (j + 1) = (true, S2, k2)) := by
                  have := goN_yes hg (syA_off (S2 j) k2 hb)
                  rwa [updT_id] at this
                clear hb hlt hj hg hx hu
                go_wp2_with fail
                go_roundw
                case rel => exact ⟨j + 1, S2, k2, HJ.out, by go_num, HNX.out, HX.out, HU.out⟩
                case measure => have := HJ.out; simp [intOf]; omega
              | true =>
                rw [hb] at lv
                have hap := ds_sync HX.out.ds hlt hb
                cases hact : syA (S2 j) k2 with
                | mk b r =>
                  obtain ⟨s, k3⟩ := r
                  have HNX := hid (goN_yes hg hact)
                  rw [hact] at hap
                  cases b with
                  | false =>
                    have HAP : Hid (Calls Try.prog 53 #[.pointer (some ⟨qm j, 0, none⟩)] wr fun e w' => e = .returned (.int .i64 4) ∧ DS w' qm v k3 (updT S2 j s) ∧ Up (Rx qm v) wr w') := hap
                    have HE : Hid (goN syA S1 k1 3 = (false, updT S2 j s, k3)) := by
                      show _ = _
                      have h1 := HNX.out
                      obtain e | e | e : j = 0 ∨ j = 1 ∨ j = 2 := by omega
                      · subst e; exact goN_no (goN_no h1)
                      · subst e; exact goN_no h1
                      · subst e; exact h1
                    have HTF := HT3.out
                    rw [HE.out] at HTF
                    rw [HTF] at HRR
                    clear hb hlt hj hg hx hu hap hact HTF
                    go_wp2_with fail
                    refine HAP.out.mono ?_
                    rintro e w5 ⟨rfl, d, u⟩
                    have HD : Hid (RTx w5 m qm v N k3 (updT S2 j s) ∧ Up (Rm m qm v) w1 w5) := ⟨⟨rtc_up HX.out.head HX.out.ds u, d⟩, HU.out.trans (u.mono fun g _ e => .inr e)⟩
                    clear d u
                    go_wp2_with fail
                    rw [HRR.out]
                    exact ⟨rfl, HD.out⟩
                  | true =>
                    have HAP : Hid (Calls Try.prog 53 #[.pointer (some ⟨qm j, 0, none⟩)] wr fun e w' => e = .returned (.int .i64 0) ∧ DS w' qm v k3 (updT S2 j s) ∧ Up (Rx qm v) wr w') := hap
                    clear hb hlt hj hg hx hu hap hact
                    go_wp2_with fail
                    refine HAP.out.mono ?_
                    rintro e w5 ⟨rfl, d, u⟩
                    have HD : Hid (RTx w5 m qm v N k3 (updT S2 j s) ∧ Up (Rm m qm v) w1 w5) := ⟨⟨rtc_up HX.out.head HX.out.ds u, d⟩, HU.out.trans (u.mono fun g _ e => .inr e)⟩
                    clear d u
                    go_wp2_with fail
                    go_roundw
                    case rel => exact ⟨j + 1, _, _, HJ.out, by go_num, HNX.out, HD.out.1, HD.out.2⟩
                    case measure => have := HJ.out; simp [intOf]; omega
            · obtain rfl : j = 3 := by omega
              have HTF := HT3.out
              rw [hg] at HTF
              have HTF : tApp S k z = (0, S2, k2) := HTF
              rw [HTF] at HRR
              obtain ⟨_, c3, fr⟩ := rtc_cells HX.out.head
              have f3 := fr 3
              have i5 : (N : Int) ≤ 1000000 := by have := HNN.out; omega
              have i6 : (0 : Int) ≤ (N : Int) := by omega
              have HFIN : Hid (RTx (wr.setCell ⟨m, 3, none⟩ (.int .i64 ((N : Int) + 1))) m qm v (N + 1) k2 S2 ∧ Up (Rm m qm v) w1 (wr.setCell ⟨m, 3, none⟩ (.int .i64 ((N : Int) + 1)))) := by
                have u : Up (One m) wr (wr.setCell ⟨m, 3, none⟩ (.int .i64 ((N : Int) + 1))) := (Up.refl (One m) wr).put rfl 3 _
                have hfar := rtc_far HX.out.head HX.out.ds
                refine ⟨⟨?_, ⟨⟨fun i hi => (HX.out.ds.r.t i hi).up u fun e => hfar (.inl ⟨i, hi, (show qm i = m from e).symm⟩), HX.out.ds.r.ne⟩, HX.out.ds.z.up u fun e => hfar (.inr (show v = m from e).symm)⟩⟩, HU.out.trans (u.mono fun g _ e => .inl e)⟩
                have hh := HX.out.head
                unfold rtc at hh ⊢
                rw [heap_setCell_same wr m 3 _ _ _ hh]
                rfl
              clear hlt hj hg hx hu HTF HT3 i0
              go_wp2_with fail
              rw [HRR.out]
              exact ⟨rfl, by rw [if_pos (by trivial)]; exact HFIN.out.1, HFIN.out.2⟩
end
end Go.Proofs.Ytencinajieicpaa
