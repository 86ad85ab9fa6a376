/- The document's 'Crash'. -/
import Derived.Test.YtfmgbmpdifjliaaRefTurn
import Derived.Test.YtfmgbmpdifjliaaDiskCrash
namespace Go.Proofs.Ytfmgbmpdifjliaa
open Go.RowKit
set_option linter.unusedVariables false

theorem str_from (s : ByteArray) (k : Nat) (h : k ≤ s.size) (W : World) : (Instr.slice 9 (.string s) (some (.int .i64 (k : Int))) none none).run Try.prog W = .ok (.string (s.extract k s.size)) W := by
  rw [run_slice_string_l (P := Try.prog) W 9 s Try.underlying9 .i64 k (by omega) (by omega)]
  simp
theorem str_to (s : ByteArray) (k : Nat) (h : k ≤ s.size) (W : World) : (Instr.slice 9 (.string s) none (some (.int .i64 (k : Int))) none).run Try.prog W = .ok (.string (s.extract 0 k)) W := by
  rw [run_slice_string_h (P := Try.prog) W 9 s Try.underlying9 .i64 k (by omega) (by omega)]
  simp
/-- What is pending, without what is. -/
def pw (ws : List Wt) : List (Nat × List Nat) := ws.map fun x => (x.slot, x.was)
def noWt : Wt := ⟨0, [], []⟩
/-- The slots behind a crash, as the document has them. -/
def rcrashR (ws : List Wt) (keep torn : Nat) (R : Nat → List Nat) (q : Nat) : List Nat :=
  if keep < ws.length ∧ q = (ws.getD keep noWt).slot then (ws.getD keep noWt).now.take torn ++ (ws.getD keep noWt).was.drop torn else fst (pw (ws.drop keep)) q (R q)
theorem fst_drop (ws : List Wt) (m : Nat) (h : m < ws.length) (q : Nat) (R : Nat → List Nat) : upd (fun q => fst (pw (ws.drop (m + 1))) q (R q)) ws[m].slot ws[m].was q = fst (pw (ws.drop m)) q (R q) := by
  have e : ws.drop m = ws[m] :: ws.drop (m + 1) := List.drop_eq_getElem_cons h
  rw [e]
  show _ = fst ((ws[m].slot, ws[m].was) :: pw (ws.drop (m + 1))) q (R q)
  unfold upd
  simp only [fst]
  by_cases e : q = ws[m].slot
  · rw [if_pos e, if_pos e.symm]
  · rw [if_neg e, if_neg (fun h => e h.symm)]
theorem zero_wt : ∃ Z : Array Value, Z.size = 3 ∧ ∀ W, (zeroValue 98).run Try.prog W = .ok (.agg Z) W := by
  have h : (Try.prog.info? 98).map (fun i => i.zero.map fun z => match z with | .agg Z => some Z.size | _ => none) = some (some (some 3)) := by kernel_rfl
  cases e : Try.prog.info? 98 with
  | none => rw [e] at h; cases h
  | some i =>
    rw [e] at h
    simp only [Option.map_some, Option.some.injEq, Option.map_eq_some_iff] at h
    obtain ⟨z, h1, h2⟩ := h
    cases z with
    | agg Z => exact ⟨Z, by simpa using h2, fun W => by simp [zeroValue, typeInfo, e, h1]⟩
    | _ => simp at h2
/-- Where its loop stands. -/
def RCr (r : RK) (L j : Nat) (w wr : World) : Prop := RD wr { r with R := fun q => fst (pw (r.ws.drop (L - j))) q (r.R q) } ∧ Up r.foot w wr
/-- What a Crash leaves. -/
def RCrashed (r : RK) (keep torn : Nat) (w w' : World) : Prop := RD w' { r with R := rcrashR r.ws keep torn r.R, wa := none, wc := 0, ws := [] } ∧ Up r.foot w w'
set_option maxRecDepth 100000 in
set_option maxHeartbeats 3200000 in
theorem rcrash_any (r : RK) (x y : Int) (w : World) (h : RD w r) :
    Calls Try.prog 31 #[.pointer (some ⟨r.m, 0, none⟩), .int .i64 x, .int .i64 y] w fun e w' => e = .returned (.tuple #[]) ∧ RCrashed r x.toNat (min y.toNat 96) w w' := by
  obtain ⟨kp, KP⟩ : ∃ k : Nat, Hid (min x.toNat r.ws.length = k) := ⟨_, rfl⟩
  obtain ⟨tn, TN⟩ : ∃ t : Nat, Hid (min y.toNat 96 = t) := ⟨_, rfl⟩
  obtain ⟨L, LL⟩ : ∃ l, Hid (r.ws.length = l) := ⟨_, rfl⟩
  have i1 : min (max x 0) (L : Int) = (kp : Int) := by rw [← KP.out, ← LL.out]; omega
  have i2 : min (max y 0) 96 = (tn : Int) := by rw [← TN.out]; omega
  have HT : Hid (tn ≤ 96) := by show _ ≤ _; rw [← TN.out]; omega
  have HKL : Hid (kp ≤ L) := by show _ ≤ _; rw [← KP.out, ← LL.out]; omega
  have HPOST : Hid (RCrashed r x.toNat (min y.toNat 96) w = RCrashed r kp tn w) := by
    show _ = _
    rw [TN.out]
    have e : rcrashR r.ws x.toNat tn r.R = rcrashR r.ws kp tn r.R := by
      funext q
      rw [← KP.out]
      rcases Nat.lt_or_ge x.toNat r.ws.length with e | e
      · rw [Nat.min_eq_left (Nat.le_of_lt e)]
      · rw [Nat.min_eq_right e]
        unfold rcrashR
        rw [if_neg (by omega), if_neg (by omega), List.drop_eq_nil_of_le e, List.drop_eq_nil_of_le (Nat.le_refl _)]
    funext w'
    unfold RCrashed
    rw [e]
  rw [HPOST.out]
  have H0 : Hid (RD w { r with R := fun q => fst (pw (r.ws.drop (L - 0))) q (r.R q) }) := h.congr fun i hi => by
    rw [show r.ws.drop (L - 0) = [] from List.drop_eq_nil_of_le (by rw [← LL.out]; omega)]
    rfl
  have HL1 : Hid (L ≤ 1000) := by show _ ≤ _; rw [← LL.out]; exact h.most
  have c2 := h.c2
  rw [LL.out] at c2
  have HH := hid h
  obtain ⟨m, M⟩ : ∃ m, Hid (r.m = m) := ⟨_, rfl⟩
  rw [M.out] at c2 ⊢
  have i3 : IntKind.i64.wrap ((L : Int) - 1) = (L : Int) - 1 := IntWalk.i64_in _ (by have := HL1.out; omega)
  have i4 : wrap64 ((L : Int) - 1) = (L : Int) - 1 := by rw [← IntWalk.i64_left]; exact i3
  clear h
  go_enter Try.func31, Try.ntmps31
  go_wp2_with fail
  go_loopw [6] (fun i wr => ∃ j : Nat, j ≤ L ∧ j ≤ L - kp ∧ i = .int .i64 ((L : Int) - 1 - (j : Int)) ∧ RCr r L j w wr) (fun i _ => (intOf i + 1).toNat)
  case atStart => exact ⟨0, by omega, by omega, by simp, ⟨H0.out, Up.refl _ _⟩⟩
  case round =>
    obtain ⟨j, hj, hj2, rfl, ⟨hd, hu⟩⟩ := hrel
    have HD := hid hd
    have HU := hid hu
    clear hd hu H0
    have c0' := HD.out.c0
    have c2' := HD.out.c2
    dsimp only at c0' c2'
    rw [M.out] at c0' c2'
    rw [LL.out] at c2'
    by_cases hlt : j < L - kp
    · obtain ⟨k, hk⟩ : ∃ k : Nat, k + 1 + j = L := ⟨L - 1 - j, by omega⟩
      rw [show (L : Int) - 1 - (j : Int) = (k : Int) by omega]
      have hkl : k < r.ws.length := by have := LL.out; omega
      obtain ⟨wg, g1o, g2, g3, g4o, g5o, g6, g7⟩ := HD.out.wt (k := k) hkl
      have g1 : r.wa = some ⟨wg, 0, none⟩ := g1o
      rw [g1] at c2'
      have g4 : wr.cell? ⟨wg, k * 3, none⟩ = some (.int .i64 ((r.ws[k].slot : Nat) : Int)) := g4o
      have g5 : wr.cell? ⟨wg, k * 3 + 1, none⟩ = some (.string (strOf r.ws[k].was)) := g5o
      clear g1o g4o g5o
      obtain ⟨p1, p2, p3⟩ := HH.out.lenW r.ws[k] (List.getElem_mem hkl)
      obtain ⟨sg, e1, e2, e3, x1, x2⟩ := HD.out.slot (s := r.ws[k].slot) p1
      have e1 : r.sa = some ⟨sg, 0, none⟩ := e1
      rw [e1] at c0'
      have k1 : (k : Int) < (L : Int) := by omega
      have k2 : (kp : Int) ≤ (k : Int) := by omega
      have k3 : ((r.ws[k].slot : Nat) : Int) < (r.n : Int) := by omega
      have h4 := (HD.out.nxt (Up.refl Nul wr).drew).sets (s := r.ws[k].slot) (g := sg) p1 e1 r.ws[k].was p2
      have HE : Hid (j + 1 ≤ L ∧ j + 1 ≤ L - kp ∧ RCr r L (j + 1) w (wr.drew.setCell ⟨sg, r.ws[k].slot, none⟩ (.string (strOf r.ws[k].was)))) := by
        refine ⟨by omega, by omega, h4.congr (S := fun q => fst (pw (r.ws.drop (L - (j + 1)))) q (r.R q)) fun i hi => ?_, (HU.out.drew).put (.inr (.inl e3)) _ _⟩
        have a1 : L - j = k + 1 := by omega
        have a2 : L - (j + 1) = k := by omega
        rw [a2]
        show upd (fun q => fst (pw (r.ws.drop (L - j))) q (r.R q)) _ _ i = _
        rw [a1]
        exact fst_drop r.ws k hkl i r.R
      have hj1 : IntKind.i64.wrap ((k : Int) - 1) = (L : Int) - 1 - ((j + 1 : Nat) : Int) := by rw [IntWalk.i64_in _ (by have := HL1.out; omega)]; omega
      have hj3 : wrap64 ((k : Int) - 1) = (L : Int) - 1 - ((j + 1 : Nat) : Int) := by rw [← IntWalk.i64_left]; exact hj1
      have HK : Hid (k + 1 + j = L) := hk
      generalize strOf (fst (pw (r.ws.drop (L - j))) r.ws[k].slot (r.R r.ws[k].slot)) = old at x1
      generalize strOf r.ws[k].was = was at g5 HE
      clear h4 p1 p2 p3 hk g1 g2 g3 g6 g7 e1 e2 e3 hlt hj hj2 c2 HD
      generalize r.ws[k].slot = sk at g4 x1 x2 k3 HE
      generalize r.n = n at c0' k3
      generalize r.sc = sc at c0'
      go_wp2_with fail
      go_region
      go_wp2
      clear hj1 hj3
      all_goals (try go_roundw)
      all_goals first
        | exact ⟨j + 1, HE.out.1, HE.out.2.1, by simp, HE.out.2.2⟩
        | (simp only [intOf]; have := HK.out; omega)
        | exact ⟨⟨j + 1, HE.out.1, HE.out.2.1, by simp, HE.out.2.2⟩, by simp only [intOf]; have := HK.out; omega⟩
    · have hjk : j = L - kp := by omega
      have hLk : L - j = kp := by have := HKL.out; omega
      have HD : Hid (RD wr { r with R := fun q => fst (pw (r.ws.drop kp)) q (r.R q) }) := by have := HD.out; rw [hLk] at this; exact this
      have i5 : ¬ (kp : Int) ≤ (L : Int) - 1 - (j : Int) := by have := HKL.out; omega
      have f2' := HD.out.fr 2
      dsimp only at f2'
      rw [M.out] at f2'
      by_cases hk : kp < L
      · have k1 : (kp : Int) < (L : Int) := by omega
        have hkl : kp < r.ws.length := by have := LL.out; omega
        obtain ⟨wg, g1o, g2, g3, g4o, g5o, g6o, g7⟩ := HD.out.wt (k := kp) hkl
        have g1 : r.wa = some ⟨wg, 0, none⟩ := g1o
        rw [g1] at c2'
        have hgd : r.ws.getD kp noWt = r.ws[kp] := by rw [List.getD_eq_getElem?_getD, List.getElem?_eq_getElem hkl]; rfl
        obtain ⟨p1, p2, p3⟩ := HH.out.lenW r.ws[kp] (List.getElem_mem hkl)
        obtain ⟨sg, e1, e2, e3, x1, x2⟩ := HD.out.slot (s := r.ws[kp].slot) p1
        have e1 : r.sa = some ⟨sg, 0, none⟩ := e1
        rw [e1] at c0'
        have k3 : ((r.ws[kp].slot : Nat) : Int) < (r.n : Int) := by omega
        obtain ⟨Z, hz1, hz2⟩ := zero_wt
        have hrg : wr.rangeAt wg (kp * 3) (wcell r.ws[kp]) := fun i v hv => by
          match i, hv with
          | 0, hv => cases hv; exact g4o
          | 1, hv => cases hv; exact g5o
          | 2, hv => cases hv; exact g6o
        obtain ⟨cs, CS⟩ : ∃ c, Hid (wcell r.ws[kp] = c) := ⟨wcell r.ws[kp], rfl⟩
        have hc0 : cs.toArray[0]? = some (.int .i64 ((r.ws[kp].slot : Nat) : Int)) := by rw [← CS.out]; rfl
        have hc1 : cs.toArray[1]? = some (.string (strOf r.ws[kp].was)) := by rw [← CS.out]; rfl
        have hc2 : cs.toArray[2]? = some (.string (strOf r.ws[kp].now)) := by rw [← CS.out]; rfl
        have hcl : cs.length = 3 := by rw [← CS.out]; rfl
        rw [CS.out] at hrg
        have HRG := hid hrg
        have HI : Hid ((Try.prog.info? 98).map (·.size) = some cs.length) := by
          show _ = _
          obtain ⟨i, z, e1, _, e2, _⟩ := info_wt
          rw [e1, hcl]; exact congrArg some e2
        have HI2 : Hid ((Try.prog.info? 98).map (·.size) = some cs.toArray.size) := by show _ = _; rw [HI.out]; simp
        have HZS : Hid (Z.size = cs.toArray.size) := by show _ = _; simp [hcl, hz1]
        have HON : Hid (cs.toArray.all (·.oneCell') = true) := Array.all_eq_true_iff_forall_mem.2 fun v hv => one_wcell r.ws[kp] v (by rw [CS.out]; simpa using hv)
        have n0 := fun j => World.cell?_alloc_new wr cs.toArray 98 j
        have n1 := (n0 0).trans hc0
        have n2 := (n0 1).trans hc1
        have n3 := (n0 2).trans hc2
        obtain ⟨q, Q⟩ : ∃ q, Hid (wr.heap.size = q) := ⟨_, rfl⟩
        have ua : Up Nul wr (wr.alloc (.cells cs.toArray 98)) := (Up.refl _ _).alloc _
        have m0 := (ua.cell (p := ⟨m, 0, none⟩) (lt_of_cell c0') id).trans c0'
        have y1 := (ua.cell (p := ⟨sg, r.ws[kp].slot, none⟩) e2 id).trans x1
        have y2 := (ua.froz (p := ⟨sg, r.ws[kp].slot, none⟩) e2 id).trans x2
        have s1 := str_to (strOf r.ws[kp].now) tn (by rw [strOf_size, p3]; exact HT.out)
        have s2 := str_from (strOf r.ws[kp].was) tn (by rw [strOf_size, p2]; exact HT.out)
        have hs2 : (strOf r.ws[kp].was).size = 96 := by rw [strOf_size, p2]
        rw [strOf_extract, Nat.sub_zero, List.drop_zero] at s1
        rw [hs2, strOf_extract, List.take_of_length_le (by rw [List.length_drop, p2]; exact Nat.le_refl _)] at s2
        have hcat : strOf (r.ws[kp].now.take tn) ++ strOf (r.ws[kp].was.drop tn) = strOf (r.ws[kp].now.take tn ++ r.ws[kp].was.drop tn) := strOf_append _ _
        have z1 : (strOf (r.ws[kp].now.take tn)).size ≤ 96 := by rw [strOf_size, List.length_take]; omega
        have z2 : (strOf (r.ws[kp].was.drop tn)).size ≤ 96 := by rw [strOf_size, List.length_drop]; omega
        have hlen : (r.ws[kp].now.take tn ++ r.ws[kp].was.drop tn).length = 96 := by rw [List.length_append, List.length_take, List.length_drop, p2, p3]; have := HT.out; omega
        have h4 := (HD.out.nxt ua.drew).sets (s := r.ws[kp].slot) (g := sg) p1 e1 _ hlen
        have h5 := h4.set2
        have c2s := h4.c2
        have f2s := h4.fr 2
        dsimp only at h5 c2s f2s
        rw [M.out] at h5 c2s f2s
        rw [LL.out, g1] at c2s
        have HE : Hid (RCrashed r kp tn w (((wr.alloc (.cells cs.toArray 98)).drew.setCell ⟨sg, r.ws[kp].slot, none⟩ (.string (strOf (r.ws[kp].now.take tn ++ r.ws[kp].was.drop tn)))).setCell ⟨m, 2, none⟩ (.slice none 0 0))) := by
          refine ⟨?_, ((HU.out.trans ua.nul).drew.put (.inr (.inl e3)) _ _).put (.inl M.out.symm) _ _⟩
          have h6 := h5.congr (S := rcrashR r.ws kp tn r.R) fun i hi => by
            show upd (fun q => fst (pw (r.ws.drop kp)) q (r.R q)) r.ws[kp].slot (r.ws[kp].now.take tn ++ r.ws[kp].was.drop tn) i = rcrashR r.ws kp tn r.R i
            unfold upd rcrashR
            rw [hgd]
            by_cases e : i = r.ws[kp].slot
            · rw [if_pos e, if_pos ⟨hkl, e⟩]
            · rw [if_neg e, if_neg (fun h => e h.2)]
          rw [← M.out] at h6 ⊢
          exact h6
        generalize strOf (r.ws[kp].now.take tn ++ r.ws[kp].was.drop tn) = cat at hcat HE c2s f2s
        generalize strOf (r.ws[kp].now.take tn) = t1 at hcat s1 z1
        generalize strOf (r.ws[kp].was.drop tn) = t2 at hcat s2 z2
        generalize strOf r.ws[kp].was = was at n2 s2 hc1
        generalize strOf r.ws[kp].now = now at n3 s1 hc2
        clear hs2 p1 p2 p3 g1 g2 g3 g4o g5o g6o g7 g1o e1 e2 e3 x1 x2 h4 h5 hlen hgd hk hlt hj hj2 hLk hjk hrg ua n0 hcl CS
        generalize strOf (fst (pw (r.ws.drop kp)) r.ws[kp].slot (r.R r.ws[kp].slot)) = old at y1
        generalize r.ws[kp].slot = sk at k3 hc0 n1 y1 y2 HE c2s f2s
        have z3 : ¬ 9223372036854775807 < t1.size + t2.size := by omega
        have tn1 : (0 : Int) ≤ (tn : Int) := by omega
        clear hkl HD
        generalize r.n = n at c0' k3 m0
        generalize r.sc = sc at c0' m0
        go_wp2_with (first
          | (refine wpList_load_mid rfl 98 (.tmp 63) rfl wg (kp * 3) rfl cs _ HRG.out Try.underlying98 rfl HI.out ?_)
          | (refine wpList_store_new rfl 98 (.tmp 7) (.tmp 64) rfl Z cs.toArray rfl rfl HI2.out HZS.out HON.out ?_))
        go_region
        obtain ⟨w5, W5⟩ : ∃ w5, (wr.alloc (.cells cs.toArray 98)).drew.setCell ⟨sg, sk, none⟩ (.string cat) = w5 := ⟨_, rfl⟩
        have W5' : ((wr.alloc (.cells cs.toArray 98)).setCell ⟨sg, sk, none⟩ (.string cat)).drew = w5 := W5
        first | rw [W5] | rw [W5']
        rw [W5] at c2s f2s HE
        clear W5 W5'
        go_wp2
        (try simp only [Exit.inBlock, Exit.then])
        apply bodyPost_end (results_none rfl _ _ _)
        · rfl
        · exact ⟨rfl, HE.out⟩
      · have k1 : ¬ (kp : Int) < (L : Int) := by omega
        have h5 := HD.out.set2
        dsimp only at h5
        rw [M.out] at h5
        have HE : Hid (RCrashed r kp tn w (wr.setCell ⟨m, 2, none⟩ (.slice none 0 0))) := by
          refine ⟨?_, HU.out.put (.inl M.out.symm) _ _⟩
          have h6 := h5.congr (S := rcrashR r.ws kp tn r.R) fun i hi => by
            show fst (pw (r.ws.drop kp)) i (r.R i) = rcrashR r.ws kp tn r.R i
            unfold rcrashR
            rw [if_neg (fun h => absurd h.1 (by have := LL.out; omega))]
          rw [← M.out] at h6 ⊢
          exact h6
        clear h5 HD hlt hj hj2 hk hLk hjk
        go_wp2
        (try simp only [Exit.inBlock, Exit.then])
        apply bodyPost_end (results_none rfl _ _ _)
        · rfl
        · exact ⟨rfl, HE.out⟩
end Go.Proofs.Ytfmgbmpdifjliaa
