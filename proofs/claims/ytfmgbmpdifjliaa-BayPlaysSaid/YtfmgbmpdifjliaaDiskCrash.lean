/- 'Crash' of a Disk. -/
import Derived.Test.YtfmgbmpdifjliaaDiskWrite
import Derived.Deep.WholeRow
namespace Go.Proofs.Ytfmgbmpdifjliaa
open Go.RowKit
set_option linter.unusedVariables false

theorem Up.trans' {S : Nat → Prop} {u v w : World} (h : Up Nul u v) (k : Up S v w) : Up S u w := h.nul.trans k
/-- A pending write taken back, but its first t bytes. -/
def und (p : Nat × List Nat) (t : Nat) (z : List Nat) : List Nat := over z (p.1 * 96 + t) (p.2.drop t)
/-- The slots, n of the pending writes taken back, the last ones first. -/
def crs (ps : List (Nat × List Nat)) (keep torn : Nat) (z : List Nat) : Nat → List Nat
  | 0 => z
  | n + 1 => und (ps.getD (ps.length - 1 - n) (0, [])) (if ps.length - 1 - n = keep then torn else 0) (crs ps keep torn z n)
/-- The slots behind a crash. -/
def crash (ps : List (Nat × List Nat)) (keep torn : Nat) (z : List Nat) : List Nat := crs ps keep torn z (ps.length - keep)
theorem pcells_at : ∀ (ps : List (Nat × List Nat)) (hp : ∀ p ∈ ps, p.2.length = 96) (m : Nat) (hm : m < ps.length) (j : Nat) (hj : j < 97), (pcells ps)[m * 97 + j]? = (pcell (ps.getD m (0, [])))[j]?
  | [], _, m, hm, _, _ => absurd hm (Nat.not_lt_zero _)
  | p :: ps, hp, m, hm, j, hj => by
    have hl := pcell_length p (hp p (List.mem_cons_self ..))
    have e : pcells (p :: ps) = pcell p ++ pcells ps := by simp [pcells]
    rw [e]
    rcases m with _ | m
    · rw [List.getElem?_append_left (by omega)]
      simp
    · rw [List.getElem?_append_right (by omega), hl, show (m + 1) * 97 + j - 97 = m * 97 + j by omega, pcells_at ps (fun p h => hp p (List.mem_cons_of_mem _ h)) m (by simpa using hm) j hj]
      simp
/-- A pending write in memory. -/
theorem Dsk.pend_at {w : World} {d : DK} (h : Dsk w d) {m : Nat} (hm : m < d.ps.length) : ∃ g, d.pa = some ⟨g, 0, none⟩ ∧ g < w.heap.size ∧ d.pv.ownBlock = some g ∧ w.rangeAt g (m * 97) (pcell (d.ps.getD m (0, []))) := by
  rcases h.pend.2 with ⟨_, e⟩ | ⟨g, cap, cur, e, _, hg, hnc, hcm, hcs, htake⟩
  · omega
  · have e1 : d.pa = some ⟨g, 0, none⟩ := by
      unfold DK.pv at e
      injection e
    refine ⟨g, e1, (Array.getElem?_eq_some_iff.1 hg).1, by rw [e]; rfl, fun j v hv => ?_⟩
    have hgood : ∀ p ∈ d.ps, p.2.length = 96 := fun p hp => (h.good p hp).2.1
    have hpl : (pcell (d.ps.getD m (0, []))).length = 97 := by
      refine pcell_length _ ?_
      rw [List.getD_eq_getElem?_getD, List.getElem?_eq_getElem hm]
      exact hgood _ (List.getElem_mem hm)
    have hj : j < 97 := by
      rcases Nat.lt_or_ge j 97 with h | h
      · exact h
      · rw [List.getElem?_eq_none (by omega)] at hv; cases hv
    rw [← pcells_at d.ps hgood m hm j hj, ← htake, List.getElem?_take] at hv
    split at hv
    · simp only [World.cell?, hg]
      simpa using hv
    · cases hv
theorem good_at {w : World} {d : DK} (h : Dsk w d) {m : Nat} (hm : m < d.ps.length) : (d.ps.getD m (0, [])).1 < d.n ∧ (d.ps.getD m (0, [])).2.length = 96 ∧ ∀ x ∈ (d.ps.getD m (0, [])).2, x < 256 := by
  rw [List.getD_eq_getElem?_getD, List.getElem?_eq_getElem hm]
  exact h.good _ (List.getElem_mem hm)
theorem zero_cov : ∃ Z : Array Value, Z.size = 97 ∧ ∀ W, (zeroValue 100).run Try.prog W = .ok (.agg Z) W := by
  have h : (Try.prog.info? 100).map (fun i => i.zero.map fun z => match z with | .agg Z => some Z.size | _ => none) = some (some (some 97)) := by kernel_rfl
  cases e : Try.prog.info? 100 with
  | none => rw [e] at h; cases h
  | some i =>
    rw [e] at h
    simp only [Option.map_some, Option.some.injEq, Option.map_eq_some_iff] at h
    obtain ⟨z, h1, h2⟩ := h
    cases z with
    | agg Z => exact ⟨Z, by simpa using h2, fun W => by simp [zeroValue, typeInfo, e, h1]⟩
    | _ => simp at h2
theorem over_nil (z : List Nat) (o : Nat) : over z o [] = z := by simp [over]
theorem crash_step {wr : World} {d : DK} (h : Dsk wr d) (s t : Nat) (zz : List Nat) (hs : s < d.n) (hz : zz.length = 96) (h8 : ∀ x ∈ zz, x < 256) (ht : t ≤ 96) (a : Addr) (o : Nat) (ha : t < 96 → a = ⟨wr.heap.size, 1 + t, none⟩ ∧ o = s * 96 + t) (ho : o ≤ s * 96 + t) :
    ∃ w4, (Builtin.copy_ #[32, 32] 3 #[.slice (some ⟨d.q, o, none⟩) (96 - t) (96 - t), .slice (some a) (96 - t) (96 - t)]).run Try.prog (wr.alloc (.cells (pcell (s, zz)).toArray 100)).drew = .ok (goInt (96 - t : Nat)) w4 ∧ Dsk w4 { d with z := und (s, zz) t d.z } ∧ Up (One d.q) wr w4 := by
  have u : Up Nul wr (wr.alloc (.cells (pcell (s, zz)).toArray 100)).drew := ((Up.refl Nul wr).alloc _).drew
  have hd := h.nxt u
  have hl : (zz.drop t).length = 96 - t := by simp [hz]
  have hsl : SlN (wr.alloc (.cells (pcell (s, zz)).toArray 100)).drew (some a) (96 - t) (zz.drop t) := by
    refine ⟨hl, ?_, by omega⟩
    rcases Nat.lt_or_ge t 96 with e | e
    · refine .inr ⟨wr.heap.size, 1 + t, by rw [(ha e).1], by simp, fun i hi => ?_, fun i => ?_⟩
      · rw [hl] at hi
        show (wr.alloc _).cell? _ = _
        rw [World.cell?_alloc_new, Nat.add_assoc, Nat.add_comm 1 (t + i)]
        simp only [pcell, vals, List.getElem?_toArray, List.getElem?_cons_succ, List.getElem?_map]
        rw [List.getElem?_eq_getElem (by omega)]
        simp [List.getD_eq_getElem?_getD, List.getElem?_drop, List.getElem?_eq_getElem (show t + i < zz.length by omega)]
      · have := small_getD h8 (t + i)
        simpa [List.getD_eq_getElem?_getD, List.getElem?_drop] using this
    · exact .inl (by omega)
  obtain ⟨w4, h1, h2, h3⟩ := run_copy_slot _ 3 d hd o (96 - t) (96 - t) (96 - t) (some a) (96 - t) (zz.drop t) hsl (Nat.min_self _) (by omega)
  refine ⟨w4, h1, ?_, u.trans' h3⟩
  have e : over d.z o (zz.drop t) = und (s, zz) t d.z := by
    unfold und
    rcases Nat.lt_or_ge t 96 with e | e
    · rw [(ha e).2]
    · rw [List.drop_eq_nil_of_le (by omega), over_nil, over_nil]
  rw [← e]
  exact h2
theorem wpList_store_new {ops : Array Oper} {rest : List Oper} {op : Oper} {a : Act} {w : World} {Q : Exit → Act → World → Prop} (hgd : op.guard = none) (ty : TypeId) (x y : Operand) (ho : op.op = .store ty x y) (c c' : Array Value) (hx : a.eval x = .pointer (some ⟨w.heap.size, 0, none⟩)) (hy : a.eval y = .agg c')
    (hi : (Try.prog.info? ty).map (·.size) = some c'.size) (hs : c.size = c'.size) (h1 : c'.all (·.oneCell') = true)
    (h : wpList Try.prog ops Q rest (a.put op.dst undef) (w.alloc (.cells c' ty))) : wpList Try.prog ops Q (op :: rest) a (w.alloc (.cells c ty)) :=
  wpList_plain hgd fun _ hK => by
    unfold Oper.wp execOp
    simp only [ho, hx, hy, Sem.run_bind, run_storeAt_new (P := Try.prog) w ty c c' hi hs h1, Result.andThen_ok]
    exact hK _ _ h
set_option maxRecDepth 100000 in
set_option maxHeartbeats 1600000 in
theorem crash_any (d : DK) (x y : Int) (w : World) (h : Dsk w d) :
    Calls Try.prog 30 #[.pointer (some ⟨d.b, 0, none⟩), .int .i64 x, .int .i64 y] w fun e w' => e = .returned (.tuple #[]) ∧ Dsk w' { d with z := crash d.ps x.toNat (min y.toNat 96) d.z, pa := none, pc := 0, ps := [] } ∧ Up d.foot w w' := by
  obtain ⟨kp, KP⟩ : ∃ k : Nat, Hid (x.toNat = k) := ⟨_, rfl⟩
  obtain ⟨tn, TN⟩ : ∃ t : Nat, Hid (min y.toNat 96 = t) := ⟨_, rfl⟩
  have i1 : max x 0 = (kp : Int) := by rw [← KP.out]; omega
  have i2 : min (max y 0) 96 = (tn : Int) := by rw [← TN.out]; omega
  have HT : Hid (tn ≤ 96) := by show _ ≤ _; rw [← TN.out]; omega
  rw [KP.out, TN.out]
  have H0 := hid h
  obtain ⟨Z, hz1, hz2⟩ := zero_cov
  have HZ := hid hz1
  obtain ⟨b, B⟩ : ∃ b, Hid (d.b = b) := ⟨_, rfl⟩
  obtain ⟨q, Qq⟩ : ∃ q, Hid (d.q = q) := ⟨_, rfl⟩
  obtain ⟨n, N⟩ : ∃ n, Hid (d.n = n) := ⟨_, rfl⟩
  obtain ⟨pa, PA⟩ : ∃ x, Hid (d.pa = x) := ⟨_, rfl⟩
  obtain ⟨pc, PC⟩ : ∃ x, Hid (d.pc = x) := ⟨_, rfl⟩
  obtain ⟨L, LL⟩ : ∃ x, Hid (d.ps.length = x) := ⟨_, rfl⟩
  have HL : Hid (L ≤ 1000) := by show _ ≤ _; rw [← LL.out]; exact h.most
  have c3 := h.c3
  rw [B.out, PA.out, PC.out, LL.out] at c3
  rw [B.out]
  have i3 : IntKind.i64.wrap ((L : Int) - 1) = (L : Int) - 1 := IntWalk.i64_in _ (by have := HL.out; omega)
  have i4 : wrap64 ((L : Int) - 1) = (L : Int) - 1 := by rw [← IntWalk.i64_left]; exact i3
  clear h hz1
  go_enter Try.func30, Try.ntmps30
  go_wp2_with fail
  go_loopw [6, 7, 8] (fun i _ _ wr => ∃ j : Nat, j ≤ L ∧ (j = 0 ∨ j ≤ L - kp) ∧ i = .int .i64 ((L : Int) - 1 - (j : Int)) ∧ Dsk wr { d with z := crs d.ps kp tn d.z j } ∧ Up (One d.q) w wr) (fun i _ _ _ => (intOf i + 1).toNat)
  case atStart => exact ⟨0, by omega, .inl rfl, by simp, H0.out, Up.refl _ _⟩
  case round =>
    obtain ⟨j, hj, hj2, rfl, hd, hu⟩ := hrel
    have HD := hid hd
    have HU := hid hu
    have c3' := hd.c3
    have c2' := hd.c2
    dsimp only at c3' c2'
    rw [B.out, PA.out, PC.out, LL.out] at c3'
    rw [B.out, Qq.out, N.out] at c2'
    clear hd hu
    by_cases hlt : j < L - kp
    · obtain ⟨m, hm⟩ : ∃ m : Nat, m + 1 + j = L := ⟨L - 1 - j, by omega⟩
      rw [show (L : Int) - 1 - (j : Int) = (m : Int) by omega]
      have hml : m < d.ps.length := by rw [LL.out]; omega
      obtain ⟨g, hg1, hg2, hg3, hg4⟩ := HD.out.pend_at hml
      dsimp only at hg1 hg2 hg3 hg4
      obtain ⟨p1, p2, p3⟩ := good_at HD.out hml
      dsimp only at p1 p2 p3
      have HPP : Hid (d.ps.length - 1 - j = m) := by show _ = _; rw [LL.out]; omega
      obtain ⟨p, PP⟩ : ∃ p, Hid (d.ps.getD m (0, []) = p) := ⟨_, rfl⟩
      rw [PP.out] at hg4 p1 p2 p3
      obtain ⟨s, zz⟩ := p
      dsimp only at p1 p2 p3
      rw [PA.out] at hg1
      subst hg1
      obtain ⟨cs, CS⟩ : ∃ c, Hid (pcell (s, zz) = c) := ⟨_, rfl⟩
      rw [CS.out] at hg4
      have hcl : cs.length = 97 := by rw [← CS.out]; exact pcell_length _ p2
      have hc0 : cs.toArray[0]? = some (.int .i64 (s : Int)) := by rw [← CS.out]; simp [pcell]
      have HG := hid hg4
      have HI : Hid ((Try.prog.info? 100).map (·.size) = some cs.length) := by
        show _ = _
        obtain ⟨i, z, e1, _, e2, _⟩ := info_cov
        rw [e1, hcl]; exact congrArg some e2
      have HI2 : Hid ((Try.prog.info? 100).map (·.size) = some cs.toArray.size) := by show _ = _; rw [HI.out]; simp
      have HZS : Hid (Z.size = cs.toArray.size) := by show _ = _; rw [HZ.out]; simp [hcl]
      have HON : Hid (cs.toArray.all (·.oneCell') = true) := Array.all_eq_true_iff_forall_mem.2 fun v hv => one_pcell (s, zz) v (by rw [CS.out]; simpa using hv)
      have hs1 : (s : Int) < (n : Int) := by rw [N.out] at p1; omega
      have hs0 : (0 : Int) ≤ (s : Int) := by omega
      have hm0 : (m : Int) < (L : Int) := by omega
      have hmk : (kp : Int) ≤ (m : Int) := by omega
      have HCC := hid hcl
      have HCA : Hid (cs.toArray = (pcell (s, zz)).toArray) := by show _ = _; rw [CS.out]
      have k1 : (wr.alloc (.cells cs.toArray 100)).cell? ⟨b, 2, none⟩ = some (.slice (some ⟨q, 0, none⟩) n n) := by
        rw [World.cell?_alloc_lt _ _ _ (lt_of_cell c2')]
        exact c2'
      have k2 : (wr.alloc (.cells cs.toArray 100)).cell? ⟨wr.heap.size, 0, none⟩ = some (.int .i64 (s : Int)) := by
        rw [World.cell?_alloc_new]
        exact hc0
      have HST : Hid (∀ t a o, t ≤ 96 → (t < 96 → a = ⟨wr.heap.size, 1 + t, none⟩ ∧ o = s * 96 + t) → o ≤ s * 96 + t → t = (if m = kp then tn else 0) →
          ∃ w4, (Builtin.copy_ #[32, 32] 3 #[.slice (some ⟨q, o, none⟩) (96 - t) (96 - t), .slice (some a) (96 - t) (96 - t)]).run Try.prog (wr.alloc (.cells cs.toArray 100)).drew = .ok (goInt (96 - t : Nat)) w4 ∧ Hid (Dsk w4 { d with z := crs d.ps kp tn d.z (j + 1) } ∧ Up (One d.q) w w4)) := fun t a o h1 h2 h3 h4 => by
        obtain ⟨w4, g1, g2, g3⟩ := crash_step HD.out s t zz p1 p2 p3 h1 a o h2 h3
        rw [← HCA.out] at g1
        dsimp only at g1
        rw [Qq.out] at g1
        refine ⟨w4, g1, ?_, HU.out.trans g3⟩
        have e : crs d.ps kp tn d.z (j + 1) = und (s, zz) t (crs d.ps kp tn d.z j) := by
          show und _ _ _ = _
          rw [HPP.out, PP.out, h4]
        rw [e]
        exact g2
      have hj1 : IntKind.i64.wrap ((m : Int) - 1) = (L : Int) - 1 - ((j + 1 : Nat) : Int) := by rw [IntWalk.i64_in _ (by have := HL.out; omega)]; omega
      have hj3 : wrap64 ((m : Int) - 1) = (L : Int) - 1 - ((j + 1 : Nat) : Int) := by rw [← IntWalk.i64_left]; exact hj1
      have HJ : Hid (j + 1 ≤ L ∧ j + 1 ≤ L - kp) := ⟨by omega, by omega⟩
      have HM : Hid (m + 1 + j = L) := hm
      by_cases e : m = kp
      · have e1 : ((m : Int) == (kp : Int)) = true := by simp; omega
        have HMK : Hid (m = kp) := e
        clear hg4 hcl p2 p3 hm e
        have ht1 : (tn : Int) ≤ 96 := by have := HT.out; omega
        go_wp2_with (first
          | (refine wpList_load_mid rfl 100 (.tmp 34) rfl g (m * 97) rfl cs _ HG.out Try.underlying100 rfl HI.out ?_)
          | (refine wpList_store_new rfl 100 (.tmp 8) (.tmp 35) rfl Z cs.toArray rfl rfl HI2.out HZS.out HON.out ?_))
        by_cases e96 : tn = 96
        · obtain ⟨w4, hcp, HE⟩ := HST.out tn ⟨wr.heap.size, 1, none⟩ (s * 96) (by omega) (fun h => absurd h (by omega)) (by omega) (by rw [if_pos HMK.out])
          have e97 : (96 = tn) = True := eq_true e96.symm
          clear e96
          go_region
          go_wp2
          all_goals (try go_roundw)
          all_goals first
            | exact ⟨j + 1, HJ.out.1, .inr HJ.out.2, by simp, HE.out⟩
            | (simp only [intOf]; have := HM.out; omega)
            | exact ⟨⟨j + 1, HJ.out.1, .inr HJ.out.2, by simp, HE.out⟩, by simp only [intOf]; have := HM.out; omega⟩
        · obtain ⟨w4, hcp, HE⟩ := HST.out tn ⟨wr.heap.size, 1 + tn, none⟩ (s * 96 + tn) (by omega) (fun _ => ⟨rfl, rfl⟩) (by omega) (by rw [if_pos HMK.out])
          have e97 : ¬ 96 = tn := fun h => e96 h.symm
          have e98 : ¬ (96 : Int) < (tn : Int) := by omega
          go_region
          go_wp2
          all_goals (try go_roundw)
          all_goals first
            | exact ⟨j + 1, HJ.out.1, .inr HJ.out.2, by simp, HE.out⟩
            | (simp only [intOf]; have := HM.out; omega)
            | exact ⟨⟨j + 1, HJ.out.1, .inr HJ.out.2, by simp, HE.out⟩, by simp only [intOf]; have := HM.out; omega⟩
      · have e1 : ((m : Int) == (kp : Int)) = false := by simp; omega
        obtain ⟨w4, hcp, HE⟩ := HST.out 0 ⟨wr.heap.size, 1, none⟩ (s * 96) (by omega) (fun _ => ⟨rfl, rfl⟩) (by omega) (by rw [if_neg e])
        simp only [Nat.sub_zero] at hcp
        clear hg4 hcl p2 p3 hm e
        go_wp2_with (first
          | (refine wpList_load_mid rfl 100 (.tmp 34) rfl g (m * 97) rfl cs _ HG.out Try.underlying100 rfl HI.out ?_)
          | (refine wpList_store_new rfl 100 (.tmp 8) (.tmp 35) rfl Z cs.toArray rfl rfl HI2.out HZS.out HON.out ?_))
        go_region
        go_wp2
        all_goals (try go_roundw)
        all_goals first
          | exact ⟨j + 1, HJ.out.1, .inr HJ.out.2, by simp, HE.out⟩
          | (simp only [intOf]; have := HM.out; omega)
          | exact ⟨⟨j + 1, HJ.out.1, .inr HJ.out.2, by simp, HE.out⟩, by simp only [intOf]; have := HM.out; omega⟩
    · have hje : crs d.ps kp tn d.z j = crash d.ps kp tn d.z := by
        unfold crash
        rw [LL.out]
        congr 1
        omega
      have f3' := HD.out.fr 3
      dsimp only at f3'
      rw [B.out] at f3'
      have HE : Hid (Dsk (wr.setCell ⟨b, 3, none⟩ (.slice none 0 0)) { d with b := b, z := crash d.ps kp tn d.z, pa := none, pc := 0, ps := [] }) := by
        have := HD.out.set3
        dsimp only at this
        rw [B.out, hje] at this
        exact this
      have HU3 : Hid (Up d.foot w (wr.setCell ⟨b, 3, none⟩ (.slice none 0 0))) := (HU.out.mono fun k _ e => .inr (.inl e)).put (.inl B.out.symm) 3 _
      have i5 : ¬ (kp : Int) ≤ (L : Int) - 1 - (j : Int) := by omega
      clear hje
      go_wp2
      go_end0
      exact ⟨rfl, HE.out, HU3.out⟩
end Go.Proofs.Ytfmgbmpdifjliaa
