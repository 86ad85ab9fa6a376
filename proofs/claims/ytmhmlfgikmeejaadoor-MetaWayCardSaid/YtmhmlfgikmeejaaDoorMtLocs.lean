/- 'Locs'. -/
import Derived.Test.YtmhmlfgikmeejaaDoorMtKeyP
import Derived.Test.YtmhmlfgikmeejaaDoorMtMerge
namespace Go.Proofs.YtmhmlfgikmeejaaDoor
open Go.RowKit Go.Maps
set_option linter.unusedVariables false

def MM.allLocs (M : MM) (is : List Int) : List Lo := is.flatMap fun i => ((M.s i).map (·.locs)).getD []
theorem allLocs_next {M : MM} {zs : List Int} {t : Nat} (h : t < zs.length) : M.allLocs (zs.take (t + 1)) = M.allLocs (zs.take t) ++ ((M.s zs[t]).map (·.locs)).getD [] := by
  unfold MM.allLocs
  rw [List.take_succ_eq_append_getElem h, List.flatMap_append]
  simp
theorem allLocs_le (M : MM) (zs : List Int) (t : Nat) : (M.allLocs (zs.take t)).length ≤ (M.allLocs zs).length := by
  have e : M.allLocs zs = M.allLocs (zs.take t) ++ M.allLocs (zs.drop t) := by
    unfold MM.allLocs
    rw [← List.flatMap_append, List.take_append_drop]
  rw [e, List.length_append]
  omega
theorem OwnLo.lower {b b' : Nat} {w : World} {v : Value} {ls : List Lo} (h : OwnLo b w v ls) (hb : b' ≤ b) : OwnLo b' w v ls := by
  refine ⟨h.1, ?_⟩
  rcases h.2 with e | ⟨g, cap, cur, h1, h2, h3⟩
  · exact .inl e
  · exact .inr ⟨g, cap, cur, h1, Nat.le_trans hb h2, h3⟩
section
variable {F : Nat → Prop} {w : World} {p bm bs n : Nat} {Q : Int → Value} {M : MM}
set_option maxRecDepth 10000 in
set_option maxHeartbeats 4000000 in
theorem locs_any (h : MT F w p bm bs n Q M) (hn : n ≤ 100000) (hst : ∀ i s, M.s i = some s → 1 ≤ s.locs.length) (hl : ∀ is, IS M is → (M.allLocs is).length ≤ 1000) :
    Calls Tryd.prog 14 #[.pointer (some ⟨p, 0, none⟩)] w fun e w' => ∃ v is, e = .returned v ∧ IS M is ∧ OwnLo w.heap.size w' v (M.allLocs is) ∧ Up Nul w w' := by
  have HS := hid (sids_any h hn)
  have HH := hid h
  have HST := hid hst
  have HL := hid hl
  clear h hst hl
  go_enter Tryd.func14, Tryd.ntmps14
  go_wp2_with fail
  refine HS.out.mono ?_
  rintro e w1 ⟨v, is, rfl, hv, his, hil, u1⟩
  obtain ⟨a, c, rfl, hr⟩ := hv.row
  have HR := hid hr
  have HIS := hid his
  have HU1 := hid u1
  have HLE := hid (HL.out is his)
  have HIL := hid hil
  obtain ⟨m, MM'⟩ : ∃ x, Hid (is.length = x) := ⟨_, rfl⟩
  rw [MM'.out] at HIL ⊢
  have hm : m ≤ 100000 := Nat.le_trans HIL.out hn
  clear hv hr his u1 hil hn
  go_wp2_with fail
  have hfld : ∀ (W : World) (k co : Int) (k0 k1 k2 : ByteArray) (sv : Value), (Instr.field 43 (.agg #[.int .i64 k, .int .i64 co, .string k0, .string k1, .string k2, sv]) 3).run Tryd.prog W = .ok sv W := fun _ _ _ _ _ _ _ => by kernel_rfl
  have HFL := hid hfld
  clear hfld
  go_loopw [3, 9] (fun v i wr => ∃ t : Nat, t ≤ m ∧ i = .int .i64 (t : Nat) ∧ OwnLo w1.heap.size wr v (M.allLocs (is.take t)) ∧ Up Nul w1 wr) (fun _ i _ => m - (intOf i).toNat)
  case atStart => exact ⟨0, by omega, rfl, OwnLo.nil _ _, Up.refl _ _⟩
  case round =>
    obtain ⟨t, ht, rfl, hov, hu⟩ := hrel
    have HU := hid hu
    obtain ⟨va, vc, hvs⟩ := hov.shape
    obtain ⟨vl, VL⟩ : ∃ x, Hid ((M.allLocs (is.take t)).length = x) := ⟨_, rfl⟩
    rw [VL.out] at hvs
    subst hvs
    by_cases hlt : t < m
    · have htl : t < is.length := by rw [MM'.out]; exact hlt
      obtain ⟨gz, oz, rfl, _, hcz⟩ := (HR.out.nxt hu).resolve_left (fun e => by rw [e] at htl; cases htl)
      have x1 := hcz t _ (List.getElem?_eq_getElem htl)
      have hwf := HIS.out.wf _ (List.getElem_mem htl)
      obtain ⟨s, hs⟩ := Option.isSome_iff_exists.1 ((HIS.out.mem _ hwf).1 (List.getElem_mem htl))
      have hnx := allLocs_next (M := M) htl
      have hle := Nat.le_trans (allLocs_le M is (t + 1)) HLE.out
      have hle0 := Nat.le_trans (allLocs_le M is t) HLE.out
      generalize is[t] = z at x1 hwf hs hnx
      have HM := hid (HH.out.nxt (HU1.out.trans hu))
      obtain ⟨c0, c1, _⟩ := HM.out.cells
      obtain ⟨g, c2, hq, hF, ho⟩ := HM.out.row z s hs
      have hlk : (Instr.lookup 55 (.map (some bs)) (.int .i64 z) false).run Tryd.prog wr = .ok (.agg #[.int .i64 s.kind, .int .i64 s.colour, .string s.k0, .string s.k1, .string s.k2, .slice (some ⟨g, 0, none⟩) s.locs.length c2]) wr := by
        have := HM.out.ms.look1 Tryd.underlying55 (zero_st _) hwf
        rw [hs, hq] at this
        exact this
      have hfd := HFL.out wr s.kind s.colour s.k0 s.k1 s.k2 (.slice (some ⟨g, 0, none⟩) s.locs.length c2)
      have hrow : RowL wr (some ⟨g, 0, none⟩) s.locs := by
        rw [hq] at ho
        obtain ⟨a', c', e, h⟩ := ho.row
        injection e with e
        rw [e]; exact h
      have hs1 := HST.out z s hs
      rw [hs] at hnx
      have hnx : M.allLocs (is.take (t + 1)) = M.allLocs (is.take t) ++ s.locs := hnx
      rw [hnx, List.length_append] at hle
      obtain ⟨v5, w5, hrun, hov5, hg5, _⟩ := hov.apps (some ⟨g, 0, none⟩) c2 hrow (fun e => by rw [e] at hs1; simp at hs1) hle0 (by omega) hu.size
      have HFIN : Hid (OwnLo w1.heap.size w5 v5 (M.allLocs (is.take (t + 1))) ∧ Up Nul w1 w5) := ⟨by rw [hnx]; exact hov5, hu.grown hg5 fun j e => hov.bs j e⟩
      obtain ⟨va5, vc5, hv5⟩ := hov5.shape
      generalize (M.allLocs (is.take t) ++ s.locs).length = vl5 at hv5
      subst hv5
      generalize s.locs.length = sl at hlk hfd hrun
      have HRUN := hid hrun
      have i0 : (0 : Int) ≤ (t : Int) := by omega
      have i1 : (t : Int) < (m : Int) := by omega
      have i2 : (t : Int) + 1 ≤ 9223372036854775807 := by omega
      clear hov hu hcz htl hwf hs hnx hle hle0 hq hF ho hrow hs1 hov5 hg5 hrun hlt ht
      go_wp2_with (first | (at_builtin; refine wpList_append_eqv rfl _ _ _ rfl _ _ _ rfl rfl HRUN.out ?_))
      go_roundw
      case rel => exact ⟨t + 1, by omega, by go_num, HFIN.out⟩
      case measure => simp [intOf]; omega
    · obtain rfl : t = m := by omega
      have hz3 : is.take t = is := List.take_of_length_le (by rw [MM'.out]; exact Nat.le_refl _)
      rw [hz3] at hov
      have HO := hid (hov.lower HU1.out.size)
      have hni : ¬ ((t : Int) < (t : Int)) := by omega
      clear hov hu hlt ht
      go_wp2
      go_ret
      exact ⟨_, rfl, is, HIS.out, HO.out, HU1.out.trans HU.out⟩
end
end Go.Proofs.YtmhmlfgikmeejaaDoor
