/- What 'Same' asks: rows of strings, all Locs of both Metas, Stripes, the Table. -/
import Derived.Test.YtepggchnhgpcnaaGreatDoorPkTidy
import Derived.Test.YtepggchnhgpcnaaGreatDoorPz29
import Derived.Test.YtepggchnhgpcnaaGreatDoorPz27
import Derived.Test.YtepggchnhgpcnaaGreatDoorPz12
import Derived.Test.YtepggchnhgpcnaaGreatDoorPz40
namespace Go.Proofs.YtepggchnhgpcnaaGreatDoor
open Go.RowKit Go.Maps Go.Sort
set_option linter.unusedVariables false

section
variable {w w' : World} {p bm bs q n : Nat} {Q : Int → Value} {M : MM} {F : Nat → Prop}
theorem rsame_yes (a1 a2 : Option Addr) (c1 c2 : Nat) (ks : List ByteArray) (w : World) (h1 : RdR 1 w a1 ks.length (kcells ks)) (h2 : RdR 1 w a2 ks.length (kcells ks)) (hn : ks.length ≤ 100000) :
  Calls Tryz.prog 39 #[.slice a1 ks.length c1, .slice a2 ks.length c2] w fun e w' => e = .returned (.bool true) ∧ Up Nul w w' := by
 have H1 := hid h1
 have H2 := hid h2
 obtain ⟨m, MM'⟩ : ∃ x, Hid (ks.length = x) := ⟨_, rfl⟩
 rw [MM'.out] at H1 H2 hn ⊢
 clear h1 h2
 go_enter Tryz.func39, Tryz.ntmps39
 go_wp2_with fail
 go_loopw [5] (fun i wr => ∃ t : Nat, t ≤ m ∧ i = .int .i64 t ∧ Up Nul w wr) (fun i _ => m - (intOf i).toNat)
 case atStart => exact ⟨0, by omega, rfl, Up.refl _ _⟩
 case round =>
  obtain ⟨t, ht, rfl, hu⟩ := hrel
  have HU := hid hu
  by_cases hlt : t < m
  ·obtain ⟨s, hs⟩ : ∃ s, ks[t]? = some s := ⟨_, List.getElem?_eq_getElem (by rw [MM'.out]; exact hlt)⟩
   have hk : (kcells ks)[t]? = some (.string s) := by unfold kcells; rw [List.getElem?_map, hs]; rfl
   obtain ⟨g1, o1, e1, _, k1⟩ := (H1.out.nxt hu).row (by omega)
   obtain ⟨g2, o2, e2, _, k2⟩ := (H2.out.nxt hu).row (by omega)
   subst e1 e2
   have x1 := k1 t _ hk
   have x2 := k2 t _ hk
   have hqq : (s.toList == s.toList) = true := by simp
   have i1 : (0 : Int) ≤ (t : Int) := by omega
   have i2 : (t : Int) < (m : Int) := by omega
   have i9 : (t : Int) ≤ 100000 := by omega
   clear hu k1 k2 hk hs
   go_wp2_with fail
   go_quiet (fail)
   go_wp2_with fail
   go_roundw
   case rel => exact ⟨t + 1, by omega, by go_num, HU.out.drewN _⟩
   case measure => simp [intOf]; omega
  ·have i2 : ¬ (t : Int) < (m : Int) := by omega
   clear hu
   go_wp2
   go_ret
   exact ⟨rfl, HU.out⟩
theorem allLocs_few (hI : M.Inv3) : ∀ zs : List Int, (M.allLocs zs).length ≤ 16 * zs.length
 | [] => Nat.le_refl _
 | z :: zs => by
  have e : M.allLocs (z :: zs) = ((M.s z).map (·.locs)).getD [] ++ M.allLocs zs := rfl
  have h1 : (((M.s z).map (·.locs)).getD []).length ≤ 16 := by
   cases hs : M.s z with
   | none => exact Nat.zero_le _
   | some s => exact (hI.s z s hs).2.1.few.2
  have := allLocs_few hI zs
  rw [e, List.length_append, List.length_cons]
  omega
set_option maxRecDepth 10000 in
set_option maxHeartbeats 4000000 in
theorem locs_big (h : MT F w p bm bs n Q M) (hn : n ≤ 5000) (hI : M.Inv3) :
  Calls Tryz.prog 43 #[.pointer (some ⟨p, 0, none⟩)] w fun e w' => ∃ v is, e = .returned v ∧ IS M is ∧ is.length ≤ n ∧ OwnLo w.heap.size w' v (M.allLocs is) ∧ Up Nul w w' := by
 have HS := hid (sids_any h (by omega))
 have HH := hid h
 have HI := hid hI
 clear h hI
 go_enter Tryz.func43, Tryz.ntmps43
 go_wp2_with fail
 refine HS.out.mono ?_
 rintro e w1 ⟨v, is, rfl, hv, his, hil, u1⟩
 obtain ⟨a, c, rfl, hr⟩ := hv.row
 have HR := hid hr
 have HIS := hid his
 have HU1 := hid u1
 have HIL := hid hil
 have HLE : Hid ((M.allLocs is).length ≤ 80000) := by have h1 := allLocs_few HI.out is; have h2 := HIL.out; show _ ≤ _; omega
 obtain ⟨m, MM'⟩ : ∃ x, Hid (is.length = x) := ⟨_, rfl⟩
 rw [MM'.out] at HIL ⊢
 have hm : m ≤ 5000 := Nat.le_trans HIL.out hn
 clear hv hr his u1 hil hn
 go_wp2_with fail
 have hfld : ∀ (W : World) (k co : Int) (k0 k1 k2 : ByteArray) (sv : Value), (Instr.field 46 (.agg #[.int .i64 k, .int .i64 co, .string k0, .string k1, .string k2, sv]) 3).run Tryz.prog W = .ok sv W := fun _ _ _ _ _ _ _ => by kernel_rfl
 have HFL := hid hfld
 clear hfld
 go_loopw [3, 9] (fun v i wr => ∃ t : Nat, t ≤ m ∧ i = .int .i64 (t : Nat) ∧ OwnLo w1.heap.size wr v (M.allLocs (is.take t)) ∧ Up Nul w1 wr) (fun _ i _ => m - (intOf i).toNat)
 case atStart => exact ⟨0, by omega, rfl, OwnLo.nil _ _, Up.refl _ _⟩
 case round =>
  obtain ⟨t, ht, rfl, hov, hu⟩ := hrel
  have HU := hid hu
  obtain ⟨va, vc, hvs⟩ := hov.shape
  obtain ⟨vl, VL⟩ : ∃ x, Hid ((M.allLocs (is.take t)).length = x) := ⟨_, rfl⟩
  rw [VL.out] at hvs
  subst hvs
  by_cases hlt : t < m
  ·have htl : t < is.length := by rw [MM'.out]; exact hlt
   obtain ⟨gz, oz, rfl, _, hcz⟩ := (HR.out.nxt hu).resolve_left (fun e => by rw [e] at htl; cases htl)
   have x1 := hcz t _ (List.getElem?_eq_getElem htl)
   have hwf := HIS.out.wf _ (List.getElem_mem htl)
   obtain ⟨s, hs⟩ := Option.isSome_iff_exists.1 ((HIS.out.mem _ hwf).1 (List.getElem_mem htl))
   have hnx := allLocs_next (M := M) htl
   have hle := Nat.le_trans (allLocs_le M is (t + 1)) HLE.out
   generalize is[t] = z at x1 hwf hs hnx
   have HM := hid (HH.out.nxt (HU1.out.trans hu))
   obtain ⟨c0, c1, _⟩ := HM.out.cells
   obtain ⟨g, c2, hq, hF, ho⟩ := HM.out.row z s hs
   have hlk : (Instr.lookup 56 (.map (some bs)) (.int .i64 z) false).run Tryz.prog wr = .ok (.agg #[.int .i64 s.kind, .int .i64 s.colour, .string s.k0, .string s.k1, .string s.k2, .slice (some ⟨g, 0, none⟩) s.locs.length c2]) wr := by
    have := HM.out.ms.look1 Tryz.underlying56 (zero_st _) hwf
    rw [hs, hq] at this
    exact this
   have hfd := HFL.out wr s.kind s.colour s.k0 s.k1 s.k2 (.slice (some ⟨g, 0, none⟩) s.locs.length c2)
   rw [hs] at hnx
   have hnx : M.allLocs (is.take (t + 1)) = M.allLocs (is.take t) ++ s.locs := hnx
   rw [hnx, List.length_append] at hle
   rw [hq] at ho
   obtain ⟨a9, c9, e9, _, hrd, _⟩ := ownsRow.rd ho (loV_one _)
   injection e9 with e9 _ e10
   subst e9 e10
   obtain ⟨v5, w5, hrun, hov5, hg5, _⟩ := app_r Tryz.underlying24 inf_loc (by omega) (by omega) hov hrd (c := c2) (fun e => by cases e) (by omega) hu.size 24
   have hov6 : OwnLo w1.heap.size w5 v5 (M.allLocs (is.take (t + 1))) := by
    rw [hnx]
    unfold OwnLo
    rw [List.length_append, loV_app]
    exact hov5
   have HFIN : Hid (OwnLo w1.heap.size w5 v5 (M.allLocs (is.take (t + 1))) ∧ Up Nul w1 w5) := ⟨hov6, hu.grown hg5 fun j e => hov.bs j e⟩
   obtain ⟨va5, vc5, hv5⟩ := hov6.shape
   generalize (M.allLocs (is.take (t + 1))).length = vl5 at hv5
   subst hv5
   try rw [VL.out] at hrun
   generalize s.locs.length = sl at hlk hfd hrun
   have HRUN := hid hrun
   have i0 : (0 : Int) ≤ (t : Int) := by omega
   have i1 : (t : Int) < (m : Int) := by omega
   have i2 : (t : Int) + 1 ≤ 9223372036854775807 := by omega
   clear hov hu hcz htl hwf hs hnx hle hq hF ho hrd hov5 hov6 hg5 hrun hlt ht
   go_wp2_with (first | (at_builtin; refine wpList_append_eqv rfl _ _ _ rfl _ _ _ rfl rfl HRUN.out ?_))
   go_roundw
   case rel => exact ⟨t + 1, by omega, by go_num, HFIN.out⟩
   case measure => simp [intOf]; omega
  ·obtain rfl : t = m := by omega
   have hz3 : is.take t = is := List.take_of_length_le (by rw [MM'.out]; exact Nat.le_refl _)
   rw [hz3] at hov
   have HO := hid (hov.lower HU1.out.size)
   have hni : ¬ ((t : Int) < (t : Int)) := by omega
   clear hov hu hlt ht
   go_wp2
   go_ret
   exact ⟨_, rfl, is, HIS.out, by have := MM'.out; have := HIL.out; omega, HO.out, HU1.out.trans HU.out⟩
section
variable {ks : List ByteArray} {is : List Int} {kv bv iv sv : Value}
set_option maxRecDepth 10000 in
set_option maxHeartbeats 4000000 in
theorem rlocs_any (h : RM F w q n Q M ks is kv bv iv sv) (hn : n ≤ 5000) (hI : M.Inv3) :
  Calls Tryz.prog 44 #[.pointer (some ⟨q, 0, none⟩)] w fun e w' => ∃ v, e = .returned v ∧ OwnLo w.heap.size w' v (M.allLocs is) ∧ Up Nul w w' := by
 obtain ⟨sa, sc, rfl, hsr⟩ := h.srow
 have HH := hid h
 have HSR := hid hsr
 have HIL : Hid (is.length ≤ n) := h.ni
 have HLE : Hid ((M.allLocs is).length ≤ 80000) := by have h1 := allLocs_few hI is; have h2 := HIL.out; show _ ≤ _; omega
 obtain ⟨m, MM'⟩ : ∃ x, Hid (is.length = x) := ⟨_, rfl⟩
 have q3 := h.cells.2.2.2.1
 rw [MM'.out] at HIL q3
 have hm : m ≤ 5000 := Nat.le_trans HIL.out hn
 have HQ3 := hid q3
 clear h hsr hn hI q3
 go_enter Tryz.func44, Tryz.ntmps44
 go_wp2_with fail
 go_loopw [3, 4] (fun v i wr => ∃ t : Nat, t ≤ m ∧ i = .int .i64 (t : Nat) ∧ OwnLo w.heap.size wr v (M.allLocs (is.take t)) ∧ Up Nul w wr) (fun _ i _ => m - (intOf i).toNat)
 case atStart => exact ⟨0, by omega, rfl, OwnLo.nil _ _, Up.refl _ _⟩
 case round =>
  obtain ⟨t, ht, rfl, hov, hu⟩ := hrel
  have HU := hid hu
  have q3 := (hu.cell (p := ⟨q, 3, none⟩) (lt_of_cell HQ3.out) id).trans HQ3.out
  obtain ⟨va, vc, hvs⟩ := hov.shape
  obtain ⟨vl, VL⟩ : ∃ x, Hid ((M.allLocs (is.take t)).length = x) := ⟨_, rfl⟩
  rw [VL.out] at hvs
  subst hvs
  by_cases hlt : t < m
  ·have htl : t < is.length := by rw [MM'.out]; exact hlt
   obtain ⟨g, o, rfl, hgl, hk⟩ := HSR.out t _ (List.getElem?_eq_getElem htl)
   have hq := hk.2.2.2.2.2
   obtain ⟨s, hs⟩ := Option.isSome_iff_exists.1 ((HH.out.rr.ri.mem _).1 (List.getElem_mem htl))
   have hnx := allLocs_next (M := M) htl
   have hle := Nat.le_trans (allLocs_le M is (t + 1)) HLE.out
   generalize is[t] = z at hq hs hnx
   have x1 := (hu.cell (p := ⟨g, o + t * 6 + 5, none⟩) hgl id).trans hq
   have ho := ((HH.out.nxt hu).rr.lo z s hs).1
   obtain ⟨a9, c9, e9, _, hrd, hnn, _⟩ := ownsRow.rd ho (loV_one _)
   rw [e9] at x1
   rw [hs] at hnx
   have hnx : M.allLocs (is.take (t + 1)) = M.allLocs (is.take t) ++ s.locs := hnx
   rw [hnx, List.length_append] at hle
   obtain ⟨v5, w5, hrun, hov5, hg5, _⟩ := app_r Tryz.underlying24 inf_loc (by omega) (by omega) hov hrd (c := c9) hnn (by omega) hu.size 24
   have hov6 : OwnLo w.heap.size w5 v5 (M.allLocs (is.take (t + 1))) := by
    rw [hnx]
    unfold OwnLo
    rw [List.length_append, loV_app]
    exact hov5
   have HFIN : Hid (OwnLo w.heap.size w5 v5 (M.allLocs (is.take (t + 1))) ∧ Up Nul w w5) := ⟨hov6, hu.grown hg5 fun j e => hov.bs j e⟩
   obtain ⟨va5, vc5, hv5⟩ := hov6.shape
   generalize (M.allLocs (is.take (t + 1))).length = vl5 at hv5
   subst hv5
   try rw [VL.out] at hrun
   generalize s.locs.length = sl at x1 hrun
   have HRUN := hid hrun
   have i0 : (0 : Int) ≤ (t : Int) := by omega
   have i1 : (t : Int) < (m : Int) := by omega
   have i2 : (t : Int) + 1 ≤ 9223372036854775807 := by omega
   clear hov hu hk hq hgl htl hs hnx hle ho hrd hnn e9 hov5 hov6 hg5 hrun hlt ht
   go_wp2_with (first | (at_builtin; refine wpList_append_eqv rfl _ _ _ rfl _ _ _ rfl rfl HRUN.out ?_))
   go_roundw
   case rel => exact ⟨t + 1, by omega, by go_num, HFIN.out⟩
   case measure => simp [intOf]; omega
  ·obtain rfl : t = m := by omega
   have hz3 : is.take t = is := List.take_of_length_le (by rw [MM'.out]; exact Nat.le_refl _)
   rw [hz3] at hov
   have HO := hid hov
   have hni : ¬ ((t : Int) < (t : Int)) := by omega
   clear hov hu hlt ht
   go_wp2
   go_ret
   exact ⟨_, rfl, HO.out, HU.out⟩
end
end
theorem eqs (d : Nat) (a b c : ByteArray) (w : World) : (Op.equalIn (d + 1 + 1) 44 (.agg #[.string a, .string b, .string c]) (.agg #[.string a, .string b, .string c])).run Tryz.prog w = .ok true w := by
 obtain ⟨i, hi⟩ : ∃ i, Tryz.prog.info? 9 = some i := by
  have h : (Tryz.prog.info? 9).isSome = true := by kernel_rfl
  exact Option.isSome_iff_exists.1 h
 have hc : Tryz.prog.cellsOf 9 = 1 := by kernel_rfl
 rw [run_equalIn_array w (d + 1) _ _ Tryz.underlying44 hi, hc]
 have p0 : ∀ x y z : ByteArray, (part 9 #[.string x, .string y, .string z] 0).run Tryz.prog w = .ok (.string x) w := fun _ _ _ => by kernel_rfl
 have p1 : ∀ x y z : ByteArray, (part 9 #[.string x, .string y, .string z] 1).run Tryz.prog w = .ok (.string y) w := fun _ _ _ => by kernel_rfl
 have p2 : ∀ x y z : ByteArray, (part 9 #[.string x, .string y, .string z] 2).run Tryz.prog w = .ok (.string z) w := fun _ _ _ => by kernel_rfl
 have hs : ∀ x y : ByteArray, (Op.equalIn (d + 1) 9 (.string x) (.string y)).run Tryz.prog w = .ok (x.toList == y.toList) w := fun x y => run_equalIn_string w d _ x y Tryz.underlying9
 have hr : List.range 3 = [0, 1, 2] := rfl
 rw [hr]
 simp [Op.eqItems, Sem.run_bind, p0, p1, p2, hs, Result.andThen_ok]
theorem eq3s (a b c : ByteArray) (w : World) : (binOp .eql 44 (.agg #[.string a, .string b, .string c]) (.agg #[.string a, .string b, .string c])).run Tryz.prog w = .ok (.bool true) w := by
 have h := eqs 9998 a b c w
 go_simp
theorem tb_neq (W : World) (a b c d e f : Int) : (binOp .neq 26 (.agg #[.int .i64 a, .int .i64 b, .int .i64 c, .int .i64 d, .int .i64 e, .int .i64 f]) (.agg #[.int .i64 a, .int .i64 b, .int .i64 c, .int .i64 d, .int .i64 e, .int .i64 f])).run Tryz.prog W = .ok (.bool false) W := by
 rw [run_neq_struct]
 go_simp
end Go.Proofs.YtepggchnhgpcnaaGreatDoor
