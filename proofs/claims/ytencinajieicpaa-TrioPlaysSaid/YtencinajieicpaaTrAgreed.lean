/- Open's parts: agreed. -/
import Derived.Test.YtencinajieicpaaTrAlign
namespace Go.Proofs.Ytencinajieicpaa
open Go.RowKit
set_option linter.unusedVariables false

theorem info_rows : (Try.prog.info? 22).map (fun i => (i.zero, i.size, i.bytes)) = some (some (.slice none 0 0), 1, 24) := by kernel_rfl
/-- The slice v has rows of rows. -/
def R3p (P : Nat → Prop) (w : World) (v : Value) (ls : List (List (List Nat))) : Prop :=
  ∃ a c, v = .slice a ls.length c ∧ ls.length ≤ c ∧ (ls.length = 0 ∨ ∃ g, a = some ⟨g, 0, none⟩ ∧ g < w.heap.size ∧ ∀ i l, ls[i]? = some l → ∃ x, w.cell? ⟨g, i, none⟩ = some x ∧ RRp P w x l)
theorem R3p.nxt {P : Nat → Prop} {w w' : World} {v : Value} {ls : List (List (List Nat))} (h : R3p P w v ls) (u : Up Nul w w') : R3p P w' v ls := by
  obtain ⟨a, c, e, hc, h⟩ := h
  refine ⟨a, c, e, hc, h.imp id ?_⟩
  rintro ⟨g, e1, hg, hc⟩
  refine ⟨g, e1, Nat.lt_of_lt_of_le hg u.size, fun i l hi => ?_⟩
  obtain ⟨x, h1, h2⟩ := hc i l hi
  exact ⟨x, (u.cell (p := ⟨g, i, none⟩) hg id).trans h1, h2.nxt u⟩
structure R3 (base : Nat) (w : World) (v : Value) (ls : List (List (List Nat))) : Prop where
  ex : ∃ vs : List Value, OwnV 22 base w v vs ∧ vs.length = ls.length ∧ ∀ (i : Nat) (l : List (List Nat)), ls[i]? = some l → ∃ x, vs[i]? = some x ∧ RRp (fun g => base ≤ g ∧ ¬ v.ownBlock = some g) w x l
theorem R3.nil (base : Nat) (w : World) : R3 base w (.slice none 0 0) [] := ⟨[], OwnV.nil _ _ _, rfl, fun i y h => by cases h⟩
theorem R3.own {base : Nat} {w : World} {v : Value} {l : List (List (List Nat))} (h : R3 base w v l) : (∀ g, v.ownBlock = some g → base ≤ g ∧ g < w.heap.size) ∧ ∃ a c, v = .slice a l.length c ∧ l.length ≤ c := by
  obtain ⟨vs, h1, h2, h3⟩ := h.ex
  refine ⟨fun g hg => ⟨h1.base g hg, h1.bk g hg⟩, ?_⟩
  rw [← h2]
  exact h1.shp
theorem R3.nxt {base : Nat} {w w' : World} {v : Value} {l : List (List (List Nat))} (h : R3 base w v l) (u : Up Nul w w') : R3 base w' v l := by
  obtain ⟨vs, h1, h2, h3⟩ := h.ex
  refine ⟨vs, h1.up u (fun _ _ _ h => h), h2, fun i y hy => ?_⟩
  obtain ⟨x, k1, k2⟩ := h3 i y hy
  exact ⟨x, k1, k2.nxt u⟩
theorem R3.p {base : Nat} {w : World} {v : Value} {ls : List (List (List Nat))} (h : R3 base w v ls) : R3p (fun g => base ≤ g) w v ls := by
  obtain ⟨_, a, c, e1, e2⟩ := h.own
  obtain ⟨vs, h1, h2, h3⟩ := h.ex
  refine ⟨a, c, e1, e2, ?_⟩
  rcases Nat.eq_zero_or_pos ls.length with e | e
  · exact .inl e
  · obtain ⟨g, cap, e3, hb, hg, hc, _, hcap⟩ := h1.row (by omega)
    rw [e1] at e3
    injection e3 with e3
    refine .inr ⟨g, e3, hg, fun i z hi => ?_⟩
    obtain ⟨x, k1, k2⟩ := h3 i z hi
    exact ⟨x, hc i _ k1, k2.mono fun g _ h => h.1⟩
/-- One more. -/
theorem R3.more {base : Nat} {w w2 : World} {v v' x : Value} {ls : List (List (List Nat))} {l : List (List Nat)} {vs : List Value} (h2 : vs.length = ls.length)
    (h3 : ∀ (i : Nat) (l : List (List Nat)), ls[i]? = some l → ∃ x, vs[i]? = some x ∧ RRp (fun g => base ≤ g ∧ ¬ v.ownBlock = some g) w x l)
    (hx : RRp (fun g => base ≤ g ∧ ¬ v.ownBlock = some g) w x l)
    (g1 : OwnV 22 base w2 v' (vs ++ [x])) (g2 : w.grownBy w2 v.ownBlock) (g3 : v'.ownBlock = v.ownBlock ∨ v'.ownBlock = some w.heap.size) : R3 base w2 v' (ls ++ [l]) := by
  have ug : Up (fun g => v.ownBlock = some g) w w2 := ⟨g2.os, g2.tape, g2.output, g2.size, fun k hk hs => g2.block k hk fun e => hs e.symm⟩
  have key : ∀ {x : Value} {l : List (List Nat)}, RRp (fun g => base ≤ g ∧ ¬ v.ownBlock = some g) w x l → RRp (fun g => base ≤ g ∧ ¬ v'.ownBlock = some g) w2 x l := fun {x l} h => by
    refine (h.mono (Q := fun g => base ≤ g ∧ ¬ v.ownBlock = some g ∧ ¬ v'.ownBlock = some g) fun g hg hp => ⟨hp.1, hp.2, fun e => ?_⟩).up ug (fun g _ hp e => hp.2.1 e) |>.mono fun g _ hp => ⟨hp.1, hp.2.2⟩
    rcases g3 with g3 | g3
    · exact hp.2 (g3.symm.trans e)
    · rw [g3] at e
      injection e with e
      omega
  refine ⟨vs ++ [x], g1, by simp [h2], fun i z hz => ?_⟩
  by_cases hi : i < ls.length
  · rw [List.getElem?_append_left hi] at hz
    obtain ⟨y, k1, k2⟩ := h3 i z hz
    exact ⟨y, by rw [List.getElem?_append_left (by omega)]; exact k1, key k2⟩
  · have hi2 : i = ls.length := by
      rcases Nat.lt_or_ge i (ls ++ [l]).length with h | h
      · simp at h; omega
      · rw [List.getElem?_eq_none h] at hz; cases hz
    subst hi2
    rw [List.getElem?_append_right (Nat.le_refl _), Nat.sub_self] at hz
    obtain rfl : l = z := by simpa using hz
    exact ⟨x, by rw [← h2, List.getElem?_append_right (Nat.le_refl _), Nat.sub_self]; rfl, key hx⟩
/-! ### The most that two have alike -/
def innF (a : List (List Nat)) (m : List (List Nat)) (l : List (List (List Nat))) : List (List Nat) := l.foldl (fun m b => longer m (com a b)) m
def outF (ls : List (List (List Nat))) (t : Nat) : List (List Nat) := (List.range t).foldl (fun m i => innF (ls.getD i []) m (ls.take i)) []
theorem innF_snoc (a m : List (List Nat)) (l : List (List (List Nat))) (b : List (List Nat)) : innF a m (l ++ [b]) = longer (innF a m l) (com a b) := by simp [innF]
theorem outF_succ (ls : List (List (List Nat))) (t : Nat) : outF ls (t + 1) = innF (ls.getD t []) (outF ls t) (ls.take t) := by
  unfold outF
  rw [List.range_succ, List.foldl_append]
  rfl
def rowsOf (S : Nat → TS) : List (List (List Nat)) := (lvs S).map fun i => spl (S i).B
theorem longer_zero (m : List (List Nat)) : longer m [] = m := by unfold longer; rw [if_neg (by simp)]
theorem outF_bst (S : Nat → TS) : outF (rowsOf S) (lvs S).length = bst S := by
  unfold rowsOf bst cand lvs
  rw [show List.range 3 = [0, 1, 2] from rfl]
  cases h0 : (S 0).live <;> cases h1 : (S 1).live <;> cases h2 : (S 2).live <;> simp [List.filter, h0, h1, h2, outF, innF, longer_zero, List.range_succ]
theorem longer_le {a b : List (List Nat)} {n : Nat} (ha : a.length ≤ n) (hb : b.length ≤ n) : (longer a b).length ≤ n := by
  unfold longer; split <;> assumption
set_option maxRecDepth 100000 in
set_option maxHeartbeats 6400000 in
theorem agreed_any {w : World} {q : Nat → Nat} {fu k : Option Nat} {S : Nat → TS} {T : Nat → Prop} (h : Tps w q fu S T) {P : Nat → Prop} {v : Value} (hr : PRow P w v (ptrs q (lvs S))) :
    Calls Try.prog 48 #[v] w fun e w' => ∃ v', e = .returned v' ∧ RRp (fun g => w.heap.size ≤ g) w' v' (bst S) ∧ Up Nul w w' := by
  have HRW := hid hr
  have HT := hid h
  have HM : Hid (∀ i, i ∈ lvs S → i < 3 ∧ (S i).live = true) := fun i => lvs_mem
  have HN3 : Hid ((lvs S).length ≤ 3) := by show _ ≤ _; rw [lvs_length]; unfold nlv one; split <;> split <;> split <;> omega
  have HLS : Hid ((rowsOf S).length = (lvs S).length) := by show _ = _; unfold rowsOf; rw [List.length_map]
  have HLA : Hid (∀ i (hi : i < (lvs S).length), (rowsOf S)[i]? = some (spl (S (lvs S)[i]).B)) := fun i hi => by unfold rowsOf; rw [List.getElem?_map, List.getElem?_eq_getElem hi]; rfl
  have HBS := hid (outF_bst S)
  have HSM : Hid (∀ l ∈ rowsOf S, l.length ≤ 65536) := fun l hl => by
    obtain ⟨i, hi, rfl⟩ := List.mem_map.1 hl
    obtain ⟨h1, h2⟩ := lvs_mem hi
    obtain ⟨t, ht⟩ := flt_spl (S i).B
    have := congrArg List.length ht
    have h3 := flt_many (spl (S i).B)
    have h4 := (h.le i h1 h2).1
    rw [List.length_append] at this
    omega
  obtain ⟨L, LL⟩ : ∃ L, Hid (lvs S = L) := ⟨_, rfl⟩
  obtain ⟨ls, LS⟩ : ∃ ls, Hid (rowsOf S = ls) := ⟨_, rfl⟩
  obtain ⟨BS, BB⟩ : ∃ B, Hid (bst S = B) := ⟨_, rfl⟩
  rw [BB.out] at HBS ⊢
  simp only [LL.out, LS.out] at HRW HM HN3 HLS HLA HBS HSM
  obtain ⟨n, N⟩ : ∃ n, Hid (L.length = n) := ⟨_, rfl⟩
  rw [N.out] at HN3 HBS HLS
  have hrow := HRW.out
  clear h hr
  obtain ⟨va, vc, rfl, _⟩ := hrow
  rw [ptrs_length, N.out] at HRW ⊢
  go_enter Try.func48, Try.ntmps48
  go_wp2_with fail
  go_loopw [3, 18] (fun vr i wr => ∃ t : Nat, t ≤ n ∧ i = .int .i64 (t : Nat) ∧ R3 w.heap.size wr vr (ls.take t) ∧ Up Nul w wr) (fun _ i _ => n - (intOf i).toNat)
  case atStart => exact ⟨0, Nat.zero_le _, rfl, R3.nil _ _, Up.refl _ _⟩
  case round =>
    obtain ⟨t, ht, rfl, ho, hu⟩ := hrel
    have HO := hid ho
    have HU := hid hu
    have i0 : (0 : Int) ≤ (t : Int) := by omega
    have i9 : (t : Int) ≤ 3 := by have := HN3.out; omega
    by_cases hlt : t < n
    · have htl : t < L.length := by rw [N.out]; exact hlt
      obtain ⟨a', c', e', hrow⟩ := HRW.out
      rw [ptrs_length, N.out] at e' hrow
      injection e' with e1 e2 e3
      subst e1
      obtain ⟨g, rfl, hgl, hgp, hcell⟩ := hrow.resolve_left (by omega)
      have x1 := (HU.out.cell (p := ⟨g, t, none⟩) hgl id).trans (hcell t _ (ptrs_at htl))
      have hm := HM.out L[t] (List.getElem_mem htl)
      have HBY := hid (tp_bytes (HT.out.nxt HU.out) hm.1 hm.2)
      have HB5 := hid (HT.out.le _ hm.1 hm.2).1
      have hlst : t < ls.length := by rw [HLS.out]; exact hlt
      have HLT : Hid (ls.take (t + 1) = ls.take t ++ [spl (S L[t]).B]) := by
        show _ = _
        have h1 := HLA.out t htl
        rw [List.getElem?_eq_getElem hlst] at h1
        injection h1 with h1
        rw [List.take_succ_eq_append_getElem hlst, h1]
      have i2 : (t : Int) < (n : Int) := by omega
      have HTT := hid hlt
      generalize L[t] = j at x1 HBY HB5 HLT
      clear ho hu ht hlt hgl hgp hcell hrow htl hlst hm e2 e3
      go_wp2_with fail
      refine HBY.out.mono ?_
      rintro e w1 ⟨ab, cb, rfl, hg⟩
      have HG := hid hg
      have HSP := hid (split_any ab _ cb _ HG.out.sl HG.out.cap (by have := HB5.out; omega))
      clear hg
      go_wp2_with fail
      refine HSP.out.mono ?_
      rintro e w2 ⟨v2, rfl, hr2, u2⟩
      obtain ⟨xa, xc, rfl, hxc, hxx⟩ := id hr2
      have HX := hid hr2
      have hua : Up Nul w2 (w2.alloc (.cells #[.slice xa (spl (S j).B).length xc] 22)) := (Up.refl Nul w2).alloc _
      have HUU := hid (HU.out.trans (HG.out.up.trans (u2.trans hua)))
      have hO := ((HO.out.nxt HG.out.up).nxt u2).nxt hua
      obtain ⟨vs, r1, r2, r3⟩ := hO.ex
      have HR1 := hid r1
      have HR2 := hid r2
      have HR3 := hid r3
      have HVL : Hid (vs.length + 1 ≤ 1000000) := by show _ ≤ _; rw [r2, List.length_take]; have := HTT.out; have := HN3.out; omega
      have HON := hid hO.own.1
      have HOLD := hid HO.out.own.1
      have HXX := hid ((hr2.nxt hua).mono (Q := fun g => w.heap.size ≤ g ∧ ¬ Value.ownBlock _ = some g) fun g _ hp => ⟨Nat.le_trans (Nat.le_trans HU.out.size HG.out.up.size) hp, fun e => by
        have h1 := (HOLD.out g e).2
        have h2 := HG.out.up.size
        have h3 : w1.heap.size ≤ g := hp
        omega⟩)
      have HCE : Hid ((w2.alloc (.cells #[.slice xa (spl (S j).B).length xc] 22)).cell? ⟨w2.heap.size, 0, none⟩ = some (.slice xa (spl (S j).B).length xc)) := World.cell?_alloc_new w2 _ _ 0
      clear hr2 u2 hua hO r1 r2 r3 hxx hxc
      obtain ⟨xl, XL⟩ : ∃ xl, Hid ((spl (S j).B).length = xl) := ⟨_, rfl⟩
      rw [XL.out] at HUU HR1 HR3 HON HXX HCE ⊢
      go_wp2_with (first
        | (at_builtin; refine wpList_append_one Try.underlying100 info_rows rfl (by omega) rfl (.tmp 32) (.tmp 34) rfl w.heap.size _ vs rfl HR1.out ⟨w2.heap.size, 0, none⟩ 1 (.slice xa xl xc) rfl HCE.out rfl HVL.out HUU.out.size ?_
           intro v3 w3 G1 G2 G3)
        | fail)
      have HR4 := hid (R3.more HR2.out HR3.out HXX.out G1.out G2.out G3.out)
      rw [← HLT.out] at HR4
      have HU4 : Hid (Up Nul w w3) := HUU.out.grown G2.out fun q hq => (HON.out q hq).1
      clear G1 G2 G3 HR1 HR2 HR3 HXX HCE HX
      go_wp2_with fail
      go_roundw
      case rel => exact ⟨t + 1, HTT.out, by go_num, HR4.out, HU4.out⟩
      case measure => have := HTT.out; simp [intOf]; omega
    · obtain rfl : t = n := by omega
      have hP := HO.out.p
      rw [List.take_of_length_le (by rw [HLS.out]; exact Nat.le_refl _)] at hP
      obtain ⟨_, ra, rc, rfl, hrc⟩ := HO.out.own
      rw [List.take_of_length_le (by rw [HLS.out]; exact Nat.le_refl _), HLS.out] at hP hrc ⊢
      have HPP := hid hP
      have HRC := hid hrc
      clear ho hu ht hlt hP hrc HO HRW HT i0 i9
      go_wp2_with fail
      go_loopw [10, 39] (fun vm i wr => ∃ s : Nat, s ≤ t ∧ i = .int .i64 (s : Nat) ∧ RRp (fun g => w.heap.size ≤ g) wr vm (outF ls s) ∧ (outF ls s).length ≤ 65536 ∧ R3p (fun g => w.heap.size ≤ g) wr (.slice ra t rc) ls ∧ Up Nul w wr) (fun _ i _ => t - (intOf i).toNat)
      case atStart => exact ⟨0, Nat.zero_le _, rfl, RRp.nil _ _, Nat.zero_le _, HPP.out, HU.out⟩
      case round =>
        clear HPP HU
        obtain ⟨s, ht, rfl, hm, hml, hp, hu⟩ := hrel
        have HMM := hid hm
        have HML := hid hml
        have HP := hid hp
        have HU := hid hu
        have i0 : (0 : Int) ≤ (s : Int) := by omega
        have i9 : (s : Int) ≤ 3 := by have := HN3.out; omega
        by_cases hlt : s < t
        · obtain ⟨a', c', e', _, hrow⟩ := HP.out
          rw [HLS.out] at e' hrow
          injection e' with e1 e2 e3
          subst e1; subst e3
          obtain ⟨g, rfl, hgl, hcell⟩ := hrow.resolve_left (by omega)
          have hsl : s < ls.length := by rw [HLS.out]; exact hlt
          obtain ⟨x, x1, hx⟩ := hcell s ls[s] (List.getElem?_eq_getElem hsl)
          have HAL := hid (HSM.out ls[s] (List.getElem_mem hsl))
          have HOS : Hid (outF ls (s + 1) = innF ls[s] (outF ls s) (ls.take s)) := by
            show _ = _
            rw [outF_succ, List.getD_eq_getElem?_getD, List.getElem?_eq_getElem hsl]
            rfl
          generalize ls[s] = al at hx HAL HOS
          generalize outF ls s = m0 at HMM HML HOS
          obtain ⟨pa, pc, rfl, hpc, _⟩ := id hx
          have HX := hid hx
          have HPC := hid hpc
          obtain ⟨la, LA⟩ : ∃ la, Hid (al.length = la) := ⟨_, rfl⟩
          rw [LA.out] at x1 HX HPC
          have i2 : (s : Int) < (t : Int) := by omega
          have hup : ∀ w, (Instr.slice 100 (.slice (some ⟨g, 0, none⟩) t rc) none (some (.int .i64 (s : Nat))) none).run Try.prog w = .ok (.slice (some ⟨g, 0, none⟩) s rc) w := fun w => by
            have h1 : (sizeOf (Try.prog.elem 100)).run Try.prog w = .ok 1 w := by
              have h : (Try.prog.info? (Try.prog.elem 100)).map (·.size) = some 1 := by kernel_rfl
              obtain ⟨i, hi, hs⟩ := Option.map_eq_some_iff.1 h
              simp [sizeOf, typeInfo, hi, hs]
            rw [run_slice_h (P := Try.prog) (w := w) 100 (some ⟨g, 0, none⟩) t rc (by kernel_rfl) .i64 s (by omega) (by have := HRC.out; omega), h1]
            simp [Result.andThen, sliced, Addr.add]
          have HTT := hid hlt
          clear hm hml hp hu ht hlt hgl hcell hrow hsl hx hpc e2
          go_wp2_with fail
          go_loopw [10, 48] (fun vm i wr => ∃ j : Nat, j ≤ s ∧ i = .int .i64 (j : Nat) ∧ RRp (fun g => w.heap.size ≤ g) wr vm (innF al m0 (ls.take j)) ∧ (innF al m0 (ls.take j)).length ≤ 65536 ∧ R3p (fun g => w.heap.size ≤ g) wr (.slice (some ⟨g, 0, none⟩) t rc) ls ∧ RRp (fun g => w.heap.size ≤ g) wr (.slice pa la pc) al ∧ Up Nul w wr) (fun _ i _ => s - (intOf i).toNat)
          case atStart => exact ⟨0, Nat.zero_le _, rfl, HMM.out, HML.out, HP.out, HX.out, HU.out⟩
          case round =>
            clear HMM HML HP HU HX x1
            obtain ⟨j, ht, rfl, hm, hml, hp, hx, hu⟩ := hrel
            have HMM := hid hm
            have HML := hid hml
            have HP := hid hp
            have HU := hid hu
            have HX := hid hx
            have j0 : (0 : Int) ≤ (j : Int) := by omega
            have j9 : (j : Int) ≤ 3 := by omega
            by_cases hlt : j < s
            · obtain ⟨a', c', e', _, hrow⟩ := HP.out
              rw [HLS.out] at e' hrow
              injection e' with e1 e2 e3
              subst e1; subst e3
              obtain ⟨g2, e4, hgl, hcell⟩ := hrow.resolve_left (by have := HTT.out; omega)
              injection e4 with e4
              injection e4 with e4 _ _
              subst e4
              have hsl : j < ls.length := by rw [HLS.out]; have := HTT.out; omega
              obtain ⟨y, y1, hy⟩ := hcell j ls[j] (List.getElem?_eq_getElem hsl)
              have HBL := hid (HSM.out ls[j] (List.getElem_mem hsl))
              have HIS : Hid (innF al m0 (ls.take (j + 1)) = longer (innF al m0 (ls.take j)) (com al ls[j])) := by
                show _ = _
                rw [List.take_succ_eq_append_getElem hsl, innF_snoc]
              generalize ls[j] = bl at hy HBL HIS
              generalize innF al m0 (ls.take j) = m1 at HMM HML HIS
              obtain ⟨pb, pbc, rfl, _, _⟩ := id hy
              have HAK := hid (alike_any HX.out.rr hy.rr (by have := HAL.out; have := HBL.out; omega))
              have HCL := hid (com_le al bl)
              have HCT := hid (com_take al bl)
              obtain ⟨lb, LB⟩ : ∃ lb, Hid (bl.length = lb) := ⟨_, rfl⟩
              obtain ⟨nc, NC⟩ : ∃ nc, Hid ((com al bl).length = nc) := ⟨_, rfl⟩
              obtain ⟨ma, mc, rfl, _, _⟩ := HMM.out
              obtain ⟨ml, MLL⟩ : ∃ ml, Hid (m1.length = ml) := ⟨_, rfl⟩
              rw [MLL.out] at HMM HML ⊢
              rw [LB.out] at y1 HAK HCL
              rw [NC.out] at HAK HCL HCT
              rw [LA.out] at HCL
              have j2 : (j : Int) < (s : Int) := by omega
              have HJ := hid hlt
              have htk := rows_upto pa la pc nc (by have := HCL.out.1; have := HPC.out; omega)
              have htl := HX.out.take nc (by rw [LA.out]; exact HCL.out.1)
              rw [HCT.out] at htl
              have HTL := hid htl
              by_cases hmore : ml < nc
              · have HLG : Hid (longer m1 (com al bl) = com al bl) := by show _ = _; unfold longer; rw [if_pos (by rw [MLL.out, NC.out]; exact hmore)]
                have j3 : (ml : Int) < (nc : Int) := by omega
                clear hm hml hp hx hu ht hlt hgl hcell hrow hsl hy htl hmore
                go_wp2_with fail
                refine HAK.out.mono ?_
                rintro e w1 ⟨rfl, u1⟩
                have HTL1 := hid (HTL.out.nxt u1)
                have HP1 := hid (HP.out.nxt u1)
                have HX1 := hid (HX.out.nxt u1)
                have HU1 := hid (HU.out.trans u1)
                clear u1
                go_wp2_with fail
                go_roundw
                case rel => exact ⟨j + 1, HJ.out, by go_num, by rw [HIS.out, HLG.out]; exact HTL1.out, by rw [HIS.out, HLG.out, NC.out]; have := HCL.out.1; have := HAL.out; have := LA.out; omega, HP1.out, HX1.out, HU1.out⟩
                case measure => have := HJ.out; simp [intOf]; omega
              · have HLG : Hid (longer m1 (com al bl) = m1) := by show _ = _; unfold longer; rw [if_neg (by rw [MLL.out, NC.out]; exact hmore)]
                have j3 : ¬ (ml : Int) < (nc : Int) := by omega
                clear hm hml hp hx hu ht hlt hgl hcell hrow hsl hy htl hmore
                go_wp2_with fail
                refine HAK.out.mono ?_
                rintro e w1 ⟨rfl, u1⟩
                have HTL1 := hid (HMM.out.nxt u1)
                have HP1 := hid (HP.out.nxt u1)
                have HX1 := hid (HX.out.nxt u1)
                have HU1 := hid (HU.out.trans u1)
                clear u1
                go_wp2_with fail
                go_roundw
                case rel => exact ⟨j + 1, HJ.out, by go_num, by rw [HIS.out, HLG.out]; exact HTL1.out, by rw [HIS.out, HLG.out, MLL.out]; exact HML.out, HP1.out, HX1.out, HU1.out⟩
                case measure => have := HJ.out; simp [intOf]; omega
            · obtain rfl : j = s := by omega
              clear hm hml hp hx hu ht hlt
              go_wp2_with fail
              go_roundw
              case rel => exact ⟨j + 1, HTT.out, by go_num, by rw [HOS.out]; exact HMM.out, by rw [HOS.out]; exact HML.out, HP.out, HU.out⟩
              case measure => have := HTT.out; simp [intOf]; omega
        · obtain rfl : s = t := by omega
          have HE : Hid (outF ls s = BS) := HBS.out
          clear hm hml hp hu ht hlt
          go_wp2_with fail
          go_ret
          exact ⟨_, rfl, by rw [← HE.out]; exact HMM.out, HU.out⟩
end Go.Proofs.Ytencinajieicpaa
