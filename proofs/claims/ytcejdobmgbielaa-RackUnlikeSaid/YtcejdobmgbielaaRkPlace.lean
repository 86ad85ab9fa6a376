/- The program's 'open' and 'Place'. -/
import Derived.Test.YtcejdobmgbielaaRkSort
import Derived.Deep.CutBlock
namespace Go.Proofs.Ytcejdobmgbielaa
open Go.RowKit
set_option linter.unusedVariables false

theorem intV_append (l k : List Nat) : intV (l ++ k) = intV l ++ intV k := by simp [intV]
theorem intV_length (l : List Nat) : (intV l).length = l.length := by simp [intV]
theorem filter_yes {p : Nat → Bool} {t : Nat} (h : p t = true) : (List.range (t + 1)).filter p = (List.range t).filter p ++ [t] := by
  rw [List.range_succ, List.filter_append]
  simp [h]
theorem filter_no {p : Nat → Bool} {t : Nat} (h : p t = false) : (List.range (t + 1)).filter p = (List.range t).filter p := by
  rw [List.range_succ, List.filter_append]
  simp [h]
theorem filter_le (p : Nat → Bool) (t : Nat) : ((List.range t).filter p).length ≤ t := Nat.le_trans (List.length_filter_le _ _) (by rw [List.length_range]; exact Nat.le_refl _)
section
variable {w w' : World} {r bb n m cap nx : Nat} {fu k : Option Nat} {D : Nat → DS} {T : Nat → Prop}
set_option maxHeartbeats 3200000 in
theorem ropen_any (h : RK w r n m fu D nx T) (cl : Int) (a : Option Addr) (l c : Nat) (f : Nat → Int) (ha : SlI w a l f) (p : Nat → Bool) (hp : ∀ d, p d = true ↔ Fit n m D cl (fun d => ∃ i, i < l ∧ f i = d) d) :
    Calls Try.prog 29 #[.pointer (some ⟨r, 0, none⟩), .int .i64 cl, .slice a l c] w fun e w' => ∃ v, e = .returned v ∧ OwnV 3 w.heap.size w' v (intV ((List.range n).filter p)) ∧ Up Nul w w' := by
  have HLE := hid h.le
  obtain ⟨bb, cap, T0, h1, hm, _⟩ := h.ex
  obtain ⟨G, g1, _, _⟩ := hm.ex
  have H1 := hid h1
  have HG := hid g1
  have HA := hid ha
  have HP := hid hp
  have c0 := h1.c0
  clear h h1 hm g1 ha hp
  go_enter Try.func29, Try.ntmps29
  go_wp2_with fail
  clear c0
  go_loopw [7, 16] (fun v i wr => ∃ t : Nat, t ≤ n ∧ i = .int .i64 (t : Nat) ∧ OwnV 3 w.heap.size wr v (intV ((List.range t).filter p)) ∧ Up Nul w wr) (fun _ i _ => n - (intOf i).toNat)
  case atStart => exact ⟨0, Nat.zero_le _, rfl, OwnV.nil _ _ _, Up.refl _ _⟩
  case round =>
    obtain ⟨t, ht, rfl, ho, hu⟩ := hrel
    have HO := hid ho
    have HU := hid hu
    clear ho hu
    have i0 : (0 : Int) ≤ (t : Int) := by omega
    have i2 : (n : Int) ≤ 24 := by have := HLE.out; omega
    obtain ⟨va, vc, rfl⟩ := HO.out.shape
    have HL : Hid ((intV ((List.range t).filter p)).length ≤ t) := by show _ ≤ _; rw [intV_length]; exact filter_le p t
    by_cases hlt : t < n
    · have i1 : (t : Int) < (n : Int) := by omega
      have HT := hid hlt
      have c1 := (H1.out.nxt HU.out).cell hlt
      have HDI : Hid (∀ W, Up Nul w W → Calls Try.prog 19 #[.pointer (some ⟨(D t).q, 0, none⟩)] W fun e w' => e = .returned (.pointer (some ⟨(D t).b, 0, none⟩)) ∧ Up Nul W w') := fun W u => dk_disk ((HG.out t hlt).up u fun _ _ => id)
      have HLV : Hid (∀ W, Up Nul w W → Calls Try.prog 47 #[.pointer (some ⟨(D t).b, 0, none⟩)] W fun e w' => e = .returned (.bool (D t).live) ∧ w' = W) := fun W u => dk_live ((HG.out t hlt).up u fun _ _ => id)
      have HFR : Hid (∀ W, Up Nul w W → Calls Try.prog 21 #[.pointer (some ⟨(D t).q, 0, none⟩)] W fun e w' => e = .returned (.int .i64 (fre m (D t) : Nat)) ∧ Up Nul W w') := fun W u => (dk_freeD ((HG.out t hlt).up u fun _ _ => id)).mono fun e w' h => ⟨h.1, h.2.up⟩
      have HCO : Hid (∀ W, Up Nul w W → Calls Try.prog 34 #[.slice a l c, .int .i64 (t : Nat)] W fun e w' => ∃ b : Bool, e = .returned (.bool b) ∧ (b = true ↔ ∃ i, i < l ∧ f i = (t : Nat)) ∧ w' = W) := fun W u => rcont_any a l c f _ W (HA.out.nxt u)
      have HPT := hid (HP.out t)
      generalize (D t).q = q at c1 HDI HFR
      generalize (D t).b = b at HDI HLV
      clear ht hlt
      by_cases hfit : cl < 0 ∨ ((t % 3 : Nat) : Int) = cl
      · have HF := hid hfit
        have i4 : (t : Int) % 3 = ((t % 3 : Nat) : Int) := by omega
        obtain ⟨t3, T3⟩ : ∃ x : Nat, Hid (t % 3 = x) := ⟨_, rfl⟩
        rw [T3.out] at i4
        have hcc : cl < 0 ∨ (¬ cl < 0 ∧ ((t3 : Int) == cl) = true) := by
          by_cases e : cl < 0
          · exact .inl e
          · refine .inr ⟨e, ?_⟩
            have := HF.out.resolve_left e
            rw [T3.out] at this
            simp [this]
        clear hfit
        rcases hcc with hcl | ⟨hcl, hce⟩
        all_goals
          go_wp2_with fail
          refine (HDI.out _ HU.out).mono ?_
          rintro e wa ⟨rfl, ua⟩
          have UA : Hid (Up Nul w wa) := HU.out.trans ua
          have HOA := hid (HO.out.up ua fun _ _ _ h => h)
          clear ua
          go_wp2_with fail
          refine (HLV.out _ UA.out).mono ?_
          rintro e wx ⟨rfl, rfl⟩
          cases hlv : (D t).live with
          | false =>
            have HN : Hid ((List.range (t + 1)).filter p = (List.range t).filter p) := filter_no (by
              cases e : p t with
              | false => rfl
              | true => have := ((HPT.out.1 e).2.1); rw [hlv] at this; cases this)
            clear hlv
            go_wp2_with fail
            go_roundw
            case rel => exact ⟨t + 1, HT.out, by go_num, by rw [HN.out]; exact HOA.out, UA.out⟩
            case measure => have := HT.out; simp [intOf]; omega
          | true =>
            have HLT := hid hlv
            clear hlv
            go_wp2_with fail
            refine (HFR.out _ UA.out).mono ?_
            rintro e wb ⟨rfl, ub⟩
            have UB : Hid (Up Nul w wb) := UA.out.trans ub
            have HOB := hid (HOA.out.up ub fun _ _ _ h => h)
            clear ub
            obtain ⟨fr, FR⟩ : ∃ x, Hid (fre m (D t) = x) := ⟨_, rfl⟩
            rw [FR.out]
            by_cases hfr : 0 < fr
            · have HF2 := hid hfr
              have i5 : (0 : Int) < (fr : Int) := by omega
              clear hfr
              go_wp2_with fail
              refine (HCO.out _ UB.out).mono ?_
              rintro e wx ⟨bo, rfl, hbo, rfl⟩
              have HBO := hid hbo
              clear hbo
              cases bo with
              | true =>
                have HN : Hid ((List.range (t + 1)).filter p = (List.range t).filter p) := filter_no (by
                  cases e : p t with
                  | false => rfl
                  | true => exact absurd (HBO.out.1 rfl) (HPT.out.1 e).2.2.2.1)
                clear HBO
                go_wp2_with fail
                go_roundw
                case rel => exact ⟨t + 1, HT.out, by go_num, by rw [HN.out]; exact HOB.out, UB.out⟩
                case measure => have := HT.out; simp [intOf]; omega
              | false =>
                have HN : Hid ((List.range (t + 1)).filter p = (List.range t).filter p ++ [t]) := filter_yes (HPT.out.2 ⟨HT.out, HLT.out, by rw [FR.out]; exact HF2.out, (fun e => by have := HBO.out.2 e; cases this), HF.out⟩)
                have HOC := hid (HOB.out.alloc (.cells #[.int .i64 (t : Nat)] 3))
                have HSZ : Hid (w.heap.size ≤ (wx.alloc (.cells #[.int .i64 (t : Nat)] 3)).heap.size) := (UB.out.alloc _).size
                have HL1 : Hid ((intV ((List.range t).filter p)).length + 1 ≤ 1000000) := by show _ ≤ _; have := HL.out; have := HT.out; omega
                clear HBO HL
                generalize (intV ((List.range t).filter p)).length = L at HO HOA HOB HOC ⊢
                go_wp2_with (first
                  | (at_builtin; refine wpList_append_int rfl (.tmp 46) (.tmp 48) rfl w.heap.size _ _ rfl HOC.out ⟨wx.heap.size, 0, none⟩ 1 (t : Int) rfl (World.cell?_alloc_new _ _ _ 0) HL1.out HSZ.out ?_; intro v2 w2 H2 K2)
                  | fail)
                have H3 : Hid (OwnV 3 w.heap.size w2 v2 (intV ((List.range (t + 1)).filter p))) := by show OwnV _ _ _ _ _; rw [HN.out, intV_append]; exact H2.out
                have U3 : Hid (Up Nul w w2) := (UB.out.alloc _).grown K2.out fun q hq => HOB.out.base q hq
                clear H2 K2
                go_wp2_with fail
                go_roundw
                case rel => exact ⟨t + 1, HT.out, by go_num, H3.out, U3.out⟩
                case measure => have := HT.out; simp [intOf]; omega
            · have HF2 := hid hfr
              have i5 : ¬ (0 : Int) < (fr : Int) := by omega
              have HN : Hid ((List.range (t + 1)).filter p = (List.range t).filter p) := filter_no (by
                cases e : p t with
                | false => rfl
                | true => have := (HPT.out.1 e).2.2.1; rw [FR.out] at this; exact absurd this HF2.out)
              clear hfr
              go_wp2_with fail
              go_roundw
              case rel => exact ⟨t + 1, HT.out, by go_num, by rw [HN.out]; exact HOB.out, UB.out⟩
              case measure => have := HT.out; simp [intOf]; omega
      · have HN : Hid ((List.range (t + 1)).filter p = (List.range t).filter p) := filter_no (by
          cases e : p t with
          | false => rfl
          | true => exact absurd (HPT.out.1 e).2.2.2.2 hfit)
        have i4 : (t : Int) % 3 = ((t % 3 : Nat) : Int) := by omega
        have hcl : ¬ cl < 0 := fun e => hfit (.inl e)
        have hce : (((t % 3 : Nat) : Int) == cl) = false := by simp; exact fun e => hfit (.inr (by omega))
        obtain ⟨t3, T3⟩ : ∃ x : Nat, t % 3 = x := ⟨_, rfl⟩
        rw [T3] at i4 hce
        clear hfit T3
        go_wp2_with fail
        go_roundw
        case rel => exact ⟨t + 1, HT.out, by go_num, by rw [HN.out]; exact HO.out, HU.out⟩
        case measure => have := HT.out; simp [intOf]; omega
    · obtain rfl : t = n := by omega
      go_wp2_with fail
      go_ret
      exact ⟨_, rfl, HO.out, HU.out⟩
/-! ### 'Place' -/
/-- The best of them. -/
theorem plc_take {C : Nat → Prop} {F : Nat → Nat} {L M : List Nat} (hM : M.Perm L) (hL : ∀ d, d ∈ L ↔ C d) (hp : M.Pairwise (Bef F)) {x : Nat} (hx : x ≤ L.length) : Plc C F x (M.take x) := by
  have hm : ∀ d, d ∈ M ↔ C d := fun d => hM.mem_iff.trans (hL d)
  refine ⟨by rw [List.length_take, hM.length_eq]; omega, hp.sublist (List.take_sublist _ _), fun d hd => (hm d).1 (List.mem_of_mem_take hd), fun d hd hn y hy => ?_⟩
  have hdM := (hm d).2 hd
  rw [← List.take_append_drop x M] at hdM hp
  have hdd := (List.mem_append.1 hdM).resolve_left hn
  exact (List.pairwise_append.1 hp).2.2 y hy d hdd
theorem OwnV.weak {base b2 : Nat} {v : Value} {xs : List Value} (h : OwnV 3 base w v xs) (hb : b2 ≤ base) : OwnV 3 b2 w v xs := by
  refine ⟨h.1, ?_⟩
  rcases h.2 with e | ⟨g, cap, cur, h1, h2, h3⟩
  · exact .inl e
  · exact .inr ⟨g, cap, cur, h1, Nat.le_trans hb h2, h3⟩
theorem OwnV.part {base g cap : Nat} {L : List Nat} {x : Nat} (h : OwnV 3 base w (.slice (some ⟨g, 0, none⟩) L.length cap) (intV L)) (hx : x ≤ L.length) : OwnV 3 base w (.slice (some ⟨g, 0, none⟩) x cap) (intV (L.take x)) := by
  rcases h.2 with ⟨e, _⟩ | ⟨g', cap', cur, e, hb, hg, hle, hmx, hcs, htk⟩
  · cases e
  · injection e with e1 _ e3
    injection e1 with e1
    injection e1 with e1 _ _
    subst e1 e3
    have hlen : (intV (L.take x)).length = x := by rw [intV_length, List.length_take]; omega
    rw [intV_length] at hle htk
    refine ⟨by simp, .inr ⟨g, cap, cur, by rw [hlen], hb, hg, by rw [hlen]; omega, hmx, hcs, ?_⟩⟩
    rw [hlen, Nat.mul_one]
    rw [Nat.mul_one] at htk
    have e : cur.toList.take x = (cur.toList.take L.length).take x := by rw [List.take_take, Nat.min_eq_left hx]
    rw [e, htk]
    simp [intV, List.map_take]
/-- What Place tells. -/
def PlE (w : World) (C : Nat → Prop) (F : Nat → Nat) (x : Int) (e : Ending) (w' : World) : Prop :=
  ((0 ≤ x ∧ ∃ p v, Plc C F x.toNat p ∧ e = .returned (.tuple #[v, .bool true]) ∧ OwnV 3 w.heap.size w' v (intV p)) ∨
   ((x < 0 ∨ ∀ p : List Nat, p.Nodup → (∀ d ∈ p, C d) → (p.length : Int) < x) ∧ ∃ b c, e = .returned (.tuple #[.slice b 0 c, .bool false]))) ∧ Up Nul w w'
theorem PlE.mk {w w' : World} {C : Nat → Prop} {F : Nat → Nat} {x : Int} {e : Ending} (h : ((0 ≤ x ∧ ∃ p v, Plc C F x.toNat p ∧ e = .returned (.tuple #[v, .bool true]) ∧ OwnV 3 w.heap.size w' v (intV p)) ∨
   ((x < 0 ∨ ∀ p : List Nat, p.Nodup → (∀ d ∈ p, C d) → (p.length : Int) < x) ∧ ∃ b c, e = .returned (.tuple #[.slice b 0 c, .bool false]))) ∧ Up Nul w w') : PlE w C F x e w' := h
set_option maxHeartbeats 3200000 in
theorem rplace_any (h : RK w r n m fu D nx T) (hf : FzO w fu k) (x cl : Int) (a : Option Addr) (l c : Nat) (f : Nat → Int) (ha : SlI w a l f) (hl : l ≤ 1000) (hx : -9223372036854775808 ≤ x ∧ x ≤ 9223372036854775807) :
    Calls Try.prog 8 #[.pointer (some ⟨r, 0, none⟩), .int .i64 x, .int .i64 cl, .slice a l c] w (PlE w (Fit n m D cl fun d => ∃ i, i < l ∧ f i = d) (fun d => fre m (D d)) x) := by
  obtain ⟨p, hp⟩ : ∃ p : Nat → Bool, ∀ d, p d = true ↔ Fit n m D cl (fun d => ∃ i, i < l ∧ f i = d) d := ⟨fun d => @decide _ (Classical.propDecidable _), fun d => @decide_eq_true_iff _ (Classical.propDecidable _)⟩
  generalize hC : Fit n m D cl (fun d => ∃ i, i < l ∧ f i = d) = C at hp ⊢
  have hbx := lt_of_cell (World.cell?_alloc_new w (.pointer (some ⟨r, 0, none⟩) :: []).toArray 23 0 |>.trans rfl)
  have U1 := hid ((Up.refl Nul w).alloc (.cells #[.pointer (some ⟨r, 0, none⟩)] 23))
  have TB1 : Hid ((w.alloc (.cells #[.pointer (some ⟨r, 0, none⟩)] 23)).cell? ⟨w.heap.size, 0, none⟩ = some (.pointer (some ⟨r, 0, none⟩))) := World.cell?_alloc_new _ _ _ 0
  have HO : Hid (∀ W, Up Nul w W → Calls Try.prog 29 #[.pointer (some ⟨r, 0, none⟩), .int .i64 cl, .slice a l c] W _) := fun W u => ropen_any (h.nxt u) cl a l c f (ha.nxt u) p (fun d => by rw [hp, ← hC])
  obtain ⟨L, HLe⟩ : ∃ L, Hid ((List.range n).filter p = L) := ⟨_, rfl⟩
  rw [HLe.out] at HO
  have HLm : Hid (∀ d, d ∈ L ↔ C d) := fun d => by
    rw [← HLe.out, List.mem_filter, hp, List.mem_range]
    exact ⟨fun h => h.2, fun h => ⟨by rw [← hC] at h; exact h.1, h⟩⟩
  have HLn : Hid (L.Nodup ∧ L.length ≤ 24 ∧ ∀ i ∈ L, i < n) := by
    refine ⟨?_, ?_, fun i hi => ?_⟩
    · rw [← HLe.out]; exact List.nodup_range.filter _
    · rw [← HLe.out]; have := filter_le p n; have := h.le; omega
    · rw [← HLe.out] at hi; exact List.mem_range.1 ((List.mem_filter.1 hi).1)
  have H := hid h
  have HX := hid hx
  clear hp hC h hf ha hl hx hbx
  go_enter Try.func8, Try.ntmps8
  go_wp2_with fail
  refine (HO.out _ U1.out).mono ?_
  rintro e w1 ⟨v, rfl, ho, u1⟩
  have HOW := hid ho
  have U2 : Hid (Up Nul w w1) := U1.out.trans u1
  have TB := hid ((u1.cell (p := ⟨w.heap.size, 0, none⟩) (lt_of_cell TB1.out) id).trans TB1.out)
  have HSB : Hid (w.heap.size < (w.alloc (.cells #[.pointer (some ⟨r, 0, none⟩)] 23)).heap.size) := by show _ < _; simp
  obtain ⟨va, vc, rfl⟩ := HOW.out.shape
  rw [intV_length] at HOW ⊢
  clear ho u1 HO TB1
  by_cases h0 : x < 0
  · have HX0 := hid h0
    go_wp2_with fail
    go_ret2
    exact PlE.mk ⟨.inr ⟨.inl HX0.out, _, _, rfl⟩, U2.out⟩
  · obtain ⟨X, rfl⟩ : ∃ X : Nat, x = X := ⟨x.toNat, by omega⟩
    by_cases h1 : L.length < X
    · have i1 : (L.length : Int) < (X : Int) := by omega
      have HX1 := hid h1
      clear h1 HX
      go_wp2_with fail
      go_ret2
      exact PlE.mk ⟨.inr ⟨.inr fun q hq1 hq2 => by
        have := hq1.length_le_of_subset fun d hd => (HLm.out d).2 (hq2 d hd)
        have := HX1.out
        omega, _, _, rfl⟩, U2.out⟩
    · have i1 : ¬ (L.length : Int) < (X : Int) := by omega
      have HX1 : Hid (X ≤ L.length) := by show _ ≤ _; omega
      have i2 : (L.length : Int) ≤ 24 := by have := HLn.out; omega
      clear h1 HX h0
      by_cases hL0 : 0 < L.length
      · obtain ⟨g, gc, hv, hgb, hg1, hg2, hg3, hgc⟩ := HOW.out.row (by rw [intV_length]; exact hL0)
        have hv1 : va = some ⟨g, 0, none⟩ := by injection hv
        have hv3 : vc = gc := by injection hv
        clear hv hg1 hg2 hg3
        subst hv1 hv3
        rw [intV_length] at hgc
        have HRK := hid (H.out.nxt U2.out)
        have i4 : (X : Int) ≤ (vc : Int) := by have := HX1.out; omega
        have HOU : Hid (OwnV 3 (w.alloc (.cells #[.pointer (some ⟨r, 0, none⟩)] 23)).heap.size w1 (.slice (some ⟨g, 0, none⟩) L.length vc) (intV L)) := HOW.out
        have HS := hid (rsort_any HRK.out L HLn.out.2.2 HLn.out.1 hL0 _ g vc HOU.out w.heap.size TB.out)
        have HGB : Hid (w.heap.size ≤ g) := Nat.le_trans (Nat.le_of_lt HSB.out) hgb
        clear hL0 hgc hgb
        go_wp2_with fail
        refine HS.out.mono ?_
        rintro e w2 ⟨rfl, M, hM, hMp, hMo, hMu⟩
        have HM := hid (plc_take hM HLm.out hMp HX1.out)
        have HMO := hid ((OwnV.part (L := M) (by rw [hM.length_eq]; exact hMo) (by rw [hM.length_eq]; exact HX1.out)).weak (Nat.le_of_lt HSB.out))
        have U3 : Hid (Up Nul w w2) := U2.out.newer hMu fun i hi e => by have e : i = g := e; have := HGB.out; omega
        clear hM hMp hMo hMu
        go_wp2_with fail
        go_ret2
        exact PlE.mk ⟨.inl ⟨Int.natCast_nonneg _, M.take X, _, by rw [Int.toNat_natCast]; exact HM.out, rfl, HMO.out⟩, U3.out⟩
      · have hle : L.length = 0 := by omega
        have HE0 : Hid (L = []) := List.eq_nil_of_length_eq_zero hle
        have HX2 : Hid (X = 0) := by show _ = _; have := HX1.out; omega
        rw [hle] at HOW ⊢
        have HS : Hid (∀ W fv, Calls Try.prog 30 #[.slice va 0 vc, fv] W fun e w' => e = .returned (.tuple #[]) ∧ w' = W) := fun W fv => AnyF.slices_SortFunc_none (P := Try.prog) (ρ := Try.sortL_ren) { Try.sortL with } va vc fv W
        go_wp2_with fail
        refine (HS.out _ _).mono ?_
        rintro e w2 ⟨rfl, rfl⟩
        go_wp2_with fail
        go_ret2
        obtain rfl := HX2.out
        have how := HOW.out.weak (Nat.le_of_lt HSB.out)
        rw [HE0.out] at how
        exact PlE.mk ⟨.inl ⟨Int.natCast_nonneg _, [], _, ⟨rfl, List.Pairwise.nil, (fun d hd => by cases hd), fun d _ _ x hx => by cases hx⟩, rfl, how⟩, U2.out⟩
end
end Go.Proofs.Ytcejdobmgbielaa
