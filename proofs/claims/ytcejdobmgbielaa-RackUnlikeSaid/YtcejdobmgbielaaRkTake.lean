/- The program's 'Take' of a Rack. -/
import Derived.Test.YtcejdobmgbielaaRkCalls
namespace Go.Proofs.Ytcejdobmgbielaa
open Go.RowKit
set_option linter.unusedVariables false

theorem fst_of_fre {m : Nat} {s : DS} (h : 0 < fre m s) : fst0 s.U m 0 = some (slo m s) := by
  unfold slo
  cases e : fst0 s.U m 0 with
  | none =>
    have h1 := us_full m fun i hi => fst0_full s.U m 0 e i (Nat.zero_le _) (by omega)
    unfold fre at h
    omega
  | some i => rfl
theorem locs_next (m nx : Nat) (D : Nat → DS) (p : List Nat) {t : Nat} (ht : t < p.length) : locs m nx D (p.take (t + 1)) = locs m nx D (p.take t) ++ [⟨p[t], slo m (D p[t]), nx + t⟩] := by
  apply List.ext_getElem
  · simp [locs]; omega
  · intro i h1 h2
    have hl : i < t + 1 := by simp [locs] at h1; omega
    rw [List.getElem_append]
    by_cases hi : i < t
    · rw [dif_pos (by simp [locs]; omega)]
      simp [locs]
    · obtain rfl : i = t := by omega
      rw [dif_neg (by simp [locs]; omega)]
      simp [locs]
section
variable {w w' : World} {r bb n m cap nx : Nat} {fu k : Option Nat} {D : Nat → DS} {T : Nat → Prop}
/-- t slots are taken. -/
structure TkS (w w' : World) (r n m : Nat) (fu k : Option Nat) (D : Nat → DS) (nx : Nat) (T : Nat → Prop) (p : List Nat) (t : Nat) (v : Value) : Prop where
  ex : ∃ D' T', RK w' r n m fu D' (nx + t) T' ∧ (∀ g, T' g → T g ∨ w.heap.size ≤ g) ∧ (∀ d ∈ p.take t, D' d = tkD m (D d)) ∧ ∀ d, d ∉ p.take t → D' d = D d
  up : Up (fun g => T g ∨ fu = some g) w w'
  fz : FzO w' fu k
  own : OwnL w.heap.size w' v (locs m nx D (p.take t))
/-- What Take tells. -/
def TkE (w : World) (r n m : Nat) (fu k : Option Nat) (D : Nat → DS) (nx : Nat) (T : Nat → Prop) (p : List Nat) (e : Ending) (w' : World) : Prop :=
  ∃ v D', e = .returned (.tuple #[v, .bool true]) ∧ OwnL w.heap.size w' v (p.zipIdx.map fun x => ⟨x.1, slo m (D x.1), nx + x.2⟩) ∧ (∀ d ∈ p, D' d = tkD m (D d)) ∧ (∀ d, d ∉ p → D' d = D d) ∧ Rd RK w w' r n m fu k T (fun g => v.ownBlock = some g) D' (nx + p.length)
/-- A row of Locs is none of the Rack's blocks. -/
theorem RK.offL {base : Nat} {v : Value} {l : List Lc} (h : RK w r n m fu D nx T) (ho : OwnL base w v l) {g : Nat} (hg : v.ownBlock = some g) : ¬ T g := by
  rcases ho.2 with ⟨e, _⟩ | ⟨g', cap, cur, e, _, hh, _⟩
  · rw [e] at hg; cases hg
  · rw [e] at hg
    obtain rfl : g' = g := by simpa [Value.ownBlock] using hg
    exact fun hT => (h.ty hT).ne hh loc_tr
theorem offF {base : Nat} {v : Value} {l : List Lc} (hf : FzO w fu k) (ho : OwnL base w v l) {g : Nat} (hg : v.ownBlock = some g) : ¬ fu = some g := by
  rcases ho.2 with ⟨e, _⟩ | ⟨g', cap, cur, e, _, hh, _⟩
  · rw [e] at hg; cases hg
  · rw [e] at hg
    obtain rfl : g' = g := by simpa [Value.ownBlock] using hg
    intro ef
    have hz := hf
    rw [ef] at hz
    exact ne_type hh (Fz.heap hz) (by decide) rfl
theorem TkS.done {p : List Nat} {v : Value} (h : TkS w w' r n m fu k D nx T p p.length v) : TkE w r n m fu k D nx T p (.returned (.tuple #[v, .bool true])) w' := by
  obtain ⟨D', T', h1, h2, h3, h4⟩ := h.ex
  rw [List.take_length] at h3 h4
  have ho := h.own
  rw [List.take_length] at ho
  exact ⟨v, D', rfl, ho, h3, h4, ⟨T', h1, h2, fun g hg => h1.offL ho hg⟩, h.up, h.fz⟩
/-- A slot of the disk d. -/
theorem RK.bayTake (h : RK w r n m fu D nx T) (hf : FzO w fu k) (d : Nat) (hd : d < n) (h0 : 0 < fre m (D d)) : Calls Try.prog 35 #[.pointer (some ⟨(D d).q, 0, none⟩)] w fun e w' =>
    e = .returned (.tuple #[.int .i64 (slo m (D d) : Nat), .bool true]) ∧ Rd RK w w' r n m fu k T Nul (updD D d (tkD m (D d))) nx := by
  obtain ⟨F, g1, g2⟩ := h.one hf d hd
  refine (dk_take g1 hf).mono ?_
  rintro e w' (⟨i, hi, rfl, dn⟩ | ⟨hn, _⟩)
  · rw [fst_of_fre h0] at hi
    obtain rfl : slo m (D d) = i := by injection hi
    exact ⟨rfl, g2 _ _ (tkD m (D d)) rfl rfl dn⟩
  · rw [fst_of_fre h0] at hn
    cases hn
/-- The next slot is taken: behind Bay.Take (w1), behind the append (w3), behind the store. -/
theorem TkS.next {w1 w3 : World} {p : List Nat} {t : Nat} {v v' : Value} {D1 : Nat → DS} {T1 : Nat → Prop} (h1 : RK w1 r n m fu D1 (nx + t) T1) (h2 : ∀ g, T1 g → T g ∨ w.heap.size ≤ g) (ht : t < p.length) (hd : p.Nodup)
    (h3 : ∀ d ∈ p.take (t + 1), D1 d = tkD m (D d)) (h4 : ∀ d, d ∉ p.take (t + 1) → D1 d = D d) (u : Up (fun g => T g ∨ fu = some g) w w1) (hf : FzO w1 fu k) (hv : OwnL w.heap.size w1 v (locs m nx D (p.take t)))
    (u3 : Up (fun g => v.ownBlock = some g) w1 w3) (hv3 : OwnL w.heap.size w3 v' (locs m nx D (p.take (t + 1)))) :
    TkS w (w3.setCell ⟨r, 1, none⟩ (.int .i64 ((nx + t + 1 : Nat) : Int))) r n m fu k D nx T p (t + 1) v' := by
  have k1 : RK w3 r n m fu D1 (nx + t) T1 := h1.keep u3 fun g hg e => h1.offL hv e hg
  have f1 : FzO w3 fu k := hf.up u3 fun f e hx => offF hf hv hx e
  obtain ⟨bb, cap, T0, q1, q2, q3⟩ := k1.ex
  have rd := RK.set q1 q2 f1 q3 k1.le (y := nx + t + 1) (by omega)
  obtain ⟨T2, a1, a2, _⟩ := rd.ex
  have u13 : Up (fun g => T g ∨ fu = some g) w w3 := u.thn u3 fun g hg e => by
    have := hv.lt g e
    omega
  refine ⟨⟨D1, T2, a1, fun g hg => ?_, h3, h4⟩, u13.thn rd.up fun g hl hg => ?_, rd.fz, ?_⟩
  · rcases a2 g hg with e | e
    · exact h2 g e
    · exact .inr (Nat.le_trans u13.size e)
  · rcases hg with e | e
    · rcases h2 g e with e | e
      · exact .inl e
      · omega
    · exact .inr e
  · refine hv3.keep fun g hg => ?_
    refine (q1.set (nx + t + 1)).2.block g (hv3.lt g hg).2 fun e => ?_
    have e : g = r := e
    subst e
    exact k1.offL hv3 hg ((q3 g).2 (.inl (.inl rfl)))
set_option maxRecDepth 100000 in
set_option maxHeartbeats 3200000 in
theorem rtake_in (h : RK w r n m fu D nx T) (hf : FzO w fu k) (a : Option Addr) (L c : Nat) (p : List Nat) (f : Nat → Nat) (hL : p.length = L) (hfp : ∀ i, (hi : i < p.length) → f i = p[i]) (ha : SlI w a L (fun i => (f i : Nat))) (hc : L ≤ c) (hi : IntAt w a) (hd : p.Nodup) (hp : ∀ d ∈ p, d < n ∧ 0 < fre m (D d)) (hx : nx ≤ 1000000000) :
    Calls Try.prog 9 #[.pointer (some ⟨r, 0, none⟩), .slice a L c] w (TkE w r n m fu k D nx T p) := by
  have H := hid h
  have HF := hid hf
  have HA := hid ha
  have HI := hid hi
  have HD := hid hd
  have HLL := hid hL
  have HPL : Hid (L ≤ 24) := by
    show _ ≤ _
    have := hd.length_le_of_subset (l₂ := List.range n) fun i hi => List.mem_range.2 (hp i hi).1
    rw [List.length_range] at this
    have := h.le
    omega
  have HP : Hid (∀ i, i < L → f i < n ∧ 0 < fre m (D (f i))) := fun i hi => by
    rw [hfp i (by omega)]
    exact hp _ (List.getElem_mem _)
  have HFP := hid hfp
  have HNO : Hid (∀ i j, i < L → j < i → ¬ ((f j : Nat) : Int) = ((f i : Nat) : Int)) := fun i j hi hj e => by
    have e : f j = f i := by omega
    rw [hfp i (by omega), hfp j (by omega)] at e
    exact nod_ne hd (by omega) (by omega) (by omega) e
  have HX := hid hx
  have HCL := hid hc
  clear h hf ha hi hd hp hx hc hL hfp
  go_enter Try.func9, Try.ntmps9
  go_wp2_with fail
  go_loopw [16] (fun i wr => ∃ t : Nat, t ≤ L ∧ i = .int .i64 (t : Nat) ∧ Up Nul w wr) (fun i _ => L - (intOf i).toNat)
  case atStart => exact ⟨0, Nat.zero_le _, rfl, Up.refl _ _⟩
  case round =>
    obtain ⟨t, ht, rfl, hu⟩ := hrel
    have HU := hid hu
    clear hu
    have i0 : (0 : Int) ≤ (t : Int) := by omega
    have i2 : (L : Int) ≤ 24 := by have := HPL.out; omega
    by_cases hlt : t < L
    · have i1 : (t : Int) < (L : Int) := by omega
      have HT := hid hlt
      obtain ⟨g, o, rfl, hg, hcl⟩ := HA.out.row.resolve_left (by omega)
      have c1 : wr.cell? ⟨g, o + t, none⟩ = some (.int .i64 (f t : Nat)) := (HU.out.cell (p := ⟨g, o + t, none⟩) hg id).trans (hcl t hlt)
      have HB : Hid (∀ W, Up Nul w W → Calls Try.prog 13 #[.pointer (some ⟨r, 0, none⟩), .int .i64 (f t : Nat)] W fun e w' => e = .returned (.pointer (some ⟨(D (f t)).q, 0, none⟩)) ∧ w' = W) := fun W u => (H.out.nxt u).bayOk (f t) (HP.out t hlt).1
      have HFR : Hid (∀ W, Up Nul w W → Calls Try.prog 21 #[.pointer (some ⟨(D (f t)).q, 0, none⟩)] W fun e w' => e = .returned (.int .i64 (fre m (D (f t)) : Nat)) ∧ Up Nul W w') := fun W u => by
        obtain ⟨F, g1, _⟩ := (H.out.nxt u).one (HF.out.up u fun _ _ => id) (f t) (HP.out t hlt).1
        refine (dk_free g1).mono ?_
        rintro e w' ⟨rfl, u'⟩
        exact ⟨by rw [fre_us H.out.le.2.2.1], u'⟩
      have HCO : Hid (∀ W, Up Nul w W → Calls Try.prog 34 #[.slice (some ⟨g, o, none⟩) t c, .int .i64 (f t : Nat)] W fun e w' => e = .returned (.bool false) ∧ w' = W) := fun W u => by
        refine (rcont_any (some ⟨g, o, none⟩) t c (fun i => ((f i : Nat) : Int)) ((f t : Nat) : Int) W ⟨.inr ⟨g, o, rfl, Nat.lt_of_lt_of_le hg u.size, fun i hi => (u.cell (p := ⟨g, o + i, none⟩) hg id).trans (hcl i (by omega))⟩, by omega⟩).mono ?_
        rintro e w' ⟨b, rfl, hb, rfl⟩
        cases b with
        | false => exact ⟨rfl, rfl⟩
        | true =>
          obtain ⟨i, hi, e⟩ := hb.1 rfl
          exact absurd e (HNO.out t i hlt hi)
      have hfr := (HP.out t hlt).2
      have i5 : (((fre m (D (f t)) : Nat) : Int) == 0) = false := by simp; omega
      have i6 : (t : Int) ≤ (c : Int) := by have := HCL.out; omega
      generalize (D (f t)).q = q at HB HFR
      generalize fre m (D (f t)) = fr at HFR i5
      generalize f t = d at c1 HB HFR HCO
      clear ht hlt hg hcl hfr
      go_wp2_with fail
      refine (HB.out _ HU.out).mono ?_
      rintro e wx ⟨rfl, rfl⟩
      go_wp2_with fail
      refine (HFR.out _ HU.out).mono ?_
      rintro e wa ⟨rfl, ua⟩
      have UA : Hid (Up Nul w wa) := HU.out.trans ua
      clear ua
      go_wp2_with fail
      refine (HCO.out _ UA.out).mono ?_
      rintro e wx ⟨rfl, rfl⟩
      go_wp2_with fail
      go_roundw
      case rel => exact ⟨t + 1, HT.out, by go_num, UA.out⟩
      case measure => have := HT.out; simp [intOf]; omega
    · have i1 : ¬ (t : Int) < (L : Int) := by omega
      clear ht hlt i0 i2
      go_wp2_with fail
      clear i1
      have HS0 : Hid (TkS w wr r n m fu k D nx T p 0 (.slice none 0 0)) :=
        ⟨⟨D, T, H.out.nxt HU.out, fun g hg => .inl hg, (fun d hd => by rw [List.take_zero] at hd; cases hd), fun d _ => rfl⟩, HU.out.mono fun _ _ h => h.elim, HF.out.up HU.out fun _ _ => id, OwnL.nil _ _⟩
      clear HU
      go_loopw [9, 41] (fun v i wx => ∃ t : Nat, t ≤ L ∧ i = .int .i64 (t : Nat) ∧ TkS w wx r n m fu k D nx T p t v) (fun _ i _ => L - (intOf i).toNat)
      case atStart => exact ⟨0, Nat.zero_le _, rfl, HS0.out⟩
      case round =>
        obtain ⟨t, ht, rfl, hs⟩ := hrel
        have HS := hid hs
        clear hs HS0
        have i0 : (0 : Int) ≤ (t : Int) := by omega
        have i2 : (L : Int) ≤ 24 := by have := HPL.out; omega
        by_cases hlt : t < L
        · have i1 : (t : Int) < (L : Int) := by omega
          have HT := hid hlt
          have HTP : Hid (t < p.length) := by show _ < _; rw [HLL.out]; exact hlt
          obtain ⟨g, o, rfl, hg, hcl⟩ := HA.out.row.resolve_left (by omega)
          have c1 : wr.cell? ⟨g, o + t, none⟩ = some (.int .i64 (f t : Nat)) := by
            refine (HS.out.up.cell (p := ⟨g, o + t, none⟩) hg fun e => ?_).trans (hcl t hlt)
            obtain ⟨A, F, hb⟩ := HI.out _ rfl
            rcases e with e | e
            · exact (H.out.ty e).ne hb int_tr
            · have hz := HF.out
              rw [e] at hz
              exact ne_type hb (Fz.heap hz) (by decide) rfl
          obtain ⟨hdn, hdf⟩ := HP.out t hlt
          have hfe : f t = p[t]'HTP.out := HFP.out t HTP.out
          have HDN : Hid (∀ x ∈ p.take t, ¬ x = f t) := fun x hx e => by
            rw [hfe] at e
            obtain ⟨j, hj, rfl⟩ := List.mem_iff_getElem.1 hx
            rw [List.length_take] at hj
            rw [List.getElem_take] at e
            exact nod_ne HD.out (by omega) HTP.out (by omega) e
          have HNX : Hid (∀ x, x ∈ p.take (t + 1) ↔ x ∈ p.take t ∨ x = f t) := fun x => by
            rw [List.take_succ_eq_append_getElem HTP.out, List.mem_append, List.mem_singleton, hfe]
          have HLN : Hid (locs m nx D (p.take (t + 1)) = locs m nx D (p.take t) ++ [⟨f t, slo m (D (f t)), nx + t⟩]) := by
            show _ = _
            rw [locs_next m nx D p HTP.out, hfe]
          have HLL1 : Hid ((locs m nx D (p.take t)).length + 1 ≤ 1000000) := by
            show _ ≤ _
            rw [locs_length, List.length_take]
            have := HPL.out
            omega
          obtain ⟨D', T', k1, k2, k3, k4⟩ := HS.out.ex
          have hD : D' (f t) = D (f t) := k4 _ fun e => HDN.out _ e rfl
          have HTK : Hid (Calls Try.prog 35 #[.pointer (some ⟨(D (f t)).q, 0, none⟩)] wr fun e w' => e = .returned (.tuple #[.int .i64 (slo m (D (f t)) : Nat), .bool true]) ∧ Rd RK wr w' r n m fu k T' Nul (updD D' (f t) (tkD m (D (f t)))) (nx + t)) := by
            have := k1.bayTake HS.out.fz (f t) hdn (by rw [hD]; exact hdf)
            rw [hD] at this
            exact this
          have HK := hid (And.intro k1 (And.intro k2 (And.intro k3 k4)))
          obtain ⟨bb, cap, T0, q1, q2, q3⟩ := k1.ex
          have c0 := q1.c0
          have c2 := q1.cell hdn
          rw [hD] at c2
          have i3 : ((f t : Nat) : Int) < (n : Int) := by omega
          have i4 : (0 : Int) ≤ ((f t : Nat) : Int) := by omega
          have HOB : Hid (∀ g, Value.ownBlock u9 = some g → ¬ T' g ∧ ¬ fu = some g) := fun g hg => ⟨k1.offL HS.out.own hg, offF HS.out.fz HS.out.own hg⟩
          obtain ⟨x, HXX⟩ : ∃ x, Hid (nx + t = x) := ⟨_, rfl⟩
          have HXL : Hid (x ≤ 1000000100) := by show _ ≤ _; have := HXX.out; have := HX.out; have := HPL.out; omega
          rw [HXX.out] at HTK HLN
          clear k1 k2 k3 k4 q1 q2 q3 hdn hdf hfe hD hlt ht hg hcl
          obtain ⟨lv, LV⟩ : ∃ lv, Hid (locs m nx D (p.take t) = lv) := ⟨_, rfl⟩
          obtain ⟨ll, LL⟩ : ∃ ll, Hid (lv.length = ll) := ⟨_, rfl⟩
          have HOV : Hid (OwnL w.heap.size wr u9 lv) := by show OwnL _ _ _ _; rw [← LV.out]; exact HS.out.own
          obtain ⟨va, vc, rfl⟩ := HOV.out.shape
          rw [LL.out] at HOV HOB ⊢
          rw [LV.out] at HLL1 HLN
          obtain ⟨s', S'⟩ : ∃ s', Hid (tkD m (D (f t)) = s') := ⟨_, rfl⟩
          rw [S'.out] at HTK
          generalize slo m (D (f t)) = sl at HTK HLN
          generalize (D (f t)).q = q at HTK c2
          obtain ⟨d, HDD⟩ : ∃ d, Hid (f t = d) := ⟨_, rfl⟩
          rw [HDD.out] at c1 HTK c2 i3 i4 HLN HNX HDN
          go_wp2_with fail
          refine HTK.out.mono ?_
          rintro e w1 ⟨rfl, rd⟩
          obtain ⟨T1, p1, p2, _⟩ := rd.ex
          have UR := hid rd.up
          have HF1 := hid rd.fz
          have HR1 := hid p1
          have HT1 := hid p2
          have HO1 : Hid (OwnL w.heap.size w1 (.slice va ll vc) lv) := HOV.out.keep fun g hg => UR.out.block g (HOV.out.lt g hg).2 fun e => e.elim (HOB.out g hg).1 (HOB.out g hg).2
          obtain ⟨bb1, cap1, T01, q1, _, _⟩ := p1.ex
          have c3 := q1.c1
          have HRC : Hid (∀ W, Up (fun g => Value.ownBlock (.slice va ll vc) = some g) w1 W → RK W r n m fu (updD D' d s') x T1) := fun W u => HR1.out.keep u fun g hg e => HR1.out.offL HO1.out e hg
          obtain ⟨A0, HA0⟩ : ∃ A0, Hid (A0 = Obj.cells #[.int .i64 (d : Nat), .int .i64 (sl : Nat), .int .i64 (x : Nat)] 36 (0, 0)) := ⟨_, rfl⟩
          have HOA : Hid (OwnL w.heap.size (w1.alloc (.cells #[.int .i64 (d : Nat), .int .i64 (sl : Nat), .int .i64 (x : Nat)] 36)) (.slice va ll vc) lv) := HO1.out.alloc _
          have HCC : Hid (∀ j u, (lcV [(⟨d, sl, x⟩ : Lc)])[j]? = some u → (w1.alloc (.cells #[.int .i64 (d : Nat), .int .i64 (sl : Nat), .int .i64 (x : Nat)] 36)).cell? ((⟨w1.heap.size, 0, none⟩ : Addr).add j) = some u) := fun j u hj => by
            rw [add_off, Nat.zero_add]
            refine (World.cell?_alloc_new _ _ _ j).trans ?_
            simpa [lcV, Lc.cells] using hj
          have HS1 : Hid (w.heap.size ≤ (w1.alloc (.cells #[.int .i64 (d : Nat), .int .i64 (sl : Nat), .int .i64 (x : Nat)] 36)).heap.size) := by
            show _ ≤ _
            have h1 := HS.out.up.size
            have h2 := UR.out.size
            have h3 : (w1.alloc (.cells #[.int .i64 (d : Nat), .int .i64 (sl : Nat), .int .i64 (x : Nat)] 36)).heap.size = w1.heap.size + 1 := by simp
            omega
          have HL2 : Hid (lv.length + [(⟨d, sl, x⟩ : Lc)].length ≤ 1000000) := by show lv.length + 1 ≤ _; exact HLL1.out
          clear rd p1 p2 q1 c0 c1 c2 HTK i3 i4
          have HUP : Hid (∀ W, (w1.alloc (.cells #[.int .i64 (d : Nat), .int .i64 (sl : Nat), .int .i64 (x : Nat)] 36)).grownBy W (Value.ownBlock (.slice va ll vc)) → Up (fun g => Value.ownBlock (.slice va ll vc) = some g) w1 W) := fun W gr =>
            ((Up.refl _ w1).alloc _).trans ⟨gr.os, gr.tape, gr.output, gr.size, fun k hk hs => gr.block k hk fun e => hs e.symm⟩
          have HX1 : Hid (((x + 1 : Nat) : Int) = (x : Int) + 1) := by show _ = _; omega
          have HAF := hid (rafter_any x (by have := HXL.out; omega))
          rw [HX1.out] at HAF
          go_wp2_with (first
            | (at_builtin; refine wpList_append_lcs rfl (.tmp 56) (.tmp 64) rfl w.heap.size _ _ rfl HOA.out ⟨w1.heap.size, 0, none⟩ 1 [(⟨d, sl, x⟩ : Lc)] Nat.one_pos rfl HCC.out HL2.out HS1.out ?_; intro v2 w2 H2 K2 J2; have U2 := hid (HUP.out w2 K2.out); have HR2 := hid (HRC.out w2 U2.out); obtain ⟨bb2, cap2, T02, q2, _, _⟩ := HR2.out.ex; have c5 := q2.c1; have f5 := q2.f1; clear q2)
            | (go_at_call 36; refine (HAF.out _).mono ?_; rintro e w4 ⟨rfl, rfl⟩)
            | fail)
          have HFIN : Hid (TkS w (w4.setCell ⟨r, 1, none⟩ (.int .i64 ((x : Int) + 1))) r n m fu k D nx T p (t + 1) v2) := by
            show TkS _ _ _ _ _ _ _ _ _ _ _ _ _
            obtain ⟨k1, k2, k3, k4⟩ := HK.out
            rw [← HX1.out]
            obtain rfl := HXX.out
            obtain rfl := LV.out
            obtain rfl := S'.out
            obtain rfl := HDD.out
            refine TkS.next HR1.out (fun g hg => ?_) HTP.out HD.out (fun y hy => ?_) (fun y hy => ?_) (HS.out.up.thn UR.out fun i hi e => ?_) HF1.out HO1.out U2.out (by rw [HLN.out]; exact H2.out)
            · rcases HT1.out g hg with e | e
              · exact k2 g e
              · exact .inr (Nat.le_trans HS.out.up.size e)
            · rcases (HNX.out y).1 hy with e | e
              · rw [updD_other _ _ (HDN.out y e)]
                exact k3 y e
              · rw [e, updD_same]
            · have e1 : ¬ y = f t := fun e => hy ((HNX.out y).2 (.inr e))
              rw [updD_other _ _ e1]
              exact k4 y fun e => hy ((HNX.out y).2 (.inl e))
            · rcases e with e | e
              · rcases k2 i e with e | e
                · exact .inl e
                · omega
              · exact .inr e
          go_roundw
          case rel => exact ⟨t + 1, HT.out, by go_num, HFIN.out⟩
          case measure => have := HT.out; simp [intOf]; omega
        · obtain rfl : t = L := by omega
          have HE : Hid (TkS w wr r n m fu k D nx T p p.length u9) := by show TkS _ _ _ _ _ _ _ _ _ _ _ _ _; rw [HLL.out]; exact HS.out
          go_wp2_with fail
          go_ret2
          exact HE.out.done
theorem rtake_any (h : RK w r n m fu D nx T) (hf : FzO w fu k) (a : Option Addr) (c : Nat) (p : List Nat) (ha : SlI w a p.length (fun i => (p.getD i 0 : Nat))) (hc : p.length ≤ c) (hi : IntAt w a) (hd : p.Nodup) (hp : ∀ d ∈ p, d < n ∧ 0 < fre m (D d)) (hx : nx ≤ 1000000000) :
    Calls Try.prog 9 #[.pointer (some ⟨r, 0, none⟩), .slice a p.length c] w (TkE w r n m fu k D nx T p) :=
  rtake_in h hf a p.length c p (fun i => p.getD i 0) rfl (fun i hi => by simp [List.getD_eq_getElem?_getD, hi]) ha hc hi hd hp hx
end
end Go.Proofs.Ytcejdobmgbielaa
