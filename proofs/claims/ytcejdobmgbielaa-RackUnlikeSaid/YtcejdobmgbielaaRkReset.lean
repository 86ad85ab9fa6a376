/- The program's 'Reset' of a Rack. -/
import Derived.Test.YtcejdobmgbielaaRkTake
namespace Go.Proofs.Ytcejdobmgbielaa
open Go.RowKit
set_option linter.unusedVariables false

theorem us_mem (U : Nat → Bool) : ∀ m x, x ∈ us U m ↔ x < m ∧ U x = true := by
  intro m
  induction m with
  | zero => intro x; simp [us]
  | succ m ih =>
    intro x
    cases h : U m with
    | true =>
      rw [us_yes h, List.mem_append, ih, List.mem_singleton]
      constructor
      · rintro (⟨a, b⟩ | rfl)
        · exact ⟨by omega, b⟩
        · exact ⟨by omega, h⟩
      · rintro ⟨a, b⟩
        by_cases e : x = m
        · exact .inr e
        · exact .inl ⟨by omega, b⟩
    | false =>
      rw [us_no h, ih]
      constructor
      · rintro ⟨a, b⟩; exact ⟨by omega, b⟩
      · rintro ⟨a, b⟩
        refine ⟨?_, b⟩
        by_cases e : x = m
        · rw [e, h] at b; cases b
        · omega
theorem us_nodup (U : Nat → Bool) : ∀ m, (us U m).Nodup := by
  intro m
  induction m with
  | zero => simp [us]
  | succ m ih =>
    cases h : U m with
    | true =>
      rw [us_yes h, List.nodup_append]
      refine ⟨ih, by simp, fun a ha b hb => ?_⟩
      have e1 := (us_mem U m a).1 ha
      have e2 : b = m := by simpa using hb
      omega
    | false => rw [us_no h]; exact ih
theorem bls_alike {n : Nat} {U V : Nat → Bool} (h : ∀ i, i < n → U i = V i) : bls n U = bls n V := by
  unfold bls
  congr 1
  apply List.map_congr_left
  intro i hi
  rw [h i (List.mem_range.1 hi)]
section
variable {w w' : World} {r bb n m cap nx : Nat} {fu k : Option Nat} {D : Nat → DS} {T : Nat → Prop}
theorem Dk.alike {s : DS} {F : Nat → Prop} (h : Dk w m fu s F) {V : Nat → Bool} (hV : ∀ i, i < m → V i = s.U i) : Dk w m fu { s with U := V } F := by
  obtain ⟨d, G, h1, ⟨ub, k1, k2⟩, h4, h5, h6, h7, h8, h9, h3⟩ := h.ex
  exact ⟨⟨d, G, h1, ⟨ub, ⟨k1.head, ⟨by rw [bls_alike hV]; exact k1.row.heap⟩⟩, k2⟩, h4, h5, h6, h7, h8, h9, h3⟩, h.le⟩
/-- A Rack whose row of Bays is known. -/
def RKb (bb cap : Nat) (w : World) (r n m : Nat) (fu : Option Nat) (D : Nat → DS) (nx : Nat) (T : Nat → Prop) : Prop :=
  (∃ T0, RKh w r bb n cap D nx ∧ Mn w n m fu D T0 ∧ ∀ g, T g ↔ (g = r ∨ g = bb) ∨ T0 g) ∧ 1 ≤ n ∧ n ≤ 24 ∧ m ≤ 64 ∧ 1 ≤ nx
theorem RKb.rk (h : RKb bb cap w r n m fu D nx T) : RK w r n m fu D nx T := by
  obtain ⟨⟨T0, h1, h2, h3⟩, h4⟩ := h
  exact ⟨⟨bb, cap, T0, h1, h2, h3⟩, h4⟩
theorem RKb.head (h : RKb bb cap w r n m fu D nx T) : RKh w r bb n cap D nx := by
  obtain ⟨⟨T0, h1, h2, h3⟩, h4⟩ := h
  exact h1
theorem RKb.nxt (h : RKb bb cap w r n m fu D nx T) (u : Up Nul w w') : RKb bb cap w' r n m fu D nx T := by
  obtain ⟨⟨T0, h1, h2, h3⟩, h4⟩ := h
  exact ⟨⟨T0, h1.nxt u, h2.up u fun _ _ => id, h3⟩, h4⟩
theorem RKb.alike {D' : Nat → DS} (h : RKb bb cap w r n m fu D nx T) (hD : ∀ i, i < n → ∃ V, D' i = { D i with U := V } ∧ ∀ s, s < m → V s = (D i).U s) : RKb bb cap w r n m fu D' nx T := by
  obtain ⟨⟨T0, h1, h2, h3⟩, h4⟩ := h
  refine ⟨⟨T0, h1.congr fun i hi => ?_, ?_, h3⟩, h4⟩
  · obtain ⟨V, e, _⟩ := hD i hi
    rw [e]
  · obtain ⟨F, g1, g2, g3⟩ := h2.ex
    exact ⟨⟨F, fun i hi => by obtain ⟨V, e, hV⟩ := hD i hi; rw [e]; exact (g1 i hi).alike hV, g2, g3⟩⟩
theorem RKb.one (h : RKb bb cap w r n m fu D nx T) (hf : FzO w fu k) (i : Nat) (hi : i < n) : ∃ F, Dk w m fu (D i) F ∧ ∀ w' k' s', s'.q = (D i).q → Dn w w' m fu k' F s' → Rd (RKb bb cap) w w' r n m fu k' T Nul (updD D i s') nx := by
  obtain ⟨⟨T0, h1, h2, h3⟩, h4⟩ := h
  obtain ⟨F, g1, g2, g3⟩ := h2.one hf hi
  refine ⟨F, g1, fun w' k' s' hq dn => ?_⟩
  have md := g3 w' k' s' dn
  obtain ⟨T1, a1, a2⟩ := md.ex
  refine ⟨⟨fun g => (g = r ∨ g = bb) ∨ T1 g, ⟨⟨T1, (h1.up md.up ?_ ?_).congr fun j hj => ?_, a1, fun _ => Iff.rfl⟩, h4⟩, fun g hg => ?_, fun g hx => hx.elim⟩, md.up.mono fun g _ hg => ?_, md.fz⟩
  · rintro (e | e)
    · exact h1.off h2 (.inl rfl) e
    · exact h1.nf hf r e (.inl rfl)
  · rintro (e | e)
    · exact h1.off h2 (.inr rfl) e
    · exact h1.nf hf bb e (.inr rfl)
  · by_cases e : j = i
    · rw [e, updD_same, hq]
    · rw [updD_other D s' e]
  · rcases hg with e | e
    · exact .inl ((h3 g).2 (.inl e))
    · rcases a2 g e with e | e
      · exact .inl ((h3 g).2 (.inr e))
      · exact .inr e
  · rcases hg with e | e
    · exact .inl ((h3 g).2 (.inr e))
    · exact .inr e
/-- One call after another. -/
theorem Rd.cat {PR : World → Nat → Nat → Nat → Option Nat → (Nat → DS) → Nat → (Nat → Prop) → Prop} {w1 w2 : World} {k2 : Option Nat} {D2 : Nat → DS} {n2 : Nat} {T' : Nat → Prop} (a2 : ∀ g, T' g → T g ∨ w.heap.size ≤ g) (u1 : Up (fun g => T g ∨ fu = some g) w w1)
    (d : Rd PR w1 w2 r n m fu k2 T' Nul D2 n2) : Rd PR w w2 r n m fu k2 T Nul D2 n2 := by
  obtain ⟨T2, b1, b2, _⟩ := d.ex
  refine ⟨⟨T2, b1, fun g hg => ?_, fun g hx => hx.elim⟩, u1.thn d.up fun g hl hg => ?_, d.fz⟩
  · rcases b2 g hg with e | e
    · exact a2 g e
    · exact .inr (Nat.le_trans u1.size e)
  · rcases hg with e | e
    · rcases a2 g e with e | e
      · exact .inl e
      · omega
    · exact .inr e
theorem Rd.thn {PR : World → Nat → Nat → Nat → Option Nat → (Nat → DS) → Nat → (Nat → Prop) → Prop} {w1 w2 : World} {k1 k2 : Option Nat} {D1 D2 : Nat → DS} {n1 n2 : Nat} (h1 : Rd PR w w1 r n m fu k1 T Nul D1 n1)
    (h2 : ∀ T', PR w1 r n m fu D1 n1 T' → FzO w1 fu k1 → Rd PR w1 w2 r n m fu k2 T' Nul D2 n2) : Rd PR w w2 r n m fu k2 T Nul D2 n2 := by
  obtain ⟨T', a1, a2, _⟩ := h1.ex
  exact Rd.cat a2 h1.up (h2 T' a1 h1.fz)
theorem Rd.more {w1 : World} {D1 : Nat → DS} {n1 : Nat} (h1 : Rd (RKb bb cap) w w1 r n m fu k T Nul D1 n1) (u : Up Nul w1 w') : Rd (RKb bb cap) w w' r n m fu k T Nul D1 n1 :=
  h1.thn fun T' a hf => ⟨⟨T', a.nxt u, fun g hg => .inl hg, fun g hx => hx.elim⟩, u.mono fun _ _ h => h.elim, hf.up u fun _ _ => id⟩
theorem Rd.alike {w1 : World} {D1 D2 : Nat → DS} {n1 : Nat} (h1 : Rd (RKb bb cap) w w1 r n m fu k T Nul D1 n1) (hD : ∀ i, i < n → ∃ V, D2 i = { D1 i with U := V } ∧ ∀ s, s < m → V s = (D1 i).U s) : Rd (RKb bb cap) w w1 r n m fu k T Nul D2 n1 := by
  obtain ⟨T', a1, a2, a3⟩ := h1.ex
  exact ⟨⟨T', a1.alike hD, a2, a3⟩, h1.up, h1.fz⟩
theorem RK.bayUsed (h : RK w r n m fu D nx T) (hf : FzO w fu k) (i : Nat) (hi : i < n) : Calls Try.prog 14 #[.pointer (some ⟨(D i).q, 0, none⟩)] w fun e w' =>
    ∃ a c, e = .returned (.slice a (us (D i).U m).length c) ∧ SlI w' a (us (D i).U m).length (fun j => ((us (D i).U m).getD j 0 : Nat)) ∧ IntAt w' a ∧ Up Nul w w' := by
  obtain ⟨F, g1, _⟩ := h.one hf i hi
  refine (dk_used g1).mono ?_
  rintro e w' ⟨v, rfl, ho, u⟩
  obtain ⟨a, c, rfl, h1, _, h2⟩ := OwnV.sli (p := us (D i).U m) ho (by have := us_length (D i).U m; have := h.le; omega)
  exact ⟨a, c, rfl, h1, h2, u⟩
theorem RKb.bayGive (h : RKb bb cap w r n m fu D nx T) (hf : FzO w fu k) (i j : Nat) (hi : i < n) (hj : j < m) (hU : (D i).U j = true) : Calls Try.prog 37 #[.pointer (some ⟨(D i).q, 0, none⟩), .int .i64 (j : Nat)] w fun e w' =>
    e = .returned (.bool true) ∧ Rd (RKb bb cap) w w' r n m fu k T Nul (updD D i { D i with U := updB (D i).U j false }) nx := by
  obtain ⟨F, g1, g2⟩ := h.one hf i hi
  refine (dk_give g1 hf (j : Nat)).mono ?_
  rintro e w' (⟨_, rfl, dn⟩ | ⟨hn, _⟩)
  · rw [Int.toNat_natCast] at dn
    exact ⟨rfl, g2 _ _ { D i with U := updB (D i).U j false } rfl dn⟩
  · exact absurd ⟨Int.natCast_nonneg _, by omega, by rw [Int.toNat_natCast]; exact hU⟩ hn
/-- A row of ints stays over a call. -/
theorem Rd.ints {X : Nat → Prop} {k' : Option Nat} {D' : Nat → DS} {nx' L : Nat} {a : Option Addr} {f : Nat → Int} {PR : World → Nat → Nat → Nat → Option Nat → (Nat → DS) → Nat → (Nat → Prop) → Prop} (d : Rd PR w w' r n m fu k' T X D' nx') (h : RK w r n m fu D nx T) (hf : FzO w fu k) (h1 : SlI w a L f) (h2 : IntAt w a) : SlI w' a L f ∧ IntAt w' a := by
  have hk : ∀ x, a = some x → w'.heap[x.block]? = w.heap[x.block]? := fun x hx => by
    obtain ⟨A, F, e⟩ := h2 x hx
    refine d.up.block _ (Array.getElem?_eq_some_iff.1 e).1 ?_
    rintro (hT | hT)
    · exact (h.ty hT).ne e int_tr
    · have hz := hf
      rw [hT] at hz
      exact ne_type e (Fz.heap hz) (by decide) rfl
  refine ⟨h1.keep d.up.size hk, fun x hx => ?_⟩
  obtain ⟨A, F, e⟩ := h2 x hx
  exact ⟨A, F, (hk x hx).trans e⟩
/-- The first t disks have no slot that is used. -/
def rstD (D : Nat → DS) (t i : Nat) : DS := if i < t then { D i with U := fun _ => false } else D i
theorem rstD_same (D : Nat → DS) (t : Nat) : rstD D t t = D t := by unfold rstD; rw [if_neg (by omega)]
/-- The slots of one disk are given, s of them. -/
structure RsI (bb cap : Nat) (w wx : World) (r n m : Nat) (fu k : Option Nat) (D : Nat → DS) (nx : Nat) (T : Nat → Prop) (t : Nat) (a : Option Addr) (L : Nat) (us : List Nat) (s : Nat) : Prop where
  ex : ∃ V : Nat → Bool, Rd (RKb bb cap) w wx r n m fu k T Nul (updD (rstD D t) t { D t with U := V }) nx ∧ ∀ y, V y = if y ∈ us.take s then false else (D t).U y
  row : SlI wx a L (fun j => (us.getD j 0 : Nat))
  at_ : IntAt wx a
theorem RsI.start {wx : World} {t L : Nat} {a : Option Addr} {us : List Nat} (h : Rd (RKb bb cap) w wx r n m fu k T Nul (rstD D t) nx) (h1 : SlI wx a L (fun j => (us.getD j 0 : Nat))) (h2 : IntAt wx a) : RsI bb cap w wx r n m fu k D nx T t a L us 0 := by
  refine ⟨⟨(D t).U, h.alike fun i hi => ?_, fun y => by simp⟩, h1, h2⟩
  by_cases e : i = t
  · subst e
    rw [updD_same, rstD_same]
    exact ⟨_, rfl, fun s _ => rfl⟩
  · rw [updD_other _ _ e]
    exact ⟨_, rfl, fun s _ => rfl⟩
theorem RsI.next {wx : World} {t L s y : Nat} {a : Option Addr} {us : List Nat} (h : RsI bb cap w wx r n m fu k D nx T t a L us s) (ht : t < n) (hs : s < us.length) (hy : us[s] = y) (hd : us.Nodup) (hm : y < m) (hu : (D t).U y = true) :
    Calls Try.prog 37 #[.pointer (some ⟨(D t).q, 0, none⟩), .int .i64 (y : Nat)] wx fun e w' => e = .returned (.bool true) ∧ RsI bb cap w w' r n m fu k D nx T t a L us (s + 1) := by
  obtain ⟨V, hd1, hV⟩ := h.ex
  obtain ⟨T1, a1, a2, _⟩ := hd1.ex
  have hny : ¬ y ∈ us.take s := fun e => by
    obtain ⟨j, hj, e⟩ := List.mem_iff_getElem.1 e
    rw [List.length_take] at hj
    rw [List.getElem_take, ← hy] at e
    exact nod_ne hd (by omega) hs (by omega) e
  have hg := a1.bayGive hd1.fz t y ht hm (by rw [updD_same]; show V y = true; rw [hV, if_neg hny]; exact hu)
  rw [updD_same] at hg
  refine hg.mono ?_
  rintro e w' ⟨rfl, d⟩
  obtain ⟨r1, r2⟩ := d.ints a1.rk hd1.fz h.row h.at_
  refine ⟨rfl, ⟨updB V y false, ?_, fun z => ?_⟩, r1, r2⟩
  · refine (Rd.cat a2 hd1.up d).alike fun i hi => ?_
    by_cases e : i = t
    · subst e
      rw [updD_same, updD_same]
      exact ⟨_, rfl, fun s _ => rfl⟩
    · rw [updD_other _ _ e, updD_other _ _ e, updD_other _ _ e]
      exact ⟨_, rfl, fun s _ => rfl⟩
  · rw [List.take_succ_eq_append_getElem hs, hy]
    unfold updB
    by_cases e : z = y
    · rw [if_pos e, if_pos (by simp [e])]
    · rw [if_neg e, hV]
      simp [e]
theorem RsI.done {wx : World} {t L : Nat} {a : Option Addr} (h : RsI bb cap w wx r n m fu k D nx T t a L (us (D t).U m) (us (D t).U m).length) : Rd (RKb bb cap) w wx r n m fu k T Nul (rstD D (t + 1)) nx := by
  obtain ⟨V, hd1, hV⟩ := h.ex
  refine hd1.alike fun i hi => ?_
  by_cases e : i = t
  · subst e
    rw [updD_same]
    unfold rstD
    rw [if_pos (by omega)]
    refine ⟨fun _ => false, rfl, fun s hs => ?_⟩
    show false = V s
    rw [hV, List.take_length]
    by_cases hm : s ∈ us (D i).U m
    · rw [if_pos hm]
    · rw [if_neg hm]
      cases hu : (D i).U s with
      | false => rfl
      | true => exact absurd ((us_mem _ _ _).2 ⟨hs, hu⟩) hm
  · rw [updD_other _ _ e]
    refine ⟨(rstD D t i).U, ?_, fun s _ => rfl⟩
    unfold rstD
    by_cases e2 : i < t
    · rw [if_pos e2, if_pos (by omega)]
    · rw [if_neg e2, if_neg (by omega)]
set_option maxRecDepth 100000 in
set_option maxHeartbeats 3200000 in
theorem rreset_any (h : RK w r n m fu D nx T) (hf : FzO w fu k) (x : Nat) (hx1 : 1 ≤ x) (hx2 : x ≤ 1000000000) :
    Calls Try.prog 11 #[.pointer (some ⟨r, 0, none⟩), .int .i64 (x : Nat)] w fun e w' => e = .returned (.tuple #[]) ∧ Rd RK w w' r n m fu k T Nul (rstD D n) x := by
  obtain ⟨bb, cap, T0, h1, h2, h3⟩ := h.ex
  have HLE := hid h.le
  have HR0 : Hid (Rd (RKb bb cap) w w r n m fu k T Nul (rstD D 0) nx) := by
    refine ⟨⟨T, ⟨⟨T0, h1.congr fun i hi => ?_, h2.congr fun i hi => ?_, h3⟩, h.le⟩, fun g hg => .inl hg, fun g hx => hx.elim⟩, Up.refl _ _, hf⟩
    · unfold rstD; rw [if_neg (by omega)]
    · unfold rstD; rw [if_neg (by omega)]
  have c0 := h1.c0
  have HX : Hid (1 ≤ x ∧ max (x : Int) 1 = (x : Int)) := by refine ⟨hx1, ?_⟩; omega
  clear h hf h1 h2 h3 hx1 hx2
  go_enter Try.func11, Try.ntmps11
  go_wp2_with fail
  clear c0
  go_loopw [13] (fun i wr => ∃ t : Nat, t ≤ n ∧ i = .int .i64 (t : Nat) ∧ Rd (RKb bb cap) w wr r n m fu k T Nul (rstD D t) nx) (fun i _ => n - (intOf i).toNat)
  case atStart => exact ⟨0, Nat.zero_le _, rfl, HR0.out⟩
  case round =>
    obtain ⟨t, ht, rfl, hd⟩ := hrel
    have HD := hid hd
    clear hd HR0
    have i0 : (0 : Int) ≤ (t : Int) := by omega
    have i2 : (n : Int) ≤ 24 := by have := HLE.out; omega
    by_cases hlt : t < n
    · have i1 : (t : Int) < (n : Int) := by omega
      have HT := hid hlt
      obtain ⟨T1, a1, _, _⟩ := HD.out.ex
      have c1 := a1.head.cell hlt
      rw [rstD_same] at c1
      have HU := hid (a1.rk.bayUsed HD.out.fz t hlt)
      rw [rstD_same] at HU
      obtain ⟨q, Q⟩ : ∃ q, Hid ((D t).q = q) := ⟨_, rfl⟩
      rw [Q.out] at c1 HU
      clear a1 ht hlt
      go_wp2_with fail
      refine HU.out.mono ?_
      rintro e wa ⟨a, c, rfl, hs, hi, u⟩
      have HI := hid (RsI.start (HD.out.more u) hs hi)
      obtain ⟨l, HL⟩ : ∃ l, Hid (us (D t).U m = l) := ⟨_, rfl⟩
      have HLL : Hid (l.length ≤ 64) := by show _ ≤ _; rw [← HL.out]; have := us_length (D t).U m; have := HLE.out; omega
      rw [HL.out] at HI ⊢
      obtain ⟨L, HLn⟩ : ∃ L, Hid (l.length = L) := ⟨_, rfl⟩
      rw [HLn.out] at HI HLL ⊢
      clear hs hi u HU c1
      go_wp2_with fail
      go_loopw [20] (fun i wx => ∃ s : Nat, s ≤ L ∧ i = .int .i64 (s : Nat) ∧ RsI bb cap w wx r n m fu k D nx T t a L l s) (fun i _ => L - (intOf i).toNat)
      case atStart => exact ⟨0, Nat.zero_le _, rfl, HI.out⟩
      case round =>
        obtain ⟨s, hs, rfl, hI⟩ := hrel
        have HS := hid hI
        clear hI HI
        have j0 : (0 : Int) ≤ (s : Int) := by omega
        have j2 : (L : Int) ≤ 64 := by have := HLL.out; omega
        by_cases hls : s < L
        · have j1 : (s : Int) < (L : Int) := by omega
          have HSL := hid hls
          obtain ⟨g, o, rfl, hg, hcl⟩ := HS.out.row.row.resolve_left (by omega)
          have hsl : s < l.length := by rw [HLn.out]; exact hls
          have c2 := hcl s hls
          have hy : l.getD s 0 = l[s] := by simp [List.getD_eq_getElem?_getD, hsl]
          rw [hy] at c2
          obtain ⟨hm, hu⟩ := (us_mem (D t).U m l[s]).1 (by rw [HL.out]; exact List.getElem_mem hsl)
          have HG := hid (HS.out.next HT.out hsl rfl (by rw [← HL.out]; exact us_nodup _ _) hm hu)
          rw [Q.out] at HG
          generalize l[s] = y at c2 HG
          clear hs hls hg hcl hsl hy hm hu
          go_wp2_with fail
          refine HG.out.mono ?_
          rintro e wb ⟨rfl, hn⟩
          have HN := hid hn
          clear hn
          go_wp2_with fail
          go_roundw
          case rel => exact ⟨s + 1, HSL.out, by go_num, HN.out⟩
          case measure => have := HSL.out; simp [intOf]; omega
        · obtain rfl : s = L := by omega
          have HE : Hid (Rd (RKb bb cap) w wr r n m fu k T Nul (rstD D (t + 1)) nx) := RsI.done (L := s) (a := a) (by
            have := HS.out
            rw [← HLn.out, ← HL.out] at this
            rw [← HLn.out, ← HL.out]
            exact this)
          go_wp2_with fail
          go_roundw
          case rel => exact ⟨t + 1, HT.out, by go_num, HE.out⟩
          case measure => have := HT.out; simp [intOf]; omega
    · obtain rfl : t = n := by omega
      obtain ⟨T1, a1, a2, _⟩ := HD.out.ex
      have c1 := a1.head.c1
      have f1 := a1.head.f1
      have i3 := HX.out.2
      have HE : Hid (Rd RK w (wr.setCell ⟨r, 1, none⟩ (.int .i64 (x : Nat))) r t m fu k T Nul (rstD D t) x) := by
        obtain ⟨⟨T2, b1, b2, b3⟩, b4⟩ := a1
        exact Rd.cat a2 HD.out.up (RK.set b1 b2 HD.out.fz b3 b4 HX.out.1)
      clear a1 a2
      go_wp2_with fail
      go_end0
      exact ⟨rfl, HE.out⟩
end
end Go.Proofs.Ytcejdobmgbielaa
