/- The Rack's calls as a law meets them; rows of ints alike; 'awake' of stage 10. -/
import Derived.Test.YtcejdobmgbielaaRkFace
import Derived.Deep.MidRow
import Derived.Laws.StructEq
namespace Go.Proofs.Ytcejdobmgbielaa
open Go.RowKit
set_option linter.unusedVariables false

/-! ### Rows of ints -/
theorem OwnV.sli {base : Nat} {w : World} {v : Value} {p : List Nat} (h : OwnV 3 base w v (intV p)) (hl : p.length ≤ 1000) : ∃ a c, v = .slice a p.length c ∧ SlI w a p.length (fun i => (p.getD i 0 : Nat)) ∧ p.length ≤ c ∧ IntAt w a := by
  have e0 : (intV p).length = p.length := by simp [intV]
  obtain ⟨a, c, e⟩ := h.shape
  rw [e0] at e
  refine ⟨a, c, e, ⟨?_, by omega⟩, ?_, fun x hx => ?_⟩
  rotate_left
  · by_cases hp : p.length = 0
    · omega
    · obtain ⟨g, cap, e1, _, _, _, _, hcap⟩ := h.row (by omega)
      rw [e] at e1
      injection e1 with _ _ e3
      omega
  · rcases h.2 with ⟨e1, _⟩ | ⟨g, cap, cur, e1, _, hg, _⟩
    · rw [e, hx] at e1; cases e1
    · rw [e, hx] at e1
      injection e1 with e1
      injection e1 with e1
      subst e1
      exact ⟨_, _, hg⟩
  by_cases hp : p.length = 0
  · exact .inl hp
  · obtain ⟨g, cap, e1, _, l1, r1, _⟩ := h.row (by omega)
    rw [e] at e1
    injection e1 with e1
    refine .inr ⟨g, 0, e1, l1, fun i hi => ?_⟩
    rw [Nat.zero_add]
    refine r1 i _ ?_
    simp [intV, List.getD_eq_getElem?_getD, hi]
theorem SlI.keep {w w' : World} {a : Option Addr} {n : Nat} {f : Nat → Int} (h : SlI w a n f) (hs : w.heap.size ≤ w'.heap.size) (hk : ∀ x, a = some x → w'.heap[x.block]? = w.heap[x.block]?) : SlI w' a n f := by
  refine ⟨?_, h.le⟩
  rcases h.row with e | ⟨g, o, e, l, r⟩
  · exact .inl e
  · refine .inr ⟨g, o, e, Nat.lt_of_lt_of_le l hs, fun i hi => ?_⟩
    have := hk _ e
    have r := r i hi
    simp only [World.cell?] at r ⊢
    rw [this]
    exact r
theorem sameI_yes (a1 a2 : Option Addr) (L c1 c2 : Nat) (f g : Nat → Int) (w : World) (hL : L ≤ 1000) (h1 : SlI w a1 L f) (h2 : SlI w a2 L g) (he : ∀ i, i < L → f i = g i) :
    Calls Try.prog 39 #[.slice a1 L c1, .slice a2 L c2] w fun e w' => e = .returned (.bool true) ∧ Up Nul w w' := by
  have HL : Hid (L ≤ 1000) := hL
  have HC : Hid (∀ i, i < L → ∃ g1 o1 g2 o2 x, a1 = some ⟨g1, o1, none⟩ ∧ a2 = some ⟨g2, o2, none⟩ ∧ ∀ W, Up Nul w W → W.cell? ⟨g1, o1 + i, none⟩ = some (.int .i64 x) ∧ W.cell? ⟨g2, o2 + i, none⟩ = some (.int .i64 x)) := fun i hi => by
    rcases h1.row with e | ⟨g1, o1, e1, l1, r1⟩
    · omega
    · rcases h2.row with e | ⟨g2, o2, e2, l2, r2⟩
      · omega
      · refine ⟨g1, o1, g2, o2, f i, e1, e2, fun W u => ⟨(u.cell (p := ⟨g1, o1 + i, none⟩) l1 (fun h => h)).trans (r1 i hi), ?_⟩⟩
        rw [he i hi]
        exact (u.cell (p := ⟨g2, o2 + i, none⟩) l2 (fun h => h)).trans (r2 i hi)
  clear h1 h2 hL he
  have hll : ((L : Int) == (L : Int)) = true := by simp
  go_enter Try.func39, Try.ntmps39
  go_wp2_with fail
  go_loopw [5] (fun i wr => ∃ t : Nat, t ≤ L ∧ i = .int .i64 (t : Nat) ∧ Up Nul w wr) (fun i _ => L - (intOf i).toNat)
  case atStart => exact ⟨0, Nat.zero_le _, rfl, Up.refl _ _⟩
  case round =>
    obtain ⟨t, ht, rfl, hu⟩ := hrel
    have HU := hid hu
    clear hu
    have i0 : (0 : Int) ≤ (t : Int) := by omega
    have i2 : (t : Int) ≤ 1000 := by have := HL.out; omega
    by_cases hlt : t < L
    · have i1 : (t : Int) < (L : Int) := by omega
      obtain ⟨g1, o1, g2, o2, x, rfl, rfl, hc⟩ := HC.out t hlt
      obtain ⟨k1, k2⟩ := hc _ HU.out
      have HT := hid hlt
      clear hc hlt ht
      have hxx : (x == x) = true := by simp
      go_wp2_with fail
      go_quiet (fail)
      have UQ : Hid (Up Nul w (wr.drewN nq)) := HU.out.drewN nq
      generalize wr.drewN nq = w2 at UQ ⊢
      go_wp2_with fail
      go_roundw
      case rel => exact ⟨t + 1, HT.out, by go_num, UQ.out⟩
      case measure => have := HT.out; simp [intOf]; omega
    · obtain rfl : t = L := by omega
      go_wp2_with fail
      go_ret
      exact ⟨rfl, HU.out⟩
/-! ### The Rack's calls -/
theorem us_none (m : Nat) : us (fun _ => false) m = [] := by
  induction m with
  | zero => rfl
  | succ m ih => rw [us_no rfl, ih]
structure NewD (n : Nat) (D : Nat → DS) : Prop where
  U : ∀ i, i < n → (D i).U = fun _ => false
  live : ∀ i, i < n → (D i).live = true
  R : ∀ i, i < n → (D i).R = fun _ => zer 96
  ps : ∀ i, i < n → (D i).ps = []
theorem NewD.fre {n m : Nat} {D : Nat → DS} (h : NewD n D) {i : Nat} (hi : i < n) : fre m (D i) = m := by
  unfold Go.Proofs.Ytcejdobmgbielaa.fre
  rw [h.U i hi, us_none]
  rfl
theorem NewD.slo {n m : Nat} {D : Nat → DS} (h : NewD n D) {i : Nat} (hi : i < n) : slo m (D i) = 0 := by
  unfold Go.Proofs.Ytcejdobmgbielaa.slo
  rw [h.U i hi]
  cases m <;> rfl
section
variable {O : RackOps} {P : Nat → Prop} {w0 w w' : World} {r n m nx : Nat} {fu k : Option Nat} {D : Nat → DS}
theorem rh_new (O : RackOps) (h0 : Up Nul w0 w) (hf : FzO w fu k) (hn : ∀ f, fu = some f → w0.heap.size ≤ f) (n1 : 1 ≤ n) (n2 : n ≤ 24) (m1 : 1 ≤ m) (m2 : m ≤ 64) :
    Calls Try.prog 7 #[.int .i64 (n : Nat), .int .i64 (m : Nat), .pointer (fp fu)] w fun e w' => ∃ r D, e = .returned (.tuple #[.pointer (some ⟨r, 0, none⟩), .int .i64 0]) ∧ RH O Nul w0 w' r n m fu k D 1 ∧ NewD n D ∧ Up Nul w w' := by
  refine (O.new n1 n2 m1 m2 hf).mono ?_
  rintro e w' ⟨r, D, T, rfl, h1, h2, h3, h4⟩
  exact ⟨r, D, rfl, ⟨⟨T, h1, fun g hg => Nat.le_trans h0.size (h4 g hg), fun _ h => h.elim⟩, hf.up h3 fun _ _ h => h, fun f e => ⟨hn f e, fun h => h⟩, fun _ h => h.elim, h0.trans h3⟩, ⟨fun i hi => (h2 i hi).1, fun i hi => (h2 i hi).2.1, fun i hi => (h2 i hi).2.2.1, fun i hi => (h2 i hi).2.2.2⟩, h3⟩
/-- Places told. -/
structure Told (n m : Nat) (D : Nat → DS) (cl : Int) (av : Int → Prop) (k : Nat) (w w' : World) (v : Value) (p : List Nat) : Prop where
  plc : Plc (Fit n m D cl av) (fun d => fre m (D d)) k p
  row : OwnV 3 w.heap.size w' v (intV p)
theorem Plc.lt {C : Nat → Prop} {F : Nat → Nat} {k n : Nat} {p : List Nat} (h : Plc C F k p) (hc : ∀ d, C d → d < n) : k ≤ n := by
  rw [← h.len]
  have hs : p ⊆ List.range n := fun d hd => List.mem_range.2 (hc d (h.all d hd))
  have := h.nodup.length_le_of_subset hs
  rwa [List.length_range] at this
theorem Told.le {cl : Int} {av : Int → Prop} {x : Nat} {v : Value} {p : List Nat} (h : Told n m D cl av x w w' v p) (hn : n ≤ 24) : p.length ≤ 24 := by
  have := h.plc.lt (n := n) fun d hd => hd.1
  rw [h.plc.len]; omega
theorem rh_place (h : RH O P w0 w r n m fu k D nx) (x cl : Int) {a : Option Addr} {l : Nat} (c : Nat) {f : Nat → Int} (hf : SlI w a l f) (hl : l ≤ 1000) (hx : -9223372036854775808 ≤ x ∧ x ≤ 9223372036854775807) :
    Calls Try.prog 8 #[.pointer (some ⟨r, 0, none⟩), .int .i64 x, .int .i64 cl, .slice a l c] w fun e w' =>
      (0 ≤ x ∧ ∃ p a2 c2, Told n m D cl (fun d => ∃ i, i < l ∧ f i = d) x.toNat w w' (.slice a2 p.length c2) p ∧ e = .returned (.tuple #[.slice a2 p.length c2, .bool true]) ∧ (SlI w' a2 p.length (fun i => (p.getD i 0 : Nat)) ∧ p.length ≤ c2 ∧ IntAt w' a2) ∧ RH O (fun x => P x ∨ Value.ownBlock (.slice a2 p.length c2) = some x) w0 w' r n m fu k D nx ∧ Up Nul w w') ∨
       ((x < 0 ∨ ∀ p : List Nat, p.Nodup → (∀ d ∈ p, Fit n m D cl (fun d => ∃ i, i < l ∧ f i = d) d) → (p.length : Int) < x) ∧ (∃ b c, e = .returned (.tuple #[.slice b 0 c, .bool false])) ∧ RH O P w0 w' r n m fu k D nx ∧ Up Nul w w') := by
  obtain ⟨T, h1, _⟩ := h.ex
  refine (O.place h1 h.fz x cl a l c f hf hl hx).mono ?_
  rintro e w' ⟨⟨h0, p, v, g1, rfl, g2⟩ | ⟨h0, b, c, rfl⟩, u⟩
  · have t : Told n m D cl (fun d => ∃ i, i < l ∧ f i = d) x.toNat w w' v p := ⟨g1, g2⟩
    obtain ⟨a2, c2, rfl, hs⟩ := g2.sli (by have := t.le h.le.2.1; omega)
    refine .inl ⟨h0, p, a2, c2, t, rfl, hs, h.owns u fun y hy => ?_, u⟩
    rcases hy with hy | hy
    · exact .inl hy
    · exact .inr (World.ownsRow.lt g2 y hy)
  · exact .inr ⟨h0, ⟨b, c, rfl⟩, h.nxt u, u⟩
/-- The Locs that a Take tells. -/
def locs (m nx : Nat) (D : Nat → DS) (p : List Nat) : List Lc := p.zipIdx.map fun x => ⟨x.1, slo m (D x.1), nx + x.2⟩
theorem locs_length (m nx : Nat) (D : Nat → DS) (p : List Nat) : (locs m nx D p).length = p.length := by simp [locs]
theorem locs_at (m nx : Nat) (D : Nat → DS) (p : List Nat) {i : Nat} (hi : i < p.length) (h : i < (locs m nx D p).length) : (locs m nx D p)[i] = ⟨p[i], slo m (D p[i]), nx + i⟩ := by simp [locs]
theorem rh_take (h : RH O P w0 w r n m fu k D nx) {a : Option Addr} (c : Nat) {p : List Nat} (hp : SlI w a p.length (fun i => (p.getD i 0 : Nat)) ∧ p.length ≤ c ∧ IntAt w a) (hd : p.Nodup) (hf : ∀ d ∈ p, d < n ∧ 0 < fre m (D d)) (hx : nx ≤ 1000000000) :
    Calls Try.prog 9 #[.pointer (some ⟨r, 0, none⟩), .slice a p.length c] w fun e w' =>
      ∃ v D', e = .returned (.tuple #[v, .bool true]) ∧ OwnL w.heap.size w' v (locs m nx D p) ∧ (∀ d ∈ p, D' d = tkD m (D d)) ∧ (∀ d, d ∉ p → D' d = D d) ∧ RH O (fun x => P x ∨ v.ownBlock = some x) w0 w' r n m fu k D' (nx + p.length) ∧ Sp P w w' ∧ w.heap.size ≤ w'.heap.size := by
  obtain ⟨T, h1, h2, h3⟩ := h.ex
  refine (O.take h1 h.fz a c p hp.1 hp.2.1 hp.2.2 hd hf hx).mono ?_
  rintro e w' ⟨v, D', rfl, g1, g2, g3, g4⟩
  obtain ⟨x1, x2⟩ := RH.didX h h1 h2 h3 g4 fun x hx => g1.lt x hx
  exact ⟨v, D', rfl, g1, g2, g3, x1, x2, g4.up.size⟩
theorem rh_next (h : RH O P w0 w r n m fu k D nx) : Calls Try.prog 10 #[.pointer (some ⟨r, 0, none⟩)] w fun e w' => e = .returned (.int .i64 (nx : Nat)) ∧ RH O P w0 w' r n m fu k D nx ∧ Up Nul w w' := by
  obtain ⟨T, h1, _⟩ := h.ex
  refine (O.next h1).mono ?_
  rintro e w' ⟨rfl, u⟩
  exact ⟨rfl, h.nxt u, u⟩
theorem rh_bay (h : RH O P w0 w r n m fu k D nx) {i : Nat} (hi : i < n) : Calls Try.prog 13 #[.pointer (some ⟨r, 0, none⟩), .int .i64 (i : Nat)] w fun e w' => e = .returned (.pointer (some ⟨(D i).q, 0, none⟩)) ∧ RH O P w0 w' r n m fu k D nx ∧ Up Nul w w' := by
  obtain ⟨T, h1, _⟩ := h.ex
  refine (O.bay h1 i hi).mono ?_
  rintro e w' ⟨rfl, u⟩
  exact ⟨rfl, h.nxt u, u⟩
theorem fre_us (h : m ≤ 64) (s : DS) : ((m : Int) - ((us s.U m).length : Nat)) = (fre m s : Nat) := by
  have := us_length s.U m
  unfold fre
  omega
theorem rh_free (h : RH O P w0 w r n m fu k D nx) {i : Nat} (hi : i < n) : Calls Try.prog 21 #[.pointer (some ⟨(D i).q, 0, none⟩)] w fun e w' => e = .returned (.int .i64 (fre m (D i) : Nat)) ∧ RH O P w0 w' r n m fu k D nx ∧ Up Nul w w' := by
  obtain ⟨T, h1, _⟩ := h.ex
  obtain ⟨F, g1, _⟩ := O.one h1 h.fz i hi
  refine (dk_free g1).mono ?_
  rintro e w' ⟨rfl, u⟩
  exact ⟨by rw [fre_us h.le.2.2.1], h.nxt u, u⟩
theorem rh_used (h : RH O P w0 w r n m fu k D nx) {i : Nat} (hi : i < n) : Calls Try.prog 14 #[.pointer (some ⟨(D i).q, 0, none⟩)] w fun e w' => ∃ a c, e = .returned (.slice a (us (D i).U m).length c) ∧ RH O P w0 w' r n m fu k D nx ∧ Up Nul w w' := by
  obtain ⟨T, h1, _⟩ := h.ex
  obtain ⟨F, g1, _⟩ := O.one h1 h.fz i hi
  refine (dk_used g1).mono ?_
  rintro e w' ⟨v, rfl, o, u⟩
  obtain ⟨a, c, rfl⟩ := o.shape
  rw [usV_length]
  exact ⟨a, c, rfl, h.nxt u, u⟩
theorem rh_disk (h : RH O P w0 w r n m fu k D nx) {i : Nat} (hi : i < n) : Calls Try.prog 19 #[.pointer (some ⟨(D i).q, 0, none⟩)] w fun e w' => e = .returned (.pointer (some ⟨(D i).b, 0, none⟩)) ∧ RH O P w0 w' r n m fu k D nx ∧ Up Nul w w' := by
  obtain ⟨T, h1, _⟩ := h.ex
  obtain ⟨F, g1, _⟩ := O.one h1 h.fz i hi
  refine (dk_disk g1).mono ?_
  rintro e w' ⟨rfl, u⟩
  exact ⟨rfl, h.nxt u, u⟩
theorem rh_fail (h : RH O P w0 w r n m fu k D nx) {i : Nat} (hi : i < n) : Calls Try.prog 20 #[.pointer (some ⟨(D i).b, 0, none⟩)] w fun e w' => e = .returned (.tuple #[]) ∧ RH O P w0 w' r n m fu k (updD D i { D i with live := false }) nx ∧ Sp P w w' ∧ w.heap.size ≤ w'.heap.size := by
  obtain ⟨T, h1, h2, h3⟩ := h.ex
  obtain ⟨F, g1, g2⟩ := O.one h1 h.fz i hi
  refine (dk_fail g1 h.fz).mono ?_
  rintro e w' ⟨rfl, dn⟩
  obtain ⟨x1, x2⟩ := RH.did h1 h2 h3 h.fnew h.own h.up (g2 _ _ { D i with live := false } rfl rfl dn)
  exact ⟨rfl, x1, x2, dn.up.size⟩
end
/-- A Loc of a row. -/
theorem OwnL.rng {base : Nat} {w : World} {lg n lc : Nat} {l : List Lc} (h : OwnL base w (.slice (some ⟨lg, 0, none⟩) n lc) l) {s : Nat} {c : Lc} (hs : l[s]? = some c) :
    w.cell? ⟨lg, s * 3, none⟩ = some (.int .i64 (c.disk : Nat)) ∧ w.cell? ⟨lg, s * 3 + 1, none⟩ = some (.int .i64 (c.slot : Nat)) ∧ w.cell? ⟨lg, s * 3 + 2, none⟩ = some (.int .i64 (c.id : Nat)) := by
  obtain ⟨hl, rfl⟩ := List.getElem?_eq_some_iff.1 hs
  obtain ⟨g, cap, e, _, hr⟩ := h.at hl
  have e : lg = g := by injection e with e; injection e with e; injection e
  subst e
  exact ⟨hr 0 _ rfl, hr 1 _ rfl, hr 2 _ rfl⟩
theorem slInil (w : World) (f : Nat → Int) : SlI w none 0 f := ⟨.inl rfl, by omega⟩
theorem lc_fields : (Try.prog.fieldsOf 36).toList.map (fun f => (f.type, f.offset, f.name == "_")) = [(3, 0, false), (3, 1, false), (3, 2, false)] := by kernel_rfl
theorem lc_eq (W : World) (x y z : Int) : (binOp .eql 36 (.agg #[.int .i64 x, .int .i64 y, .int .i64 z]) (.agg #[.int .i64 x, .int .i64 y, .int .i64 z])).run Try.prog W = .ok (.bool true) W := by
  rw [run_eql_struct]
  go_simp
theorem info_lc3 : (Try.prog.info? 36).map (·.size) = some 3 := by kernel_rfl
end Go.Proofs.Ytcejdobmgbielaa
