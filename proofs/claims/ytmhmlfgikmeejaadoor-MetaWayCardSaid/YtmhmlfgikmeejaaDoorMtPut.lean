/- 'put'. -/
import Derived.Test.YtmhmlfgikmeejaaDoorMtLayF
import Derived.Test.YtmhmlfgikmeejaaDoorMtClone
import Derived.Deep.RegionHeld3
namespace Go.Proofs.YtmhmlfgikmeejaaDoor
open Go.RowKit Go.Maps
set_option linter.unusedVariables false

/-- What it has, or what is new. -/
abbrev Gr (F : Nat → Prop) (w w' : World) (k : Nat) : Prop := F k ∨ Fresh w w' k
/-- Keys and Sids have their bounds. -/
structure MM.Inv2 (M : MM) : Prop where
  b : ∀ k x, M.b k = some x → (x.part = 0 ∨ x.part = 1 ∨ x.part = 2) ∧ (0 ≤ x.sid ∧ x.sid ≤ 2147483647) ∧ ∃ s, M.s x.sid = some s
  s : ∀ i s, M.s i = some s → ∀ t, (s.key t).size ≤ 100000
section
variable {F : Nat → Prop} {w : World} {p bm bs n : Nat} {Q : Int → Value} {M : MM}
theorem big_max {k : Nat} (h : k ≤ 100000) : k ≤ maxLen := by unfold maxLen; omega
theorem drop_any (h : MT F w p bm bs n Q M) (hFw : ∀ k, F k → k < w.heap.size) (hI : M.Inv2) (k : ByteArray) (hk : k.size ≤ 100000) (hn : n < 100000) :
    Calls Tryd.prog 35 #[.pointer (some ⟨p, 0, none⟩), .string k] w fun e w' => e = .returned (.int .i64 (M.drop k).1) ∧ (∃ Q', MT F w' p bm bs (n + 1) Q' (M.drop k).2) ∧ Up (Two bm bs) w w' := by
  unfold MM.drop
  cases hb : M.b k with
  | none =>
    refine (drop_none h k (big_max hk) hb).mono ?_
    rintro e w' ⟨rfl, u⟩
    exact ⟨rfl, ⟨Q, (h.nxt u).mono (Nat.le_succ n)⟩, u.nul⟩
  | some x =>
    obtain ⟨h1, h2, s, hs⟩ := hI.b k x hb
    dsimp only
    rw [hs]
    exact drop_some h hFw k (big_max hk) x.n x.sid x.part hb s hs (wfI h2.1 h2.2) h1 (by unfold maxLen; omega)
/-- Two blocks that are maps, maybe in a later world. -/
structure AreMaps (w : World) (bm bs : Nat) : Prop where
  m : ∀ o, bm < w.heap.size → w.cell? ⟨bm, o, none⟩ = none
  s : ∀ o, bs < w.heap.size → w.cell? ⟨bs, o, none⟩ = none
theorem MT.maps (h : MT F w p bm bs n Q M) : AreMaps w bm bs := ⟨fun o _ => h.mb.noCell o, fun o _ => h.ms.noCell o⟩
theorem rowL_two {w' : World} (h : AreMaps w bm bs) {a : Option Addr} {ls : List Lo} (hr : RowL w a ls) (u : Up (Two bm bs) w w') : RowL w' a ls := by
  rcases hr with e | ⟨g, o, e, hg, hc⟩
  · exact .inl e
  · refine .inr ⟨g, o, e, Nat.lt_of_lt_of_le hg u.size, fun i l hi j v hj => ?_⟩
    have hc' := hc i l hi j v hj
    refine (u.cell (p := ⟨g, o + i * 3 + j, none⟩) hg (fun e => ?_)).trans hc'
    rcases e with e | e
    · have e : g = bm := e
      rw [e, h.m _ (by rw [← e]; exact hg)] at hc'
      cases hc'
    · have e : g = bs := e
      rw [e, h.s _ (by rw [← e]; exact hg)] at hc'
      cases hc'
theorem drop_b (M : MM) (k x : ByteArray) (y : Bl) (h : (M.drop k).2.b x = some y) : M.b x = some y := by
  unfold MM.drop at h
  cases hb : M.b k with
  | none => rw [hb] at h; exact h
  | some z =>
    rw [hb] at h
    dsimp only at h
    have : (upd M.b k none) x = some y := by
      cases hs : M.s z.sid with
      | none => rw [hs] at h; exact h
      | some s => rw [hs] at h; exact h
    by_cases e : x = k
    · subst e; rw [upd_same] at this; cases this
    · rwa [upd_ne _ _ e] at this
set_option maxRecDepth 10000 in
set_option maxHeartbeats 4000000 in
theorem put_any (h : MT F w p bm bs n Q M) (hFw : ∀ k, F k → k < w.heap.size) (hI : M.Inv2) (r : Rc) (sv : Value) (la : Option Addr) (lc : Nat) (hr : RowL w la r.locs) (hne : r.locs ≠ []) (hl : r.locs.length ≤ 1000) (hk : r.key.size ≤ 100000) (hs : 0 ≤ r.sid ∧ r.sid ≤ 2147483647) (hn : n ≤ 50000) :
    Calls Tryd.prog 34 #[.pointer (some ⟨p, 0, none⟩), rv r sv (.slice la r.locs.length lc)] w fun e w' => e = .returned (.int .i64 (M.put r).1) ∧
      (∃ Q', MT (Gr F w w') w' p bm bs (n + 6) Q' (M.put r).2) ∧ Up (Two bm bs) w w' := by
  obtain ⟨w1, hw1⟩ : ∃ W, W = w.alloc (.cells #[.int .i64 r.kind, .string r.key, .int .i64 r.n, .int .i64 r.sid, sv, .int .i64 r.colour, .slice la r.locs.length lc, .int .i64 r.t.hot, .int .i64 r.t.warm, .int .i64 r.t.gap, .int .i64 r.t.add, .int .i64 r.t.top, .int .i64 r.t.half] 33) := ⟨_, rfl⟩
  have u1 : Up Nul w w1 := by rw [hw1]; exact (Up.refl _ _).alloc _
  have b1 : w1.heap[w.heap.size]? = some (.cells #[.int .i64 r.kind, .string r.key, .int .i64 r.n, .int .i64 r.sid, sv, .int .i64 r.colour, .slice la r.locs.length lc, .int .i64 r.t.hot, .int .i64 r.t.warm, .int .i64 r.t.gap, .int .i64 r.t.add, .int .i64 r.t.top, .int .i64 r.t.half] 33 (0, 0)) := by rw [hw1]; exact heap_alloc_new _ _
  have g1 : w1.cell? ⟨w.heap.size, 1, none⟩ = some (.string r.key) := by simp [World.cell?, b1]
  have g2 : w1.cell? ⟨w.heap.size, 2, none⟩ = some (.int .i64 r.n) := by simp [World.cell?, b1]
  have g3 : w1.cell? ⟨w.heap.size, 3, none⟩ = some (.int .i64 r.sid) := by simp [World.cell?, b1]
  have g6 : w1.cell? ⟨w.heap.size, 6, none⟩ = some (.slice la r.locs.length lc) := by simp [World.cell?, b1]
  have HD := hid (drop_any (h.nxt u1) (fun k hk => Nat.lt_of_lt_of_le (hFw k hk) u1.size) hI r.key hk (by omega))
  have HU1 := hid u1
  have HM1 := hid (h.nxt u1).maps
  have HLT : Hid (∀ k, F k → k < w.heap.size) := hFw
  have HZ : Hid (w.heap.size < w1.heap.size) := (Array.getElem?_eq_some_iff.1 b1).1
  have HR1 := hid (hr.nxt u1)
  have HNE := hid hne
  have HL := hid hl
  have HK := hid hk
  have HS := hid hs
  have HN := hid hn
  have hbm : ¬ Two bm bs w.heap.size := fun e => by rcases e with e | e; have := hFw _ h.fm; omega; have := hFw _ h.fs; omega
  have HBM := hid hbm
  obtain ⟨R, HR⟩ : ∃ R, Hid ((M.put r).2 = R) := ⟨_, rfl⟩
  rw [HR.out]
  rw [show (M.put r).1 = 0 from rfl]
  obtain ⟨L, LL⟩ : ∃ L, Hid (r.locs.length = L) := ⟨_, rfl⟩
  rw [LL.out] at hw1 g6 ⊢
  show Calls Tryd.prog 34 #[.pointer (some ⟨p, 0, none⟩), .agg #[.int .i64 r.kind, .string r.key, .int .i64 r.n, .int .i64 r.sid, sv, .int .i64 r.colour, .slice la L lc, .int .i64 r.t.hot, .int .i64 r.t.warm, .int .i64 r.t.gap, .int .i64 r.t.add, .int .i64 r.t.top, .int .i64 r.t.half]] w _
  clear h hr hne hl hk hs hn u1 b1 hbm hI hFw
  go_enter Tryd.func34, Tryd.ntmps34
  go_wp2_with fail
  rw [← hw1]
  clear hw1
  obtain ⟨pz, PZ⟩ : ∃ x, Hid (w.heap.size = x) := ⟨_, rfl⟩
  rw [PZ.out] at g1 g2 g3 g6 HBM HZ ⊢
  refine HD.out.mono ?_
  rintro e w2 ⟨rfl, ⟨Q2, h2⟩, u2⟩
  have hw12 := HU1.out.size
  have a1 := (u2.cell (p := ⟨pz, 1, none⟩) HZ.out HBM.out).trans g1
  have a2 := (u2.cell (p := ⟨pz, 2, none⟩) HZ.out HBM.out).trans g2
  have a3 := (u2.cell (p := ⟨pz, 3, none⟩) HZ.out HBM.out).trans g3
  have a6 := (u2.cell (p := ⟨pz, 6, none⟩) HZ.out HBM.out).trans g6
  have HR2 : Hid (RowL w2 la r.locs) := rowL_two HM1.out HR1.out u2
  obtain ⟨d0, d1, _⟩ := h2.cells
  obtain ⟨w3, hput, h3, u3⟩ := (h2.nxt (Up.refl _ _).drew).putB (by have := HN.out; unfold maxLen; omega) (big_max HK.out) ⟨r.n, 0, 0⟩
  have u23 : Up (fun k => k = bm) w2 w3 := Up.trans (Up.drew (Up.refl _ w2)) u3
  have z2 : pz < w2.heap.size := Nat.lt_of_lt_of_le HZ.out u2.size
  have e1 := (u23.cell (p := ⟨pz, 1, none⟩) z2 (fun e => HBM.out (.inl e))).trans a1
  have e3 := (u23.cell (p := ⟨pz, 3, none⟩) z2 (fun e => HBM.out (.inl e))).trans a3
  have e6 := (u23.cell (p := ⟨pz, 6, none⟩) z2 (fun e => HBM.out (.inl e))).trans a6
  have HPUT := hid hput
  have H3 := hid h3
  have HU3 : Hid (Up (Two bm bs) w w3) := (HU1.out.nul.trans u2).thn u23 (fun j e => .inl (.inl e))
  have HR3 : Hid (RowL w3 la r.locs) := rowL_two h2.maps HR2.out (u23.mono fun _ _ e => .inl e)
  have HZ3 : Hid (pz < w3.heap.size) := Nat.lt_of_lt_of_le z2 u23.size
  clear h2 h3 u2 u3 u23 hput g1 g2 g3 g6 d1 z2 hw12
  go_wp2_with fail
  go_still_tail 9, (by kernel_rfl)
  change wpList _ _ _ _ _ w2.drew
  refine wpList_put_eqv rfl _ _ _ _ rfl _ _ _ rfl rfl rfl HPUT.out ?_
  clear a1 a2 a3 a6 d0
  have HC : Hid (∀ V, Up (Two bm bs) w3 V → V.cell? ⟨pz, 3, none⟩ = some (.int .i64 r.sid) ∧ V.cell? ⟨pz, 1, none⟩ = some (.string r.key) ∧ V.cell? ⟨pz, 6, none⟩ = some (.slice la L lc)) := fun V u => ⟨(u.cell (p := ⟨pz, 3, none⟩) HZ3.out HBM.out).trans e3, (u.cell (p := ⟨pz, 1, none⟩) HZ3.out HBM.out).trans e1, (u.cell (p := ⟨pz, 6, none⟩) HZ3.out HBM.out).trans e6⟩
  have HCL : Hid (Calls Tryd.prog 19 #[.slice la L lc] w3.drew fun e w' => ∃ g c', e = .returned (.slice (some ⟨g, 0, none⟩) L c') ∧ w3.heap.size ≤ g ∧ g < w'.heap.size ∧ OwnLo 0 w' (.slice (some ⟨g, 0, none⟩) L c') r.locs ∧ Up Nul w3.drew w') := by
    have := clone_sh w3.drew la lc r.locs (HR3.out.nxt (Up.refl _ _).drew) HNE.out HL.out
    rw [LL.out] at this
    exact this
  have HLY : Hid (∀ V g c, Up Nul w3.drew V → w3.heap.size ≤ g → g < V.heap.size → OwnLo 0 V (.slice (some ⟨g, 0, none⟩) L c) r.locs → Calls Tryd.prog 52 #[.pointer (some ⟨p, 0, none⟩), .int .i64 r.sid, .agg #[.int .i64 1, .int .i64 0, .string r.key, .string ⟨#[]⟩, .string ⟨#[]⟩, .slice (some ⟨g, 0, none⟩) L c]] V fun e w' => e = .returned (.tuple #[]) ∧
      ((∃ Q', MT (Gr F w w') w' p bm bs (n + 6) Q' R) ∧ Up (Two bm bs) w w') ∧ Up (Two bm bs) w3 w') := fun V g c u hg hgl ho => by
    have hF3 : ∀ k, F k → k < w3.heap.size := fun k hk => Nat.lt_of_lt_of_le (HLT.out k hk) (HU3.out.size)
    have u3V : Up Nul w3 V := Up.trans ((Up.refl _ _).drew) u
    have h4 := (H3.out.nxt u3V).wide (G := fun k => F k ∨ k = g) (fun k hk => .inl hk)
    have hst : ((⟨1, 0, r.key, noK, noK, r.locs⟩ : St).locs.length) = L := LL.out
    have hfin := lay_any h4 (fun k hk => by rcases hk with hk | hk; have := hF3 k hk; have := u3V.size; omega; omega) r.sid (wfI HS.out.1 HS.out.2) ⟨1, 0, r.key, noK, noK, r.locs⟩ g c (.inr rfl) (by rw [hst]; exact ho)
      (fun j s' hj hne e => by
        obtain ⟨g', c', e1, e2, _⟩ := H3.out.row j s' hj
        have e3 := hF3 g' e2
        rw [e1] at e
        have e : g = g' := by injection e
        omega) (fun t => by
        rcases t with _ | _ | t
        · exact big_max HK.out
        · exact Nat.zero_le _
        · exact Nat.zero_le _) (by have := HN.out; unfold maxLen; omega)
    rw [hst] at hfin
    refine hfin.mono ?_
    rintro e w' ⟨rfl, ⟨Q', h'⟩, u'⟩
    have uw' : Up (Two bm bs) w w' := HU3.out.trans (u3V.nul.trans u')
    refine ⟨rfl, ⟨⟨Q', ?_⟩, uw'⟩, u3V.nul.trans u'⟩
    rw [← HR.out]
    refine (h'.wide (fun k hk => ?_)).mono (by omega)
    rcases hk with hk | hk
    · exact .inl hk
    · refine .inr ⟨?_, ?_⟩
      · have := HU3.out.size; omega
      · have := u'.size; omega
  have HR0 : Hid (Up (Two bm bs) w3 w3) := Up.refl _ _
  clear e1 e3 e6
  go_wp2_with fail
  go_region_held3 (fun V => V.cell? ⟨pz, 3, none⟩ = some (.int .i64 r.sid) ∧ V.cell? ⟨pz, 1, none⟩ = some (.string r.key) ∧ V.cell? ⟨pz, 6, none⟩ = some (.slice la L lc))
    (first | exact HC.out _ (by assumption) | exact HC.out _ HR0.out.drew)
    (first
      | (go_at_call 19; (with_reducible refine HCL.out.mono ?_); rintro e wA ⟨g, c, rfl, hg, hgl, ho, kA⟩; have uA : Up (Two bm bs) w3 wA := HR0.out.drew.trans kA.nul; have HLA := hid (HLY.out wA g c kA hg hgl ho); clear hg hgl ho)
      | (go_at_call 52; (with_reducible refine HLA.out.mono ?_); rintro e wB ⟨rfl, kB, uB⟩)
      | fail)
  all_goals
    have HB := hid kB
    go_wp2_with fail
    go_ret
    trace_state
    exact ⟨rfl, HB.out⟩
end
end Go.Proofs.YtmhmlfgikmeejaaDoor
