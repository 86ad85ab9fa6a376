/- 'swap'. -/
import Derived.Test.YtmhmlfgikmeejaaDoorMtStep
import Derived.Deep.QuietTactic
import Derived.BigQuiet
namespace Go.Proofs.YtmhmlfgikmeejaaDoor
open Go.RowKit Go.Maps
set_option linter.unusedVariables false

section
variable {F : Nat → Prop} {w : World} {p bm bs n : Nat} {Q : Int → Value} {M : MM}
set_option maxRecDepth 10000 in
set_option maxHeartbeats 4000000 in
theorem swap_any (h : MT F w p bm bs n Q M) (hFw : ∀ k, F k → k < w.heap.size) (hI : M.Inv2) (fr tk : Int) (r : Rc) (sv : Value) (la : Option Addr) (lc : Nat) (hr : RowL w la r.locs) (hne : r.locs ≠ []) (hl : r.locs.length ≤ 1000) (hk : r.key.size ≤ 100000) (hs : 0 ≤ r.sid ∧ r.sid ≤ 2147483647) (hn : n ≤ 50000) :
    Calls Tryd.prog 36 #[.pointer (some ⟨p, 0, none⟩), rv r sv (.slice la r.locs.length lc), .int .i64 fr, .int .i64 tk] w fun e w' => e = .returned (.int .i64 (M.swap r fr tk).1) ∧
      (∃ Q', MT (Gr F w w') w' p bm bs (n + 6) Q' (M.swap r fr tk).2) ∧ Up (Two bm bs) w w' := by
  obtain ⟨w1, hw1⟩ : ∃ W, W = w.alloc (.cells #[.int .i64 r.kind, .string r.key, .int .i64 r.n, .int .i64 r.sid, sv, .int .i64 r.colour, .slice la r.locs.length lc, .int .i64 r.t.hot, .int .i64 r.t.warm, .int .i64 r.t.gap, .int .i64 r.t.add, .int .i64 r.t.top, .int .i64 r.t.half] 33) := ⟨_, rfl⟩
  have u1 : Up Nul w w1 := by rw [hw1]; exact (Up.refl _ _).alloc _
  have b1 : w1.heap[w.heap.size]? = some (.cells #[.int .i64 r.kind, .string r.key, .int .i64 r.n, .int .i64 r.sid, sv, .int .i64 r.colour, .slice la r.locs.length lc, .int .i64 r.t.hot, .int .i64 r.t.warm, .int .i64 r.t.gap, .int .i64 r.t.add, .int .i64 r.t.top, .int .i64 r.t.half] 33 (0, 0)) := by rw [hw1]; exact heap_alloc_new _ _
  have HB1 := hid b1
  have HZ : Hid (w.heap.size < w1.heap.size) := (Array.getElem?_eq_some_iff.1 b1).1
  have g1 : w1.cell? ⟨w.heap.size, 1, none⟩ = some (.string r.key) := by simp [World.cell?, b1]
  obtain ⟨x, hx⟩ : ∃ x : Bl, (M.b r.key).getD ⟨0, 0, 0⟩ = x := ⟨_, rfl⟩
  obtain ⟨ok, hok⟩ : ∃ ok : Bool, (M.b r.key).isSome = ok := ⟨_, rfl⟩
  have h1 := h.nxt u1
  obtain ⟨c0, c1, _⟩ := h1.cells
  have hlk : ∀ W, Up Nul w1 W → (Instr.lookup 54 (.map (some bm)) (.string r.key) true).run Tryd.prog W = .ok (.tuple #[.agg #[.int .i64 x.n, .int .i64 x.sid, .int .i64 x.part], .bool ok]) W := fun W u => by
    have := (h1.nxt u).mb.look2 Tryd.underlying54 (zero_bl W) (big_max hk)
    rw [this, ← hx, ← hok]
    cases M.b r.key <;> rfl
  have uA : Up Nul w1 (w1.alloc (.cells #[.int .i64 0, .int .i64 0, .int .i64 0] 47)) := (Up.refl _ _).alloc _
  have lA := hlk _ (uA.drew)
  have lB := hlk _ ((Up.refl Nul w1).drew)
  obtain ⟨e0, e1, _⟩ := (h1.nxt uA).cells
  have gA := (uA.cell (p := ⟨w.heap.size, 1, none⟩) HZ.out id).trans g1
  have HH := hid h1
  have HLT : Hid (∀ k, F k → k < w.heap.size) := hFw
  have HU1 := hid u1
  have HR1 := hid (hr.nxt u1)
  have HNE := hid hne
  have HL := hid hl
  have HK := hid hk
  have HS := hid hs
  have HN := hid hn
  have HI := hid hI
  have HX := hid hx
  have HOK := hid hok
  have HBM : Hid (¬ Two bm bs w.heap.size) := fun e => by rcases e with e | e; have := hFw _ h.fm; omega; have := hFw _ h.fs; omega
  obtain ⟨R, HR⟩ : ∃ R, Hid (M.swap r fr tk = R) := ⟨_, rfl⟩
  rw [HR.out]
  obtain ⟨L, LL⟩ : ∃ L, Hid (r.locs.length = L) := ⟨_, rfl⟩
  rw [LL.out] at hw1 HB1 ⊢
  show Calls Tryd.prog 36 #[.pointer (some ⟨p, 0, none⟩), .agg #[.int .i64 r.kind, .string r.key, .int .i64 r.n, .int .i64 r.sid, sv, .int .i64 r.colour, .slice la L lc, .int .i64 r.t.hot, .int .i64 r.t.warm, .int .i64 r.t.gap, .int .i64 r.t.add, .int .i64 r.t.top, .int .i64 r.t.half], .int .i64 fr, .int .i64 tk] w _
  clear h h1 hr hne hl hk hs hn u1 b1 hI hFw hx hok hlk uA
  go_enter Tryd.func36, Tryd.ntmps36
  go_wp2_with fail
  rw [← hw1]
  clear hw1
  obtain ⟨pz, PZ⟩ : ∃ x, Hid (w.heap.size = x) := ⟨_, rfl⟩
  rw [PZ.out] at g1 gA HBM HZ HB1 ⊢
  go_region
  all_goals
    have u2 : Up Nul w1 (w1.alloc (.cells #[.int .i64 x.n, .int .i64 x.sid, .int .i64 x.part] 47)).drew := ((Up.refl _ _).alloc _).drew
    have b2 : (w1.alloc (.cells #[.int .i64 x.n, .int .i64 x.sid, .int .i64 x.part] 47)).drew.heap[w1.heap.size]? = some (.cells #[.int .i64 x.n, .int .i64 x.sid, .int .i64 x.part] 47 (0, 0)) := heap_alloc_new w1 _
    generalize (w1.alloc (.cells #[.int .i64 x.n, .int .i64 x.sid, .int .i64 x.part] 47)).drew = w2 at u2 b2 ⊢
    have h2 := HH.out.nxt u2
    obtain ⟨d0, d1, _⟩ := h2.cells
    have hz2 : w1.heap.size < w2.heap.size := (Array.getElem?_eq_some_iff.1 b2).1
    obtain ⟨pb, PB⟩ : ∃ x, Hid (w1.heap.size = x) := ⟨_, rfl⟩
    rw [PB.out] at b2 hz2 ⊢
    have x1 : w2.cell? ⟨pb, 1, none⟩ = some (.int .i64 x.sid) := by simp [World.cell?, b2]
    have HB2 := hid ((u2.block pz HZ.out id).trans HB1.out)
    have H2 := hid h2
    have HU2 := hid u2
    have HZ2 := hid hz2
    have HB3 := hid b2
    clear u2 b2 h2 hz2 c0 c1 lA lB e0 e1 g1 gA d0
    cases ok with
    | false =>
      have HE : Hid (R = (9, M)) := by
        show R = _
        rw [← HR.out]
        unfold MM.swap
        cases hb : M.b r.key with
        | none => rfl
        | some y => have := HOK.out; rw [hb] at this; cases this
      go_wp2
      go_ret
      rw [HE.out]
      exact ⟨rfl, ⟨Q, ((H2.out.wide fun k hk => .inl hk).mono (by omega))⟩, (HU1.out.trans HU2.out).nul⟩
    | true =>
      have hb : M.b r.key = some x := by
        have h1 := HOK.out
        have h2 := HX.out
        cases hb : M.b r.key with
        | none => rw [hb] at h1; cases h1
        | some y => rw [hb] at h2; exact congrArg some h2
      obtain ⟨hp, hsd, s, hs⟩ := HI.out.b _ _ hb
      have HSD := hid hsd
      obtain ⟨g, c, hq, hF, ho⟩ := H2.out.row x.sid s hs
      have hlk : ∀ n, (Instr.lookup 55 (.map (some bs)) (.int .i64 x.sid) false).run Tryd.prog (w2.drewN n) = .ok (.agg #[.int .i64 s.kind, .int .i64 s.colour, .string s.k0, .string s.k1, .string s.k2, .slice (some ⟨g, 0, none⟩) s.locs.length c]) (w2.drewN n) := fun n => by
        have := (H2.out.nxt ((Up.refl Nul w2).drewN n)).ms.look1 Tryd.underlying55 (zero_st _) (wfI hsd.1 hsd.2)
        rw [hs, hq] at this
        exact this
      have hfd : ∀ W : World, (Instr.field 43 (.agg #[.int .i64 s.kind, .int .i64 s.colour, .string s.k0, .string s.k1, .string s.k2, .slice (some ⟨g, 0, none⟩) s.locs.length c]) 0).run Tryd.prog W = .ok (.int .i64 s.kind) W := fun _ => by kernel_rfl
      have HE : Hid (R = if s.kind ≠ fr then (12, M) else (0, ({ M with s := upd M.s x.sid none } : MM).lay r.sid ⟨tk, r.colour, r.key, noK, noK, r.locs⟩)) := by
        show R = _
        rw [← HR.out]
        unfold MM.swap
        rw [hb]
        dsimp only
        rw [hs]
      have HSS := hid hs
      clear hb hp hsd hs hF ho hq
      go_wp2_with fail
      go_quiet (fail)
      have u3 : Up Nul w2 (w2.drewN nq) := (Up.refl _ _).drewN nq
      generalize w2.drewN nq = w3 at u3 ⊢
      have H3 := hid (H2.out.nxt u3)
      have HU3 : Hid (Up Nul w w3) := HU1.out.trans (HU2.out.trans u3)
      by_cases hkf : s.kind = fr
      · have hne : (s.kind != fr) = false := by simp [hkf]
        have HE2 : Hid (R = (0, ({ M with s := upd M.s x.sid none } : MM).lay r.sid ⟨tk, r.colour, r.key, noK, noK, r.locs⟩)) := by
          show R = _
          rw [HE.out, if_neg (fun e => e hkf)]
        obtain ⟨_, a1, _⟩ := H3.out.cells
        have a2 := (u3.cell (p := ⟨pb, 1, none⟩) HZ2.out id).trans x1
        have b4 := (u3.block pz (Array.getElem?_eq_some_iff.1 HB2.out).1 id).trans HB2.out
        obtain ⟨w4, hdel, h4, u4⟩ := (H3.out.nxt (Up.refl _ _).drew).delS (wfI HSD.out.1 HSD.out.2) 0
        have u34 : Up (fun k => k = bs) w3 w4 := Up.trans (Up.drew (Up.refl _ w3)) u4
        have hz3 : pz < w3.heap.size := (Array.getElem?_eq_some_iff.1 b4).1
        have b5 := (u34.block pz hz3 (fun e => HBM.out (.inr e))).trans b4
        have g1 : w4.cell? ⟨pz, 1, none⟩ = some (.string r.key) := by simp [World.cell?, b5]
        have g3 : w4.cell? ⟨pz, 3, none⟩ = some (.int .i64 r.sid) := by simp [World.cell?, b5]
        have g5 : w4.cell? ⟨pz, 5, none⟩ = some (.int .i64 r.colour) := by simp [World.cell?, b5]
        have g6 : w4.cell? ⟨pz, 6, none⟩ = some (.slice la L lc) := by simp [World.cell?, b5]
        have HZ4 : Hid (pz < w4.heap.size) := (Array.getElem?_eq_some_iff.1 b5).1
        have HDEL := hid hdel
        have H4 := hid h4
        have HU4 : Hid (Up (Two bm bs) w w4) := HU3.out.nul.trans (u34.mono fun _ _ e => .inr e)
        have HR4 : Hid (RowL w4 la r.locs) := rowL_two H3.out.maps (HR1.out.nxt (HU2.out.trans u3)) (u34.mono fun _ _ e => .inr e)
        have HC : Hid (∀ V, Up (Two bm bs) w4 V → V.cell? ⟨pz, 3, none⟩ = some (.int .i64 r.sid) ∧ V.cell? ⟨pz, 5, none⟩ = some (.int .i64 r.colour) ∧ V.cell? ⟨pz, 1, none⟩ = some (.string r.key) ∧ V.cell? ⟨pz, 6, none⟩ = some (.slice la L lc)) := fun V u => ⟨(u.cell (p := ⟨pz, 3, none⟩) HZ4.out HBM.out).trans g3, (u.cell (p := ⟨pz, 5, none⟩) HZ4.out HBM.out).trans g5, (u.cell (p := ⟨pz, 1, none⟩) HZ4.out HBM.out).trans g1, (u.cell (p := ⟨pz, 6, none⟩) HZ4.out HBM.out).trans g6⟩
        have HCL : Hid (Calls Tryd.prog 19 #[.slice la L lc] w4.drew fun e w' => ∃ g c', e = .returned (.slice (some ⟨g, 0, none⟩) L c') ∧ w4.heap.size ≤ g ∧ g < w'.heap.size ∧ OwnLo 0 w' (.slice (some ⟨g, 0, none⟩) L c') r.locs ∧ Up Nul w4.drew w') := by
          have := clone_sh w4.drew la lc r.locs (HR4.out.nxt (Up.refl _ _).drew) HNE.out HL.out
          rw [LL.out] at this
          exact this
        have HLY : Hid (∀ V g c, Up Nul w4.drew V → w4.heap.size ≤ g → g < V.heap.size → OwnLo 0 V (.slice (some ⟨g, 0, none⟩) L c) r.locs → Calls Tryd.prog 52 #[.pointer (some ⟨p, 0, none⟩), .int .i64 r.sid, .agg #[.int .i64 tk, .int .i64 r.colour, .string r.key, .string ⟨#[]⟩, .string ⟨#[]⟩, .slice (some ⟨g, 0, none⟩) L c]] V fun e w' => e = .returned (.tuple #[]) ∧
            ((∃ Q', MT (Gr F w w') w' p bm bs (n + 6) Q' (({ M with s := upd M.s x.sid none } : MM).lay r.sid ⟨tk, r.colour, r.key, noK, noK, r.locs⟩)) ∧ Up (Two bm bs) w w') ∧ Up (Two bm bs) w4 w') := fun V g c u hg hgl ho => by
          have hF4 : ∀ k, F k → k < w4.heap.size := fun k hk => Nat.lt_of_lt_of_le (HLT.out k hk) (HU4.out.size)
          have u4V : Up Nul w4 V := Up.trans ((Up.refl _ _).drew) u
          have h5 := (H4.out.nxt u4V).wide (G := fun k => F k ∨ k = g) (fun k hk => .inl hk)
          have hst : ((⟨tk, r.colour, r.key, noK, noK, r.locs⟩ : St).locs.length) = L := LL.out
          have hfin := lay_any h5 (fun k hk => by rcases hk with hk | hk; have := hF4 k hk; have := u4V.size; omega; omega) r.sid (wfI HS.out.1 HS.out.2) ⟨tk, r.colour, r.key, noK, noK, r.locs⟩ g c (.inr rfl) (by rw [hst]; exact ho)
            (fun j s' hj hne e => by
              obtain ⟨g', c', e1, e2, _⟩ := H4.out.row j s' hj
              have e3 := hF4 g' e2
              rw [e1] at e
              have e : g = g' := by injection e
              omega) (fun t => by
              rcases t with _ | _ | t
              · exact big_max HK.out
              · exact Nat.zero_le _
              · exact Nat.zero_le _) (by have := HN.out; unfold maxLen; omega)
          rw [hst] at hfin
          refine hfin.mono ?_
          rintro e w' ⟨rfl, ⟨Q', h'⟩, u'⟩
          have uw' : Up (Two bm bs) w w' := HU4.out.trans (u4V.nul.trans u')
          refine ⟨rfl, ⟨⟨Q', ?_⟩, uw'⟩, u4V.nul.trans u'⟩
          refine (h'.wide (fun k hk => ?_)).mono (by omega)
          rcases hk with hk | hk
          · exact .inl hk
          · refine .inr ⟨?_, ?_⟩
            · have := HU4.out.size; omega
            · have := u'.size; omega
        have HR0 : Hid (Up (Two bm bs) w4 w4) := Up.refl _ _
        clear g1 g3 g5 g6 b4 b5 h4 u4 u34 hdel hlk hfd x1 d1 hkf hz3 u3
        go_wp2_with fail
        go_still_tail 6, (by kernel_rfl)
        change wpList _ _ _ _ _ w3.drew
        refine wpList_del_eqv rfl _ _ _ _ rfl _ _ rfl rfl HDEL.out ?_
        clear a1 a2 hne
        go_wp2_with fail
        go_region_held3 (fun V => V.cell? ⟨pz, 3, none⟩ = some (.int .i64 r.sid) ∧ V.cell? ⟨pz, 5, none⟩ = some (.int .i64 r.colour) ∧ V.cell? ⟨pz, 1, none⟩ = some (.string r.key) ∧ V.cell? ⟨pz, 6, none⟩ = some (.slice la L lc))
          (first | exact HC.out _ (by assumption) | exact HC.out _ HR0.out.drew)
          (first
            | (go_at_call 19; (with_reducible refine HCL.out.mono ?_); rintro e wA ⟨g, c, rfl, hg, hgl, ho, kA⟩; have uA : Up (Two bm bs) w4 wA := HR0.out.drew.trans kA.nul; have HLA := hid (HLY.out wA g c kA hg hgl ho); clear hg hgl ho)
            | (go_at_call 52; (with_reducible refine HLA.out.mono ?_); rintro e wB ⟨rfl, kB, uB⟩)
            | fail)
        all_goals
          have HB := hid kB
          go_wp2_with fail
          go_ret
          rw [HE2.out]
          exact ⟨rfl, HB.out⟩
      · have hne : (s.kind != fr) = true := by simp [hkf]
        have HE2 : Hid (R = (12, M)) := by
          show R = _
          rw [HE.out, if_pos hkf]
        clear hlk hfd x1 d1 hkf u3
        go_wp2
        go_ret
        rw [HE2.out]
        exact ⟨rfl, ⟨Q, ((H3.out.wide fun k hk => .inl hk).mono (by omega))⟩, HU3.out.nul⟩
end
end Go.Proofs.YtmhmlfgikmeejaaDoor
