/- slices.Clone of Locs. -/
import Derived.Test.YtepggchnhgpcnaaGreatDoorPkTidy
import Derived.Test.YtepggchnhgpcnaaGreatDoorPz2
import Derived.Deep.RegionHeld3
import Derived.Test.YtepggchnhgpcnaaGreatDoorPz1
namespace Go.Proofs.YtepggchnhgpcnaaGreatDoor
open Go.RowKit Go.Maps
set_option linter.unusedVariables false

section
variable {base : Nat} {w w' : World} {v : Value} {ls xs : List Lo}
theorem loV_app (ls xs : List Lo) : loV (ls ++ xs) = loV ls ++ loV xs := by simp [loV]
theorem rowL_cells {g o : Nat} (hc : ∀ i l, xs[i]? = some l → ∀ j v, l.cells[j]? = some v → w.cell? ⟨g, o + i * 3 + j, none⟩ = some v) : ∀ j u, (loV xs)[j]? = some u → w.cell? ((⟨g, o, none⟩ : Addr).add j) = some u := by
 intro j u hj
 have hl : j < (loV xs).length := by
  rcases Nat.lt_or_ge j (loV xs).length with h | h
  ·exact h
  ·rw [List.getElem?_eq_none h] at hj; cases hj
 rw [loV_length] at hl
 have hi : j / 3 < xs.length := by omega
 have e := loV_at xs (j / 3) (j % 3) (by omega) xs[j / 3] (List.getElem?_eq_getElem hi)
 rw [show j / 3 * 3 + j % 3 = j by omega, hj] at e
 have := hc (j / 3) _ (List.getElem?_eq_getElem hi) (j % 3) u e.symm
 rw [add_off]
 rw [show o + j = o + j / 3 * 3 + j % 3 by omega]
 exact this
theorem OwnLo.apps (h : OwnLo base w v ls) (a : Option Addr) (c : Nat) (hr : RowL w a xs) (hx : xs ≠ []) (hl : ls.length ≤ 1000) (hl2 : xs.length ≤ 1000) (hb : base ≤ w.heap.size) :
  ∃ v' w', (Builtin.append_ #[24, 24] 24 #[v, .slice a xs.length c]).run Tryz.prog w = .ok v' w' ∧ OwnLo base w' v' (ls ++ xs) ∧ w.grownBy w' v.ownBlock ∧ (v'.ownBlock = v.ownBlock ∨ v'.ownBlock = some w.heap.size) := by
 obtain ⟨g, o, rfl, hg, hc⟩ := hr.resolve_left hx
 have hc := rowL_cells hc
 obtain ⟨i0, z0, hi, hz, hz1, hz2, hz3⟩ := info_lo
 have h1 : ∀ u ∈ loV xs, u.oneCell' = true := loV_one xs
 have hlen : (loV xs).length = xs.length * 3 := loV_length xs
 obtain ⟨v', w', hrun, g1, g2, _⟩ := run_append_own (P := Tryz.prog) w base 24 24 64 i0 z0 3 24 Tryz.underlying24 hi hz hz1 hz2 hz3 (by decide) v ls.length (loV ls) h ⟨g, o, none⟩ xs.length c (loV xs) hlen
  hc h1 (by unfold maxLen; omega) (by omega) hb
 refine ⟨v', w', hrun, ?_, g2, append_where_m w w' v v' 24 24 64 i0 z0 base ls.length xs.length (loV ls) Tryz.underlying24 hi hz (by rw [hz1]; exact h) ⟨g, o, none⟩ c (loV xs) (by have := List.length_pos_iff.2 hx; omega) (by rw [hz1]; exact hlen) hc h1 (by omega) (by rw [hz2]; omega) hrun⟩
 show w'.ownsRow base _ 3 v' (ls ++ xs).length (loV (ls ++ xs))
 rw [loV_app, List.length_append]
 exact g1
theorem OwnLo.empty (w : World) : OwnLo w.heap.size (w.alloc (.cells #[] 64)) (.slice (some ⟨w.heap.size, 0, none⟩) 0 0) [] :=
 ⟨rfl, .inr ⟨w.heap.size, 0, #[], rfl, Nat.le_refl _, heap_alloc_new _ _, Nat.le_refl _, Nat.zero_le _, rfl, rfl⟩⟩
end
theorem clone_any (w : World) (a : Option Addr) (c : Nat) (ls : List Lo) (h : RowL w a ls) (hn : ls ≠ []) (hl : ls.length ≤ 1000) :
  Calls Tryz.prog 50 #[.slice a ls.length c] w fun e w' => ∃ v, e = .returned v ∧ OwnLo w.heap.size w' v ls ∧ Up Nul w w' := by
 have u0 : Up Nul w (w.alloc (.cells #[] 64)) := (Up.refl _ _).alloc _
 obtain ⟨v', w', hrun, h1, h2, _⟩ := (OwnLo.empty w).apps a c (h.nxt u0) hn (Nat.zero_le _) hl (by rw [World.size_alloc]; omega)
 have HE : Hid (OwnLo w.heap.size w' v' ls ∧ Up Nul w w') := ⟨h1, (Up.refl Nul w).trans (u0.grown h2 (fun k hk => by
  have e : w.heap.size = k := by injection hk
  omega))⟩
 obtain ⟨g, o, rfl, _, _⟩ := h.resolve_left hn
 clear h u0 h1 h2
 obtain ⟨n, N⟩ : ∃ n, Hid (ls.length = n) := ⟨_, rfl⟩
 rw [N.out] at hrun ⊢
 clear hl hn
 have heq : ∀ w : World, (binOp .eql 24 (.slice (some ⟨g, o, none⟩) n c) (.slice none 0 0)).run Tryz.prog w = .ok (.bool false) w := fun _ => by kernel_rfl
 go_enter Tryz.func50, Tryz.ntmps50
 go_wp2_with (first | (at_builtin; refine wpList_append_eqv rfl _ _ _ rfl _ _ _ rfl rfl hrun ?_))
 go_ret
 exact ⟨_, rfl, HE.out⟩
theorem clone_sh (w : World) (a : Option Addr) (c : Nat) (ls : List Lo) (h : RowL w a ls) (hn : ls ≠ []) (hl : ls.length ≤ 1000) :
  Calls Tryz.prog 50 #[.slice a ls.length c] w fun e w' => ∃ g c', e = .returned (.slice (some ⟨g, 0, none⟩) ls.length c') ∧ w.heap.size ≤ g ∧ g < w'.heap.size ∧ OwnLo 0 w' (.slice (some ⟨g, 0, none⟩) ls.length c') ls ∧ Up Nul w w' := by
 refine (clone_any w a c ls h hn hl).mono ?_
 rintro e w' ⟨v, rfl, ho, u⟩
 rcases ho.2 with ⟨_, e0⟩ | ⟨g, cap, cur, h1, h2, h3, h4⟩
 ·exact absurd (List.eq_nil_of_length_eq_zero e0) hn
 ·subst h1
  exact ⟨g, cap, rfl, h2, (Array.getElem?_eq_some_iff.1 h3).1, ⟨ho.1, .inr ⟨g, cap, cur, rfl, Nat.zero_le _, h3, h4⟩⟩, u⟩
abbrev Gr (F : Nat → Prop) (w w' : World) (k : Nat) : Prop := F k ∨ Fresh w w' k
structure MM.Inv2 (M : MM) : Prop where
 b : ∀ k x, M.b k = some x → (x.part = 0 ∨ x.part = 1 ∨ x.part = 2) ∧ (0 ≤ x.sid ∧ x.sid ≤ 2147483647) ∧ ∃ s, M.s x.sid = some s
 s : ∀ i s, M.s i = some s → ∀ t, (s.key t).size ≤ 100000
section
variable {F : Nat → Prop} {w : World} {p bm bs n : Nat} {Q : Int → Value} {M : MM}
theorem big_max {k : Nat} (h : k ≤ 100000) : k ≤ maxLen := by unfold maxLen; omega
theorem drop_any (h : MT F w p bm bs n Q M) (hFw : ∀ k, F k → k < w.heap.size) (hI : M.Inv2) (k : ByteArray) (hk : k.size ≤ 100000) (hn : n < 100000) :
  Calls Tryz.prog 66 #[.pointer (some ⟨p, 0, none⟩), .string k] w fun e w' => e = .returned (.int .i64 (M.drop k).1) ∧ (∃ Q', MT F w' p bm bs (n + 1) Q' (M.drop k).2) ∧ Up (Two bm bs) w w' := by
 unfold MM.drop
 cases hb : M.b k with
 | none =>
  refine (drop_none h k (big_max hk) hb).mono ?_
  rintro e w' ⟨rfl, u⟩
  exact ⟨rfl, ⟨Q, (h.nxt u).mono (Nat.le_succ n)⟩, u.nul⟩
 | some x =>
  obtain ⟨h1, h2, s, hs⟩ := hI.b k x hb
  dsimp only
  rw [hs]
  exact drop_some h hFw k (big_max hk) x.n x.sid x.part hb s hs (wfI h2.1 h2.2) h1 (by unfold maxLen; omega)
structure AreMaps (w : World) (bm bs : Nat) : Prop where
 m : ∀ o, bm < w.heap.size → w.cell? ⟨bm, o, none⟩ = none
 s : ∀ o, bs < w.heap.size → w.cell? ⟨bs, o, none⟩ = none
theorem MT.maps (h : MT F w p bm bs n Q M) : AreMaps w bm bs := ⟨fun o _ => h.mb.noCell o, fun o _ => h.ms.noCell o⟩
theorem rowL_two {w' : World} (h : AreMaps w bm bs) {a : Option Addr} {ls : List Lo} (hr : RowL w a ls) (u : Up (Two bm bs) w w') : RowL w' a ls := by
 rcases hr with e | ⟨g, o, e, hg, hc⟩
 ·exact .inl e
 ·refine .inr ⟨g, o, e, Nat.lt_of_lt_of_le hg u.size, fun i l hi j v hj => ?_⟩
  have hc' := hc i l hi j v hj
  refine (u.cell (p := ⟨g, o + i * 3 + j, none⟩) hg (fun e => ?_)).trans hc'
  rcases e with e | e
  ·have e : g = bm := e
   rw [e, h.m _ (by rw [← e]; exact hg)] at hc'
   cases hc'
  ·have e : g = bs := e
   rw [e, h.s _ (by rw [← e]; exact hg)] at hc'
   cases hc'
set_option maxRecDepth 10000 in
set_option maxHeartbeats 4000000 in
theorem put_any (h : MT F w p bm bs n Q M) (hFw : ∀ k, F k → k < w.heap.size) (hI : M.Inv2) (r : Rc) (sv : Value) (la : Option Addr) (lc : Nat) (hr : RowL w la r.locs) (hne : r.locs ≠ []) (hl : r.locs.length ≤ 1000) (hk : r.key.size ≤ 100000) (hs : 0 ≤ r.sid ∧ r.sid ≤ 2147483647) (hn : n ≤ 50000) :
  Calls Tryz.prog 65 #[.pointer (some ⟨p, 0, none⟩), rv r sv (.slice la r.locs.length lc)] w fun e w' => e = .returned (.int .i64 (M.put r).1) ∧
   (∃ Q', MT (Gr F w w') w' p bm bs (n + 6) Q' (M.put r).2) ∧ Up (Two bm bs) w w' := by
 obtain ⟨w1, hw1⟩ : ∃ W, W = w.alloc (.cells #[.int .i64 r.kind, .string r.key, .int .i64 r.n, .int .i64 r.sid, sv, .int .i64 r.colour, .slice la r.locs.length lc, .int .i64 r.t.hot, .int .i64 r.t.warm, .int .i64 r.t.gap, .int .i64 r.t.add, .int .i64 r.t.top, .int .i64 r.t.half] 28) := ⟨_, rfl⟩
 have u1 : Up Nul w w1 := by rw [hw1]; exact (Up.refl _ _).alloc _
 have b1 : w1.heap[w.heap.size]? = some (.cells #[.int .i64 r.kind, .string r.key, .int .i64 r.n, .int .i64 r.sid, sv, .int .i64 r.colour, .slice la r.locs.length lc, .int .i64 r.t.hot, .int .i64 r.t.warm, .int .i64 r.t.gap, .int .i64 r.t.add, .int .i64 r.t.top, .int .i64 r.t.half] 28 (0, 0)) := by rw [hw1]; exact heap_alloc_new _ _
 have g1 : w1.cell? ⟨w.heap.size, 1, none⟩ = some (.string r.key) := by simp [World.cell?, b1]
 have g2 : w1.cell? ⟨w.heap.size, 2, none⟩ = some (.int .i64 r.n) := by simp [World.cell?, b1]
 have g3 : w1.cell? ⟨w.heap.size, 3, none⟩ = some (.int .i64 r.sid) := by simp [World.cell?, b1]
 have g6 : w1.cell? ⟨w.heap.size, 6, none⟩ = some (.slice la r.locs.length lc) := by simp [World.cell?, b1]
 have HD := hid (drop_any (h.nxt u1) (fun k hk => Nat.lt_of_lt_of_le (hFw k hk) u1.size) hI r.key hk (by omega))
 have HU1 := hid u1
 have HM1 := hid (h.nxt u1).maps
 have HLT : Hid (∀ k, F k → k < w.heap.size) := hFw
 have HZ : Hid (w.heap.size < w1.heap.size) := (Array.getElem?_eq_some_iff.1 b1).1
 have HR1 := hid (hr.nxt u1)
 have HNE := hid hne
 have HL := hid hl
 have HK := hid hk
 have HS := hid hs
 have HN := hid hn
 have hbm : ¬ Two bm bs w.heap.size := fun e => by rcases e with e | e; have := hFw _ h.fm; omega; have := hFw _ h.fs; omega
 have HBM := hid hbm
 obtain ⟨R, HR⟩ : ∃ R, Hid ((M.put r).2 = R) := ⟨_, rfl⟩
 rw [HR.out]
 rw [show (M.put r).1 = 0 from rfl]
 obtain ⟨L, LL⟩ : ∃ L, Hid (r.locs.length = L) := ⟨_, rfl⟩
 rw [LL.out] at hw1 g6 ⊢
 show Calls Tryz.prog 65 #[.pointer (some ⟨p, 0, none⟩), .agg #[.int .i64 r.kind, .string r.key, .int .i64 r.n, .int .i64 r.sid, sv, .int .i64 r.colour, .slice la L lc, .int .i64 r.t.hot, .int .i64 r.t.warm, .int .i64 r.t.gap, .int .i64 r.t.add, .int .i64 r.t.top, .int .i64 r.t.half]] w _
 clear h hr hne hl hk hs hn u1 b1 hbm hI hFw
 go_enter Tryz.func65, Tryz.ntmps65
 go_wp2_with fail
 rw [← hw1]
 clear hw1
 obtain ⟨pz, PZ⟩ : ∃ x, Hid (w.heap.size = x) := ⟨_, rfl⟩
 rw [PZ.out] at g1 g2 g3 g6 HBM HZ ⊢
 refine HD.out.mono ?_
 rintro e w2 ⟨rfl, ⟨Q2, h2⟩, u2⟩
 have hw12 := HU1.out.size
 have a1 := (u2.cell (p := ⟨pz, 1, none⟩) HZ.out HBM.out).trans g1
 have a2 := (u2.cell (p := ⟨pz, 2, none⟩) HZ.out HBM.out).trans g2
 have a3 := (u2.cell (p := ⟨pz, 3, none⟩) HZ.out HBM.out).trans g3
 have a6 := (u2.cell (p := ⟨pz, 6, none⟩) HZ.out HBM.out).trans g6
 have HR2 : Hid (RowL w2 la r.locs) := rowL_two HM1.out HR1.out u2
 obtain ⟨d0, d1, _⟩ := h2.cells
 obtain ⟨w3, hput, h3, u3⟩ := (h2.nxt (Up.refl _ _).drew).putB (by have := HN.out; unfold maxLen; omega) (big_max HK.out) ⟨r.n, 0, 0⟩
 have u23 : Up (fun k => k = bm) w2 w3 := Up.trans (Up.drew (Up.refl _ w2)) u3
 have z2 : pz < w2.heap.size := Nat.lt_of_lt_of_le HZ.out u2.size
 have e1 := (u23.cell (p := ⟨pz, 1, none⟩) z2 (fun e => HBM.out (.inl e))).trans a1
 have e3 := (u23.cell (p := ⟨pz, 3, none⟩) z2 (fun e => HBM.out (.inl e))).trans a3
 have e6 := (u23.cell (p := ⟨pz, 6, none⟩) z2 (fun e => HBM.out (.inl e))).trans a6
 have HPUT := hid hput
 have H3 := hid h3
 have HU3 : Hid (Up (Two bm bs) w w3) := (HU1.out.nul.trans u2).thn u23 (fun j e => .inl (.inl e))
 have HR3 : Hid (RowL w3 la r.locs) := rowL_two h2.maps HR2.out (u23.mono fun _ _ e => .inl e)
 have HZ3 : Hid (pz < w3.heap.size) := Nat.lt_of_lt_of_le z2 u23.size
 clear h2 h3 u2 u3 u23 hput g1 g2 g3 g6 d1 z2 hw12
 go_wp2_with fail
 go_still_tail 9, (by kernel_rfl)
 change wpList _ _ _ _ _ w2.drew
 refine wpList_put_eqv rfl _ _ _ _ rfl _ _ _ rfl rfl rfl HPUT.out ?_
 clear a1 a2 a3 a6 d0
 have HC : Hid (∀ V, Up (Two bm bs) w3 V → V.cell? ⟨pz, 3, none⟩ = some (.int .i64 r.sid) ∧ V.cell? ⟨pz, 1, none⟩ = some (.string r.key) ∧ V.cell? ⟨pz, 6, none⟩ = some (.slice la L lc)) := fun V u => ⟨(u.cell (p := ⟨pz, 3, none⟩) HZ3.out HBM.out).trans e3, (u.cell (p := ⟨pz, 1, none⟩) HZ3.out HBM.out).trans e1, (u.cell (p := ⟨pz, 6, none⟩) HZ3.out HBM.out).trans e6⟩
 have HCL : Hid (Calls Tryz.prog 50 #[.slice la L lc] w3.drew fun e w' => ∃ g c', e = .returned (.slice (some ⟨g, 0, none⟩) L c') ∧ w3.heap.size ≤ g ∧ g < w'.heap.size ∧ OwnLo 0 w' (.slice (some ⟨g, 0, none⟩) L c') r.locs ∧ Up Nul w3.drew w') := by
  have := clone_sh w3.drew la lc r.locs (HR3.out.nxt (Up.refl _ _).drew) HNE.out HL.out
  rw [LL.out] at this
  exact this
 have HLY : Hid (∀ V g c, Up Nul w3.drew V → w3.heap.size ≤ g → g < V.heap.size → OwnLo 0 V (.slice (some ⟨g, 0, none⟩) L c) r.locs → Calls Tryz.prog 87 #[.pointer (some ⟨p, 0, none⟩), .int .i64 r.sid, .agg #[.int .i64 1, .int .i64 0, .string r.key, .string ⟨#[]⟩, .string ⟨#[]⟩, .slice (some ⟨g, 0, none⟩) L c]] V fun e w' => e = .returned (.tuple #[]) ∧
   ((∃ Q', MT (Gr F w w') w' p bm bs (n + 6) Q' R) ∧ Up (Two bm bs) w w') ∧ Up (Two bm bs) w3 w') := fun V g c u hg hgl ho => by
  have hF3 : ∀ k, F k → k < w3.heap.size := fun k hk => Nat.lt_of_lt_of_le (HLT.out k hk) (HU3.out.size)
  have u3V : Up Nul w3 V := Up.trans ((Up.refl _ _).drew) u
  have h4 := (H3.out.nxt u3V).wide (G := fun k => F k ∨ k = g) (fun k hk => .inl hk)
  have hst : ((⟨1, 0, r.key, noK, noK, r.locs⟩ : St).locs.length) = L := LL.out
  have hfin := lay_any h4 (fun k hk => by rcases hk with hk | hk; have := hF3 k hk; have := u3V.size; omega; omega) r.sid (wfI HS.out.1 HS.out.2) ⟨1, 0, r.key, noK, noK, r.locs⟩ g c (.inr rfl) (by rw [hst]; exact ho)
   (fun j s' hj hne e => by
    obtain ⟨g', c', e1, e2, _⟩ := H3.out.row j s' hj
    have e3 := hF3 g' e2
    rw [e1] at e
    have e : g = g' := by injection e
    omega) (fun t => by
    rcases t with _ | _ | t
    ·exact big_max HK.out
    ·exact Nat.zero_le _
    ·exact Nat.zero_le _) (by have := HN.out; unfold maxLen; omega)
  rw [hst] at hfin
  refine hfin.mono ?_
  rintro e w' ⟨rfl, ⟨Q', h'⟩, u'⟩
  have uw' : Up (Two bm bs) w w' := HU3.out.trans (u3V.nul.trans u')
  refine ⟨rfl, ⟨⟨Q', ?_⟩, uw'⟩, u3V.nul.trans u'⟩
  rw [← HR.out]
  refine (h'.wide (fun k hk => ?_)).mono (by omega)
  rcases hk with hk | hk
  ·exact .inl hk
  ·refine .inr ⟨?_, ?_⟩
   ·have := HU3.out.size; omega
   ·have := u'.size; omega
 have HR0 : Hid (Up (Two bm bs) w3 w3) := Up.refl _ _
 clear e1 e3 e6
 go_wp2_with fail
 go_region_held3 (fun V => V.cell? ⟨pz, 3, none⟩ = some (.int .i64 r.sid) ∧ V.cell? ⟨pz, 1, none⟩ = some (.string r.key) ∧ V.cell? ⟨pz, 6, none⟩ = some (.slice la L lc))
  (first | exact HC.out _ (by assumption) | exact HC.out _ HR0.out.drew)
  (first
   | (go_at_call 50; (with_reducible refine HCL.out.mono ?_); rintro e wA ⟨g, c, rfl, hg, hgl, ho, kA⟩; have uA : Up (Two bm bs) w3 wA := HR0.out.drew.trans kA.nul; have HLA := hid (HLY.out wA g c kA hg hgl ho); clear hg hgl ho)
   | (go_at_call 87; (with_reducible refine HLA.out.mono ?_); rintro e wB ⟨rfl, kB, uB⟩)
   | fail)
 all_goals
  have HB := hid kB
  go_wp2_with fail
  go_ret
  trace_state
  exact ⟨rfl, HB.out⟩
end
end Go.Proofs.YtepggchnhgpcnaaGreatDoor
namespace Go.Proofs.YtepggchnhgpcnaaGreatDoor
open Go.RowKit
set_option linter.unusedVariables false

structure OkC (w : World) (s : ByteArray) (n sid co : Int) (sa : Option Addr) (ns cs : Nat) (la : Option Addr) (nl cl : Nat) (t : Tb) (k : Nat) (c1 c2 c3 c4 c5 c6 c7 c8 c9 c10 : Bool) : Prop where
 h1 : ∀ W, Up Nul w W → ∀ g, W.cell? ⟨g, 0, none⟩ = some (.int .i64 (s.size : Nat)) → Calls Tryz.prog 56 #[.agg #[.int .i64 (sh k 0), .int .i64 (sh k 1)], .slice (some ⟨g, 0, none⟩) 1 1] W fun e w' => e = .returned (.bool c1) ∧ Up Nul W w'
 h2 : ∀ W, Calls Tryz.prog 57 #[.string s] W fun e w' => e = .returned (.bool c2) ∧ Up Nul W w'
 h3 : ∀ W, Up Nul w W → ∀ g, W.cell? ⟨g, 0, none⟩ = some (.int .i64 n) → Calls Tryz.prog 56 #[.agg #[.int .i64 (sh k 2), .int .i64 (sh k 3)], .slice (some ⟨g, 0, none⟩) 1 1] W fun e w' => e = .returned (.bool c3) ∧ Up Nul W w'
 h4 : ∀ W, Up Nul w W → ∀ g, W.cell? ⟨g, 0, none⟩ = some (.int .i64 sid) → Calls Tryz.prog 56 #[.agg #[.int .i64 (sh k 4), .int .i64 (sh k 5)], .slice (some ⟨g, 0, none⟩) 1 1] W fun e w' => e = .returned (.bool c4) ∧ Up Nul W w'
 h5 : ∀ W, Up Nul w W → ∀ g, W.cell? ⟨g, 0, none⟩ = some (.int .i64 co) → Calls Tryz.prog 56 #[.agg #[.int .i64 (sh k 6), .int .i64 (sh k 7)], .slice (some ⟨g, 0, none⟩) 1 1] W fun e w' => e = .returned (.bool c5) ∧ Up Nul W w'
 h6 : ((ns : Int) == sh k 8) = c6
 h7 : ∀ W, Up Nul w W → Calls Tryz.prog 56 #[.agg #[.int .i64 (sh k 9), .int .i64 (sh k 10)], .slice sa ns cs] W fun e w' => e = .returned (.bool c7) ∧ Up Nul W w'
 h8 : c6 = true → ∃ q : Int, ((nl : Int) == q) = c8 ∧ ∀ W, Up Nul w W → Calls Tryz.prog 58 #[shv k, .slice sa ns cs] W fun e w' => e = .returned (.int .i64 q) ∧ Up Nul W w'
 h9 : ∀ W, Up Nul w W → Calls Tryz.prog 59 #[.slice la nl cl, .func (.func 60) #[] #[]] W fun e w' => e = .returned (.bool (! c9)) ∧ Up Nul W w'
 h10 : ∀ W, ∀ g, RowI W (some ⟨g, 0, none⟩) t.l → Calls Tryz.prog 56 #[.agg #[.int .i64 (sh k 13), .int .i64 (sh k 14)], .slice (some ⟨g, 0, none⟩) 6 6] W fun e w' => e = .returned (.bool c10) ∧ Up Nul W w'
end Go.Proofs.YtepggchnhgpcnaaGreatDoor
