/- 'Ok' tells which records may be. -/
import Derived.Test.YtepggchnhgpcnaaGreatDoorPkTidy
import Derived.Test.YtepggchnhgpcnaaGreatDoorPz4
import Derived.Test.YtepggchnhgpcnaaGreatDoorPz5
import Derived.Test.YtepggchnhgpcnaaGreatDoorPz6
import Derived.Test.YtepggchnhgpcnaaGreatDoorPz7
import Derived.Test.YtepggchnhgpcnaaGreatDoorPz1
import Derived.Test.YtepggchnhgpcnaaGreatDoorPz3
namespace Go.Proofs.YtepggchnhgpcnaaGreatDoor
open Go.RowKit
set_option linter.unusedVariables false

theorem ok_core (w : World) (s : ByteArray) (n sid co : Int) (sa : Option Addr) (ns cs : Nat) (la : Option Addr) (nl cl : Nat) (t : Tb) (k : Nat) (c1 c2 c3 c4 c5 c6 c7 c8 c9 c10 : Bool) (hk : spn 1 8 (k : Int) = true) (hS : Shp w)
  (H : OkC w s n sid co sa ns cs la nl cl t k c1 c2 c3 c4 c5 c6 c7 c8 c9 c10) :
  Calls Tryz.prog 21 #[.agg #[.int .i64 (k : Nat), .string s, .int .i64 n, .int .i64 sid, .slice sa ns cs, .int .i64 co, .slice la nl cl, .int .i64 t.hot, .int .i64 t.warm, .int .i64 t.gap, .int .i64 t.add, .int .i64 t.top, .int .i64 t.half]] w
   fun e w' => e = .returned (.bool (c1 && c2 && c3 && c4 && c5 && c6 && c7 && c8 && c9 && c10)) ∧ Up Nul w w' := by
 cases e1 : c1 with
 | false => subst e1; exact ok_case1 w s n sid co sa ns cs la nl cl t k false c2 c3 c4 c5 c6 c7 c8 c9 c10 hk hS rfl H
 | true =>
 cases e2 : c2 with
 | false => subst e2; subst e1; exact ok_case2 w s n sid co sa ns cs la nl cl t k true false c3 c4 c5 c6 c7 c8 c9 c10 hk hS rfl rfl H
 | true =>
 cases e3 : c3 with
 | false => subst e3; subst e1; subst e2; exact ok_case3 w s n sid co sa ns cs la nl cl t k true true false c4 c5 c6 c7 c8 c9 c10 hk hS rfl rfl rfl H
 | true =>
 cases e4 : c4 with
 | false => subst e4; subst e1; subst e2; subst e3; exact ok_case4 w s n sid co sa ns cs la nl cl t k true true true false c5 c6 c7 c8 c9 c10 hk hS rfl rfl rfl rfl H
 | true =>
 cases e5 : c5 with
 | false => subst e5; subst e1; subst e2; subst e3; subst e4; exact ok_case5 w s n sid co sa ns cs la nl cl t k true true true true false c6 c7 c8 c9 c10 hk hS rfl rfl rfl rfl rfl H
 | true =>
 cases e6 : c6 with
 | false => subst e6; subst e1; subst e2; subst e3; subst e4; subst e5; exact ok_case6 w s n sid co sa ns cs la nl cl t k true true true true true false c7 c8 c9 c10 hk hS rfl rfl rfl rfl rfl rfl H
 | true =>
 cases e7 : c7 with
 | false => subst e7; subst e1; subst e2; subst e3; subst e4; subst e5; subst e6; exact ok_case7 w s n sid co sa ns cs la nl cl t k true true true true true true false c8 c9 c10 hk hS rfl rfl rfl rfl rfl rfl rfl H
 | true =>
 cases e8 : c8 with
 | false => subst e8; subst e1; subst e2; subst e3; subst e4; subst e5; subst e6; subst e7; exact ok_case8 w s n sid co sa ns cs la nl cl t k true true true true true true true false c9 c10 hk hS rfl rfl rfl rfl rfl rfl rfl rfl H
 | true =>
 cases e9 : c9 with
 | false => subst e9; subst e1; subst e2; subst e3; subst e4; subst e5; subst e6; subst e7; subst e8; exact ok_case9 w s n sid co sa ns cs la nl cl t k true true true true true true true true false c10 hk hS rfl rfl rfl rfl rfl rfl rfl rfl rfl H
 | true =>
 subst e1; subst e2; subst e3; subst e4; subst e5; subst e6; subst e7; subst e8; subst e9; exact ok_case10 w s n sid co sa ns cs la nl cl t k true true true true true true true true true c10 hk hS rfl rfl rfl rfl rfl rfl rfl rfl rfl H
theorem ok_bad (r : Rc) (sv lv : Value) (w : World) (h : spn 1 8 r.kind = false) : Calls Tryz.prog 21 #[rv r sv lv] w fun e w' => e = .returned (.bool false) ∧ Up Nul w w' := by
 have HK := hid (fun W => kind_any r.kind W)
 rw [h] at HK
 clear h
 obtain ⟨kind, key, n, sid, sids, colour, locs, ⟨a, b, c, d, e, f⟩⟩ := r
 have HU := hid ((Up.refl Nul w).alloc (.cells #[.int .i64 kind, .string key, .int .i64 n, .int .i64 sid, sv, .int .i64 colour, lv, .int .i64 a, .int .i64 b, .int .i64 c, .int .i64 d, .int .i64 e, .int .i64 f] 28))
 show Calls Tryz.prog 21 #[.agg #[.int .i64 kind, .string key, .int .i64 n, .int .i64 sid, sv, .int .i64 colour, lv, .int .i64 a, .int .i64 b, .int .i64 c, .int .i64 d, .int .i64 e, .int .i64 f]] w _
 have hsv : sv.cells = #[sv] ∨ True := .inr trivial
 go_enter Tryz.func21, Tryz.ntmps21
 go_wp2_with fail
 refine (HK.out _).mono ?_
 rintro e w1 ⟨rfl, u1⟩
 have U1 := hid (HU.out.trans u1)
 clear u1
 go_wp2
 go_ret
 exact ⟨rfl, U1.out⟩
theorem rowI_one {W : World} {g : Nat} {x : Int} (h : W.cell? ⟨g, 0, none⟩ = some (.int .i64 x)) : RowI W (some ⟨g, 0, none⟩) [x] := .inr ⟨g, 0, rfl, lt_of_cell h, fun i y hi => by
 match i, hi with
 | 0, hi => cases hi; exact h⟩
theorem ok_any (r : Rc) (sa la : Option Addr) (sc lc : Nat) (w : World) (hS : Shp w) (hr : RH w r sa la) (hk : r.key.size ≤ 100000) :
    Calls Tryz.prog 21 #[rv r (.slice sa r.sids.length sc) (.slice la r.locs.length lc)] w fun e w' => e = .returned (.bool (okR r)) ∧ Up Nul w w' := by
  cases hb : spn 1 8 r.kind with
  | false =>
    refine (ok_bad r _ _ w hb).mono ?_
    rintro e w' ⟨rfl, u⟩
    exact ⟨by unfold okR; rw [hb]; rfl, u⟩
  | true =>
    have hk8 := spn_iff.1 hb
    have hkk : r.kind = ((kn r : Nat) : Int) := by unfold kn; omega
    have hB := sh_bounds (kn r) (by unfold kn; omega)
    have hb2 : spn 1 8 ((kn r : Nat) : Int) = true := by rw [← hkk]; exact hb
    have H := ok_core w r.key r.n r.sid r.colour sa r.sids.length sc la r.locs.length lc r.t (kn r) _ _ _ _ _ _ _ (((r.locs.length : Nat) : Int) == sh (kn r) 11 + sh (kn r) 12 * ((nz r.sids : Nat) : Int)) (r.locs.all lok) _ hb2 hS
      { h1 := fun W u g hg => holds_any _ _ _ 1 [((r.key.size : Nat) : Int)] W (rowI_one hg) (by simp)
        h2 := fun W => plain_any r.key W hk
        h3 := fun W u g hg => holds_any _ _ _ 1 [r.n] W (rowI_one hg) (by simp)
        h4 := fun W u g hg => holds_any _ _ _ 1 [r.sid] W (rowI_one hg) (by simp)
        h5 := fun W u g hg => holds_any _ _ _ 1 [r.colour] W (rowI_one hg) (by simp)
        h6 := rfl
        h7 := fun W u => holds_any _ _ sa sc r.sids W (hr.s.nxt u) hr.ns
        h8 := fun e => ⟨_, rfl, fun W u => locsOf_any (kn r) _ _ sa sc r.sids W (hr.s.nxt u) (by have e := beq_iff_eq.1 e; have := hB.1.2; omega) rfl rfl hB.2.1.1 (by have := hB.2.1.2; omega) hB.2.2.1.1 hB.2.2.1.2⟩
        h9 := fun W u => by
          have := lcont_any W la lc r.locs (hr.l.nxt u) hr.nl (fun l => ! lok l) (fun x _ W _ => nowhere_any x W)
          refine this.mono ?_
          rintro e w' ⟨rfl, u⟩
          exact ⟨by rw [List.all_eq_not_any_not (l := r.locs) (p := lok), Bool.not_not], u⟩
        h10 := fun W g h => holds_any _ _ _ 6 r.t.l W h (by simp [Tb.l]) }
    show Calls Tryz.prog 21 #[.agg #[.int .i64 r.kind, .string r.key, .int .i64 r.n, .int .i64 r.sid, .slice sa r.sids.length sc, .int .i64 r.colour, .slice la r.locs.length lc, .int .i64 r.t.hot, .int .i64 r.t.warm, .int .i64 r.t.gap, .int .i64 r.t.add, .int .i64 r.t.top, .int .i64 r.t.half]] w _
    rw [hkk]
    refine H.mono ?_
    rintro e w' ⟨rfl, u⟩
    exact ⟨by unfold okR; rw [hb]; rfl, u⟩
end Go.Proofs.YtepggchnhgpcnaaGreatDoor
namespace Go.Proofs.YtepggchnhgpcnaaGreatDoor
open Go.RowKit Go.Maps
set_option linter.unusedVariables false

theorem cell_new2 (w : World) (A : Obj) (x : Value) (T : TypeId) : ((w.alloc A).alloc (.cells #[x] T)).cell? ⟨w.heap.size + 1, 0, none⟩ = some x := by
 have h := World.cell?_alloc_new (w.alloc A) #[x] T 0
 rw [World.size_alloc] at h
 exact h
def SidsP (w : World) (zs : List Int) (e : Ending) (w' : World) : Prop := ∃ a c, e = .returned (.slice a zs.length c) ∧ RowI w' a zs ∧ Up Nul w w'
set_option maxRecDepth 10000 in
set_option maxHeartbeats 4000000 in
theorem sids_one (kind : Int) (key : ByteArray) (n sid : Int) (sv : Value) (colour : Int) (lv : Value) (a b c d e f : Int) (w : World) (hk : kind = 1 ∨ kind = 3 ∨ kind = 4 ∨ kind = 5) :
  Calls Tryz.prog 22 #[.agg #[.int .i64 kind, .string key, .int .i64 n, .int .i64 sid, sv, .int .i64 colour, lv, .int .i64 a, .int .i64 b, .int .i64 c, .int .i64 d, .int .i64 e, .int .i64 f]] w (SidsP w [sid]) := by
 rcases hk with rfl | rfl | rfl | rfl
 all_goals
  go_enter Tryz.func22, Tryz.ntmps22
  go_wp2
  go_ret
  refine ⟨_, _, rfl, rowI_one (cell_new2 _ _ _ _), ((Up.refl _ _).alloc _).alloc _⟩
set_option maxRecDepth 10000 in
set_option maxHeartbeats 4000000 in
theorem sids_none (kind : Int) (key : ByteArray) (n sid : Int) (sv : Value) (colour : Int) (lv : Value) (a b c d e f : Int) (w : World) (hk : kind = 2 ∨ kind = 7 ∨ kind = 8) :
  Calls Tryz.prog 22 #[.agg #[.int .i64 kind, .string key, .int .i64 n, .int .i64 sid, sv, .int .i64 colour, lv, .int .i64 a, .int .i64 b, .int .i64 c, .int .i64 d, .int .i64 e, .int .i64 f]] w (SidsP w []) := by
 rcases hk with rfl | rfl | rfl
 all_goals
  go_enter Tryz.func22, Tryz.ntmps22
  go_wp2
  go_ret
  exact ⟨none, 0, rfl, .inl rfl, (Up.refl _ _).alloc _⟩
def MM.app2 (M : MM) (C : Int × MM) (o : Option Int) : Int × MM := match o with | none => (11, M) | some last => (C.1, if C.1 = 0 then { C.2 with last := last } else C.2)
theorem rise_next : ∀ (l : Int) (zs : List Int) (x : Int), rise l (zs ++ [x]) = (match rise l zs with | none => none | some y => if x ≤ y then none else some x)
 | l, [], x => by simp [rise]
 | l, z :: zs, x => by
  simp only [List.cons_append, rise]
  by_cases h : z ≤ l
  ·simp [h]
  ·simp only [h, if_false]
   exact rise_next z zs x
theorem rise_bad : ∀ (l : Int) (zs ys : List Int), rise l zs = none → rise l (zs ++ ys) = none
 | l, [], ys, h => by simp [rise] at h
 | l, z :: zs, ys, h => by
  simp only [List.cons_append, rise] at h ⊢
  by_cases e : z ≤ l
  ·simp [e]
  ·simp only [e, if_false] at h ⊢
   exact rise_bad z zs ys h
section
variable {F : Nat → Prop} {w : World} {p bm bs n : Nat} {Q : Int → Value} {M : MM}
theorem MT.setLast (h : MT F w p bm bs n Q M) (l : Int) : MT F (w.setCell ⟨p, 2, none⟩ (.int .i64 l)) p bm bs n Q { M with last := l } where
 hp := heap_set_same h.hp 2 _
 mb := h.mb.up ((Up.refl (One p) w).put rfl 2 _) fun e => h.pm (by have e : bm = p := e; exact e.symm)
 ms := h.ms.up ((Up.refl (One p) w).put rfl 2 _) fun e => h.ps (by have e : bs = p := e; exact e.symm)
 row i s e := by
  obtain ⟨g, c, e1, e2, e3⟩ := h.row i s e
  exact ⟨g, c, e1, e2, lo_up e3 ((Up.refl (One p) w).put rfl 2 _) fun k hk e4 => h.rp e (by have e4 : k = p := e4; rw [hk, e4])⟩
 dis := h.dis
 fp := h.fp
 fm := h.fm
 fs := h.fs
 nb := h.nb
set_option maxRecDepth 10000 in
set_option maxHeartbeats 4000000 in
theorem apply_bad (h : MT F w p bm bs n Q M) (hS : Shp w) (r : Rc) (sa la : Option Addr) (sc lc : Nat) (hr : RH w r sa la) (hk : r.key.size ≤ 100000) (hok : okR r = false) :
  Calls Tryz.prog 9 #[.pointer (some ⟨p, 0, none⟩), rv r (.slice sa r.sids.length sc) (.slice la r.locs.length lc)] w fun e w' => e = .returned (.int .i64 1) ∧ Up Nul w w' := by
 have HO : Hid (∀ W, Up Nul w W → Calls Tryz.prog 21 #[.agg #[.int .i64 r.kind, .string r.key, .int .i64 r.n, .int .i64 r.sid, .slice sa r.sids.length sc, .int .i64 r.colour, .slice la r.locs.length lc, .int .i64 r.t.hot, .int .i64 r.t.warm, .int .i64 r.t.gap, .int .i64 r.t.add, .int .i64 r.t.top, .int .i64 r.t.half]] W fun e w' => e = .returned (.bool false) ∧ Up Nul W w') := fun W u => by
  have := ok_any r sa la sc lc W (hS.nxt u) (hr.nxt u) hk
  rw [hok] at this
  exact this
 have HU : Hid (∀ o, Up Nul w (w.alloc o)) := fun o => (Up.refl _ _).alloc o
 show Calls Tryz.prog 9 #[.pointer (some ⟨p, 0, none⟩), .agg #[.int .i64 r.kind, .string r.key, .int .i64 r.n, .int .i64 r.sid, .slice sa r.sids.length sc, .int .i64 r.colour, .slice la r.locs.length lc, .int .i64 r.t.hot, .int .i64 r.t.warm, .int .i64 r.t.gap, .int .i64 r.t.add, .int .i64 r.t.top, .int .i64 r.t.half]] w _
 obtain ⟨ns, NS⟩ : ∃ x, Hid (r.sids.length = x) := ⟨_, rfl⟩
 obtain ⟨nl, NL⟩ : ∃ x, Hid (r.locs.length = x) := ⟨_, rfl⟩
 rw [NS.out, NL.out] at HO ⊢
 clear h hS hr hk hok
 go_enter Tryz.func9, Tryz.ntmps9
 go_wp2_with fail
 refine (HO.out _ (HU.out _)).mono ?_
 rintro e w2 ⟨rfl, u⟩
 have HU2 := hid ((HU.out _).trans u)
 go_wp2
 go_ret
 exact ⟨rfl, HU2.out⟩
set_option maxRecDepth 10000 in
set_option maxHeartbeats 4000000 in
theorem apply_good (h : MT F w p bm bs n Q M) (hFw : ∀ k, F k → k < w.heap.size) (hS : Shp w) (r : Rc) (sa la : Option Addr) (sc lc : Nat) (hr : RH w r sa la) (hk : r.key.size ≤ 100000) (hok : okR r = true) (m : Nat) (hm : n ≤ m) (C : Int × MM)
  (hns : ∀ W, Up Nul w W → Calls Tryz.prog 22 #[rv r (.slice sa r.sids.length sc) (.slice la r.locs.length lc)] W (SidsP W (newS r)))
  (hch : ∀ W, Up Nul w W → Calls Tryz.prog 23 #[.pointer (some ⟨p, 0, none⟩), rv r (.slice sa r.sids.length sc) (.slice la r.locs.length lc)] W fun e w' => e = .returned (.int .i64 C.1) ∧ (∃ Q', MT (Gr F W w') w' p bm bs m Q' C.2) ∧ Up F W w')
  (hzl : (newS r).length ≤ 1000) :
  Calls Tryz.prog 9 #[.pointer (some ⟨p, 0, none⟩), rv r (.slice sa r.sids.length sc) (.slice la r.locs.length lc)] w fun e w' => e = .returned (.int .i64 (M.app r C).1) ∧ (∃ Q', MT (Gr F w w') w' p bm bs m Q' (M.app r C).2) ∧ Up F w w' := by
 have hap : M.app r C = M.app2 C (rise M.last (newS r)) := by unfold MM.app; rw [hok]; rfl
 rw [hap]
 clear hap
 have HO : Hid (∀ W, Up Nul w W → Calls Tryz.prog 21 #[.agg #[.int .i64 r.kind, .string r.key, .int .i64 r.n, .int .i64 r.sid, .slice sa r.sids.length sc, .int .i64 r.colour, .slice la r.locs.length lc, .int .i64 r.t.hot, .int .i64 r.t.warm, .int .i64 r.t.gap, .int .i64 r.t.add, .int .i64 r.t.top, .int .i64 r.t.half]] W fun e w' => e = .returned (.bool true) ∧ Up Nul W w') := fun W u => by
  have := ok_any r sa la sc lc W (hS.nxt u) (hr.nxt u) hk
  rw [hok] at this
  exact this
 have HNS : Hid (∀ W, Up Nul w W → Calls Tryz.prog 22 #[.agg #[.int .i64 r.kind, .string r.key, .int .i64 r.n, .int .i64 r.sid, .slice sa r.sids.length sc, .int .i64 r.colour, .slice la r.locs.length lc, .int .i64 r.t.hot, .int .i64 r.t.warm, .int .i64 r.t.gap, .int .i64 r.t.add, .int .i64 r.t.top, .int .i64 r.t.half]] W (SidsP W (newS r))) := hns
 have HCH : Hid (∀ W, Up Nul w W → Calls Tryz.prog 23 #[.pointer (some ⟨p, 0, none⟩), .agg #[.int .i64 r.kind, .string r.key, .int .i64 r.n, .int .i64 r.sid, .slice sa r.sids.length sc, .int .i64 r.colour, .slice la r.locs.length lc, .int .i64 r.t.hot, .int .i64 r.t.warm, .int .i64 r.t.gap, .int .i64 r.t.add, .int .i64 r.t.top, .int .i64 r.t.half]] W fun e w' => e = .returned (.int .i64 C.1) ∧ (∃ Q', MT (Gr F W w') w' p bm bs m Q' C.2) ∧ Up F W w') := hch
 obtain ⟨w1, hw1⟩ : ∃ W, W = w.alloc (.cells #[.int .i64 r.kind, .string r.key, .int .i64 r.n, .int .i64 r.sid, .slice sa r.sids.length sc, .int .i64 r.colour, .slice la r.locs.length lc, .int .i64 r.t.hot, .int .i64 r.t.warm, .int .i64 r.t.gap, .int .i64 r.t.add, .int .i64 r.t.top, .int .i64 r.t.half] 28) := ⟨_, rfl⟩
 have u1 : Up Nul w w1 := by rw [hw1]; exact (Up.refl _ _).alloc _
 have b1 : w1.heap[w.heap.size]? = some (.cells #[.int .i64 r.kind, .string r.key, .int .i64 r.n, .int .i64 r.sid, .slice sa r.sids.length sc, .int .i64 r.colour, .slice la r.locs.length lc, .int .i64 r.t.hot, .int .i64 r.t.warm, .int .i64 r.t.gap, .int .i64 r.t.add, .int .i64 r.t.top, .int .i64 r.t.half] 28 (0, 0)) := by rw [hw1]; exact heap_alloc_new _ _
 have HB : Hid (∀ W, Up Nul w1 W → W.heap[w.heap.size]? = some (.cells #[.int .i64 r.kind, .string r.key, .int .i64 r.n, .int .i64 r.sid, .slice sa r.sids.length sc, .int .i64 r.colour, .slice la r.locs.length lc, .int .i64 r.t.hot, .int .i64 r.t.warm, .int .i64 r.t.gap, .int .i64 r.t.add, .int .i64 r.t.top, .int .i64 r.t.half] 28 (0, 0))) := fun W u => (u.block _ (Array.getElem?_eq_some_iff.1 b1).1 id).trans b1
 show Calls Tryz.prog 9 #[.pointer (some ⟨p, 0, none⟩), .agg #[.int .i64 r.kind, .string r.key, .int .i64 r.n, .int .i64 r.sid, .slice sa r.sids.length sc, .int .i64 r.colour, .slice la r.locs.length lc, .int .i64 r.t.hot, .int .i64 r.t.warm, .int .i64 r.t.gap, .int .i64 r.t.add, .int .i64 r.t.top, .int .i64 r.t.half]] w _
 obtain ⟨ns, NS⟩ : ∃ x, Hid (r.sids.length = x) := ⟨_, rfl⟩
 obtain ⟨nl, NL⟩ : ∃ x, Hid (r.locs.length = x) := ⟨_, rfl⟩
 rw [NS.out, NL.out] at HO HNS HCH HB hw1 b1 ⊢
 have HH := hid h
 have HF : Hid (∀ k, F k → k < w.heap.size) := hFw
 have HU1 := hid u1
 have HZL := hid hzl
 have HMM := hid hm
 obtain ⟨zs, ZS⟩ : ∃ x, Hid (newS r = x) := ⟨_, rfl⟩
 rw [ZS.out] at HNS HZL ⊢
 obtain ⟨RO, RR⟩ : ∃ x, Hid (rise M.last zs = x) := ⟨_, rfl⟩
 rw [RR.out]
 clear h hFw hS hr hk hok hns hch hzl u1 hm
 go_enter Tryz.func9, Tryz.ntmps9
 go_wp2_with fail
 rw [← hw1]
 clear hw1
 obtain ⟨pz, PZ⟩ : ∃ x, Hid (w.heap.size = x) := ⟨_, rfl⟩
 rw [PZ.out] at HB b1 ⊢
 refine (HO.out _ HU1.out).mono ?_
 rintro e w2 ⟨rfl, u2⟩
 have HU2 := hid u2
 obtain ⟨_, _, c2⟩ := ((HH.out.nxt HU1.out).nxt u2).cells
 have b2 := HB.out _ u2
 have g0 : w2.cell? ⟨pz, 0, none⟩ = some (.int .i64 r.kind) := by simp [World.cell?, b2]
 have g1 : w2.cell? ⟨pz, 1, none⟩ = some (.string r.key) := by simp [World.cell?, b2]
 have g2 : w2.cell? ⟨pz, 2, none⟩ = some (.int .i64 r.n) := by simp [World.cell?, b2]
 have g3 : w2.cell? ⟨pz, 3, none⟩ = some (.int .i64 r.sid) := by simp [World.cell?, b2]
 have g4 : w2.cell? ⟨pz, 4, none⟩ = some (.slice sa ns sc) := by simp [World.cell?, b2]
 have g5 : w2.cell? ⟨pz, 5, none⟩ = some (.int .i64 r.colour) := by simp [World.cell?, b2]
 have g6 : w2.cell? ⟨pz, 6, none⟩ = some (.slice la nl lc) := by simp [World.cell?, b2]
 have g7 : w2.cell? ⟨pz, 7, none⟩ = some (.int .i64 r.t.hot) := by simp [World.cell?, b2]
 have g8 : w2.cell? ⟨pz, 8, none⟩ = some (.int .i64 r.t.warm) := by simp [World.cell?, b2]
 have g9 : w2.cell? ⟨pz, 9, none⟩ = some (.int .i64 r.t.gap) := by simp [World.cell?, b2]
 have g10 : w2.cell? ⟨pz, 10, none⟩ = some (.int .i64 r.t.add) := by simp [World.cell?, b2]
 have g11 : w2.cell? ⟨pz, 11, none⟩ = some (.int .i64 r.t.top) := by simp [World.cell?, b2]
 have g12 : w2.cell? ⟨pz, 12, none⟩ = some (.int .i64 r.t.half) := by simp [World.cell?, b2]
 clear u2 b1 b2
 go_wp2_with fail
 refine (HNS.out _ (HU1.out.trans HU2.out)).mono ?_
 rintro e w3 ⟨za, zc, rfl, hz, u3⟩
 have HZ := hid hz
 have HU3 := hid (HU2.out.trans u3)
 clear hz u3 c2 g0 g1 g2 g3 g4 g5 g6 g7 g8 g9 g10 g11 g12
 obtain ⟨zn, ZN⟩ : ∃ x, Hid (zs.length = x) := ⟨_, rfl⟩
 rw [ZN.out] at HZL ⊢
 go_wp2_with fail
 go_loopw [5, 19] (fun la i wr => ∃ (t : Nat) (y : Int), t ≤ zn ∧ i = .int .i64 (t : Nat) ∧ la = .int .i64 y ∧ rise M.last (zs.take t) = some y ∧ Up Nul w3 wr) (fun _ i _ => zn - (intOf i).toNat)
 case atStart => exact ⟨0, M.last, Nat.zero_le _, rfl, rfl, rfl, Up.refl _ _⟩
 case round =>
  obtain ⟨t, y, ht, rfl, rfl, hy, hu⟩ := hrel
  have HY := hid hy
  have HUR := hid hu
  have i0 : (0 : Int) ≤ (t : Int) := by omega
  have i9 : (t : Int) ≤ 1000 := by have := HZL.out; omega
  by_cases hlt : t < zn
  ·have htl : t < zs.length := by rw [ZN.out]; exact hlt
   obtain ⟨g, o, rfl, hg, hcell⟩ := (HZ.out.nxt HUR.out).resolve_left (fun e => by rw [e] at htl; cases htl)
   have x1 := hcell t _ (List.getElem?_eq_getElem htl)
   have HNX : Hid (rise M.last (zs.take (t + 1)) = if zs[t] ≤ y then none else some zs[t]) := by
    show _ = _
    rw [List.take_succ_eq_append_getElem htl, rise_next, HY.out]
   have HBD : Hid (zs[t] ≤ y → rise M.last zs = none) := fun e => by
    have h1 := HNX.out
    rw [if_pos e] at h1
    have := rise_bad _ _ (zs.drop (t + 1)) h1
    rwa [List.take_append_drop] at this
   generalize zs[t] = x at x1 HNX HBD
   have i2 : (t : Int) < (zn : Int) := by omega
   have HT := hid hlt
   clear hy hu ht hlt htl hcell hg
   by_cases hxy : x ≤ y
   ·have HE := hid (HBD.out hxy)
    have HE0 : Hid (RO = none) := RR.out.symm.trans HE.out
    have HQ : Hid (Up Nul w wr) := HU1.out.trans (HU3.out.trans HUR.out)
    have hxy' : (decide (x ≤ y)) = true := decide_eq_true hxy
    go_wp2
    go_ret
    rw [HE0.out]
    exact ⟨rfl, ⟨Q, ((HH.out.nxt HQ.out).wide fun k hk => .inl hk).mono HMM.out⟩, HQ.out.nul⟩
   ·have HE : Hid (rise M.last (zs.take (t + 1)) = some x) := by
     show _ = _
     rw [HNX.out, if_neg hxy]
    have hxy' : (decide (x ≤ y)) = false := decide_eq_false hxy
    clear HBD HNX
    go_wp2_with fail
    go_roundw
    case rel => exact ⟨t + 1, x, HT.out, by go_num, rfl, HE.out, HUR.out⟩
    case measure => have := HT.out; simp [intOf]; omega
  ·obtain rfl : t = zn := by omega
   have HE : Hid (rise M.last zs = some y) := by
    have h1 := HY.out
    rw [List.take_of_length_le (by rw [ZN.out]; exact Nat.le_refl _)] at h1
    exact h1
   have HE0 : Hid (RO = some y) := RR.out.symm.trans HE.out
   have b4 := HB.out _ (HU3.out.trans HUR.out)
   have g0 : wr.cell? ⟨pz, 0, none⟩ = some (.int .i64 r.kind) := by simp [World.cell?, b4]
   have g1 : wr.cell? ⟨pz, 1, none⟩ = some (.string r.key) := by simp [World.cell?, b4]
   have g2 : wr.cell? ⟨pz, 2, none⟩ = some (.int .i64 r.n) := by simp [World.cell?, b4]
   have g3 : wr.cell? ⟨pz, 3, none⟩ = some (.int .i64 r.sid) := by simp [World.cell?, b4]
   have g4 : wr.cell? ⟨pz, 4, none⟩ = some (.slice sa ns sc) := by simp [World.cell?, b4]
   have g5 : wr.cell? ⟨pz, 5, none⟩ = some (.int .i64 r.colour) := by simp [World.cell?, b4]
   have g6 : wr.cell? ⟨pz, 6, none⟩ = some (.slice la nl lc) := by simp [World.cell?, b4]
   have g7 : wr.cell? ⟨pz, 7, none⟩ = some (.int .i64 r.t.hot) := by simp [World.cell?, b4]
   have g8 : wr.cell? ⟨pz, 8, none⟩ = some (.int .i64 r.t.warm) := by simp [World.cell?, b4]
   have g9 : wr.cell? ⟨pz, 9, none⟩ = some (.int .i64 r.t.gap) := by simp [World.cell?, b4]
   have g10 : wr.cell? ⟨pz, 10, none⟩ = some (.int .i64 r.t.add) := by simp [World.cell?, b4]
   have g11 : wr.cell? ⟨pz, 11, none⟩ = some (.int .i64 r.t.top) := by simp [World.cell?, b4]
   have g12 : wr.cell? ⟨pz, 12, none⟩ = some (.int .i64 r.t.half) := by simp [World.cell?, b4]
   have HQ : Hid (Up Nul w wr) := HU1.out.trans (HU3.out.trans HUR.out)
   clear hy hu ht b4 hlt
   go_wp2_with fail
   refine (HCH.out _ HQ.out).mono ?_
   rintro e w5 ⟨rfl, ⟨Q5, h5⟩, u5⟩
   have H5 := hid h5
   have HU5 := hid u5
   have HG : Hid (∀ k, Gr F wr w5 k → Gr F w w5 k) := fun k hk => by
    rcases hk with hk | ⟨h1, h2⟩
    ·exact .inl hk
    ·exact .inr ⟨Nat.le_trans HQ.out.size h1, h2⟩
   obtain ⟨_, _, l2⟩ := h5.cells
   have f2 : w5.frozen? ⟨p, 2, none⟩ = false := by simp [World.frozen?, h5.hp]
   clear h5 u5 g0 g1 g2 g3 g4 g5 g6 g7 g8 g9 g10 g11 g12
   by_cases hc : C.1 = 0
   ·have HCC := hid hc
    rw [hc]
    clear hc
    go_wp2
    go_ret
    have hz : M.app2 C RO = (0, { C.2 with last := y }) := by rw [HE0.out]; simp only [MM.app2, HCC.out, if_true]
    rw [hz]
    refine ⟨rfl, ⟨Q5, ?_⟩, (HQ.out.nul.trans HU5.out).setCell (.inr (by
     have := HH.out.fp
     exact this)) _⟩
    have := H5.out.setLast y
    refine (this.wide fun k hk => ?_)
    rcases HG.out k hk with h1 | ⟨h1, h2⟩
    ·exact .inl h1
    ·exact .inr ⟨h1, by simpa using h2⟩
   ·have hc' : (C.1 == 0) = false := by simpa using hc
    have HCC := hid hc
    clear hc
    go_wp2
    go_ret
    have hz : M.app2 C RO = (C.1, C.2) := by rw [HE0.out]; simp only [MM.app2, if_neg HCC.out]
    rw [hz]
    exact ⟨rfl, ⟨Q5, H5.out.wide HG.out⟩, HQ.out.nul.trans HU5.out⟩
end
end Go.Proofs.YtepggchnhgpcnaaGreatDoor
