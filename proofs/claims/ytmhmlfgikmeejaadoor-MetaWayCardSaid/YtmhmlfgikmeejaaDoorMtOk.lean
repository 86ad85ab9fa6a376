/- 'Ok' tells which records may be. -/
import Derived.Test.YtmhmlfgikmeejaaDoorRcOk3a
import Derived.Test.YtmhmlfgikmeejaaDoorRcOk3b
import Derived.Test.YtmhmlfgikmeejaaDoorRcOk3c
import Derived.Test.YtmhmlfgikmeejaaDoorRcOk3d
import Derived.Test.YtmhmlfgikmeejaaDoorMtMath
namespace Go.Proofs.YtmhmlfgikmeejaaDoor
open Go.RowKit
set_option linter.unusedVariables false

theorem ok_core (w : World) (s : ByteArray) (n sid co : Int) (sa : Option Addr) (ns cs : Nat) (la : Option Addr) (nl cl : Nat) (t : Tb) (k : Nat) (c1 c2 c3 c4 c5 c6 c7 c8 c9 c10 : Bool) (hk : spn 1 8 (k : Int) = true) (hS : Shp w)
    (H : OkC w s n sid co sa ns cs la nl cl t k c1 c2 c3 c4 c5 c6 c7 c8 c9 c10) :
    Calls Tryd.prog 16 #[.agg #[.int .i64 (k : Nat), .string s, .int .i64 n, .int .i64 sid, .slice sa ns cs, .int .i64 co, .slice la nl cl, .int .i64 t.hot, .int .i64 t.warm, .int .i64 t.gap, .int .i64 t.add, .int .i64 t.top, .int .i64 t.half]] w
      fun e w' => e = .returned (.bool (c1 && c2 && c3 && c4 && c5 && c6 && c7 && c8 && c9 && c10)) ∧ Up Nul w w' := by
  cases e1 : c1 with
  | false => subst e1; exact ok_case1 w s n sid co sa ns cs la nl cl t k false c2 c3 c4 c5 c6 c7 c8 c9 c10 hk hS rfl H
  | true =>
  cases e2 : c2 with
  | false => subst e2; subst e1; exact ok_case2 w s n sid co sa ns cs la nl cl t k true false c3 c4 c5 c6 c7 c8 c9 c10 hk hS rfl rfl H
  | true =>
  cases e3 : c3 with
  | false => subst e3; subst e1; subst e2; exact ok_case3 w s n sid co sa ns cs la nl cl t k true true false c4 c5 c6 c7 c8 c9 c10 hk hS rfl rfl rfl H
  | true =>
  cases e4 : c4 with
  | false => subst e4; subst e1; subst e2; subst e3; exact ok_case4 w s n sid co sa ns cs la nl cl t k true true true false c5 c6 c7 c8 c9 c10 hk hS rfl rfl rfl rfl H
  | true =>
  cases e5 : c5 with
  | false => subst e5; subst e1; subst e2; subst e3; subst e4; exact ok_case5 w s n sid co sa ns cs la nl cl t k true true true true false c6 c7 c8 c9 c10 hk hS rfl rfl rfl rfl rfl H
  | true =>
  cases e6 : c6 with
  | false => subst e6; subst e1; subst e2; subst e3; subst e4; subst e5; exact ok_case6 w s n sid co sa ns cs la nl cl t k true true true true true false c7 c8 c9 c10 hk hS rfl rfl rfl rfl rfl rfl H
  | true =>
  cases e7 : c7 with
  | false => subst e7; subst e1; subst e2; subst e3; subst e4; subst e5; subst e6; exact ok_case7 w s n sid co sa ns cs la nl cl t k true true true true true true false c8 c9 c10 hk hS rfl rfl rfl rfl rfl rfl rfl H
  | true =>
  cases e8 : c8 with
  | false => subst e8; subst e1; subst e2; subst e3; subst e4; subst e5; subst e6; subst e7; exact ok_case8 w s n sid co sa ns cs la nl cl t k true true true true true true true false c9 c10 hk hS rfl rfl rfl rfl rfl rfl rfl rfl H
  | true =>
  cases e9 : c9 with
  | false => subst e9; subst e1; subst e2; subst e3; subst e4; subst e5; subst e6; subst e7; subst e8; exact ok_case9 w s n sid co sa ns cs la nl cl t k true true true true true true true true false c10 hk hS rfl rfl rfl rfl rfl rfl rfl rfl rfl H
  | true =>
  subst e1; subst e2; subst e3; subst e4; subst e5; subst e6; subst e7; subst e8; subst e9; exact ok_case10 w s n sid co sa ns cs la nl cl t k true true true true true true true true true c10 hk hS rfl rfl rfl rfl rfl rfl rfl rfl rfl H
theorem ok_bad (r : Rc) (sv lv : Value) (w : World) (h : spn 1 8 r.kind = false) : Calls Tryd.prog 16 #[rv r sv lv] w fun e w' => e = .returned (.bool false) ∧ Up Nul w w' := by
  have HK := hid (fun W => kind_any r.kind W)
  rw [h] at HK
  clear h
  obtain ⟨kind, key, n, sid, sids, colour, locs, ⟨a, b, c, d, e, f⟩⟩ := r
  have HU := hid ((Up.refl Nul w).alloc (.cells #[.int .i64 kind, .string key, .int .i64 n, .int .i64 sid, sv, .int .i64 colour, lv, .int .i64 a, .int .i64 b, .int .i64 c, .int .i64 d, .int .i64 e, .int .i64 f] 33))
  show Calls Tryd.prog 16 #[.agg #[.int .i64 kind, .string key, .int .i64 n, .int .i64 sid, sv, .int .i64 colour, lv, .int .i64 a, .int .i64 b, .int .i64 c, .int .i64 d, .int .i64 e, .int .i64 f]] w _
  have hsv : sv.cells = #[sv] ∨ True := .inr trivial
  go_enter Tryd.func16, Tryd.ntmps16
  go_wp2_with fail
  refine (HK.out _).mono ?_
  rintro e w1 ⟨rfl, u1⟩
  have U1 := hid (HU.out.trans u1)
  clear u1
  go_wp2
  go_ret
  exact ⟨rfl, U1.out⟩
theorem rowI_one {W : World} {g : Nat} {x : Int} (h : W.cell? ⟨g, 0, none⟩ = some (.int .i64 x)) : RowI W (some ⟨g, 0, none⟩) [x] := .inr ⟨g, 0, rfl, lt_of_cell h, fun i y hi => by
  match i, hi with
  | 0, hi => cases hi; exact h⟩
theorem ok_any (r : Rc) (sa la : Option Addr) (sc lc : Nat) (w : World) (hS : Shp w) (hr : RH w r sa la) (hk : r.key.size ≤ 100000) :
    Calls Tryd.prog 16 #[rv r (.slice sa r.sids.length sc) (.slice la r.locs.length lc)] w fun e w' => e = .returned (.bool (okR r)) ∧ Up Nul w w' := by
  cases hb : spn 1 8 r.kind with
  | false =>
    refine (ok_bad r _ _ w hb).mono ?_
    rintro e w' ⟨rfl, u⟩
    exact ⟨by unfold okR; rw [hb]; rfl, u⟩
  | true =>
    have hk8 := spn_iff.1 hb
    have hkk : r.kind = ((kn r : Nat) : Int) := by unfold kn; omega
    have hB := sh_bounds (kn r) (by unfold kn; omega)
    have hb2 : spn 1 8 ((kn r : Nat) : Int) = true := by rw [← hkk]; exact hb
    have H := ok_core w r.key r.n r.sid r.colour sa r.sids.length sc la r.locs.length lc r.t (kn r) _ _ _ _ _ _ _ (((r.locs.length : Nat) : Int) == sh (kn r) 11 + sh (kn r) 12 * ((nz r.sids : Nat) : Int)) (r.locs.all lok) _ hb2 hS
      { h1 := fun W u g hg => holds_any _ _ _ 1 [((r.key.size : Nat) : Int)] W (rowI_one hg) (by simp)
        h2 := fun W => plain_any r.key W hk
        h3 := fun W u g hg => holds_any _ _ _ 1 [r.n] W (rowI_one hg) (by simp)
        h4 := fun W u g hg => holds_any _ _ _ 1 [r.sid] W (rowI_one hg) (by simp)
        h5 := fun W u g hg => holds_any _ _ _ 1 [r.colour] W (rowI_one hg) (by simp)
        h6 := rfl
        h7 := fun W u => holds_any _ _ sa sc r.sids W (hr.s.nxt u) hr.ns
        h8 := fun e => ⟨_, rfl, fun W u => locsOf_any (kn r) _ _ sa sc r.sids W (hr.s.nxt u) (by have e := beq_iff_eq.1 e; have := hB.1.2; omega) rfl rfl hB.2.1.1 (by have := hB.2.1.2; omega) hB.2.2.1.1 hB.2.2.1.2⟩
        h9 := fun W u => by
          have := lcont_any W la lc r.locs (hr.l.nxt u) hr.nl (fun l => ! lok l) (fun x _ W _ => nowhere_any x W)
          refine this.mono ?_
          rintro e w' ⟨rfl, u⟩
          exact ⟨by rw [List.all_eq_not_any_not (l := r.locs) (p := lok), Bool.not_not], u⟩
        h10 := fun W g h => holds_any _ _ _ 6 r.t.l W h (by simp [Tb.l]) }
    show Calls Tryd.prog 16 #[.agg #[.int .i64 r.kind, .string r.key, .int .i64 r.n, .int .i64 r.sid, .slice sa r.sids.length sc, .int .i64 r.colour, .slice la r.locs.length lc, .int .i64 r.t.hot, .int .i64 r.t.warm, .int .i64 r.t.gap, .int .i64 r.t.add, .int .i64 r.t.top, .int .i64 r.t.half]] w _
    rw [hkk]
    refine H.mono ?_
    rintro e w' ⟨rfl, u⟩
    exact ⟨by unfold okR; rw [hb]; rfl, u⟩
end Go.Proofs.YtmhmlfgikmeejaaDoor
