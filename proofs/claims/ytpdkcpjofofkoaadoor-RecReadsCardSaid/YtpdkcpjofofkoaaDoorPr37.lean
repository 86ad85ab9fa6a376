/- The document's SameRec of any two records. -/
import Derived.Test.YtpdkcpjofofkoaaDoorPkTidy
import Derived.Test.YtpdkcpjofofkoaaDoorPr36
namespace Go.Proofs.YtpdkcpjofofkoaaDoor
open Go.RowKit
set_option linter.unusedVariables false

theorem Rc_ext (r q : Rc) : r = q ↔ (r.kind = q.kind ∧ r.key = q.key ∧ r.n = q.n ∧ r.sid = q.sid ∧ r.sids = q.sids ∧ r.colour = q.colour ∧ r.locs = q.locs ∧ r.t.hot = q.t.hot ∧ r.t.warm = q.t.warm ∧ r.t.gap = q.t.gap ∧ r.t.add = q.t.add ∧ r.t.top = q.t.top ∧ r.t.half = q.t.half) := by
 constructor
 ·rintro rfl
  exact ⟨rfl, rfl, rfl, rfl, rfl, rfl, rfl, rfl, rfl, rfl, rfl, rfl, rfl⟩
 ·obtain ⟨a, b, c, d, e, f, g, ⟨h, i, j, k, l, m⟩⟩ := r
  obtain ⟨a', b', c', d', e', f', g', ⟨h', i', j', k', l', m'⟩⟩ := q
  rintro ⟨rfl, rfl, rfl, rfl, rfl, rfl, rfl, rfl, rfl, rfl, rfl, rfl, rfl⟩
  rfl
instance : DecidableEq Rc := fun r q => @decidable_of_iff _ _ (Rc_ext r q).symm (inferInstance)
theorem srec_any (w : World) (r q : Rc) (sa sb la lb : Option Addr) (sc tc lc mc : Nat) (hr : RH w r sa la) (hq : RH w q sb lb) :
  Calls Tryd.prog 14 #[rv r (.slice sa r.sids.length sc) (.slice la r.locs.length lc), rv q (.slice sb q.sids.length tc) (.slice lb q.locs.length mc)] w fun e w' => e = .returned (.bool (decide (r = q))) ∧ Up Nul w w' := by
 have hI : ∀ W, Up Nul w W → Calls Tryd.prog 37 #[.slice sa r.sids.length sc, .slice sb q.sids.length tc] W fun e w' => e = .returned (.bool (decide (r.sids = q.sids))) ∧ Up Nul W w' := fun W u => sints_any W sa sb sc tc r.sids q.sids (hr.s.nxt u) (hq.s.nxt u) hr.ns hq.ns
 have hL : ∀ W, Up Nul w W → Calls Tryd.prog 38 #[.slice la r.locs.length lc, .slice lb q.locs.length mc] W fun e w' => e = .returned (.bool (decide (r.locs = q.locs))) ∧ Up Nul W w' := fun W u => slocs_any W la lb lc mc r.locs q.locs (hr.l.nxt u) (hq.l.nxt u) hr.nl hq.nl
 have no : ¬ r = q → decide (r = q) = false := decide_eq_false
 have tt : ∀ {x y : Int}, x = y → (x == y) = true := fun e => by rw [e]; simp
 have ff : ∀ {x y : Int}, ¬ x = y → (x == y) = false := fun e => by simpa using e
 by_cases e1 : r.kind = q.kind
 case neg =>
  rw [no (fun e => e1 (by rw [e]))]
  exact srec_case1 w _ _ _ _ _ _ _ _ _ _ _ _ _ _ _ _ _ _ _ _ _ _ _ _ _ _ hI hL (ff e1)
 by_cases e2 : r.key = q.key
 case neg =>
  rw [no (fun e => e2 (by rw [e]))]
  exact srec_case2 w _ _ _ _ _ _ _ _ _ _ _ _ _ _ _ _ _ _ _ _ _ _ _ _ _ _ hI hL (tt e1) (by rw [beq_eq_false_iff_ne]; exact fun e => e2 (bytes_inj e))
 by_cases e3 : r.n = q.n
 case neg =>
  rw [no (fun e => e3 (by rw [e]))]
  exact srec_case3 w _ _ _ _ _ _ _ _ _ _ _ _ _ _ _ _ _ _ _ _ _ _ _ _ _ _ hI hL (tt e1) (by rw [e2]; simp) (ff e3)
 by_cases e4 : r.sid = q.sid
 case neg =>
  rw [no (fun e => e4 (by rw [e]))]
  exact srec_case4 w _ _ _ _ _ _ _ _ _ _ _ _ _ _ _ _ _ _ _ _ _ _ _ _ _ _ hI hL (tt e1) (by rw [e2]; simp) (tt e3) (ff e4)
 by_cases e5 : r.sids = q.sids
 case neg =>
  rw [no (fun e => e5 (by rw [e]))]
  exact srec_case5 w _ _ _ _ _ _ _ _ _ _ _ _ _ _ _ _ _ _ _ _ _ _ _ _ _ _ hI hL (tt e1) (by rw [e2]; simp) (tt e3) (tt e4) (decide_eq_false e5)
 by_cases e6 : r.colour = q.colour
 case neg =>
  rw [no (fun e => e6 (by rw [e]))]
  exact srec_case6 w _ _ _ _ _ _ _ _ _ _ _ _ _ _ _ _ _ _ _ _ _ _ _ _ _ _ hI hL (tt e1) (by rw [e2]; simp) (tt e3) (tt e4) (decide_eq_true e5) (ff e6)
 by_cases e7 : r.locs = q.locs
 case neg =>
  rw [no (fun e => e7 (by rw [e]))]
  exact srec_case7 w _ _ _ _ _ _ _ _ _ _ _ _ _ _ _ _ _ _ _ _ _ _ _ _ _ _ hI hL (tt e1) (by rw [e2]; simp) (tt e3) (tt e4) (decide_eq_true e5) (tt e6) (decide_eq_false e7)
 by_cases e8 : r.t.hot = q.t.hot
 case neg =>
  rw [no (fun e => e8 (by rw [e]))]
  exact srec_case8 w _ _ _ _ _ _ _ _ _ _ _ _ _ _ _ _ _ _ _ _ _ _ _ _ _ _ hI hL (tt e1) (by rw [e2]; simp) (tt e3) (tt e4) (decide_eq_true e5) (tt e6) (decide_eq_true e7) (ff e8)
 by_cases e9 : r.t.warm = q.t.warm
 case neg =>
  rw [no (fun e => e9 (by rw [e]))]
  exact srec_case9 w _ _ _ _ _ _ _ _ _ _ _ _ _ _ _ _ _ _ _ _ _ _ _ _ _ _ hI hL (tt e1) (by rw [e2]; simp) (tt e3) (tt e4) (decide_eq_true e5) (tt e6) (decide_eq_true e7) (tt e8) (ff e9)
 by_cases e10 : r.t.gap = q.t.gap
 case neg =>
  rw [no (fun e => e10 (by rw [e]))]
  exact srec_case10 w _ _ _ _ _ _ _ _ _ _ _ _ _ _ _ _ _ _ _ _ _ _ _ _ _ _ hI hL (tt e1) (by rw [e2]; simp) (tt e3) (tt e4) (decide_eq_true e5) (tt e6) (decide_eq_true e7) (tt e8) (tt e9) (ff e10)
 by_cases e11 : r.t.add = q.t.add
 case neg =>
  rw [no (fun e => e11 (by rw [e]))]
  exact srec_case11 w _ _ _ _ _ _ _ _ _ _ _ _ _ _ _ _ _ _ _ _ _ _ _ _ _ _ hI hL (tt e1) (by rw [e2]; simp) (tt e3) (tt e4) (decide_eq_true e5) (tt e6) (decide_eq_true e7) (tt e8) (tt e9) (tt e10) (ff e11)
 by_cases e12 : r.t.top = q.t.top
 case neg =>
  rw [no (fun e => e12 (by rw [e]))]
  exact srec_case12 w _ _ _ _ _ _ _ _ _ _ _ _ _ _ _ _ _ _ _ _ _ _ _ _ _ _ hI hL (tt e1) (by rw [e2]; simp) (tt e3) (tt e4) (decide_eq_true e5) (tt e6) (decide_eq_true e7) (tt e8) (tt e9) (tt e10) (tt e11) (ff e12)
 by_cases e13 : r.t.half = q.t.half
 case neg =>
  rw [no (fun e => e13 (by rw [e]))]
  exact srec_case13 w _ _ _ _ _ _ _ _ _ _ _ _ _ _ _ _ _ _ _ _ _ _ _ _ _ _ hI hL (tt e1) (by rw [e2]; simp) (tt e3) (tt e4) (decide_eq_true e5) (tt e6) (decide_eq_true e7) (tt e8) (tt e9) (tt e10) (tt e11) (tt e12) (ff e13)
 rw [decide_eq_true ((Rc_ext r q).2 ⟨e1, e2, e3, e4, e5, e6, e7, e8, e9, e10, e11, e12, e13⟩)]
 exact srec_case14 w _ _ _ _ _ _ _ _ _ _ _ _ _ _ _ _ _ _ _ _ _ _ _ _ _ _ hI hL (tt e1) (by rw [e2]; simp) (tt e3) (tt e4) (decide_eq_true e5) (tt e6) (decide_eq_true e7) (tt e8) (tt e9) (tt e10) (tt e11) (tt e12) (tt e13)
end Go.Proofs.YtpdkcpjofofkoaaDoor
