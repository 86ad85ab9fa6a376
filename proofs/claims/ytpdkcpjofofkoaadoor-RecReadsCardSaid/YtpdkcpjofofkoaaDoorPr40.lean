/- The law's 'Rec'. -/
import Derived.Test.YtpdkcpjofofkoaaDoorPkTidy
import Derived.Test.YtpdkcpjofofkoaaDoorPr38
import Derived.Test.YtpdkcpjofofkoaaDoorPq13
import Derived.Laws.EntriesVeiled
namespace Go.Proofs.YtpdkcpjofofkoaaDoor
open Go.RowKit
set_option linter.unusedVariables false
set_option linter.unusedSimpArgs false

theorem came_o {w : World} {a : Option Addr} {len cap : Nat} {zs : List Int} (h : CameI w a len cap zs) (A : Nat) (hA : w.heap.size ≤ A) : ∃ ys, ys.length = len ∧ RowO A w a ys ∧ len ≤ 9223372036854775807 := by
 rcases h with ⟨_, rfl, _⟩ | ⟨x, rfl, hl, hm, hz, hc, hw⟩
 ·exact ⟨[], rfl, .inl rfl, by omega⟩
 ·unfold maxLen at hm
  refine ⟨zs.take len, by rw [List.length_take]; omega, ?_, by omega⟩
  by_cases h0 : len = 0
  ·exact .inl (by rw [h0]; rfl)
  ·obtain ⟨b, o, spot⟩ := x
   have hc0 := hc 0 (by omega)
   have hs : spot = none := by simpa [Addr.add] using World.cell?_spot hc0
   subst hs
   have hb := lt_of_cell hc0
   have hb : b < w.heap.size := by simpa [Addr.add] using hb
   refine .inr ⟨b, o, rfl, hb, by omega, fun i x hi => ?_⟩
   rw [List.getElem?_take] at hi
   split at hi
   ·next hil =>
    have := hc i (by omega)
    rw [add_off, List.getD_eq_getElem?_getD, hi] at this
    exact this
   ·cases hi
/-- .. and the block of the result is as it was. -/
structure Rt (w0 W : World) (A Lb F p k : Nat) (zs : List Int) (C : Array Value) (G : Option (Nat × Array Value)) (r0 : Nat) : Prop where
 rs : Rs w0 W A Lb F p k zs C G
 rc : W.heap[r0]? = some (.cells #[.int .i64 0, .string ⟨#[]⟩, .int .i64 0, .int .i64 0, .slice none 0 0, .int .i64 0, .slice none 0 0, .int .i64 0, .int .i64 0, .int .i64 0, .int .i64 0, .int .i64 0, .int .i64 0] 27 (0, 0))
 ne : r0 ≠ A ∧ r0 ≠ p ∧ w0.heap.size ≤ r0
section
variable {w0 W W' : World} {A Lb F p k k' r0 : Nat} {zs : List Int} {C : Array Value} {G : Option (Nat × Array Value)}
theorem Rt.nxt (h : Rt w0 W A Lb F p k zs C G r0) (u : Up Nul W W') : Rt w0 W' A Lb F p k zs C G r0 := ⟨h.rs.nxt u, (u.block r0 (Array.getElem?_eq_some_iff.1 h.rc).1 id).trans h.rc, h.ne⟩
theorem Rt.call (h : Rt w0 W A Lb F p k zs C G r0) (n : Nx W' A Lb k' zs) (u : Up (One A) W W') : Rt w0 W' A Lb F p k' zs C G r0 := ⟨h.rs.call n u, (u.block r0 (Array.getElem?_eq_some_iff.1 h.rc).1 h.ne.1).trans h.rc, h.ne⟩
theorem Rt.set (h : Rt w0 W A Lb F p k zs C G r0) (i : Nat) (v : Value) : Rt w0 (W.setCell ⟨p, i, none⟩ v) A Lb F p k zs (C.setIfInBounds i v) G r0 :=
 ⟨h.rs.set i v, (((Up.refl (One p) W).put rfl i v : Up (One p) W _).block r0 (Array.getElem?_eq_some_iff.1 h.rc).1 h.ne.2.1).trans h.rc, h.ne⟩
theorem Rt.row3 (h : Rt w0 W A Lb F p k zs C none r0) (g : Nat) (hg : g = W.heap.size) (cs : Array Value) : Rt w0 (W.alloc (.cells cs 3)) A Lb F p k zs C (some (g, cs)) r0 :=
 ⟨by rw [hg]; exact h.rs.row3 cs, (Below.heap_alloc _ _ _ (Array.getElem?_eq_some_iff.1 h.rc).1).trans h.rc, h.ne⟩
theorem Rt.cell (h : Rt w0 W A Lb F p k zs C G r0) {i : Nat} {v : Value} (hv : C[i]? = some v) : W.cell? ⟨p, i, none⟩ = some v ∧ W.frozen? ⟨p, i, none⟩ = false := ⟨h.rs.cell hv, h.rs.froz i⟩
theorem Rt.gcell {a b c : Int} {g : Nat} (h : Rt w0 W A Lb F p k zs C (some (g, #[.int .i64 a, .int .i64 b, .int .i64 c])) r0) {t : Nat} (ht : t < 3) : W.cell? ⟨g, t, none⟩ = some (.int .i64 ([a, b, c].getD t 0)) := by
 have := (h.rs.gc _ _ rfl).1
 match t, ht with
 | 0, _ => simp [World.cell?, this]
 | 1, _ => simp [World.cell?, this]
 | 2, _ => simp [World.cell?, this]
end
/-- Behind the switch. -/
def Ry (w0 : World) (A Lb F p r0 : Nat) (zs : List Int) (s7 : Value) (wx : World) : Prop := ∃ (r : Rc) (sv : Value) (L k : Nat) (G : Option (Nat × Array Value)), s7 = .int .i64 ((L : Nat) : Int) ∧ Rt w0 wx A Lb F p k zs (rcells r sv) G r0 ∧ Svs r sv G ∧ OkP r L ∧ k ≤ 20
theorem Rt.grow {w0 W W' : World} {A Lb F p k r0 base : Nat} {zs : List Int} {C : Array Value} {G : Option (Nat × Array Value)} {row : Option Nat} (h : Rt w0 W A Lb F p k zs C G r0) (hb : A < base ∧ Lb < base ∧ F < base ∧ p < base ∧ r0 < base ∧ w0.heap.size ≤ base ∧ ∀ g cs, G = some (g, cs) → g < base) (g : W.grownBy W' row) (hr : ∀ k, row = some k → base ≤ k) : Rt w0 W' A Lb F p k zs C G r0 := by
 obtain ⟨b1, b2, b3, b4, b5, b6, b7⟩ := hb
 have u : Up (fun j => row = some j) W W' := ⟨g.os, g.tape, g.output, g.size, fun k hk hs => g.block k hk fun e => hs e.symm⟩
 have kp : ∀ j, j < base → j < W.heap.size → W'.heap[j]? = W.heap[j]? := fun j hj hl => g.block j hl fun e => by have := hr j e.symm; omega
 have hA := (Array.getElem?_eq_some_iff.1 h.rs.nx.at_).1
 have hF := (Array.getElem?_eq_some_iff.1 h.rs.cl).1
 have hp := (Array.getElem?_eq_some_iff.1 h.rs.pc).1
 have h0 := (Array.getElem?_eq_some_iff.1 h.rc).1
 refine ⟨⟨h.rs.nx.keep h.rs.nx.le u ((kp A b1 hA).trans h.rs.nx.at_) (fun j e => by have := hr j e; omega), (kp F b3 hF).trans h.rs.cl, (kp p b4 hp).trans h.rs.pc, fun q cs e => ⟨(kp q (b7 q cs e) (Array.getElem?_eq_some_iff.1 (h.rs.gc q cs e).1).1).trans (h.rs.gc q cs e).1, (h.rs.gc q cs e).2⟩, ⟨u.os.trans h.rs.up.os, u.tape.trans h.rs.up.tape, u.output.trans h.rs.up.output, Nat.le_trans h.rs.up.size u.size, fun j hj _ => (kp j (by omega) (Nat.lt_of_lt_of_le hj h.rs.up.size)).trans (h.rs.up.block j hj id)⟩, h.rs.a, h.rs.ne⟩, (kp r0 b5 h0).trans h.rc, h.ne⟩
theorem OwnLo.base_le {base : Nat} {w : World} {v : Value} {ls : List Lo} {x : Lo} (h : OwnLo base w v (ls ++ [x])) : base ≤ w.heap.size := by
 rcases h.2 with ⟨_, h0⟩ | ⟨g, cap, cur, h1, h2, h3, h4⟩
 ·simp at h0
 ·have := (Array.getElem?_eq_some_iff.1 h3).1; omega
theorem Rt.lts {w0 W : World} {A Lb F p k r0 : Nat} {zs : List Int} {C : Array Value} {G : Option (Nat × Array Value)} (h : Rt w0 W A Lb F p k zs C G r0) : A < W.heap.size ∧ Lb < W.heap.size ∧ F < W.heap.size ∧ p < W.heap.size ∧ r0 < W.heap.size ∧ w0.heap.size ≤ W.heap.size ∧ ∀ g cs, G = some (g, cs) → g < W.heap.size := by
 obtain ⟨a, c, h2, _⟩ := h.rs.nx.l
 exact ⟨(Array.getElem?_eq_some_iff.1 h.rs.nx.at_).1, (Array.getElem?_eq_some_iff.1 h2).1, (Array.getElem?_eq_some_iff.1 h.rs.cl).1, (Array.getElem?_eq_some_iff.1 h.rs.pc).1, (Array.getElem?_eq_some_iff.1 h.rc).1, h.rs.up.size, fun g cs e => (Array.getElem?_eq_some_iff.1 (h.rs.gc g cs e).1).1⟩
theorem exec_build (o : Oper) (ev : Operand → Value) (t : TypeId) (parts : Array (Nat × Operand)) (ho : o.op = .build t parts) (vs : Array (Nat × Value)) (hvs : parts.map (fun p => (p.1, ev p.2)) = vs) (v : Value) (w : World) (h : (Instr.build t vs).run Tryd.prog w = .ok v w) :
  (execOp ev o).run Tryd.prog w = .ok (.value v) w := by
 unfold execOp
 simp only [ho]
 have e : parts.map (fun x => match x with | (i, p) => (i, ev p)) = vs := hvs
 simp [e, h]
theorem wp_exec {w w' : World} {o : Oper} {a : Act} {K : Act → World → Prop} {Q : Exit → Act → World → Prop} {v : Value} (h : (execOp a.eval o).run Tryd.prog w = .ok (.value v) w') (hk : K (a.put o.dst v) w') : Oper.wp Tryd.prog o a w K Q := by
 unfold Oper.wp
 rw [h]
 exact hk
theorem build_tab (a b c d e f : Int) (w : World) : (Instr.build 25 #[(0, .int .i64 a), (1, .int .i64 b), (2, .int .i64 c), (3, .int .i64 d), (4, .int .i64 e), (5, .int .i64 f)]).run Tryd.prog w = .ok (.agg #[.int .i64 a, .int .i64 b, .int .i64 c, .int .i64 d, .int .i64 e, .int .i64 f]) w :=
 run_build w _ _ _ (by kernel_rfl)
theorem exec_tab (o : Oper) (ev : Operand → Value) (p0 p1 p2 p3 p4 p5 : Operand) (ho : o.op = .build 25 #[(0, p0), (1, p1), (2, p2), (3, p3), (4, p4), (5, p5)]) (a b c d e f : Int) (h0 : ev p0 = .int .i64 a) (h1 : ev p1 = .int .i64 b) (h2 : ev p2 = .int .i64 c) (h3 : ev p3 = .int .i64 d) (h4 : ev p4 = .int .i64 e) (h5 : ev p5 = .int .i64 f) (w : World) :
  (execOp ev o).run Tryd.prog w = .ok (.value (.agg #[.int .i64 a, .int .i64 b, .int .i64 c, .int .i64 d, .int .i64 e, .int .i64 f])) w :=
 exec_build o ev _ _ ho _ (by simp [h0, h1, h2, h3, h4, h5]) _ _ (build_tab a b c d e f w)
theorem kn_lit (k : Nat) (key : ByteArray) (n sid : Int) (sids : List Int) (co : Int) (ls : List Lo) (t : Tb) : kn ⟨(k : Int), key, n, sid, sids, co, ls, t⟩ = k := by simp [kn]
theorem okP_of (k : Nat) (key : ByteArray) (n sid : Int) (sids : List Int) (co : Int) (t : Tb) (L : Nat) (h1 : 1 ≤ k) (h8 : k ≤ 8) (hk : sh k 0 ≤ (key.size : Nat) ∧ ((key.size : Nat) : Int) ≤ sh k 1) (hp : ∀ c ∈ nums key, 33 ≤ c ∧ c ≤ 126)
  (hn : sh k 2 ≤ n ∧ n ≤ sh k 3) (hs : sh k 4 ≤ sid ∧ sid ≤ sh k 5) (hc : sh k 6 ≤ co ∧ co ≤ sh k 7) (hns : ((sids.length : Nat) : Int) = sh k 8) (hsi : ∀ x ∈ sids, sh k 9 ≤ x ∧ x ≤ sh k 10) (hl : ((L : Nat) : Int) = sh k 11 + sh k 12 * ((nz sids : Nat) : Int))
  (ht : ∀ x ∈ t.l, sh k 13 ≤ x ∧ x ≤ sh k 14) (h6 : L ≤ 6) : OkP ⟨(k : Int), key, n, sid, sids, co, [], t⟩ L := by
 have e : kn ⟨(k : Int), key, n, sid, sids, co, [], t⟩ = k := kn_lit k _ _ _ _ _ _ _
 exact ⟨by rw [e]; exact h1, by rw [e]; exact h8, by rw [e], by rw [e]; exact hk, hp, by rw [e]; exact hn, by rw [e]; exact hs, by rw [e]; exact hc, by rw [e]; exact hns, by rw [e]; exact hsi, by rw [e]; exact hl, by rw [e]; exact ht, h6⟩
theorem tb0_ok (lo hi : Int) (h : lo ≤ 0 ∧ 0 ≤ hi) : ∀ x ∈ tb0.l, lo ≤ x ∧ x ≤ hi := by
 intro x hx
 simp [Tb.l, tb0] at hx
 omega
/-- A record's rows, its own: new since B. -/
structure RO (B : Nat) (w : World) (r : Rc) (sa : Option Addr) (la : Option Addr) (lc : Nat) : Prop where
 s : r.sids = [] ∨ ∃ g, sa = some ⟨g, 0, none⟩ ∧ B ≤ g ∧ w.heap[g]? = some (.cells (intV r.sids).toArray 3 (0, 0))
 l : OwnLo B w (.slice la r.locs.length lc) r.locs
theorem OwnLo.weak {B B' : Nat} {w : World} {v : Value} {ls : List Lo} (h : OwnLo B w v ls) (hb : B' ≤ B) : OwnLo B' w v ls := by
 refine ⟨h.1, ?_⟩
 rcases h.2 with hn | ⟨g, cap, cur, h1, h2, h3⟩
 ·exact .inl hn
 ·exact .inr ⟨g, cap, cur, h1, Nat.le_trans hb h2, h3⟩
set_option maxRecDepth 100000 in
set_option maxHeartbeats 8000000 in
theorem rec_own (w : World) (a : Option Addr) (len cap : Nat) (z0 : List Int) (h : CameI w a len cap z0) :
  Calls Tryd.prog 7 #[.slice a len cap] w fun e w' => ∃ (r : Rc) (sa : Option Addr) (sc : Nat) (la : Option Addr) (lc : Nat), e = .returned (rv r (.slice sa r.sids.length sc) (.slice la r.locs.length lc)) ∧ OkF r ∧ RH w' r sa la ∧ RO w.heap.size w' r sa la lc ∧ Up Nul w w' := by
 obtain ⟨W1, hW1⟩ : ∃ W, W = (((w.alloc (.cells #[.slice a len cap] 22)).alloc (.cells #[.int .i64 0, .string ⟨#[]⟩, .int .i64 0, .int .i64 0, .slice none 0 0, .int .i64 0, .slice none 0 0, .int .i64 0, .int .i64 0, .int .i64 0, .int .i64 0, .int .i64 0, .int .i64 0] 27)).alloc (.cells #[.int .i64 0] 3)).alloc (.cells #[nextV (w.heap.size + 2) w.heap.size] 46) := ⟨_, rfl⟩
 have U1 : Up Nul w W1 := by rw [hW1]; exact ((((Up.refl Nul w).alloc _).alloc _).alloc _).alloc _
 obtain ⟨zs, hzl, hrow, hle⟩ := came_o h (w.heap.size + 2) (by omega)
 have q0 : W1.heap[w.heap.size]? = some (.cells #[.slice a len cap] 22 (0, 0)) := by
  rw [hW1]
  exact (Below.heap_alloc _ _ _ (by first | (simp; done) | (simp; omega))).trans ((Below.heap_alloc _ _ _ (by first | (simp; done) | (simp; omega))).trans ((Below.heap_alloc _ _ _ (by simp)).trans (heap_alloc_new _ _)))
 have q1 : W1.heap[w.heap.size + 1]? = some (.cells #[.int .i64 0, .string ⟨#[]⟩, .int .i64 0, .int .i64 0, .slice none 0 0, .int .i64 0, .slice none 0 0, .int .i64 0, .int .i64 0, .int .i64 0, .int .i64 0, .int .i64 0, .int .i64 0] 27 (0, 0)) := by
  rw [hW1]
  have := heap_alloc_new (w.alloc (.cells #[.slice a len cap] 22)) (.cells #[.int .i64 0, .string ⟨#[]⟩, .int .i64 0, .int .i64 0, .slice none 0 0, .int .i64 0, .slice none 0 0, .int .i64 0, .int .i64 0, .int .i64 0, .int .i64 0, .int .i64 0, .int .i64 0] 27)
  refine (Below.heap_alloc _ _ _ (by first | (simp; done) | (simp; omega))).trans ((Below.heap_alloc _ _ _ (by simp)).trans ?_)
  simpa using this
 have q2 : W1.heap[w.heap.size + 2]? = some (.cells #[.int .i64 0] 3 (0, 0)) := by
  rw [hW1]
  have := heap_alloc_new ((w.alloc (.cells #[.slice a len cap] 22)).alloc (.cells #[.int .i64 0, .string ⟨#[]⟩, .int .i64 0, .int .i64 0, .slice none 0 0, .int .i64 0, .slice none 0 0, .int .i64 0, .int .i64 0, .int .i64 0, .int .i64 0, .int .i64 0, .int .i64 0] 27)) (.cells #[.int .i64 0] 3)
  refine (Below.heap_alloc _ _ _ (by simp)).trans ?_
  simpa using this
 have q3 : W1.heap[w.heap.size + 3]? = some (.cells #[nextV (w.heap.size + 2) w.heap.size] 46 (0, 0)) := by
  rw [hW1]
  have := heap_alloc_new (((w.alloc (.cells #[.slice a len cap] 22)).alloc (.cells #[.int .i64 0, .string ⟨#[]⟩, .int .i64 0, .int .i64 0, .slice none 0 0, .int .i64 0, .slice none 0 0, .int .i64 0, .int .i64 0, .int .i64 0, .int .i64 0, .int .i64 0, .int .i64 0] 27)).alloc (.cells #[.int .i64 0] 3)) (.cells #[nextV (w.heap.size + 2) w.heap.size] 46)
  simpa using this
 have hsz : W1.heap.size = w.heap.size + 4 := by rw [hW1]; simp
 obtain ⟨Lb, LB⟩ : ∃ x, Hid (w.heap.size = x) := ⟨_, rfl⟩
 obtain ⟨r0, R0⟩ : ∃ x, Hid (w.heap.size + 1 = x) := ⟨_, rfl⟩
 obtain ⟨A, AA⟩ : ∃ x, Hid (w.heap.size + 2 = x) := ⟨_, rfl⟩
 obtain ⟨F, FF⟩ : ∃ x, Hid (w.heap.size + 3 = x) := ⟨_, rfl⟩
 have HLA : Hid (Lb + 1 = r0 ∧ Lb + 2 = A ∧ Lb + 3 = F ∧ w.heap.size ≤ Lb) := by
  show Lb + 1 = r0 ∧ Lb + 2 = A ∧ Lb + 3 = F ∧ w.heap.size ≤ Lb
  rw [← LB.out, ← R0.out, ← AA.out, ← FF.out]
  exact ⟨rfl, rfl, rfl, Nat.le_refl _⟩
 rw [FF.out] at q3
 rw [AA.out] at q2 q3 hrow
 rw [R0.out] at q1
 rw [LB.out] at q0 q3
 have HNX : Hid (Nx W1 A Lb 0 zs) := ⟨q2, ⟨a, cap, by rw [hzl]; exact q0, by
  rcases hrow with e | ⟨g, o, e, hg, hA, hc⟩
  ·exact .inl e
  ·exact .inr ⟨g, o, e, Nat.lt_of_lt_of_le hg U1.size, hA, fun i x hi => (U1.cell (p := ⟨g, o + i, none⟩) hg id).trans (hc i x hi)⟩⟩, by omega, by omega, by have := HLA.out; omega⟩
 have HW1 := hid (And.intro U1 (And.intro q1 (And.intro q3 hsz)))
 clear h U1 hzl hrow hle q0 q1 q2 q3 hsz
 go_enter Tryd.func7, Tryd.ntmps7
 go_wp2_with fail
 rw [← hW1]
 clear hW1
 rw [FF.out, AA.out, R0.out, LB.out]
 refine (nxt_int W1 A Lb 0 8 zs HNX.out (by omega) (by omega) (by omega)).mono ?_
 rintro e w2 ⟨x13, rfl, h13, hn2, u2⟩
 obtain ⟨W3, hW3⟩ : ∃ W, W = w2.alloc (.cells #[.int .i64 ((x13 : Int) + 1), .string ⟨#[]⟩, .int .i64 0, .int .i64 0, .slice none 0 0, .int .i64 0, .slice none 0 0, .int .i64 0, .int .i64 0, .int .i64 0, .int .i64 0, .int .i64 0, .int .i64 0] 27) := ⟨_, rfl⟩
 have U3 : Up Nul w2 W3 := by rw [hW3]; exact (Up.refl Nul w2).alloc _
 have hp : W3.heap[w2.heap.size]? = some (.cells #[.int .i64 ((x13 : Int) + 1), .string ⟨#[]⟩, .int .i64 0, .int .i64 0, .slice none 0 0, .int .i64 0, .slice none 0 0, .int .i64 0, .int .i64 0, .int .i64 0, .int .i64 0, .int .i64 0, .int .i64 0] 27 (0, 0)) := by rw [hW3]; exact heap_alloc_new _ _
 obtain ⟨p, P⟩ : ∃ x, Hid (w2.heap.size = x) := ⟨_, rfl⟩
 rw [P.out] at hp
 have hw2 := u2.size
 have HRS : Hid (Rs w W3 A Lb F p 1 zs #[.int .i64 ((x13 : Int) + 1), .string ⟨#[]⟩, .int .i64 0, .int .i64 0, .slice none 0 0, .int .i64 0, .slice none 0 0, .int .i64 0, .int .i64 0, .int .i64 0, .int .i64 0, .int .i64 0, .int .i64 0] none) := by
  obtain ⟨g1, g2, g3, g4⟩ := HW1.out
  have hl := HLA.out
  have hlb := LB.out
  have hpp := P.out
  refine ⟨hn2.nxt U3, (U3.block F (by omega) id).trans ((u2.block F (by omega) (fun e => by have e : F = A := e; omega)).trans g3), hp, (fun _ _ e => by cases e), ?_, by omega, by omega⟩
  have : Up Nul w w2 := ⟨u2.os.trans g1.os, u2.tape.trans g1.tape, u2.output.trans g1.output, Nat.le_trans g1.size u2.size, fun j hj _ => (u2.block j (by omega) (fun e => by have e : j = A := e; omega)).trans (g1.block j hj id)⟩
  exact this.trans U3
 have HR0 : Hid (W3.heap[r0]? = some (.cells #[.int .i64 0, .string ⟨#[]⟩, .int .i64 0, .int .i64 0, .slice none 0 0, .int .i64 0, .slice none 0 0, .int .i64 0, .int .i64 0, .int .i64 0, .int .i64 0, .int .i64 0, .int .i64 0] 27 (0, 0)) ∧ r0 ≠ p ∧ r0 ≠ A ∧ r0 < W3.heap.size) := by
  obtain ⟨g1, g2, g3, g4⟩ := HW1.out
  have hl := HLA.out
  have hlb := LB.out
  have hpp := P.out
  have hs3 := U3.size
  exact ⟨(U3.block r0 (by omega) id).trans ((u2.block r0 (by omega) (fun e => by have e : r0 = A := e; omega)).trans g2), by omega, by omega, by omega⟩
 have hb := HRS.out.cell (i := 0) rfl
 have wk : IntKind.i64.wrap ((x13 : Int) + 1) = (x13 : Int) + 1 := IntWalk.i64_in _ (by omega)
 have wk2 : wrap64 ((x13 : Int) + 1) = (x13 : Int) + 1 := by rw [← IntWalk.i64_left]; exact wk
 clear u2 U3 hp hn2 HNX HW1 hw2
 go_upto_block 0 with fail
 rw [← hW3, P.out]
 clear hW3 hb wk wk2
 have HRT : Hid (Rt w W3 A Lb F p 1 zs #[.int .i64 ((x13 : Int) + 1), .string ⟨#[]⟩, .int .i64 0, .int .i64 0, .slice none 0 0, .int .i64 0, .slice none 0 0, .int .i64 0, .int .i64 0, .int .i64 0, .int .i64 0, .int .i64 0, .int .i64 0] none r0) := ⟨HRS.out, HR0.out.1, by have := HLA.out; have := HR0.out.2; omega⟩
 clear HRS HR0
 go_cut [7] (fun s7 wx => Ry w A Lb F p r0 zs s7 wx)
 case first =>
  as_aux_lemma =>
  have hx8 : x13 < 8 := by omega
  clear h13
  rcases (by omega : x13 = 0 ∨ x13 = 1 ∨ x13 = 2 ∨ x13 = 3 ∨ x13 = 4 ∨ x13 = 5 ∨ x13 = 6 ∨ x13 = 7) with rfl | rfl | rfl | rfl | rfl | rfl | rfl | rfl
  ·as_aux_lemma =>
   have HR : Hid (Rt w W3 A Lb F p 1 zs #[.int .i64 1, .string ⟨#[]⟩, .int .i64 0, .int .i64 0, .slice none 0 0, .int .i64 0, .slice none 0 0, .int .i64 0, .int .i64 0, .int .i64 0, .int .i64 0, .int .i64 0, .int .i64 0] none r0) := HRT.out
   clear HRT hx8
   have c0 := HR.out.rs.clc
   go_wp2_with fail
   clear c0
   have HR := hid (HR.out.nxt (Up.refl Nul W3).drew)
   refine wp_region_held_drew (S := (fun W => W.cell? ⟨F, 0, none⟩ = some (nextV A Lb))) (by kernel_rfl) (by exact HR.out.rs.clc) (fun hHeld => ?_)
   refine tkl 0 (some 34) ?vk11 rfl ?yk11 ?rk11
   case yk11 => (intro w hSw; (try dsimp only at hSw); go_simp; try with_reducible rfl)
   try simp only [tdy]
   refine tkl 3 (some 37) ?vk12 rfl ?yk12 ?rk12
   case yk12 => (intro w hSw; (try dsimp only at hSw); go_simp; try with_reducible rfl)
   try simp only [tdy]
   refine tkl 5 (some 39) ?vk13 rfl ?yk13 ?rk13
   case yk13 => (intro w hSw; (try dsimp only at hSw); go_simp; try with_reducible rfl)
   try simp only [tdy]
   refine one 1 (some 35) rfl (fun K hK => ?_)
   go_simp
   go_at_call 16
   refine (nxt_int _ A Lb _ _ zs HR.out.rs.nx (by omega) (by omega) (by omega)).mono ?_
   rintro e wc ⟨x35, rfl, h35, hn, hu⟩
   have HR := hid (HR.out.call hn hu)
   clear hn hu
   refine hK.out _ _ ?kk14x (fun hHeld => ?_)
   case kk14x => exact HR.out.rs.clc
   clear hK K
   try simp only [tdy]
   refine one 2 (some 36) rfl (fun K hK => ?_)
   go_simp
   go_at_call 18
   refine (key_any x35 (by omega) _).mono ?_
   rintro e wc ⟨s36, rfl, hs36, hu⟩
   have HR := hid (HR.out.nxt hu)
   clear hu
   refine hK.out _ _ ?kk15x (fun hHeld => ?_)
   case kk15x => exact HR.out.rs.clc
   clear hK K
   try simp only [tdy]
   refine tkl 8 (some 42) ?vk16 rfl ?yk16 ?rk16
   case yk16 => (intro w hSw; (try dsimp only at hSw); go_simp; try with_reducible rfl)
   try simp only [tdy]
   refine one 4 (some 38) rfl (fun K hK => ?_)
   go_simp
   go_at_call 16
   refine (nxt_int _ A Lb _ _ zs HR.out.rs.nx (by omega) (by omega) (by omega)).mono ?_
   rintro e wc ⟨x38, rfl, h38, hn, hu⟩
   have HR := hid (HR.out.call hn hu)
   clear hn hu
   refine hK.out _ _ ?kk17x (fun hHeld => ?_)
   case kk17x => exact HR.out.rs.clc
   clear hK K
   try simp only [tdy]
   refine one 6 (some 40) rfl (fun K hK => ?_)
   go_simp
   go_at_call 16
   refine (nxt_int _ A Lb _ _ zs HR.out.rs.nx (by omega) (by omega) (by omega)).mono ?_
   rintro e wc ⟨x40, rfl, h40, hn, hu⟩
   have HR := hid (HR.out.call hn hu)
   clear hn hu
   have v40 : IntKind.i64.wrap ((x40 : Int) + 1) = (x40 : Int) + 1 := IntWalk.i64_in _ (by omega)
   refine hK.out _ _ ?kk18x (fun hHeld => ?_)
   case kk18x => exact HR.out.rs.clc
   clear hK K
   try simp only [tdy]
   refine tkl 7 (some 41) ?vk19 rfl ?yk19 ?rk19
   case yk19 => (intro w hSw; (try dsimp only at hSw); go_simp; try with_reducible rfl)
   try simp only [tdy]
   obtain ⟨cc, ff⟩ := HR.out.cell (i := 1) rfl
   refine one 9 none rfl (fun K hK => ?_)
   go_simp
   have HR := hid (HR.out.set 1 (.string s36))
   clear cc ff
   refine hK.out _ _ ?kk110x (fun hHeld => ?_)
   case kk110x => exact HR.out.rs.clc
   clear hK K
   try simp only [tdy]
   refine tkl 10 (some 43) ?vk111 rfl ?yk111 ?rk111
   case yk111 => (intro w hSw; (try dsimp only at hSw); go_simp; try with_reducible rfl)
   try simp only [tdy]
   obtain ⟨cc, ff⟩ := HR.out.cell (i := 2) rfl
   refine one 11 none rfl (fun K hK => ?_)
   go_simp
   have HR := hid (HR.out.set 2 (.int .i64 (x38 : Nat)))
   clear cc ff
   refine hK.out _ _ ?kk112x (fun hHeld => ?_)
   case kk112x => exact HR.out.rs.clc
   clear hK K
   try simp only [tdy]
   refine tkl 12 (some 44) ?vk113 rfl ?yk113 ?rk113
   case yk113 => (intro w hSw; (try dsimp only at hSw); go_simp; try with_reducible rfl)
   try simp only [tdy]
   obtain ⟨cc, ff⟩ := HR.out.cell (i := 3) rfl
   refine one 13 none rfl (fun K hK => ?_)
   go_simp
   have HR := hid (HR.out.set 3 (.int .i64 ((x40 : Int) + 1)))
   clear cc ff
   refine hK.out _ _ ?kk114x (fun hHeld => ?_)
   case kk114x => exact HR.out.rs.clc
   clear hK K
   try simp only [tdy]
   refine tkl 14 (some 7) ?vk115 rfl ?yk115 ?rk115
   case yk115 => (intro w hSw; (try dsimp only at hSw); go_simp; try with_reducible rfl)
   try simp only [tdy]
   refine wpAnyH_done (by kernel_rfl) ?_ _
   have HOK : Hid (OkP ⟨((1 : Nat) : Int), s36, (x38 : Nat), (x40 : Int) + 1, [], 0, [], tb0⟩ 3) := okP_of 1 s36 ((x38 : Nat) : Int) ((x40 : Int) + 1 : Int) [] 0 tb0 3 (by decide) (by decide) (by have := hs36.1; show (1 : Int) ≤ ((s36.size : Nat) : Int) ∧ ((s36.size : Nat) : Int) ≤ (16 : Int); omega) hs36.2 (by show (0 : Int) ≤ ((x38 : Nat) : Int) ∧ ((x38 : Nat) : Int) ≤ (64 : Int); omega) (by show (1 : Int) ≤ ((x40 : Int) + 1 : Int) ∧ ((x40 : Int) + 1 : Int) ≤ (2147483647 : Int); omega) (by show (0 : Int) ≤ (0 : Int) ∧ (0 : Int) ≤ (0 : Int); omega) (by rfl) (fun x hx => by cases hx) (by decide) (tb0_ok _ _ ⟨by decide, by decide⟩) (by omega)
   go_wp2_with fail
   go_meet
   case rel => exact ⟨⟨((1 : Nat) : Int), s36, (x38 : Nat), (x40 : Int) + 1, [], 0, [], tb0⟩, .slice none 0 0, 3, _, _, rfl, HR.out, .inl ⟨rfl, rfl⟩, HOK.out, by omega⟩
  ·as_aux_lemma =>
   have HR : Hid (Rt w W3 A Lb F p 1 zs #[.int .i64 2, .string ⟨#[]⟩, .int .i64 0, .int .i64 0, .slice none 0 0, .int .i64 0, .slice none 0 0, .int .i64 0, .int .i64 0, .int .i64 0, .int .i64 0, .int .i64 0, .int .i64 0] none r0) := HRT.out
   clear HRT hx8
   have c0 := HR.out.rs.clc
   go_wp2_with fail
   refine (nxt_int _ A Lb _ _ zs HR.out.rs.nx (by omega) (by omega) (by omega)).mono ?_
   rintro e wc ⟨x48, rfl, h48, hn, hu⟩
   have HR := hid (HR.out.call hn hu)
   clear hn hu c0
   go_wp2_with fail
   refine (key_any x48 (by omega) _).mono ?_
   rintro e wd ⟨s49, rfl, hs49, hu⟩
   have HR := hid (HR.out.nxt hu)
   clear hu
   obtain ⟨cc, ff⟩ := HR.out.cell (i := 1) rfl
   go_wp2_with fail
   have HR := hid (HR.out.set 1 (.string s49))
   have HOK : Hid (OkP ⟨((2 : Nat) : Int), s49, 0, 0, [], 0, [], tb0⟩ 0) := okP_of 2 s49 (0 : Int) (0 : Int) [] 0 tb0 0 (by decide) (by decide) (by have := hs49.1; show (1 : Int) ≤ ((s49.size : Nat) : Int) ∧ ((s49.size : Nat) : Int) ≤ (16 : Int); omega) hs49.2 (by show (0 : Int) ≤ (0 : Int) ∧ (0 : Int) ≤ (0 : Int); omega) (by show (0 : Int) ≤ (0 : Int) ∧ (0 : Int) ≤ (0 : Int); omega) (by show (0 : Int) ≤ (0 : Int) ∧ (0 : Int) ≤ (0 : Int); omega) (by rfl) (fun x hx => by cases hx) (by decide) (tb0_ok _ _ ⟨by decide, by decide⟩) (by omega)
   go_wp2_with fail
   go_meet
   case rel => exact ⟨⟨((2 : Nat) : Int), s49, 0, 0, [], 0, [], tb0⟩, .slice none 0 0, 0, _, _, rfl, HR.out, .inl ⟨rfl, rfl⟩, HOK.out, by omega⟩
  ·as_aux_lemma =>
   have HR : Hid (Rt w W3 A Lb F p 1 zs #[.int .i64 3, .string ⟨#[]⟩, .int .i64 0, .int .i64 0, .slice none 0 0, .int .i64 0, .slice none 0 0, .int .i64 0, .int .i64 0, .int .i64 0, .int .i64 0, .int .i64 0, .int .i64 0] none r0) := HRT.out
   clear HRT hx8
   have c0 := HR.out.rs.clc
   go_wp2_with fail
   clear c0
   have HR := hid (HR.out.nxt (Up.refl Nul W3).drew)
   refine wp_region_held_drew (S := (fun W => W.cell? ⟨F, 0, none⟩ = some (nextV A Lb))) (by kernel_rfl) (by exact HR.out.rs.clc) (fun hHeld => ?_)
   refine tkl 0 (some 53) ?vk31 rfl ?yk31 ?rk31
   case yk31 => (intro w hSw; (try dsimp only at hSw); go_simp; try with_reducible rfl)
   try simp only [tdy]
   refine tkl 3 (some 56) ?vk32 rfl ?yk32 ?rk32
   case yk32 => (intro w hSw; (try dsimp only at hSw); go_simp; try with_reducible rfl)
   try simp only [tdy]
   refine tkl 6 (some 59) ?vk33 rfl ?yk33 ?rk33
   case yk33 => (intro w hSw; (try dsimp only at hSw); go_simp; try with_reducible rfl)
   try simp only [tdy]
   refine one 1 (some 54) rfl (fun K hK => ?_)
   go_simp
   go_at_call 16
   refine (nxt_int _ A Lb _ _ zs HR.out.rs.nx (by omega) (by omega) (by omega)).mono ?_
   rintro e wc ⟨x54, rfl, h54, hn, hu⟩
   have HR := hid (HR.out.call hn hu)
   clear hn hu
   refine hK.out _ _ ?kk34x (fun hHeld => ?_)
   case kk34x => exact HR.out.rs.clc
   clear hK K
   try simp only [tdy]
   refine one 2 (some 55) rfl (fun K hK => ?_)
   go_simp
   go_at_call 18
   refine (key_any x54 (by omega) _).mono ?_
   rintro e wc ⟨s55, rfl, hs55, hu⟩
   have HR := hid (HR.out.nxt hu)
   clear hu
   refine hK.out _ _ ?kk35x (fun hHeld => ?_)
   case kk35x => exact HR.out.rs.clc
   clear hK K
   try simp only [tdy]
   refine tkl 8 (some 61) ?vk36 rfl ?yk36 ?rk36
   case yk36 => (intro w hSw; (try dsimp only at hSw); go_simp; try with_reducible rfl)
   try simp only [tdy]
   refine one 4 (some 57) rfl (fun K hK => ?_)
   go_simp
   go_at_call 16
   refine (nxt_int _ A Lb _ _ zs HR.out.rs.nx (by omega) (by omega) (by omega)).mono ?_
   rintro e wc ⟨x57, rfl, h57, hn, hu⟩
   have HR := hid (HR.out.call hn hu)
   clear hn hu
   have v57 : IntKind.i64.wrap ((x57 : Int) + 1) = (x57 : Int) + 1 := IntWalk.i64_in _ (by omega)
   refine hK.out _ _ ?kk37x (fun hHeld => ?_)
   case kk37x => exact HR.out.rs.clc
   clear hK K
   try simp only [tdy]
   refine tkl 5 (some 58) ?vk38 rfl ?yk38 ?rk38
   case yk38 => (intro w hSw; (try dsimp only at hSw); go_simp; try with_reducible rfl)
   try simp only [tdy]
   refine one 7 (some 60) rfl (fun K hK => ?_)
   go_simp
   go_at_call 16
   refine (nxt_int _ A Lb _ _ zs HR.out.rs.nx (by omega) (by omega) (by omega)).mono ?_
   rintro e wc ⟨x60, rfl, h60, hn, hu⟩
   have HR := hid (HR.out.call hn hu)
   clear hn hu
   refine hK.out _ _ ?kk39x (fun hHeld => ?_)
   case kk39x => exact HR.out.rs.clc
   clear hK K
   try simp only [tdy]
   obtain ⟨cc, ff⟩ := HR.out.cell (i := 1) rfl
   refine one 9 none rfl (fun K hK => ?_)
   go_simp
   have HR := hid (HR.out.set 1 (.string s55))
   clear cc ff
   refine hK.out _ _ ?kk310x (fun hHeld => ?_)
   case kk310x => exact HR.out.rs.clc
   clear hK K
   try simp only [tdy]
   refine tkl 10 (some 62) ?vk311 rfl ?yk311 ?rk311
   case yk311 => (intro w hSw; (try dsimp only at hSw); go_simp; try with_reducible rfl)
   try simp only [tdy]
   obtain ⟨cc, ff⟩ := HR.out.cell (i := 3) rfl
   refine one 11 none rfl (fun K hK => ?_)
   go_simp
   have HR := hid (HR.out.set 3 (.int .i64 ((x57 : Int) + 1)))
   clear cc ff
   refine hK.out _ _ ?kk312x (fun hHeld => ?_)
   case kk312x => exact HR.out.rs.clc
   clear hK K
   try simp only [tdy]
   refine tkl 12 (some 63) ?vk313 rfl ?yk313 ?rk313
   case yk313 => (intro w hSw; (try dsimp only at hSw); go_simp; try with_reducible rfl)
   try simp only [tdy]
   obtain ⟨cc, ff⟩ := HR.out.cell (i := 5) rfl
   refine one 13 none rfl (fun K hK => ?_)
   go_simp
   have HR := hid (HR.out.set 5 (.int .i64 (x60 : Nat)))
   clear cc ff
   refine hK.out _ _ ?kk314x (fun hHeld => ?_)
   case kk314x => exact HR.out.rs.clc
   clear hK K
   try simp only [tdy]
   refine tkl 14 (some 7) ?vk315 rfl ?yk315 ?rk315
   case yk315 => (intro w hSw; (try dsimp only at hSw); go_simp; try with_reducible rfl)
   try simp only [tdy]
   refine wpAnyH_done (by kernel_rfl) ?_ _
   have HOK : Hid (OkP ⟨((3 : Nat) : Int), s55, 0, (x57 : Int) + 1, [], (x60 : Nat), [], tb0⟩ 6) := okP_of 3 s55 (0 : Int) ((x57 : Int) + 1 : Int) [] (x60 : Nat) tb0 6 (by decide) (by decide) (by have := hs55.1; show (1 : Int) ≤ ((s55.size : Nat) : Int) ∧ ((s55.size : Nat) : Int) ≤ (16 : Int); omega) hs55.2 (by show (0 : Int) ≤ (0 : Int) ∧ (0 : Int) ≤ (0 : Int); omega) (by show (1 : Int) ≤ ((x57 : Int) + 1 : Int) ∧ ((x57 : Int) + 1 : Int) ≤ (2147483647 : Int); omega) (by show (0 : Int) ≤ ((x60 : Nat) : Int) ∧ ((x60 : Nat) : Int) ≤ (2 : Int); omega) (by rfl) (fun x hx => by cases hx) (by decide) (tb0_ok _ _ ⟨by decide, by decide⟩) (by omega)
   go_wp2_with fail
   go_meet
   case rel => exact ⟨⟨((3 : Nat) : Int), s55, 0, (x57 : Int) + 1, [], (x60 : Nat), [], tb0⟩, .slice none 0 0, 6, _, _, rfl, HR.out, .inl ⟨rfl, rfl⟩, HOK.out, by omega⟩
  ·as_aux_lemma =>
   have HR : Hid (Rt w W3 A Lb F p 1 zs #[.int .i64 4, .string ⟨#[]⟩, .int .i64 0, .int .i64 0, .slice none 0 0, .int .i64 0, .slice none 0 0, .int .i64 0, .int .i64 0, .int .i64 0, .int .i64 0, .int .i64 0, .int .i64 0] none r0) := HRT.out
   clear HRT hx8
   have c0 := HR.out.rs.clc
   go_wp2_with fail
   clear c0
   have HR := hid (HR.out.nxt (Up.refl Nul W3).drew)
   refine wp_region_held_drew (S := (fun W => W.cell? ⟨F, 0, none⟩ = some (nextV A Lb))) (by kernel_rfl) (by exact HR.out.rs.clc) (fun hHeld => ?_)
   refine tkl 0 (some 66) ?vk41 rfl ?yk41 ?rk41
   case yk41 => (intro w hSw; (try dsimp only at hSw); go_simp; try with_reducible rfl)
   try simp only [tdy]
   refine tkl 3 (some 69) ?vk42 rfl ?yk42 ?rk42
   case yk42 => (intro w hSw; (try dsimp only at hSw); go_simp; try with_reducible rfl)
   try simp only [tdy]
   refine one 1 (some 67) rfl (fun K hK => ?_)
   go_simp
   go_at_call 16
   refine (nxt_int _ A Lb _ _ zs HR.out.rs.nx (by omega) (by omega) (by omega)).mono ?_
   rintro e wc ⟨x67, rfl, h67, hn, hu⟩
   have HR := hid (HR.out.call hn hu)
   clear hn hu
   refine hK.out _ _ ?kk43x (fun hHeld => ?_)
   case kk43x => exact HR.out.rs.clc
   clear hK K
   try simp only [tdy]
   refine one 2 (some 68) rfl (fun K hK => ?_)
   go_simp
   go_at_call 18
   refine (key_any x67 (by omega) _).mono ?_
   rintro e wc ⟨s68, rfl, hs68, hu⟩
   have HR := hid (HR.out.nxt hu)
   clear hu
   refine hK.out _ _ ?kk44x (fun hHeld => ?_)
   case kk44x => exact HR.out.rs.clc
   clear hK K
   try simp only [tdy]
   refine tkl 6 (some 72) ?vk45 rfl ?yk45 ?rk45
   case yk45 => (intro w hSw; (try dsimp only at hSw); go_simp; try with_reducible rfl)
   try simp only [tdy]
   refine one 4 (some 70) rfl (fun K hK => ?_)
   go_simp
   go_at_call 16
   refine (nxt_int _ A Lb _ _ zs HR.out.rs.nx (by omega) (by omega) (by omega)).mono ?_
   rintro e wc ⟨x70, rfl, h70, hn, hu⟩
   have HR := hid (HR.out.call hn hu)
   clear hn hu
   have v70 : IntKind.i64.wrap ((x70 : Int) + 1) = (x70 : Int) + 1 := IntWalk.i64_in _ (by omega)
   refine hK.out _ _ ?kk46x (fun hHeld => ?_)
   case kk46x => exact HR.out.rs.clc
   clear hK K
   try simp only [tdy]
   refine tkl 5 (some 71) ?vk47 rfl ?yk47 ?rk47
   case yk47 => (intro w hSw; (try dsimp only at hSw); go_simp; try with_reducible rfl)
   try simp only [tdy]
   obtain ⟨cc, ff⟩ := HR.out.cell (i := 1) rfl
   refine one 7 none rfl (fun K hK => ?_)
   go_simp
   have HR := hid (HR.out.set 1 (.string s68))
   clear cc ff
   refine hK.out _ _ ?kk48x (fun hHeld => ?_)
   case kk48x => exact HR.out.rs.clc
   clear hK K
   try simp only [tdy]
   refine tkl 8 (some 73) ?vk49 rfl ?yk49 ?rk49
   case yk49 => (intro w hSw; (try dsimp only at hSw); go_simp; try with_reducible rfl)
   try simp only [tdy]
   obtain ⟨cc, ff⟩ := HR.out.cell (i := 3) rfl
   refine one 9 none rfl (fun K hK => ?_)
   go_simp
   have HR := hid (HR.out.set 3 (.int .i64 ((x70 : Int) + 1)))
   clear cc ff
   refine hK.out _ _ ?kk410x (fun hHeld => ?_)
   case kk410x => exact HR.out.rs.clc
   clear hK K
   try simp only [tdy]
   refine tkl 10 (some 7) ?vk411 rfl ?yk411 ?rk411
   case yk411 => (intro w hSw; (try dsimp only at hSw); go_simp; try with_reducible rfl)
   try simp only [tdy]
   refine wpAnyH_done (by kernel_rfl) ?_ _
   have HOK : Hid (OkP ⟨((4 : Nat) : Int), s68, 0, (x70 : Int) + 1, [], 0, [], tb0⟩ 3) := okP_of 4 s68 (0 : Int) ((x70 : Int) + 1 : Int) [] 0 tb0 3 (by decide) (by decide) (by have := hs68.1; show (1 : Int) ≤ ((s68.size : Nat) : Int) ∧ ((s68.size : Nat) : Int) ≤ (16 : Int); omega) hs68.2 (by show (0 : Int) ≤ (0 : Int) ∧ (0 : Int) ≤ (0 : Int); omega) (by show (1 : Int) ≤ ((x70 : Int) + 1 : Int) ∧ ((x70 : Int) + 1 : Int) ≤ (2147483647 : Int); omega) (by show (0 : Int) ≤ (0 : Int) ∧ (0 : Int) ≤ (0 : Int); omega) (by rfl) (fun x hx => by cases hx) (by decide) (tb0_ok _ _ ⟨by decide, by decide⟩) (by omega)
   go_wp2_with fail
   go_meet
   case rel => exact ⟨⟨((4 : Nat) : Int), s68, 0, (x70 : Int) + 1, [], 0, [], tb0⟩, .slice none 0 0, 3, _, _, rfl, HR.out, .inl ⟨rfl, rfl⟩, HOK.out, by omega⟩
  ·as_aux_lemma =>
   have HR : Hid (Rt w W3 A Lb F p 1 zs #[.int .i64 5, .string ⟨#[]⟩, .int .i64 0, .int .i64 0, .slice none 0 0, .int .i64 0, .slice none 0 0, .int .i64 0, .int .i64 0, .int .i64 0, .int .i64 0, .int .i64 0, .int .i64 0] none r0) := HRT.out
   clear HRT hx8
   have c0 := HR.out.rs.clc
   go_wp2_with fail
   clear c0
   have HR := hid (HR.out.nxt (Up.refl Nul W3).drew)
   refine wp_region_held_drew (S := (fun W => W.cell? ⟨F, 0, none⟩ = some (nextV A Lb))) (by kernel_rfl) (by exact HR.out.rs.clc) (fun hHeld => ?_)
   refine tkl 0 (some 76) ?vk51 rfl ?yk51 ?rk51
   case yk51 => (intro w hSw; (try dsimp only at hSw); go_simp; try with_reducible rfl)
   try simp only [tdy]
   refine tkl 3 (some 79) ?vk52 rfl ?yk52 ?rk52
   case yk52 => (intro w hSw; (try dsimp only at hSw); go_simp; try with_reducible rfl)
   try simp only [tdy]
   refine tkl 6 (some 82) ?vk53 rfl ?yk53 ?rk53
   case yk53 => (intro w hSw; (try dsimp only at hSw); go_simp; try with_reducible rfl)
   try simp only [tdy]
   refine tkl 9 (some 85) ?vk54 rfl ?yk54 ?rk54
   case yk54 => (intro w hSw; (try dsimp only at hSw); go_simp; try with_reducible rfl)
   try simp only [tdy]
   refine one 1 (some 77) rfl (fun K hK => ?_)
   go_simp
   go_at_call 16
   refine (nxt_int _ A Lb _ _ zs HR.out.rs.nx (by omega) (by omega) (by omega)).mono ?_
   rintro e wc ⟨x77, rfl, h77, hn, hu⟩
   have HR := hid (HR.out.call hn hu)
   clear hn hu
   have v77 : IntKind.i64.wrap ((x77 : Int) + 1) = (x77 : Int) + 1 := IntWalk.i64_in _ (by omega)
   refine hK.out _ _ ?kk55x (fun hHeld => ?_)
   case kk55x => exact HR.out.rs.clc
   clear hK K
   try simp only [tdy]
   refine tkl 2 (some 78) ?vk56 rfl ?yk56 ?rk56
   case yk56 => (intro w hSw; (try dsimp only at hSw); go_simp; try with_reducible rfl)
   try simp only [tdy]
   refine tkl 13 (some 89) ?vk57 rfl ?yk57 ?rk57
   case yk57 => (intro w hSw; (try dsimp only at hSw); go_simp; try with_reducible rfl)
   try simp only [tdy]
   refine one 4 (some 80) rfl (fun K hK => ?_)
   go_simp
   go_at_call 16
   refine (nxt_int _ A Lb _ _ zs HR.out.rs.nx (by omega) (by omega) (by omega)).mono ?_
   rintro e wc ⟨x80, rfl, h80, hn, hu⟩
   have HR := hid (HR.out.call hn hu)
   clear hn hu
   have v80 : IntKind.i64.wrap ((x80 : Int) + 1) = (x80 : Int) + 1 := IntWalk.i64_in _ (by omega)
   refine hK.out _ _ ?kk58x (fun hHeld => ?_)
   case kk58x => exact HR.out.rs.clc
   clear hK K
   try simp only [tdy]
   refine tkl 5 (some 81) ?vk59 rfl ?yk59 ?rk59
   case yk59 => (intro w hSw; (try dsimp only at hSw); go_simp; try with_reducible rfl)
   try simp only [tdy]
   refine one 7 (some 83) rfl (fun K hK => ?_)
   go_simp
   go_at_call 16
   refine (nxt_int _ A Lb _ _ zs HR.out.rs.nx (by omega) (by omega) (by omega)).mono ?_
   rintro e wc ⟨x83, rfl, h83, hn, hu⟩
   have HR := hid (HR.out.call hn hu)
   clear hn hu
   have v83 : IntKind.i64.wrap ((x83 : Int) + 1) = (x83 : Int) + 1 := IntWalk.i64_in _ (by omega)
   refine hK.out _ _ ?kk510x (fun hHeld => ?_)
   case kk510x => exact HR.out.rs.clc
   clear hK K
   try simp only [tdy]
   refine tkl 8 (some 84) ?vk511 rfl ?yk511 ?rk511
   case yk511 => (intro w hSw; (try dsimp only at hSw); go_simp; try with_reducible rfl)
   try simp only [tdy]
   refine one 10 (some 86) rfl (fun K hK => ?_)
   go_simp
   go_at_call 16
   refine (nxt_int _ A Lb _ _ zs HR.out.rs.nx (by omega) (by omega) (by omega)).mono ?_
   rintro e wc ⟨x86, rfl, h86, hn, hu⟩
   have HR := hid (HR.out.call hn hu)
   clear hn hu
   have v86 : IntKind.i64.wrap ((x86 : Int) + 1) = (x86 : Int) + 1 := IntWalk.i64_in _ (by omega)
   refine hK.out _ _ ?kk512x (fun hHeld => ?_)
   case kk512x => exact HR.out.rs.clc
   clear hK K
   try simp only [tdy]
   refine tkl 11 (some 87) ?vk513 rfl ?yk513 ?rk513
   case yk513 => (intro w hSw; (try dsimp only at hSw); go_simp; try with_reducible rfl)
   try simp only [tdy]
   refine wpAnyH_ready (rs := [12, 14]) (by kernel_rfl) (by simp) ?_
   refine (AllReadyH.cons (o := ⟨some 88, _, _, _, _, _⟩) rfl (fun K hK => ?_) (AllReadyH.cons (o := ⟨none, _, _, _, _, _⟩) rfl (fun K hK => ?_) AllReadyH.nil))
   ·skip
    go_simp
    have HR := hid (HR.out.row3 wc.heap.size (by simp) #[.int .i64 ((x80 : Int) + 1), .int .i64 ((x83 : Int) + 1), .int .i64 ((x86 : Int) + 1)])
    refine hK.out _ _ ?kk514x (fun hHeld => ?_)
    case kk514x => exact HR.out.rs.clc
    clear hK K
    try simp only [tdy]
    obtain ⟨cc, ff⟩ := HR.out.cell (i := 3) rfl
    refine one 14 none rfl (fun K hK => ?_)
    go_simp
    have HR := hid (HR.out.set 3 (.int .i64 ((x77 : Int) + 1)))
    clear cc ff
    refine hK.out _ _ ?kk515x (fun hHeld => ?_)
    case kk515x => exact HR.out.rs.clc
    clear hK K
    try simp only [tdy]
    refine tkl 15 (some 90) ?vk516 rfl ?yk516 ?rk516
    case yk516 => (intro w hSw; (try dsimp only at hSw); go_simp; try with_reducible rfl)
    try simp only [tdy]
    obtain ⟨cc, ff⟩ := HR.out.cell (i := 4) rfl
    refine one 16 none rfl (fun K hK => ?_)
    go_simp
    have HR := hid (HR.out.set 4 (.slice (some ⟨wc.heap.size, 0, none⟩) 3 3))
    clear cc ff
    refine hK.out _ _ ?kk517x (fun hHeld => ?_)
    case kk517x => exact HR.out.rs.clc
    clear hK K
    try simp only [tdy]
    refine tkl 17 (some 7) ?vk518 rfl ?yk518 ?rk518
    case yk518 => (intro w hSw; (try dsimp only at hSw); go_simp; try with_reducible rfl)
    try simp only [tdy]
    refine wpAnyH_done (by kernel_rfl) ?_ _
    have HOK : Hid (OkP ⟨((5 : Nat) : Int), ⟨#[]⟩, 0, (x77 : Int) + 1, [(x80 : Int) + 1, (x83 : Int) + 1, (x86 : Int) + 1], 0, [], tb0⟩ 4) := okP_of 5 ⟨#[]⟩ (0 : Int) ((x77 : Int) + 1 : Int) [(x80 : Int) + 1, (x83 : Int) + 1, (x86 : Int) + 1] 0 tb0 4 (by decide) (by decide) (by decide) (fun c hc => by cases hc) (by show (0 : Int) ≤ (0 : Int) ∧ (0 : Int) ≤ (0 : Int); omega) (by show (1 : Int) ≤ ((x77 : Int) + 1 : Int) ∧ ((x77 : Int) + 1 : Int) ≤ (2147483647 : Int); omega) (by show (0 : Int) ≤ (0 : Int) ∧ (0 : Int) ≤ (0 : Int); omega) (by rfl) (by intro x hx; simp at hx; show (1 : Int) ≤ x ∧ x ≤ (2147483647 : Int); omega) (by show (4 : Int) = 4 + 0 * _; omega) (tb0_ok _ _ ⟨by decide, by decide⟩) (by omega)
    go_wp2_with fail
    go_meet
    case rel => exact ⟨⟨((5 : Nat) : Int), ⟨#[]⟩, 0, (x77 : Int) + 1, [(x80 : Int) + 1, (x83 : Int) + 1, (x86 : Int) + 1], 0, [], tb0⟩, .slice (some ⟨wc.heap.size, 0, none⟩) 3 3, 4, _, _, rfl, HR.out, .inr ⟨_, _, _, _, rfl, rfl, rfl⟩, HOK.out, by omega⟩
   ·skip
    obtain ⟨cc, ff⟩ := HR.out.cell (i := 3) rfl
    go_simp
    have HR := hid (HR.out.set 3 (.int .i64 ((x77 : Int) + 1)))
    clear cc ff
    refine hK.out _ _ ?kk514y (fun hHeld => ?_)
    case kk514y => exact HR.out.rs.clc
    clear hK K
    try simp only [tdy]
    refine one 12 (some 88) rfl (fun K hK => ?_)
    go_simp
    have HR := hid (HR.out.row3 wc.heap.size (by simp) #[.int .i64 ((x80 : Int) + 1), .int .i64 ((x83 : Int) + 1), .int .i64 ((x86 : Int) + 1)])
    refine hK.out _ _ ?kk519x (fun hHeld => ?_)
    case kk519x => exact HR.out.rs.clc
    clear hK K
    try simp only [tdy]
    refine tkl 15 (some 90) ?vk520 rfl ?yk520 ?rk520
    case yk520 => (intro w hSw; (try dsimp only at hSw); go_simp; try with_reducible rfl)
    try simp only [tdy]
    obtain ⟨cc, ff⟩ := HR.out.cell (i := 4) rfl
    refine one 16 none rfl (fun K hK => ?_)
    go_simp
    have HR := hid (HR.out.set 4 (.slice (some ⟨wc.heap.size, 0, none⟩) 3 3))
    clear cc ff
    refine hK.out _ _ ?kk521x (fun hHeld => ?_)
    case kk521x => exact HR.out.rs.clc
    clear hK K
    try simp only [tdy]
    refine tkl 17 (some 7) ?vk522 rfl ?yk522 ?rk522
    case yk522 => (intro w hSw; (try dsimp only at hSw); go_simp; try with_reducible rfl)
    try simp only [tdy]
    refine wpAnyH_done (by kernel_rfl) ?_ _
    have HOK : Hid (OkP ⟨((5 : Nat) : Int), ⟨#[]⟩, 0, (x77 : Int) + 1, [(x80 : Int) + 1, (x83 : Int) + 1, (x86 : Int) + 1], 0, [], tb0⟩ 4) := okP_of 5 ⟨#[]⟩ (0 : Int) ((x77 : Int) + 1 : Int) [(x80 : Int) + 1, (x83 : Int) + 1, (x86 : Int) + 1] 0 tb0 4 (by decide) (by decide) (by decide) (fun c hc => by cases hc) (by show (0 : Int) ≤ (0 : Int) ∧ (0 : Int) ≤ (0 : Int); omega) (by show (1 : Int) ≤ ((x77 : Int) + 1 : Int) ∧ ((x77 : Int) + 1 : Int) ≤ (2147483647 : Int); omega) (by show (0 : Int) ≤ (0 : Int) ∧ (0 : Int) ≤ (0 : Int); omega) (by rfl) (by intro x hx; simp at hx; show (1 : Int) ≤ x ∧ x ≤ (2147483647 : Int); omega) (by show (4 : Int) = 4 + 0 * _; omega) (tb0_ok _ _ ⟨by decide, by decide⟩) (by omega)
    go_wp2_with fail
    go_meet
    case rel => exact ⟨⟨((5 : Nat) : Int), ⟨#[]⟩, 0, (x77 : Int) + 1, [(x80 : Int) + 1, (x83 : Int) + 1, (x86 : Int) + 1], 0, [], tb0⟩, .slice (some ⟨wc.heap.size, 0, none⟩) 3 3, 4, _, _, rfl, HR.out, .inr ⟨_, _, _, _, rfl, rfl, rfl⟩, HOK.out, by omega⟩
  ·as_aux_lemma =>
   have HR : Hid (Rt w W3 A Lb F p 1 zs #[.int .i64 6, .string ⟨#[]⟩, .int .i64 0, .int .i64 0, .slice none 0 0, .int .i64 0, .slice none 0 0, .int .i64 0, .int .i64 0, .int .i64 0, .int .i64 0, .int .i64 0, .int .i64 0] none r0) := HRT.out
   clear HRT hx8
   have c0 := HR.out.rs.clc
   go_wp2_with fail
   clear c0
   have HR := hid (HR.out.nxt (Up.refl Nul W3).drew)
   refine wp_region_held_drew (S := (fun W => W.cell? ⟨F, 0, none⟩ = some (nextV A Lb))) (by kernel_rfl) (by exact HR.out.rs.clc) (fun hHeld => ?_)
   refine tkl 0 (some 93) ?vk61 rfl ?yk61 ?rk61
   case yk61 => (intro w hSw; (try dsimp only at hSw); go_simp; try with_reducible rfl)
   try simp only [tdy]
   refine tkl 3 (some 96) ?vk62 rfl ?yk62 ?rk62
   case yk62 => (intro w hSw; (try dsimp only at hSw); go_simp; try with_reducible rfl)
   try simp only [tdy]
   refine tkl 5 (some 98) ?vk63 rfl ?yk63 ?rk63
   case yk63 => (intro w hSw; (try dsimp only at hSw); go_simp; try with_reducible rfl)
   try simp only [tdy]
   refine tkl 7 (some 100) ?vk64 rfl ?yk64 ?rk64
   case yk64 => (intro w hSw; (try dsimp only at hSw); go_simp; try with_reducible rfl)
   try simp only [tdy]
   refine one 1 (some 94) rfl (fun K hK => ?_)
   go_simp
   go_at_call 16
   refine (nxt_int _ A Lb _ _ zs HR.out.rs.nx (by omega) (by omega) (by omega)).mono ?_
   rintro e wc ⟨x94, rfl, h94, hn, hu⟩
   have HR := hid (HR.out.call hn hu)
   clear hn hu
   have v94 : IntKind.i64.wrap ((x94 : Int) + 1) = (x94 : Int) + 1 := IntWalk.i64_in _ (by omega)
   refine hK.out _ _ ?kk65x (fun hHeld => ?_)
   case kk65x => exact HR.out.rs.clc
   clear hK K
   try simp only [tdy]
   refine tkl 2 (some 95) ?vk66 rfl ?yk66 ?rk66
   case yk66 => (intro w hSw; (try dsimp only at hSw); go_simp; try with_reducible rfl)
   try simp only [tdy]
   refine tkl 10 (some 103) ?vk67 rfl ?yk67 ?rk67
   case yk67 => (intro w hSw; (try dsimp only at hSw); go_simp; try with_reducible rfl)
   try simp only [tdy]
   refine one 4 (some 97) rfl (fun K hK => ?_)
   go_simp
   go_at_call 16
   refine (nxt_int _ A Lb _ _ zs HR.out.rs.nx (by omega) (by omega) (by omega)).mono ?_
   rintro e wc ⟨x97, rfl, h97, hn, hu⟩
   have HR := hid (HR.out.call hn hu)
   clear hn hu
   refine hK.out _ _ ?kk68x (fun hHeld => ?_)
   case kk68x => exact HR.out.rs.clc
   clear hK K
   try simp only [tdy]
   refine one 6 (some 99) rfl (fun K hK => ?_)
   go_simp
   go_at_call 16
   refine (nxt_int _ A Lb _ _ zs HR.out.rs.nx (by omega) (by omega) (by omega)).mono ?_
   rintro e wc ⟨x99, rfl, h99, hn, hu⟩
   have HR := hid (HR.out.call hn hu)
   clear hn hu
   refine hK.out _ _ ?kk69x (fun hHeld => ?_)
   case kk69x => exact HR.out.rs.clc
   clear hK K
   try simp only [tdy]
   refine one 8 (some 101) rfl (fun K hK => ?_)
   go_simp
   go_at_call 16
   refine (nxt_int _ A Lb _ _ zs HR.out.rs.nx (by omega) (by omega) (by omega)).mono ?_
   rintro e wc ⟨x101, rfl, h101, hn, hu⟩
   have HR := hid (HR.out.call hn hu)
   clear hn hu
   refine hK.out _ _ ?kk610x (fun hHeld => ?_)
   case kk610x => exact HR.out.rs.clc
   clear hK K
   try simp only [tdy]
   refine wpAnyH_ready (rs := [9, 11]) (by kernel_rfl) (by simp) ?_
   refine (AllReadyH.cons (o := ⟨some 102, _, _, _, _, _⟩) rfl (fun K hK => ?_) (AllReadyH.cons (o := ⟨none, _, _, _, _, _⟩) rfl (fun K hK => ?_) AllReadyH.nil))
   ·skip
    go_simp
    have HR := hid (HR.out.row3 wc.heap.size (by simp) #[.int .i64 (x97 : Nat), .int .i64 (x99 : Nat), .int .i64 (x101 : Nat)])
    refine hK.out _ _ ?kk611x (fun hHeld => ?_)
    case kk611x => exact HR.out.rs.clc
    clear hK K
    try simp only [tdy]
    obtain ⟨cc, ff⟩ := HR.out.cell (i := 3) rfl
    refine one 11 none rfl (fun K hK => ?_)
    go_simp
    have HR := hid (HR.out.set 3 (.int .i64 ((x94 : Int) + 1)))
    clear cc ff
    refine hK.out _ _ ?kk612x (fun hHeld => ?_)
    case kk612x => exact HR.out.rs.clc
    clear hK K
    try simp only [tdy]
    refine tkl 12 (some 104) ?vk613 rfl ?yk613 ?rk613
    case yk613 => (intro w hSw; (try dsimp only at hSw); go_simp; try with_reducible rfl)
    try simp only [tdy]
    obtain ⟨cc, ff⟩ := HR.out.cell (i := 4) rfl
    refine one 13 none rfl (fun K hK => ?_)
    go_simp
    have HR := hid (HR.out.set 4 (.slice (some ⟨wc.heap.size, 0, none⟩) 3 3))
    clear cc ff
    refine hK.out _ _ ?kk614x (fun hHeld => ?_)
    case kk614x => exact HR.out.rs.clc
    clear hK K
    try simp only [tdy]
    refine wpAnyH_done (by kernel_rfl) ?_ _
    obtain ⟨S3, HS3⟩ : ∃ S : List Int, Hid (S = [((x97 : Nat) : Int), ((x99 : Nat) : Int), ((x101 : Nat) : Int)]) := ⟨_, rfl⟩
    have HL3 : Hid (S3.length = 3) := by show _ = _; rw [HS3.out]; rfl
    have HGC := hid (fun t ht => HR.out.gcell (t := t) ht)
    have c4 := (HR.out.cell (i := 4) rfl).1
    rw [← HS3.out] at HGC
    go_wp2_with fail
    go_loop [7, 8] (fun s7 i => ∃ t : Nat, t ≤ 3 ∧ i = .int .i64 ((t : Nat) : Int) ∧ s7 = .int .i64 ((2 * nz (S3.take t) : Nat) : Int)) (fun _ i => 3 - (intOf i).toNat)
    case atStart => exact ⟨0, Nat.zero_le _, rfl, rfl⟩
    case round =>
     obtain ⟨t, ht, rfl, rfl⟩ := hrel
     have i0 : (0 : Int) ≤ (t : Int) := by omega
     by_cases hlt : t < 3
     ·have i2 : (t : Int) < 3 := by omega
      have xg := HGC.out t hlt
      have HT := hid hlt
      have htl : t < S3.length := by rw [HL3.out]; exact hlt
      have HN := hid (nz_next htl)
      rw [List.getD_eq_getElem?_getD, List.getElem?_eq_getElem htl, Option.getD_some] at xg
      have hz : nz (S3.take t) ≤ 3 := Nat.le_trans (nz_le _) (by rw [List.length_take]; omega)
      generalize S3[t] = y at xg HN
      generalize nz (S3.take t) = m at HN hz ⊢
      have HM := hid hz
      have m1 : IntKind.i64.wrap (2 * (m : Int) + 2) = 2 * (m : Int) + 2 := IntWalk.i64_in _ (by omega)
      have m2 : wrap64 (2 * (m : Int) + 2) = 2 * (m : Int) + 2 := by rw [← IntWalk.i64_left]; exact m1
      clear hlt ht htl hz
      by_cases hy : y = 0
      ·subst hy
       have HN2 : Hid (nz (S3.take (t + 1)) = m) := by show _ = _; rw [HN.out]; simp
       clear HN
       go_wp2_with fail
       go_round
       case rel => exact ⟨t + 1, HT.out, by go_num, by rw [HN2.out]⟩
       case measure => have := HT.out; simp [intOf]; omega
      ·have HN2 : Hid (nz (S3.take (t + 1)) = m + 1) := by show _ = _; rw [HN.out, if_pos hy]
       have hne : (y == 0) = false := by simpa using hy
       clear HN
       go_wp2_with fail
       go_round
       case rel => exact ⟨t + 1, HT.out, by go_num, by rw [HN2.out]; first | (simp; done) | (simp; omega) | (congr 1; omega)⟩
       case measure => have := HT.out; simp [intOf]; omega
     ·obtain rfl : t = 3 := by omega
      have HE : Hid (nz (S3.take 3) = nz S3) := by show _ = _; rw [List.take_of_length_le (by rw [HL3.out]; exact Nat.le_refl _)]
      have hz : nz S3 ≤ 3 := Nat.le_trans (nz_le _) (by rw [HL3.out]; exact Nat.le_refl _)
      have HOK : Hid (OkP ⟨((6 : Nat) : Int), ⟨#[]⟩, 0, (x94 : Int) + 1, S3, 0, [], tb0⟩ (2 * nz S3)) := okP_of 6 ⟨#[]⟩ 0 ((x94 : Int) + 1) S3 0 tb0 (2 * nz S3) (by decide) (by decide) (by decide) (fun c hc => by cases hc) (by decide) (by show (1 : Int) ≤ (x94 : Int) + 1 ∧ (x94 : Int) + 1 ≤ 2147483647; omega) (by decide) (by rw [HL3.out]; rfl) (by rw [HS3.out]; intro x hx; simp at hx; show (0 : Int) ≤ x ∧ x ≤ 2147483647; omega) (by show ((2 * nz S3 : Nat) : Int) = 0 + 2 * ((nz S3 : Nat) : Int); omega) (tb0_ok _ _ ⟨by decide, by decide⟩) (by omega)
      clear ht hlt hz
      go_wp2_with fail
      go_meet
      case rel => exact ⟨⟨((6 : Nat) : Int), ⟨#[]⟩, 0, (x94 : Int) + 1, S3, 0, [], tb0⟩, .slice (some ⟨wc.heap.size, 0, none⟩) 3 3, 2 * nz S3, _, _, by rw [HE.out]; simp, HR.out, .inr ⟨_, _, _, _, rfl, HS3.out, rfl⟩, HOK.out, by omega⟩
   ·skip
    obtain ⟨cc, ff⟩ := HR.out.cell (i := 3) rfl
    go_simp
    have HR := hid (HR.out.set 3 (.int .i64 ((x94 : Int) + 1)))
    clear cc ff
    refine hK.out _ _ ?kk611y (fun hHeld => ?_)
    case kk611y => exact HR.out.rs.clc
    clear hK K
    try simp only [tdy]
    refine one 9 (some 102) rfl (fun K hK => ?_)
    go_simp
    have HR := hid (HR.out.row3 wc.heap.size (by simp) #[.int .i64 (x97 : Nat), .int .i64 (x99 : Nat), .int .i64 (x101 : Nat)])
    refine hK.out _ _ ?kk615x (fun hHeld => ?_)
    case kk615x => exact HR.out.rs.clc
    clear hK K
    try simp only [tdy]
    refine tkl 12 (some 104) ?vk616 rfl ?yk616 ?rk616
    case yk616 => (intro w hSw; (try dsimp only at hSw); go_simp; try with_reducible rfl)
    try simp only [tdy]
    obtain ⟨cc, ff⟩ := HR.out.cell (i := 4) rfl
    refine one 13 none rfl (fun K hK => ?_)
    go_simp
    have HR := hid (HR.out.set 4 (.slice (some ⟨wc.heap.size, 0, none⟩) 3 3))
    clear cc ff
    refine hK.out _ _ ?kk617x (fun hHeld => ?_)
    case kk617x => exact HR.out.rs.clc
    clear hK K
    try simp only [tdy]
    refine wpAnyH_done (by kernel_rfl) ?_ _
    obtain ⟨S3, HS3⟩ : ∃ S : List Int, Hid (S = [((x97 : Nat) : Int), ((x99 : Nat) : Int), ((x101 : Nat) : Int)]) := ⟨_, rfl⟩
    have HL3 : Hid (S3.length = 3) := by show _ = _; rw [HS3.out]; rfl
    have HGC := hid (fun t ht => HR.out.gcell (t := t) ht)
    have c4 := (HR.out.cell (i := 4) rfl).1
    rw [← HS3.out] at HGC
    go_wp2_with fail
    go_loop [7, 8] (fun s7 i => ∃ t : Nat, t ≤ 3 ∧ i = .int .i64 ((t : Nat) : Int) ∧ s7 = .int .i64 ((2 * nz (S3.take t) : Nat) : Int)) (fun _ i => 3 - (intOf i).toNat)
    case atStart => exact ⟨0, Nat.zero_le _, rfl, rfl⟩
    case round =>
     obtain ⟨t, ht, rfl, rfl⟩ := hrel
     have i0 : (0 : Int) ≤ (t : Int) := by omega
     by_cases hlt : t < 3
     ·have i2 : (t : Int) < 3 := by omega
      have xg := HGC.out t hlt
      have HT := hid hlt
      have htl : t < S3.length := by rw [HL3.out]; exact hlt
      have HN := hid (nz_next htl)
      rw [List.getD_eq_getElem?_getD, List.getElem?_eq_getElem htl, Option.getD_some] at xg
      have hz : nz (S3.take t) ≤ 3 := Nat.le_trans (nz_le _) (by rw [List.length_take]; omega)
      generalize S3[t] = y at xg HN
      generalize nz (S3.take t) = m at HN hz ⊢
      have HM := hid hz
      have m1 : IntKind.i64.wrap (2 * (m : Int) + 2) = 2 * (m : Int) + 2 := IntWalk.i64_in _ (by omega)
      have m2 : wrap64 (2 * (m : Int) + 2) = 2 * (m : Int) + 2 := by rw [← IntWalk.i64_left]; exact m1
      clear hlt ht htl hz
      by_cases hy : y = 0
      ·subst hy
       have HN2 : Hid (nz (S3.take (t + 1)) = m) := by show _ = _; rw [HN.out]; simp
       clear HN
       go_wp2_with fail
       go_round
       case rel => exact ⟨t + 1, HT.out, by go_num, by rw [HN2.out]⟩
       case measure => have := HT.out; simp [intOf]; omega
      ·have HN2 : Hid (nz (S3.take (t + 1)) = m + 1) := by show _ = _; rw [HN.out, if_pos hy]
       have hne : (y == 0) = false := by simpa using hy
       clear HN
       go_wp2_with fail
       go_round
       case rel => exact ⟨t + 1, HT.out, by go_num, by rw [HN2.out]; first | (simp; done) | (simp; omega) | (congr 1; omega)⟩
       case measure => have := HT.out; simp [intOf]; omega
     ·obtain rfl : t = 3 := by omega
      have HE : Hid (nz (S3.take 3) = nz S3) := by show _ = _; rw [List.take_of_length_le (by rw [HL3.out]; exact Nat.le_refl _)]
      have hz : nz S3 ≤ 3 := Nat.le_trans (nz_le _) (by rw [HL3.out]; exact Nat.le_refl _)
      have HOK : Hid (OkP ⟨((6 : Nat) : Int), ⟨#[]⟩, 0, (x94 : Int) + 1, S3, 0, [], tb0⟩ (2 * nz S3)) := okP_of 6 ⟨#[]⟩ 0 ((x94 : Int) + 1) S3 0 tb0 (2 * nz S3) (by decide) (by decide) (by decide) (fun c hc => by cases hc) (by decide) (by show (1 : Int) ≤ (x94 : Int) + 1 ∧ (x94 : Int) + 1 ≤ 2147483647; omega) (by decide) (by rw [HL3.out]; rfl) (by rw [HS3.out]; intro x hx; simp at hx; show (0 : Int) ≤ x ∧ x ≤ 2147483647; omega) (by show ((2 * nz S3 : Nat) : Int) = 0 + 2 * ((nz S3 : Nat) : Int); omega) (tb0_ok _ _ ⟨by decide, by decide⟩) (by omega)
      clear ht hlt hz
      go_wp2_with fail
      go_meet
      case rel => exact ⟨⟨((6 : Nat) : Int), ⟨#[]⟩, 0, (x94 : Int) + 1, S3, 0, [], tb0⟩, .slice (some ⟨wc.heap.size, 0, none⟩) 3 3, 2 * nz S3, _, _, by rw [HE.out]; simp, HR.out, .inr ⟨_, _, _, _, rfl, HS3.out, rfl⟩, HOK.out, by omega⟩
  ·as_aux_lemma =>
   have HR : Hid (Rt w W3 A Lb F p 1 zs #[.int .i64 7, .string ⟨#[]⟩, .int .i64 0, .int .i64 0, .slice none 0 0, .int .i64 0, .slice none 0 0, .int .i64 0, .int .i64 0, .int .i64 0, .int .i64 0, .int .i64 0, .int .i64 0] none r0) := HRT.out
   clear HRT hx8
   have c0 := HR.out.rs.clc
   go_wp2_with fail
   clear c0
   have HR := hid (HR.out.nxt (Up.refl Nul W3).drew)
   refine wp_region_held_drew (S := (fun W => W.cell? ⟨F, 0, none⟩ = some (nextV A Lb))) (by kernel_rfl) (by exact HR.out.rs.clc) (fun hHeld => ?_)
   refine tkl 0 (some 119) ?vk71 rfl ?yk71 ?rk71
   case yk71 => (intro w hSw; (try dsimp only at hSw); go_simp; try with_reducible rfl)
   try simp only [tdy]
   refine tkl 3 (some 122) ?vk72 rfl ?yk72 ?rk72
   case yk72 => (intro w hSw; (try dsimp only at hSw); go_simp; try with_reducible rfl)
   try simp only [tdy]
   refine one 1 (some 120) rfl (fun K hK => ?_)
   go_simp
   go_at_call 16
   refine (nxt_int _ A Lb _ _ zs HR.out.rs.nx (by omega) (by omega) (by omega)).mono ?_
   rintro e wc ⟨x120, rfl, h120, hn, hu⟩
   have HR := hid (HR.out.call hn hu)
   clear hn hu
   have v120 : IntKind.i64.wrap ((x120 : Int) + 1) = (x120 : Int) + 1 := IntWalk.i64_in _ (by omega)
   refine hK.out _ _ ?kk73x (fun hHeld => ?_)
   case kk73x => exact HR.out.rs.clc
   clear hK K
   try simp only [tdy]
   refine tkl 2 (some 121) ?vk74 rfl ?yk74 ?rk74
   case yk74 => (intro w hSw; (try dsimp only at hSw); go_simp; try with_reducible rfl)
   try simp only [tdy]
   refine tkl 5 (some 124) ?vk75 rfl ?yk75 ?rk75
   case yk75 => (intro w hSw; (try dsimp only at hSw); go_simp; try with_reducible rfl)
   try simp only [tdy]
   refine one 4 (some 123) rfl (fun K hK => ?_)
   go_simp
   go_at_call 16
   refine (nxt_int _ A Lb _ _ zs HR.out.rs.nx (by omega) (by omega) (by omega)).mono ?_
   rintro e wc ⟨x123, rfl, h123, hn, hu⟩
   have HR := hid (HR.out.call hn hu)
   clear hn hu
   refine hK.out _ _ ?kk76x (fun hHeld => ?_)
   case kk76x => exact HR.out.rs.clc
   clear hK K
   try simp only [tdy]
   obtain ⟨cc, ff⟩ := HR.out.cell (i := 3) rfl
   refine one 6 none rfl (fun K hK => ?_)
   go_simp
   have HR := hid (HR.out.set 3 (.int .i64 ((x120 : Int) + 1)))
   clear cc ff
   refine hK.out _ _ ?kk77x (fun hHeld => ?_)
   case kk77x => exact HR.out.rs.clc
   clear hK K
   try simp only [tdy]
   refine tkl 7 (some 125) ?vk78 rfl ?yk78 ?rk78
   case yk78 => (intro w hSw; (try dsimp only at hSw); go_simp; try with_reducible rfl)
   try simp only [tdy]
   obtain ⟨cc, ff⟩ := HR.out.cell (i := 2) rfl
   refine one 8 none rfl (fun K hK => ?_)
   go_simp
   have HR := hid (HR.out.set 2 (.int .i64 (x123 : Nat)))
   clear cc ff
   refine hK.out _ _ ?kk79x (fun hHeld => ?_)
   case kk79x => exact HR.out.rs.clc
   clear hK K
   try simp only [tdy]
   refine tkl 9 (some 7) ?vk710 rfl ?yk710 ?rk710
   case yk710 => (intro w hSw; (try dsimp only at hSw); go_simp; try with_reducible rfl)
   try simp only [tdy]
   refine wpAnyH_done (by kernel_rfl) ?_ _
   have HOK : Hid (OkP ⟨((7 : Nat) : Int), ⟨#[]⟩, (x123 : Nat), (x120 : Int) + 1, [], 0, [], tb0⟩ 1) := okP_of 7 ⟨#[]⟩ ((x123 : Nat) : Int) ((x120 : Int) + 1 : Int) [] 0 tb0 1 (by decide) (by decide) (by decide) (fun c hc => by cases hc) (by show (0 : Int) ≤ ((x123 : Nat) : Int) ∧ ((x123 : Nat) : Int) ≤ (15 : Int); omega) (by show (1 : Int) ≤ ((x120 : Int) + 1 : Int) ∧ ((x120 : Int) + 1 : Int) ≤ (2147483647 : Int); omega) (by show (0 : Int) ≤ (0 : Int) ∧ (0 : Int) ≤ (0 : Int); omega) (by rfl) (fun x hx => by cases hx) (by decide) (tb0_ok _ _ ⟨by decide, by decide⟩) (by omega)
   go_wp2_with fail
   go_meet
   case rel => exact ⟨⟨((7 : Nat) : Int), ⟨#[]⟩, (x123 : Nat), (x120 : Int) + 1, [], 0, [], tb0⟩, .slice none 0 0, 1, _, _, rfl, HR.out, .inl ⟨rfl, rfl⟩, HOK.out, by omega⟩
  ·as_aux_lemma =>
   have HR : Hid (Rt w W3 A Lb F p 1 zs #[.int .i64 8, .string ⟨#[]⟩, .int .i64 0, .int .i64 0, .slice none 0 0, .int .i64 0, .slice none 0 0, .int .i64 0, .int .i64 0, .int .i64 0, .int .i64 0, .int .i64 0, .int .i64 0] none r0) := HRT.out
   clear HRT hx8
   have c0 := HR.out.rs.clc
   go_wp2_with fail
   clear c0
   have HR := hid (HR.out.nxt (Up.refl Nul W3).drew)
   refine wp_region_held_drew (S := (fun W => W.cell? ⟨F, 0, none⟩ = some (nextV A Lb))) (by kernel_rfl) (by exact HR.out.rs.clc) (fun hHeld => ?_)
   refine tkl 0 (some 18) ?vk81 rfl ?yk81 ?rk81
   case yk81 => (intro w hSw; (try dsimp only at hSw); go_simp; try with_reducible rfl)
   try simp only [tdy]
   refine tkl 2 (some 20) ?vk82 rfl ?yk82 ?rk82
   case yk82 => (intro w hSw; (try dsimp only at hSw); go_simp; try with_reducible rfl)
   try simp only [tdy]
   refine tkl 4 (some 22) ?vk83 rfl ?yk83 ?rk83
   case yk83 => (intro w hSw; (try dsimp only at hSw); go_simp; try with_reducible rfl)
   try simp only [tdy]
   refine tkl 6 (some 24) ?vk84 rfl ?yk84 ?rk84
   case yk84 => (intro w hSw; (try dsimp only at hSw); go_simp; try with_reducible rfl)
   try simp only [tdy]
   refine tkl 8 (some 26) ?vk85 rfl ?yk85 ?rk85
   case yk85 => (intro w hSw; (try dsimp only at hSw); go_simp; try with_reducible rfl)
   try simp only [tdy]
   refine tkl 10 (some 28) ?vk86 rfl ?yk86 ?rk86
   case yk86 => (intro w hSw; (try dsimp only at hSw); go_simp; try with_reducible rfl)
   try simp only [tdy]
   refine one 1 (some 19) rfl (fun K hK => ?_)
   go_simp
   go_at_call 16
   refine (nxt_int _ A Lb _ _ zs HR.out.rs.nx (by omega) (by omega) (by omega)).mono ?_
   rintro e wc ⟨x19, rfl, h19, hn, hu⟩
   have HR := hid (HR.out.call hn hu)
   clear hn hu
   refine hK.out _ _ ?kk87x (fun hHeld => ?_)
   case kk87x => exact HR.out.rs.clc
   clear hK K
   try simp only [tdy]
   refine one 3 (some 21) rfl (fun K hK => ?_)
   go_simp
   go_at_call 16
   refine (nxt_int _ A Lb _ _ zs HR.out.rs.nx (by omega) (by omega) (by omega)).mono ?_
   rintro e wc ⟨x21, rfl, h21, hn, hu⟩
   have HR := hid (HR.out.call hn hu)
   clear hn hu
   refine hK.out _ _ ?kk88x (fun hHeld => ?_)
   case kk88x => exact HR.out.rs.clc
   clear hK K
   try simp only [tdy]
   refine one 5 (some 23) rfl (fun K hK => ?_)
   go_simp
   go_at_call 16
   refine (nxt_int _ A Lb _ _ zs HR.out.rs.nx (by omega) (by omega) (by omega)).mono ?_
   rintro e wc ⟨x23, rfl, h23, hn, hu⟩
   have HR := hid (HR.out.call hn hu)
   clear hn hu
   refine hK.out _ _ ?kk89x (fun hHeld => ?_)
   case kk89x => exact HR.out.rs.clc
   clear hK K
   try simp only [tdy]
   refine one 7 (some 25) rfl (fun K hK => ?_)
   go_simp
   go_at_call 16
   refine (nxt_int _ A Lb _ _ zs HR.out.rs.nx (by omega) (by omega) (by omega)).mono ?_
   rintro e wc ⟨x25, rfl, h25, hn, hu⟩
   have HR := hid (HR.out.call hn hu)
   clear hn hu
   refine hK.out _ _ ?kk810x (fun hHeld => ?_)
   case kk810x => exact HR.out.rs.clc
   clear hK K
   try simp only [tdy]
   refine one 9 (some 27) rfl (fun K hK => ?_)
   go_simp
   go_at_call 16
   refine (nxt_int _ A Lb _ _ zs HR.out.rs.nx (by omega) (by omega) (by omega)).mono ?_
   rintro e wc ⟨x27, rfl, h27, hn, hu⟩
   have HR := hid (HR.out.call hn hu)
   clear hn hu
   refine hK.out _ _ ?kk811x (fun hHeld => ?_)
   case kk811x => exact HR.out.rs.clc
   clear hK K
   try simp only [tdy]
   refine one 11 (some 29) rfl (fun K hK => ?_)
   go_simp
   go_at_call 16
   refine (nxt_int _ A Lb _ _ zs HR.out.rs.nx (by omega) (by omega) (by omega)).mono ?_
   rintro e wc ⟨x29, rfl, h29, hn, hu⟩
   have HR := hid (HR.out.call hn hu)
   clear hn hu
   refine hK.out _ _ ?kk812x (fun hHeld => ?_)
   case kk812x => exact HR.out.rs.clc
   clear hK K
   try simp only [tdy]
   refine one 12 (some 30) rfl (fun K hK => ?_)
   refine Eq.mpr (if_pos (by rfl)) ?_
   refine wp_exec (exec_tab _ _ _ _ _ _ _ _ rfl (x19 : Nat) (x21 : Nat) (x23 : Nat) (x25 : Nat) (x27 : Nat) (x29 : Nat) rfl rfl rfl rfl rfl rfl _) ?_
   refine hK.out _ _ ?kk813x (fun hHeld => ?_)
   case kk813x => exact HR.out.rs.clc
   clear hK K
   try simp only [tdy]
   refine tkl 13 (some 31) ?vk814 rfl ?yk814 ?rk814
   case yk814 => (intro w hSw; (try dsimp only at hSw); go_simp; try with_reducible rfl)
   try simp only [tdy]
   obtain ⟨c7, f7⟩ := HR.out.cell (i := 7) rfl
   obtain ⟨c8, f8⟩ := HR.out.cell (i := 8) rfl
   obtain ⟨c9, f9⟩ := HR.out.cell (i := 9) rfl
   obtain ⟨c10, f10⟩ := HR.out.cell (i := 10) rfl
   obtain ⟨c11, f11⟩ := HR.out.cell (i := 11) rfl
   obtain ⟨c12, f12⟩ := HR.out.cell (i := 12) rfl
   refine one 14 none rfl (fun K hK => ?_)
   go_simp
   have HR := hid (HR.out.set 7 (.int .i64 (x19 : Nat)))
   have HR := hid (HR.out.set 8 (.int .i64 (x21 : Nat)))
   have HR := hid (HR.out.set 9 (.int .i64 (x23 : Nat)))
   have HR := hid (HR.out.set 10 (.int .i64 (x25 : Nat)))
   have HR := hid (HR.out.set 11 (.int .i64 (x27 : Nat)))
   have HR := hid (HR.out.set 12 (.int .i64 (x29 : Nat)))
   clear c7 f7 c8 f8 c9 f9 c10 f10 c11 f11 c12 f12
   refine hK.out _ _ ?kk815x (fun hHeld => ?_)
   case kk815x => exact HR.out.rs.clc
   clear hK K
   try simp only [tdy]
   refine wpAnyH_done (by kernel_rfl) ?_ _
   have HOK : Hid (OkP ⟨((8 : Nat) : Int), ⟨#[]⟩, 0, 0, [], 0, [], ⟨(x19 : Nat), (x21 : Nat), (x23 : Nat), (x25 : Nat), (x27 : Nat), (x29 : Nat)⟩⟩ 0) := okP_of 8 ⟨#[]⟩ (0 : Int) (0 : Int) [] 0 ⟨(x19 : Nat), (x21 : Nat), (x23 : Nat), (x25 : Nat), (x27 : Nat), (x29 : Nat)⟩ 0 (by decide) (by decide) (by decide) (fun c hc => by cases hc) (by show (0 : Int) ≤ (0 : Int) ∧ (0 : Int) ≤ (0 : Int); omega) (by show (0 : Int) ≤ (0 : Int) ∧ (0 : Int) ≤ (0 : Int); omega) (by show (0 : Int) ≤ (0 : Int) ∧ (0 : Int) ≤ (0 : Int); omega) (by rfl) (fun x hx => by cases hx) (by decide) (by intro x hx; simp [Tb.l] at hx; show (0 : Int) ≤ x ∧ x ≤ (1000000 : Int); omega) (by omega)
   go_wp2_with fail
   go_meet
   case rel => exact ⟨⟨((8 : Nat) : Int), ⟨#[]⟩, 0, 0, [], 0, [], ⟨(x19 : Nat), (x21 : Nat), (x23 : Nat), (x25 : Nat), (x27 : Nat), (x29 : Nat)⟩⟩, .slice none 0 0, 0, _, _, rfl, HR.out, .inl ⟨rfl, rfl⟩, HOK.out, by omega⟩
 case rest =>
 obtain ⟨r, sv, L, k, G, rfl, hrt, hsv, hok, hk⟩ := hcut
 have HOK := hid hok
 have HSV := hid hsv
 have hL6 := hok.l6
 obtain ⟨base, BS⟩ : ∃ b, Hid (wc.heap.size = b) := ⟨_, rfl⟩
 have hbs := hrt.lts
 rw [BS.out] at hbs
 have HBL := hid hbs
 have HBC : Hid (base ≤ wc.heap.size) := by show _ ≤ _; rw [BS.out]; exact Nat.le_refl _
 have HRX := hid hrt
 clear hok hsv hbs hrt HRT
 go_wp2_with fail
 go_loopw [9] (fun i wr => ∃ (t : Nat) (lv : Value) (k' : Nat) (ls : List Lo), t ≤ L ∧ i = .int .i64 ((t : Nat) : Int) ∧ Rt w wr A Lb F p k' zs (rcellsL r sv lv) G r0 ∧ k' ≤ 20 + 3 * t ∧ base ≤ wr.heap.size ∧ OwnLo base wr lv ls ∧ ls.length = t ∧ ∀ l ∈ ls, (0 ≤ l.d ∧ l.d ≤ 23) ∧ (0 ≤ l.s ∧ l.s ≤ 63) ∧ 1 ≤ l.i ∧ l.i ≤ 2147483647) (fun i _ => L - (intOf i).toNat)
 case atStart => exact ⟨0, _, _, [], Nat.zero_le _, rfl, HRX.out, by omega, HBC.out, OwnLo.nil _ _, rfl, fun l hl => by cases hl⟩
 case round =>
  clear HRX hk k
  obtain ⟨t, lv, k, ls, ht, rfl, hrt, hk, hbw, hown, hls, hlk⟩ := hrel
  have i0 : (0 : Int) ≤ (t : Int) := by omega
  have i9 : (t : Int) ≤ 6 := by omega
  by_cases hlt : t < L
  ·have i2 : (t : Int) < (L : Int) := by omega
   have HT := hid hlt
   have HLS := hid (And.intro hls hlk)
   have HR := hid (hrt.nxt (Up.refl Nul wr).drew)
   have HO := hid (hown.up (Up.refl Nul wr).drew fun _ _ _ h => h)
   have HBB : Hid (base ≤ wr.drew.heap.size) := hbw
   obtain ⟨la, lc, rfl⟩ := hown.shape
   rw [hls] at hrt HR hown HO
   have HBS : Hid (base ≤ base ∧ (A < base ∧ Lb < base ∧ F < base ∧ p < base ∧ r0 < base ∧ w.heap.size ≤ base ∧ ∀ g cs, G = some (g, cs) → g < base)) := ⟨Nat.le_refl _, HBL.out⟩
   clear ht hlt hls hlk hrt hown hbw
   go_wp2_with fail
   refine wp_region_held_drew (S := (fun _ => True)) (by kernel_rfl) (by exact trivial) (fun hHeld => ?_)
   refine tkl 0 (some 131) ?vz1 rfl ?yz1 ?rz1
   case yz1 => (intro w hSw; (try dsimp only at hSw); go_simp; try with_reducible rfl)
   try simp only [tdy]
   refine tkl 2 (some 133) ?vz2 rfl ?yz2 ?rz2
   case yz2 => (intro w hSw; (try dsimp only at hSw); go_simp; try with_reducible rfl)
   try simp only [tdy]
   refine wpAnyH_ready (rs := [1, 3]) (by kernel_rfl) (by simp) ?_
   refine (AllReadyH.cons (o := ⟨some 132, _, _, _, _, _⟩) rfl (fun K hK => ?_) (AllReadyH.cons (o := ⟨some 134, _, _, _, _, _⟩) rfl (fun K hK => ?_) AllReadyH.nil))
   ·skip
    have xl := (HR.out.cell (i := 6) rfl).1
    go_simp
    refine hK.out _ _ ?kz3x (fun hHeld => ?_)
    case kz3x => exact trivial
    clear hK K
    try simp only [tdy]
    refine one 3 (some 134) rfl (fun K hK => ?_)
    go_simp
    go_at_call 17
    refine (locL_any _ A Lb F _ zs HR.out.rs.nx HR.out.rs.cl HR.out.rs.ne.1 (by omega) HR.out.lts.2.1).mono ?_
    rintro e wb ⟨d, s, i, rfl, hlo, hn, hu⟩
    have HR := hid (HR.out.call hn hu)
    have HO := hid (HO.out.up hu fun g hg _ e => by have e : g = A := e; have := HBS.out.2.1; omega)
    have HLO := hid hlo
    have HSW : Hid (base ≤ wb.heap.size) := Nat.le_trans HBB.out hu.size
    clear hn hu hlo
    refine hK.out _ _ ?kz4x (fun hHeld => ?_)
    case kz4x => exact trivial
    clear hK K
    try simp only [tdy]
    refine one 4 (some 135) rfl (fun K hK => ?_)
    go_simp
    have HR := hid (HR.out.nxt ((Up.refl Nul wb).alloc (.cells #[.int .i64 (d : Nat), .int .i64 (s : Nat), .int .i64 (i : Nat)] 31)))
    have HO := hid (HO.out.up ((Up.refl Nul wb).alloc (.cells #[.int .i64 (d : Nat), .int .i64 (s : Nat), .int .i64 (i : Nat)] 31)) fun _ _ _ h => h)
    have HBA : Hid (wb.heap.size ≤ (wb.alloc (.cells #[.int .i64 (d : Nat), .int .i64 (s : Nat), .int .i64 (i : Nat)] 31)).heap.size) := by show _ ≤ _; simp
    refine hK.out _ _ ?kz5x (fun hHeld => ?_)
    case kz5x => exact trivial
    clear hK K
    try simp only [tdy]
    obtain ⟨v', w', hrun, ho', hg'⟩ := HO.out.app ⟨(d : Nat), (s : Nat), (i : Nat)⟩ wb.heap.size (fun j u hj => by
     match j, hj with
     | 0, hj => cases hj; exact World.cell?_alloc_new _ _ _ 0
     | 1, hj => cases hj; exact World.cell?_alloc_new _ _ _ 1
     | 2, hj => cases hj; exact World.cell?_alloc_new _ _ _ 2) 1 (by rw [HLS.out.1]; omega) (Nat.le_trans HSW.out HBA.out)
    obtain ⟨av, nv, cv, rfl⟩ : ∃ a l c, v' = .slice a l c := by obtain ⟨a, c, e⟩ := ho'.shape; exact ⟨a, _, c, e⟩
    have HR := hid (HR.out.grow HBS.out.2 hg' HO.out.bs)
    have HO := hid ho'
    clear ho' hg'
    refine one 5 (some 136) rfl (fun K hK => ?_)
    refine wp_append_eqv (.tmp 132) (.tmp 135) 23 rfl (.slice la t lc) (.slice (some ⟨wb.heap.size, 0, none⟩) 1 1) (.slice av nv cv) rfl rfl hrun ?_
    clear hrun
    refine hK.out _ _ ?kz6x (fun hHeld => ?_)
    case kz6x => exact trivial
    clear hK K
    try simp only [tdy]
    refine tkl 6 (some 137) ?vz7 rfl ?yz7 ?rz7
    case yz7 => (intro w hSw; (try dsimp only at hSw); go_simp; try with_reducible rfl)
    try simp only [tdy]
    obtain ⟨cc, ff⟩ := HR.out.cell (i := 6) rfl
    refine one 7 none rfl (fun K hK => ?_)
    go_simp
    have HR := hid (HR.out.set 6 (.slice av nv cv))
    have HO := hid (HO.out.up ((Up.refl (One p) w').put rfl 6 (.slice av nv cv)) fun g hg _ e => by have e : g = p := e; have := HBS.out.2.2.2.2.1; omega)
    clear cc ff
    refine hK.out _ _ ?kz8x (fun hHeld => ?_)
    case kz8x => exact trivial
    clear hK K
    try simp only [tdy]
    refine wpAnyH_done (by kernel_rfl) ?_ _
    have HNL : Hid ((ls ++ [(⟨(d : Nat), (s : Nat), (i : Nat)⟩ : Lo)]).length = t + 1 ∧ ∀ l ∈ ls ++ [(⟨(d : Nat), (s : Nat), (i : Nat)⟩ : Lo)], (0 ≤ l.d ∧ l.d ≤ 23) ∧ (0 ≤ l.s ∧ l.s ≤ 63) ∧ 1 ≤ l.i ∧ l.i ≤ 2147483647) := by
     refine ⟨by rw [List.length_append, HLS.out.1]; rfl, fun l hl => ?_⟩
     rcases List.mem_append.1 hl with hl | hl
     ·exact HLS.out.2 l hl
     ·obtain rfl : l = _ := by simpa using hl
      have := HLO.out
      show (0 ≤ ((d : Nat) : Int) ∧ ((d : Nat) : Int) ≤ 23) ∧ (0 ≤ ((s : Nat) : Int) ∧ ((s : Nat) : Int) ≤ 63) ∧ 1 ≤ ((i : Nat) : Int) ∧ ((i : Nat) : Int) ≤ 2147483647
      omega
    go_wp2_with fail
    go_roundw
    case rel => exact ⟨t + 1, _, _, _, HT.out, by go_num, HR.out, by omega, HO.out.base_le, HO.out, HNL.out⟩
    case measure => have := HT.out; simp [intOf]; omega
   ·skip
    go_simp
    go_at_call 17
    refine (locL_any _ A Lb F _ zs HR.out.rs.nx HR.out.rs.cl HR.out.rs.ne.1 (by omega) HR.out.lts.2.1).mono ?_
    rintro e wb ⟨d, s, i, rfl, hlo, hn, hu⟩
    have HR := hid (HR.out.call hn hu)
    have HO := hid (HO.out.up hu fun g hg _ e => by have e : g = A := e; have := HBS.out.2.1; omega)
    have HLO := hid hlo
    have HSW : Hid (base ≤ wb.heap.size) := Nat.le_trans HBB.out hu.size
    clear hn hu hlo
    refine hK.out _ _ ?kz3y (fun hHeld => ?_)
    case kz3y => exact trivial
    clear hK K
    try simp only [tdy]
    refine wpAnyH_ready (rs := [1, 4]) (by kernel_rfl) (by simp) ?_
    refine (AllReadyH.cons (o := ⟨some 132, _, _, _, _, _⟩) rfl (fun K hK => ?_) (AllReadyH.cons (o := ⟨some 135, _, _, _, _, _⟩) rfl (fun K hK => ?_) AllReadyH.nil))
    ·skip
     have xl := (HR.out.cell (i := 6) rfl).1
     go_simp
     refine hK.out _ _ ?kz9x (fun hHeld => ?_)
     case kz9x => exact trivial
     clear hK K
     try simp only [tdy]
     refine one 4 (some 135) rfl (fun K hK => ?_)
     go_simp
     have HR := hid (HR.out.nxt ((Up.refl Nul wb).alloc (.cells #[.int .i64 (d : Nat), .int .i64 (s : Nat), .int .i64 (i : Nat)] 31)))
     have HO := hid (HO.out.up ((Up.refl Nul wb).alloc (.cells #[.int .i64 (d : Nat), .int .i64 (s : Nat), .int .i64 (i : Nat)] 31)) fun _ _ _ h => h)
     have HBA : Hid (wb.heap.size ≤ (wb.alloc (.cells #[.int .i64 (d : Nat), .int .i64 (s : Nat), .int .i64 (i : Nat)] 31)).heap.size) := by show _ ≤ _; simp
     refine hK.out _ _ ?kz10x (fun hHeld => ?_)
     case kz10x => exact trivial
     clear hK K
     try simp only [tdy]
     obtain ⟨v', w', hrun, ho', hg'⟩ := HO.out.app ⟨(d : Nat), (s : Nat), (i : Nat)⟩ wb.heap.size (fun j u hj => by
      match j, hj with
      | 0, hj => cases hj; exact World.cell?_alloc_new _ _ _ 0
      | 1, hj => cases hj; exact World.cell?_alloc_new _ _ _ 1
      | 2, hj => cases hj; exact World.cell?_alloc_new _ _ _ 2) 1 (by rw [HLS.out.1]; omega) (Nat.le_trans HSW.out HBA.out)
     obtain ⟨av, nv, cv, rfl⟩ : ∃ a l c, v' = .slice a l c := by obtain ⟨a, c, e⟩ := ho'.shape; exact ⟨a, _, c, e⟩
     have HR := hid (HR.out.grow HBS.out.2 hg' HO.out.bs)
     have HO := hid ho'
     clear ho' hg'
     refine one 5 (some 136) rfl (fun K hK => ?_)
     refine wp_append_eqv (.tmp 132) (.tmp 135) 23 rfl (.slice la t lc) (.slice (some ⟨wb.heap.size, 0, none⟩) 1 1) (.slice av nv cv) rfl rfl hrun ?_
     clear hrun
     refine hK.out _ _ ?kz11x (fun hHeld => ?_)
     case kz11x => exact trivial
     clear hK K
     try simp only [tdy]
     refine tkl 6 (some 137) ?vz12 rfl ?yz12 ?rz12
     case yz12 => (intro w hSw; (try dsimp only at hSw); go_simp; try with_reducible rfl)
     try simp only [tdy]
     obtain ⟨cc, ff⟩ := HR.out.cell (i := 6) rfl
     refine one 7 none rfl (fun K hK => ?_)
     go_simp
     have HR := hid (HR.out.set 6 (.slice av nv cv))
     have HO := hid (HO.out.up ((Up.refl (One p) w').put rfl 6 (.slice av nv cv)) fun g hg _ e => by have e : g = p := e; have := HBS.out.2.2.2.2.1; omega)
     clear cc ff
     refine hK.out _ _ ?kz13x (fun hHeld => ?_)
     case kz13x => exact trivial
     clear hK K
     try simp only [tdy]
     refine wpAnyH_done (by kernel_rfl) ?_ _
     have HNL : Hid ((ls ++ [(⟨(d : Nat), (s : Nat), (i : Nat)⟩ : Lo)]).length = t + 1 ∧ ∀ l ∈ ls ++ [(⟨(d : Nat), (s : Nat), (i : Nat)⟩ : Lo)], (0 ≤ l.d ∧ l.d ≤ 23) ∧ (0 ≤ l.s ∧ l.s ≤ 63) ∧ 1 ≤ l.i ∧ l.i ≤ 2147483647) := by
      refine ⟨by rw [List.length_append, HLS.out.1]; rfl, fun l hl => ?_⟩
      rcases List.mem_append.1 hl with hl | hl
      ·exact HLS.out.2 l hl
      ·obtain rfl : l = _ := by simpa using hl
       have := HLO.out
       show (0 ≤ ((d : Nat) : Int) ∧ ((d : Nat) : Int) ≤ 23) ∧ (0 ≤ ((s : Nat) : Int) ∧ ((s : Nat) : Int) ≤ 63) ∧ 1 ≤ ((i : Nat) : Int) ∧ ((i : Nat) : Int) ≤ 2147483647
       omega
     go_wp2_with fail
     go_roundw
     case rel => exact ⟨t + 1, _, _, _, HT.out, by go_num, HR.out, by omega, HO.out.base_le, HO.out, HNL.out⟩
     case measure => have := HT.out; simp [intOf]; omega
    ·skip
     go_simp
     have HR := hid (HR.out.nxt ((Up.refl Nul wb).alloc (.cells #[.int .i64 (d : Nat), .int .i64 (s : Nat), .int .i64 (i : Nat)] 31)))
     have HO := hid (HO.out.up ((Up.refl Nul wb).alloc (.cells #[.int .i64 (d : Nat), .int .i64 (s : Nat), .int .i64 (i : Nat)] 31)) fun _ _ _ h => h)
     have HBA : Hid (wb.heap.size ≤ (wb.alloc (.cells #[.int .i64 (d : Nat), .int .i64 (s : Nat), .int .i64 (i : Nat)] 31)).heap.size) := by show _ ≤ _; simp
     refine hK.out _ _ ?kz9y (fun hHeld => ?_)
     case kz9y => exact trivial
     clear hK K
     try simp only [tdy]
     have xl := (HR.out.cell (i := 6) rfl).1
     refine one 1 (some 132) rfl (fun K hK => ?_)
     go_simp
     refine hK.out _ _ ?kz14x (fun hHeld => ?_)
     case kz14x => exact trivial
     clear hK K
     try simp only [tdy]
     obtain ⟨v', w', hrun, ho', hg'⟩ := HO.out.app ⟨(d : Nat), (s : Nat), (i : Nat)⟩ wb.heap.size (fun j u hj => by
      match j, hj with
      | 0, hj => cases hj; exact World.cell?_alloc_new _ _ _ 0
      | 1, hj => cases hj; exact World.cell?_alloc_new _ _ _ 1
      | 2, hj => cases hj; exact World.cell?_alloc_new _ _ _ 2) 1 (by rw [HLS.out.1]; omega) (Nat.le_trans HSW.out HBA.out)
     obtain ⟨av, nv, cv, rfl⟩ : ∃ a l c, v' = .slice a l c := by obtain ⟨a, c, e⟩ := ho'.shape; exact ⟨a, _, c, e⟩
     have HR := hid (HR.out.grow HBS.out.2 hg' HO.out.bs)
     have HO := hid ho'
     clear ho' hg'
     refine one 5 (some 136) rfl (fun K hK => ?_)
     refine wp_append_eqv (.tmp 132) (.tmp 135) 23 rfl (.slice la t lc) (.slice (some ⟨wb.heap.size, 0, none⟩) 1 1) (.slice av nv cv) rfl rfl hrun ?_
     clear hrun
     refine hK.out _ _ ?kz15x (fun hHeld => ?_)
     case kz15x => exact trivial
     clear hK K
     try simp only [tdy]
     refine tkl 6 (some 137) ?vz16 rfl ?yz16 ?rz16
     case yz16 => (intro w hSw; (try dsimp only at hSw); go_simp; try with_reducible rfl)
     try simp only [tdy]
     obtain ⟨cc, ff⟩ := HR.out.cell (i := 6) rfl
     refine one 7 none rfl (fun K hK => ?_)
     go_simp
     have HR := hid (HR.out.set 6 (.slice av nv cv))
     have HO := hid (HO.out.up ((Up.refl (One p) w').put rfl 6 (.slice av nv cv)) fun g hg _ e => by have e : g = p := e; have := HBS.out.2.2.2.2.1; omega)
     clear cc ff
     refine hK.out _ _ ?kz17x (fun hHeld => ?_)
     case kz17x => exact trivial
     clear hK K
     try simp only [tdy]
     refine wpAnyH_done (by kernel_rfl) ?_ _
     have HNL : Hid ((ls ++ [(⟨(d : Nat), (s : Nat), (i : Nat)⟩ : Lo)]).length = t + 1 ∧ ∀ l ∈ ls ++ [(⟨(d : Nat), (s : Nat), (i : Nat)⟩ : Lo)], (0 ≤ l.d ∧ l.d ≤ 23) ∧ (0 ≤ l.s ∧ l.s ≤ 63) ∧ 1 ≤ l.i ∧ l.i ≤ 2147483647) := by
      refine ⟨by rw [List.length_append, HLS.out.1]; rfl, fun l hl => ?_⟩
      rcases List.mem_append.1 hl with hl | hl
      ·exact HLS.out.2 l hl
      ·obtain rfl : l = _ := by simpa using hl
       have := HLO.out
       show (0 ≤ ((d : Nat) : Int) ∧ ((d : Nat) : Int) ≤ 23) ∧ (0 ≤ ((s : Nat) : Int) ∧ ((s : Nat) : Int) ≤ 63) ∧ 1 ≤ ((i : Nat) : Int) ∧ ((i : Nat) : Int) ≤ 2147483647
       omega
     go_wp2_with fail
     go_roundw
     case rel => exact ⟨t + 1, _, _, _, HT.out, by go_num, HR.out, by omega, HO.out.base_le, HO.out, HNL.out⟩
     case measure => have := HT.out; simp [intOf]; omega
  ·obtain rfl : t = L := by omega
   obtain ⟨sa, sl, sc, hsa⟩ : ∃ a l c, sv = .slice a l c := by
    rcases HSV.out with ⟨_, e⟩ | ⟨g, a, b, c, _, _, e⟩
    ·exact ⟨_, _, _, e⟩
    ·exact ⟨_, _, _, e⟩
   obtain ⟨la, lc, hla⟩ := hown.shape
   have hpc := hrt.rs.pc
   have hrc := hrt.rc
   have x0 : wr.cell? ⟨p, 0, none⟩ = some (.int .i64 r.kind) := by simp [World.cell?, hpc]
   have x1 : wr.cell? ⟨p, 1, none⟩ = some (.string r.key) := by simp [World.cell?, hpc]
   have x2 : wr.cell? ⟨p, 2, none⟩ = some (.int .i64 r.n) := by simp [World.cell?, hpc]
   have x3 : wr.cell? ⟨p, 3, none⟩ = some (.int .i64 r.sid) := by simp [World.cell?, hpc]
   have x4 : wr.cell? ⟨p, 4, none⟩ = some (sv) := by simp [World.cell?, hpc]
   have x5 : wr.cell? ⟨p, 5, none⟩ = some (.int .i64 r.colour) := by simp [World.cell?, hpc]
   have x6 : wr.cell? ⟨p, 6, none⟩ = some (lv) := by simp [World.cell?, hpc]
   have x7 : wr.cell? ⟨p, 7, none⟩ = some (.int .i64 r.t.hot) := by simp [World.cell?, hpc]
   have x8 : wr.cell? ⟨p, 8, none⟩ = some (.int .i64 r.t.warm) := by simp [World.cell?, hpc]
   have x9 : wr.cell? ⟨p, 9, none⟩ = some (.int .i64 r.t.gap) := by simp [World.cell?, hpc]
   have x10 : wr.cell? ⟨p, 10, none⟩ = some (.int .i64 r.t.add) := by simp [World.cell?, hpc]
   have x11 : wr.cell? ⟨p, 11, none⟩ = some (.int .i64 r.t.top) := by simp [World.cell?, hpc]
   have x12 : wr.cell? ⟨p, 12, none⟩ = some (.int .i64 r.t.half) := by simp [World.cell?, hpc]
   have u0 : wr.cell? ⟨r0, 0, none⟩ = some (.int .i64 0) := by simp [World.cell?, hrc]
   have f0 : wr.frozen? ⟨r0, 0, none⟩ = false := by simp [World.frozen?, hrc]
   have u1 : wr.cell? ⟨r0, 1, none⟩ = some (.string ⟨#[]⟩) := by simp [World.cell?, hrc]
   have f1 : wr.frozen? ⟨r0, 1, none⟩ = false := by simp [World.frozen?, hrc]
   have u2 : wr.cell? ⟨r0, 2, none⟩ = some (.int .i64 0) := by simp [World.cell?, hrc]
   have f2 : wr.frozen? ⟨r0, 2, none⟩ = false := by simp [World.frozen?, hrc]
   have u3 : wr.cell? ⟨r0, 3, none⟩ = some (.int .i64 0) := by simp [World.cell?, hrc]
   have f3 : wr.frozen? ⟨r0, 3, none⟩ = false := by simp [World.frozen?, hrc]
   have u4 : wr.cell? ⟨r0, 4, none⟩ = some (.slice none 0 0) := by simp [World.cell?, hrc]
   have f4 : wr.frozen? ⟨r0, 4, none⟩ = false := by simp [World.frozen?, hrc]
   have u5 : wr.cell? ⟨r0, 5, none⟩ = some (.int .i64 0) := by simp [World.cell?, hrc]
   have f5 : wr.frozen? ⟨r0, 5, none⟩ = false := by simp [World.frozen?, hrc]
   have u6 : wr.cell? ⟨r0, 6, none⟩ = some (.slice none 0 0) := by simp [World.cell?, hrc]
   have f6 : wr.frozen? ⟨r0, 6, none⟩ = false := by simp [World.frozen?, hrc]
   have u7 : wr.cell? ⟨r0, 7, none⟩ = some (.int .i64 0) := by simp [World.cell?, hrc]
   have f7 : wr.frozen? ⟨r0, 7, none⟩ = false := by simp [World.frozen?, hrc]
   have u8 : wr.cell? ⟨r0, 8, none⟩ = some (.int .i64 0) := by simp [World.cell?, hrc]
   have f8 : wr.frozen? ⟨r0, 8, none⟩ = false := by simp [World.frozen?, hrc]
   have u9 : wr.cell? ⟨r0, 9, none⟩ = some (.int .i64 0) := by simp [World.cell?, hrc]
   have f9 : wr.frozen? ⟨r0, 9, none⟩ = false := by simp [World.frozen?, hrc]
   have u10 : wr.cell? ⟨r0, 10, none⟩ = some (.int .i64 0) := by simp [World.cell?, hrc]
   have f10 : wr.frozen? ⟨r0, 10, none⟩ = false := by simp [World.frozen?, hrc]
   have u11 : wr.cell? ⟨r0, 11, none⟩ = some (.int .i64 0) := by simp [World.cell?, hrc]
   have f11 : wr.frozen? ⟨r0, 11, none⟩ = false := by simp [World.frozen?, hrc]
   have u12 : wr.cell? ⟨r0, 12, none⟩ = some (.int .i64 0) := by simp [World.cell?, hrc]
   have f12 : wr.frozen? ⟨r0, 12, none⟩ = false := by simp [World.frozen?, hrc]
   have HRC := hid hrc
   have HUF := hid (up13 wr r0 (.int .i64 r.kind) (.string r.key) (.int .i64 r.n) (.int .i64 r.sid) (sv) (.int .i64 r.colour) (lv) (.int .i64 r.t.hot) (.int .i64 r.t.warm) (.int .i64 r.t.gap) (.int .i64 r.t.add) (.int .i64 r.t.top) (.int .i64 r.t.half))
   have HRT := hid hrt
   have HO := hid hown
   have HLS := hid (And.intro hls hlk)
   rw [hsa] at x4 HUF HSV
   rw [hla] at x6 HUF HO
   clear hpc hrc hrt hown hls hlk ht hlt hk hbw hsa hla
   obtain ⟨kind, key, n, sid, sids, colour, locs, ⟨t0, t1, t2, t3, t4, t5⟩⟩ := r
   go_wp2_with fail
   refine bodyPost_ret (results_cell_row (P := Tryd.prog) (ty := 27) rfl _ _ r0 _ _ _ _ rfl (heap13s HRC.out _ _ _ _ _ _ _ _ _ _ _ _ _) Tryd.underlying27 rfl info_rec13) rfl ?_
   have hfix := HUF.out
   have hO2 := HO.out.up hfix fun g hg _ e => by have e : g = r0 := e; have := HBL.out.2.2.2.2.1; omega
   obtain ⟨la2, lc2, e2, r2, r2b⟩ := hO2.rowb
   have hO3 := hO2.weak (B' := w.heap.size) (by have := HLA.out; have := HBL.out; first | omega | exact HRT.out.rs.up.size)
   have hF := HOK.out.done ls HLS.out.1 HLS.out.2
   have hlen : ls.length = t := HLS.out.1
   have hlb := HLA.out
   have hUW : Up Nul w wr := HRT.out.rs.up
   have hr0 : w.heap.size ≤ r0 := HRT.out.ne.2.2
   have hUF : Up Nul w _ := ⟨hfix.os.trans hUW.os, hfix.tape.trans hUW.tape, hfix.output.trans hUW.output, Nat.le_trans hUW.size hfix.size, fun g hg _ => (hfix.block g (Nat.lt_of_lt_of_le hg hUW.size) (fun e => by have e : g = r0 := e; omega)).trans (hUW.block g hg id)⟩
   have hll : ls.length ≤ 100000 := by rw [hlen]; omega
   rcases HSV.out with ⟨e0, e1⟩ | ⟨g, a1, a2, a3, hG, e0, e1⟩
   ·cases e1
    have e0 : sids = [] := e0
    subst e0
    refine ⟨{ kind := kind, key := key, n := n, sid := sid, sids := [], colour := colour, locs := ls, t := ⟨t0, t1, t2, t3, t4, t5⟩ }, none, 0, la2, lc2, ?_, hF, ⟨RowI.nil _ _, r2, by show 0 ≤ 100000; omega, hll⟩, ⟨.inl rfl, by show OwnLo w.heap.size _ (.slice la2 ls.length lc2) ls; rw [← e2]; exact hO3⟩, hUF⟩
    rw [e2]
    rfl
   ·cases e1
    have e0 : sids = [a1, a2, a3] := e0
    subst e0
    have hgc := (HRT.out.rs.gc g _ hG).1
    have hgr : g ≠ r0 := fun e => by
     subst e
     have := HRC.out.symm.trans hgc
     simp at this
    have hgb := (hfix.block g (Array.getElem?_eq_some_iff.1 hgc).1 hgr).trans hgc
    refine ⟨{ kind := kind, key := key, n := n, sid := sid, sids := [a1, a2, a3], colour := colour, locs := ls, t := ⟨t0, t1, t2, t3, t4, t5⟩ }, some ⟨g, 0, none⟩, 3, la2, lc2, ?_, hF, ⟨.inr ⟨g, 0, rfl, (Array.getElem?_eq_some_iff.1 hgb).1, fun i x hi => ?_⟩, r2, by show 3 ≤ 100000; omega, hll⟩, ⟨.inr ⟨g, rfl, (HRT.out.rs.gc g _ hG).2.2.2, hgb⟩, by show OwnLo w.heap.size _ (.slice la2 ls.length lc2) ls; rw [← e2]; exact hO3⟩, hUF⟩
    ·rw [e2]
     rfl
    ·match i, hi with
     | 0, hi => cases hi; simp [World.cell?, hgb]
     | 1, hi => cases hi; simp [World.cell?, hgb]
     | 2, hi => cases hi; simp [World.cell?, hgb]
theorem rec_any (w : World) (a : Option Addr) (len cap : Nat) (z0 : List Int) (h : CameI w a len cap z0) :
  Calls Tryd.prog 7 #[.slice a len cap] w fun e w' => ∃ (r : Rc) (sa : Option Addr) (sc : Nat) (la : Option Addr) (lc : Nat), e = .returned (rv r (.slice sa r.sids.length sc) (.slice la r.locs.length lc)) ∧ OkF r ∧ RH w' r sa la ∧ Up Nul w w' :=
 (rec_own w a len cap z0 h).mono fun e w' ⟨r, sa, sc, la, lc, h1, h2, h3, _, h5⟩ => ⟨r, sa, sc, la, lc, h1, h2, h3, h5⟩
end Go.Proofs.YtpdkcpjofofkoaaDoor
