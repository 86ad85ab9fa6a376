/- A row that is made by appends. -/
import Derived.Test.YtepggchnhgpcnaaGreatDoorPkTidy
import Derived.Test.YtepggchnhgpcnaaGreatDoorPz15
import Derived.Deep.RegionHeld3
import Derived.KernelRfl
namespace Go.Proofs.YtepggchnhgpcnaaGreatDoor
open Go.RowKit Go.Maps Go.Sort
set_option linter.unusedVariables false

structure ApS (T : TypeId) (s : Nat) (w0 W : World) (a : Option Addr) (n c : Nat) (xs : List Value) : Prop where
 own : W.ownsRow w0.heap.size T s (.slice a n c) n xs
 up : Up Nul w0 W
 nn : ∃ g, a = some ⟨g, 0, none⟩
structure ApO (T : TypeId) (s : Nat) (w0 W : World) (a : Option Addr) (n c : Nat) (xs : List Value) (g1 : Nat) (ys : List Value) : Prop where
 ap : ApS T s w0 W a n c xs
 one : RdR s W (some ⟨g1, 0, none⟩) 1 ys
 ne : ∀ g o, a = some ⟨g, o, none⟩ → g ≠ g1
structure ApI (s : Nat) (w0 W : World) (g1 : Nat) (ys : List Value) : Prop where
 one : RdR s W (some ⟨g1, 0, none⟩) 1 ys
 up : Up Nul w0 W
 lt : g1 < W.heap.size
section
variable {T : TypeId} {s : Nat} {w0 W W' : World} {a a2 : Option Addr} {n c m c2 g1 : Nat} {xs ys zs : List Value}
theorem one_row (W : World) (T : TypeId) (ys : List Value) (hl : ys.length = s) (h1 : ∀ u ∈ ys, u.oneCell' = true) : RdR s (W.alloc (.cells ys.toArray T)) (some ⟨W.heap.size, 0, none⟩) 1 ys := by
 refine ⟨by omega, h1, fun _ => ⟨_, 0, rfl, by rw [World.size_alloc]; omega, fun j u hu => ?_⟩, .inl ⟨_, _, rfl⟩⟩
 have := heap_alloc_new W (.cells ys.toArray T)
 simp only [World.cell?, this, Nat.zero_add]
 simpa using hu
theorem ApS.start (u : Up Nul w0 W) : ApS T s w0 (W.alloc (.cells #[] T)) (some ⟨W.heap.size, 0, none⟩) 0 0 [] :=
 ⟨World.ownsRow_made W #[] 0 u.size (by unfold maxLen; omega) (by simp), u.alloc _, _, rfl⟩
theorem ApS.lt (h : ApS T s w0 W a n c xs) : ∀ g o, a = some ⟨g, o, none⟩ → w0.heap.size ≤ g ∧ g < W.heap.size := fun g o e => ownsRow.lt h.own g (by rw [e]; rfl)
theorem ApS.nxt (h : ApS T s w0 W a n c xs) (u : Up Nul W W') : ApS T s w0 W' a n c xs := ⟨ownsRow.up h.own u fun _ _ => id, h.up.trans u, h.nn⟩
theorem ApS.one (h : ApS T s w0 W a n c xs) (ys : List Value) (hl : ys.length = s) (h1 : ∀ u ∈ ys, u.oneCell' = true) : ApO T s w0 (W.alloc (.cells ys.toArray T)) a n c xs W.heap.size ys :=
 ⟨h.nxt ((Up.refl _ _).alloc _), one_row W T ys hl h1, fun g o e => by have := (h.lt g o e).2; omega⟩
theorem ApI.new (u : Up Nul w0 W) (T : TypeId) (ys : List Value) (hl : ys.length = s) (h1 : ∀ u ∈ ys, u.oneCell' = true) : ApI s w0 (W.alloc (.cells ys.toArray T)) W.heap.size ys :=
 ⟨one_row W T ys hl h1, u.alloc _, by rw [World.size_alloc]; omega⟩
theorem ApI.start (h : ApI s w0 W g1 ys) : ApO T s w0 (W.alloc (.cells #[] T)) (some ⟨W.heap.size, 0, none⟩) 0 0 [] g1 ys :=
 ⟨ApS.start h.up, h.one.nxt ((Up.refl _ _).alloc _), fun g o e => by injection e with e; injection e with e; have := h.lt; omega⟩
theorem ApS.app_ (h : ApS T s w0 W a n c xs) {t : TypeId} {by_ : Nat} (ht : Tryz.prog.underlying t = some (.slice T)) (hinf : (Tryz.prog.info? T).map (fun i => (i.size, i.bytes, i.zero.map fun z => z.cells.size)) = some (s, by_, some s)) (hs : 0 < s) (hby : by_ ≤ 1000)
  (hr : RdR s W a2 m ys) (ha : a2 = none → m = 0 ∧ c2 = 0) (hl : n + m ≤ 100000) (ty : TypeId) :
  ∃ a' c' W', (Builtin.append_ #[t, t] ty #[.slice a n c, .slice a2 m c2]).run Tryz.prog W = .ok (.slice a' (n + m) c') W' ∧ ApS T s w0 W' a' (n + m) c' (xs ++ ys) ∧ W.grownBy W' (Value.slice a n c).ownBlock ∧ (∀ g o, a' = some ⟨g, o, none⟩ → (∃ o', a = some ⟨g, o', none⟩) ∨ g = W.heap.size) := by
 obtain ⟨v', W', hrun, ho, hg, hw⟩ := app_r ht hinf hs hby h.own hr ha hl h.up.size ty
 obtain ⟨g0, rfl⟩ := h.nn
 have hshape : ∃ a' c', v' = .slice a' (n + m) c' ∧ ∃ g, a' = some ⟨g, 0, none⟩ := by
  rcases ho.2 with ⟨rfl, _⟩ | ⟨g, cap, cur, rfl, h2, h3, h4, _⟩
  ·exfalso
   rcases hw with e | e <;> cases e
  ·exact ⟨_, _, rfl, _, rfl⟩
 obtain ⟨a', c', rfl, g', rfl⟩ := hshape
 have hkb : ∀ k, (Value.slice (some ⟨g0, 0, none⟩) n c).ownBlock = some k → w0.heap.size ≤ k ∨ Nul k := fun k e => by
  have e : g0 = k := by injection e
  exact .inl (h.lt k 0 (by rw [e])).1
 refine ⟨_, c', W', hrun, ⟨ho, h.up.app hg hkb, _, rfl⟩, hg, fun g o e => ?_⟩
 injection e with e
 injection e with e1 e2
 subst e1
 rcases hw with e | e
 ·have : g' = g0 := by injection e
  exact .inl ⟨0, by rw [this]⟩
 ·have : g' = W.heap.size := by injection e
  exact .inr this
theorem ApS.app (h : ApS T s w0 W a n c xs) {t : TypeId} {by_ : Nat} (ht : Tryz.prog.underlying t = some (.slice T)) (hinf : (Tryz.prog.info? T).map (fun i => (i.size, i.bytes, i.zero.map fun z => z.cells.size)) = some (s, by_, some s)) (hs : 0 < s) (hby : by_ ≤ 1000)
  (hr : RdR s w0 a2 m ys) (ha : a2 = none → m = 0 ∧ c2 = 0) (hl : n + m ≤ 100000) (ty : TypeId) :
  ∃ a' c' W', (Builtin.append_ #[t, t] ty #[.slice a n c, .slice a2 m c2]).run Tryz.prog W = .ok (.slice a' (n + m) c') W' ∧ ApS T s w0 W' a' (n + m) c' (xs ++ ys) := by
 obtain ⟨a', c', W', h1, h2, _⟩ := h.app_ ht hinf hs hby (hr.nxt h.up) ha hl ty
 exact ⟨a', c', W', h1, h2⟩
theorem ApO.app (h : ApO T s w0 W a n c xs g1 zs) {t : TypeId} {by_ : Nat} (ht : Tryz.prog.underlying t = some (.slice T)) (hinf : (Tryz.prog.info? T).map (fun i => (i.size, i.bytes, i.zero.map fun z => z.cells.size)) = some (s, by_, some s)) (hs : 0 < s) (hby : by_ ≤ 1000)
  (hr : RdR s w0 a2 m ys) (ha : a2 = none → m = 0 ∧ c2 = 0) (hl : n + m ≤ 100000) (ty : TypeId) :
  ∃ a' c' W', (Builtin.append_ #[t, t] ty #[.slice a n c, .slice a2 m c2]).run Tryz.prog W = .ok (.slice a' (n + m) c') W' ∧ ApO T s w0 W' a' (n + m) c' (xs ++ ys) g1 zs := by
 obtain ⟨a', c', W', h1, h2, h3, h4⟩ := h.ap.app_ ht hinf hs hby (hr.nxt h.ap.up) ha hl ty
 obtain ⟨g0, e0⟩ := h.ap.nn
 refine ⟨a', c', W', h1, h2, h.one.grown h3 fun g o e e' => ?_, fun g o e => ?_⟩
 ·injection e with e
  injection e with e
  rw [e0] at e'
  have e' : g0 = g := by injection e'
  exact h.ne g0 0 e0 (by omega)
 ·rcases h4 g o e with ⟨o', e'⟩ | e'
  ·exact h.ne g o' e'
  ·obtain ⟨g2, o2, e2, hlt, _⟩ := h.one.row (by omega)
   injection e2 with e2
   injection e2 with e2
   omega
theorem ApO.app1 (h : ApO T s w0 W a n c xs g1 zs) {t : TypeId} {by_ : Nat} (ht : Tryz.prog.underlying t = some (.slice T)) (hinf : (Tryz.prog.info? T).map (fun i => (i.size, i.bytes, i.zero.map fun z => z.cells.size)) = some (s, by_, some s)) (hs : 0 < s) (hby : by_ ≤ 1000)
  (hl : n + 1 ≤ 100000) (c2 : Nat) (ty : TypeId) :
  ∃ a' c' W', (Builtin.append_ #[t, t] ty #[.slice a n c, .slice (some ⟨g1, 0, none⟩) 1 c2]).run Tryz.prog W = .ok (.slice a' (n + 1) c') W' ∧ ApS T s w0 W' a' (n + 1) c' (xs ++ zs) := by
 obtain ⟨a', c', W', h1, h2, h3, h4⟩ := h.ap.app_ ht hinf hs hby h.one (c2 := c2) (fun e => by cases e) hl ty
 exact ⟨a', c', W', h1, h2⟩
end
theorem head_set {T H : TypeId} {s q : Nat} {w0 W : World} {C : Array Value} {a : Option Addr} {n c : Nat} {xs : List Value} (hq : w0.heap[q]? = some (.cells C H (0, 0))) (h : ApS T s w0 W a n c xs) (j : Nat) :
  (W.setCell ⟨q, j, none⟩ (.slice a n c)).ownsRow w0.heap.size T s (.slice a n c) n xs ∧ (W.setCell ⟨q, j, none⟩ (.slice a n c)).heap[q]? = some (.cells (C.setIfInBounds j (.slice a n c)) H (0, 0)) ∧ Up (fun k => k = q) w0 (W.setCell ⟨q, j, none⟩ (.slice a n c)) := by
 have hlt := (Array.getElem?_eq_some_iff.1 hq).1
 have hq' := (h.up.block q hlt id).trans hq
 have u1 : Up (fun k => k = q) W (W.setCell ⟨q, j, none⟩ (.slice a n c)) := (Up.refl (fun k => k = q) W).put rfl j _
 refine ⟨ownsRow.up h.own u1 fun g e e' => ?_, heap_set_same hq' j _, h.up.nul.trans u1⟩
 have := (ownsRow.lt h.own g e).1
 omega
theorem cut_lo {t e : TypeId} (a : Option Addr) (n c i : Nat) (ht : Tryz.prog.underlying t = some (.slice (Tryz.prog.elem t))) (hi : i ≤ c) (z : Nat) (hz : ∀ W, (sizeOf (Tryz.prog.elem t)).run Tryz.prog W = .ok z W) (W : World) :
  (Instr.slice t (.slice a n c) none (some (.int .i64 (i : Nat))) none).run Tryz.prog W = .ok (.slice a i c) W := by
 rw [run_slice_h (P := Tryz.prog) (w := W) t a n c ht .i64 i (by omega) (by omega), hz]
 simp [Result.andThen, sliced]
 intro _
 cases a with
 | none => rfl
 | some x => cases x; simp [Addr.add]
theorem cut_hi {t e : TypeId} (a : Option Addr) (n c i : Nat) (ht : Tryz.prog.underlying t = some (.slice (Tryz.prog.elem t))) (hi : i ≤ n) (z : Nat) (hz : ∀ W, (sizeOf (Tryz.prog.elem t)).run Tryz.prog W = .ok z W) (W : World) :
  (Instr.slice t (.slice a n c) (some (.int .i64 (i : Nat))) none none).run Tryz.prog W = .ok (.slice (if c = i then a else a.map (·.add (i * z))) (n - i) (c - i)) W := by
 rw [run_slice_l (P := Tryz.prog) (w := W) t a n c ht .i64 i (by omega) (by omega), hz]
 simp [Result.andThen, sliced]
theorem cut_row {t T : TypeId} {base s n : Nat} {w : World} {v : Value} {xs : List Value} (h : w.ownsRow base T s v n xs) (h1 : ∀ u ∈ xs, u.oneCell' = true) (ht : Tryz.prog.underlying t = some (.slice (Tryz.prog.elem t))) (hz : ∀ W, (sizeOf (Tryz.prog.elem t)).run Tryz.prog W = .ok s W) (i j : Nat) (hi : i ≤ n) (hj : j ≤ n) :
  ∃ ra rc rb N2 C2, v = .slice ra n rc ∧ n ≤ rc ∧ (∀ W, (Instr.slice t (.slice ra n rc) none (some (.int .i64 (i : Nat))) none).run Tryz.prog W = .ok (.slice ra i rc) W) ∧ (∀ W, (Instr.slice t (.slice ra n rc) (some (.int .i64 (j : Nat))) none none).run Tryz.prog W = .ok (.slice rb N2 C2) W) ∧
   RdR s w ra i (xs.take (i * s)) ∧ RdR s w rb N2 (xs.drop (j * s)) ∧ (ra = none → i = 0 ∧ rc = 0) ∧ (rb = none → N2 = 0 ∧ C2 = 0) ∧ j + N2 = n := by
 obtain ⟨ra, rc, e, hnc, hr, hnone, _⟩ := ownsRow.rd h h1
 refine ⟨ra, rc, _, _, _, e, hnc, cut_lo (e := 0) ra n rc i ht (by omega) s hz, cut_hi (e := 0) ra n rc j ht hj s hz, hr.take hi, hr.drop hj hnc, fun e => by have := hnone e; omega, fun e => ?_, by omega⟩
 have e2 : ra = none := by
  split at e
  ·exact e
  ·simpa using e
 have := hnone e2; omega
theorem inf_str : (Tryz.prog.info? 9).map (fun i => (i.size, i.bytes, i.zero.map fun z => z.cells.size)) = some (1, 16, some 1) := by kernel_rfl
theorem inf_int : (Tryz.prog.info? 3).map (fun i => (i.size, i.bytes, i.zero.map fun z => z.cells.size)) = some (1, 8, some 1) := by kernel_rfl
theorem inf_blob : (Tryz.prog.info? 51).map (fun i => (i.size, i.bytes, i.zero.map fun z => z.cells.size)) = some (3, 24, some 3) := by kernel_rfl
theorem inf_stripe : (Tryz.prog.info? 46).map (fun i => (i.size, i.bytes, i.zero.map fun z => z.cells.size)) = some (6, 88, some 6) := by kernel_rfl
theorem inf_loc : (Tryz.prog.info? 64).map (fun i => (i.size, i.bytes, i.zero.map fun z => z.cells.size)) = some (3, 24, some 3) := by kernel_rfl
end Go.Proofs.YtepggchnhgpcnaaGreatDoor
namespace Go.Proofs.YtepggchnhgpcnaaGreatDoor

section
variable {P : Program} {ops : Array Oper} {Q : Exit → Act → World → Prop} {md : Region.Mode} {S : World → Prop} {f : Nat}
def wpAnyF (P : Program) (md : Region.Mode) (ops : Array Oper) (Q : Exit → Act → World → Prop) (S : World → Prop) (f : Nat) : Nat → Array Bool → Act → World → Prop
 | 0, listed, a, w => Region.ready md ops listed = [] ∧ Q .normal a w
 | fuel + 1, listed, a, w =>
  (Region.ready md ops listed = [] → Q .normal a w) ∧
  ∀ i ∈ Region.ready md ops listed, wpOp P ops Q i (fun a' w' => (i = f ∨ S w') ∧ wpAnyF P md ops Q S f fuel (listed.setIfInBounds i true) a' w') a w
theorem wpAny_of_F : ∀ (fuel : Nat) (listed : Array Bool) (a : Act) (w : World), wpAnyF P md ops Q S f fuel listed a w → wpAny P md ops Q fuel listed a w
 | 0, _, _, _, h => h
 | fuel + 1, _, _, _, h => ⟨h.1, fun i hi => wpOp_mono (fun a' w' h' => wpAny_of_F fuel _ a' w' h'.2) (h.2 i hi)⟩
def waits (md : Region.Mode) (ops : Array Oper) (f i : Nat) : Bool := match ops[f]? with | some o => o.after.any fun e => Region.binds md e && e.on == i | none => false
theorem waits_spec {i : Nat} (h : waits md ops f i = true) : ∃ o, ops[f]? = some o ∧ ∃ e ∈ o.after, Region.binds md e = true ∧ e.on = i := by
 unfold waits at h
 split at h
 ·rename_i o ho
  rw [Array.any_eq_true] at h
  obtain ⟨j, hj, h⟩ := h
  rw [Bool.and_eq_true, beq_iff_eq] at h
  exact ⟨o, ho, _, Array.getElem_mem hj, h⟩
 ·cases h
theorem wpAnyF_first {i : Nat} {oi : Oper} {v : Value} (hi : ops[i]? = some oi) (hf : waits md ops f i = true) (hsel : ∀ (j : Nat) (o : Oper) cs b, ops[j]? = some o → o.op ≠ .select cs b)
  (hQ : ∀ c a w, Q (.panic c) (a.put oi.dst v) w → Q (.panic c) a w) :
  ∀ (fuel : Nat) (listed : Array Bool) (a : Act) (w : World),
   (∀ j oj, ops[j]? = some oj → j ≠ i → listed.getD j true = false → (∀ e ∈ oj.after, Region.binds md e = true → e.on ≠ i) → oi.apart ops oj = true) →
   i ∈ Region.ready md ops listed → YieldsIf P ops S oi v a → S w →
   wpAnyF P md ops Q S f fuel (listed.setIfInBounds i true) (a.put oi.dst v) w → wpAnyF P md ops Q S f (fuel + 1) listed a w := by
 intro fuel
 induction fuel with
 | zero =>
  intro listed a w _ hr hy hS H
  refine ⟨fun h => (by rw [h] at hr; cases hr), fun j hj => ?_⟩
  by_cases hji : j = i
  ·subst hji; exact hy.wpOp hi hS ⟨.inr hS, H⟩
  ·have := ready_mono hj hji
   rw [H.1] at this
   cases this
 | succ fuel ih =>
  intro listed a w hfree hr hy hS H
  refine ⟨fun h => (by rw [h] at hr; cases hr), fun j hj => ?_⟩
  by_cases hji : j = i
  ·subst hji; exact hy.wpOp hi hS ⟨.inr hS, H⟩
  ·have h1 := H.2 j (ready_mono hj hji)
   obtain ⟨hjun, oj, hoj, hall⟩ := mem_ready.1 hj
   have hnot : ∀ e ∈ oj.after, Region.binds md e = true → e.on ≠ i := fun e he hb heq => by
    have h1 := hall e he hb
    have h0 := (mem_ready.1 hr).1
    rw [heq] at h1
    rcases Nat.lt_or_ge i listed.size with h' | h'
    ·simp [h'] at h0 h1; rw [h0] at h1; cases h1
    ·simp [Array.getElem?_eq_none h'] at h1
   have hjf : j ≠ f := fun e => by
    subst e
    obtain ⟨o, ho, e, he, hb, heq⟩ := waits_spec hf
    rw [hoj] at ho
    cases ho
    exact hnot e he hb heq
   have h2 := wpOp_putIf hoj (hfree j oj hoj hji hjun hnot) (fun cs b => hsel i oi cs b hi) (fun cs b => hsel j oj cs b hoj) hQ hy h1
   have hfree' : ∀ k ok, ops[k]? = some ok → k ≠ i → (listed.setIfInBounds j true).getD k true = false →
     (∀ e ∈ ok.after, Region.binds md e = true → e.on ≠ i) → oi.apart ops ok = true := fun k ok hk hki hun hno => by
    refine hfree k ok hk hki ?_ hno
    by_cases hjk : j = k
    ·subst hjk; exact hjun
    ·rw [getD_set_ne true hjk] at hun; exact hun
   refine wpOp_mono (fun a' w' h3 => ?_) h2
   have hS' : S w' := h3.2.1.resolve_left hjf
   refine ⟨.inr hS', ih (listed.setIfInBounds j true) a' w' hfree' (ready_mono hr (Ne.symm hji)) h3.1 hS' ?_⟩
   rw [Array.setIfInBounds_comm _ _ hji]
   exact h3.2.2
theorem wpAnyF_take {i : Nat} {oi : Oper} {v : Value} {fuel : Nat} {listed : Array Bool} {a : Act} {w : World} (hi : ops[i]? = some oi) (hw : waits md ops f i = true)
  (hs : Region.noSelect ops = true) (hf : Region.free md ops listed i = true) (hr : (Region.ready md ops listed).contains i = true)
  (hQ : ∀ c a w, Q (.panic c) (a.put oi.dst v) w → Q (.panic c) a w) (hy : YieldsIf P ops S oi v a) (hS : S w)
  (h : wpAnyF P md ops Q S f fuel (listed.setIfInBounds i true) (a.put oi.dst v) w) : wpAnyF P md ops Q S f (fuel + 1) listed a w :=
 wpAnyF_first hi hw (Region.noSelect_spec hs) hQ fuel listed a w (Region.free_spec hi hf) (by simpa using hr) hy hS h
theorem wpAnyF_done {listed : Array Bool} {a : Act} {w : World} (hr : Region.ready md ops listed = []) (h : Q .normal a w) : ∀ fuel, wpAnyF P md ops Q S f fuel listed a w
 | 0 => ⟨hr, h⟩
 | _ + 1 => ⟨fun _ => h, by rw [hr]; simp⟩
def AllReadyF (P : Program) (md : Region.Mode) (ops : Array Oper) (Q : Exit → Act → World → Prop) (S : World → Prop) (f : Nat) (fuel : Nat) (listed : Array Bool) (a : Act) (w : World) (rs : List Nat) : Prop :=
 ∀ i ∈ rs, wpOp P ops Q i (fun a' w' => (i = f ∨ S w') ∧ wpAnyF P md ops Q S f fuel (listed.setIfInBounds i true) a' w') a w
theorem AllReadyF.nil {fuel : Nat} {listed : Array Bool} {a : Act} {w : World} : AllReadyF P md ops Q S f fuel listed a w [] := fun _ h => by cases h
theorem AllReadyF.cons {fuel : Nat} {listed : Array Bool} {a : Act} {w : World} {i : Nat} {o : Oper} {rs : List Nat} (ho : ops[i]? = some o)
  (h : ∀ K' : Act → World → Prop, Shut (∀ a w, S w → (S w → wpAnyF P md ops Q S f fuel (listed.setIfInBounds i true) a w) → K' a w) → if Region.wanted o (yielded ops a.tmps) = true then Oper.wp P o a w K' Q else K' (a.put o.dst undef) w)
  (hs : AllReadyF P md ops Q S f fuel listed a w rs) : AllReadyF P md ops Q S f fuel listed a w (i :: rs) := fun j hj => by
 rcases List.mem_cons.1 hj with rfl | hj
 ·exact wpOp_step ho (fun K' hK => h K' (fun a w hS hW => hK a w ⟨.inr hS, hW hS⟩))
 ·exact hs j hj
theorem AllReadyF.last {fuel : Nat} {listed : Array Bool} {a : Act} {w : World} {o : Oper} (ho : ops[f]? = some o)
  (h : ∀ K' : Act → World → Prop, Shut (∀ a w, True → (True → wpAnyF P md ops Q S f fuel (listed.setIfInBounds f true) a w) → K' a w) → if Region.wanted o (yielded ops a.tmps) = true then Oper.wp P o a w K' Q else K' (a.put o.dst undef) w) :
  AllReadyF P md ops Q S f fuel listed a w [f] := fun j hj => by
 rcases List.mem_cons.1 hj with rfl | hj
 ·exact wpOp_step ho (fun K' hK => h K' (fun a w _ hW => hK a w ⟨.inl rfl, hW trivial⟩))
 ·cases hj
theorem wpAnyF_ready {rs : List Nat} {fuel : Nat} {listed : Array Bool} {a : Act} {w : World} (hr : Region.ready md ops listed = rs) (hne : rs ≠ [])
  (h : AllReadyF P md ops Q S f fuel listed a w rs) : wpAnyF P md ops Q S f (fuel + 1) listed a w := ⟨fun h0 => absurd (hr ▸ h0) hne, hr ▸ h⟩
theorem wp_region_F {id : Nat} {a : Act} {w : World} (f : Nat) (hm : P.follows .mixedOrders = true) (hS : S w.drew)
  (h : S w.drew → wpAnyF P .any ops Q S f ops.size (Array.replicate ops.size false) a w.drew) : (Code.region id ops true).wp P Q a w :=
 wp_region_any hm (wpAny_of_F _ _ _ _ (h hS))
theorem tkf (i : Nat) (d : Option Tmp) {v : Value} {l2 : Array Bool} {a2 : Act} {op : Op} {ty : TypeId} {pos : String} {af : Array Edge} {gd : Option (Nat × Bool)} {fuel : Nat} {listed : Array Bool} {a : Act} {w : World} (hi : ops[i]? = some ⟨d, op, ty, pos, af, gd⟩)
  (h : wpAnyF P md ops Q S f fuel l2 a2 w)
  (hy : ∀ w, S w → (execOp a.eval ⟨d, op, ty, pos, af, gd⟩).run P w = .ok (.value v) w := by intro w hSw; (try dsimp only at hSw); go_simp; try with_reducible rfl)
  (hl : listed.setIfInBounds i true = l2 := by conv => lhs; simp only [tdy]) (ha : a.put d v = a2 := by conv => lhs; simp only [tdy])
  (hg : Region.wanted ⟨d, op, ty, pos, af, gd⟩ (yielded ops a.tmps) = true := by rfl) (hw : waits md ops f i = true := by kernel_rfl) (hs : Region.noSelect ops = true := by kernel_rfl) (hf : Region.free md ops listed i = true := by kernel_rfl) (hr : (Region.ready md ops listed).contains i = true := by kernel_rfl)
  (hQ : ∀ c a w, Q (.panic c) (a.put d v) w → Q (.panic c) a w := by exact fun _ _ _ h => h) (hS : S w := by assumption) : wpAnyF P md ops Q S f (fuel + 1) listed a w :=
 wpAnyF_take (oi := ⟨d, op, ty, pos, af, gd⟩) hi hw hs hf hr hQ (.inl ⟨hg, hy⟩) hS (by rw [hl, ha]; exact h)
theorem onf (i : Nat) (d : Option Tmp) {op : Op} {ty : TypeId} {pos : String} {af : Array Edge} {gd : Option (Nat × Bool)} {fuel : Nat} {listed : Array Bool} {a : Act} {w : World} (ho : ops[i]? = some ⟨d, op, ty, pos, af, gd⟩)
  (h : ∀ K' : Act → World → Prop, Shut (∀ a w, S w → (S w → wpAnyF P md ops Q S f fuel (listed.setIfInBounds i true) a w) → K' a w) → if Region.wanted ⟨d, op, ty, pos, af, gd⟩ (yielded ops a.tmps) = true then Oper.wp P ⟨d, op, ty, pos, af, gd⟩ a w K' Q else K' (a.put d undef) w)
  (hr : Region.ready md ops listed = [i] := by kernel_rfl) : wpAnyF P md ops Q S f (fuel + 1) listed a w := wpAnyF_ready hr (by simp) (AllReadyF.cons ho h AllReadyF.nil)
end
end Go.Proofs.YtepggchnhgpcnaaGreatDoor
