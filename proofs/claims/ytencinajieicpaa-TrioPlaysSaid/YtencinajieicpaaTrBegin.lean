/- Both Trios begin (TrioPlays); a call of its script copied out. -/
import Derived.Test.YtencinajieicpaaTrBoth
import Derived.Test.YtencinajieicpaaTrArg
namespace Go.Proofs.Ytencinajieicpaa
open Go.RowKit
set_option linter.unusedVariables false

/-- The head of the document's Trio as its Tapes are made one by one. -/
def fbc (qm : Nat → Nat) (j : Nat) : Obj := .cells #[.pointer (if 0 < j then some ⟨qm 0, 0, none⟩ else none), .pointer (if 1 < j then some ⟨qm 1, 0, none⟩ else none), .pointer (if 2 < j then some ⟨qm 2, 0, none⟩ else none), .int .i64 0] 58 (0, 0)
/-- The first j of the document's Tapes are made; wq: the world before. -/
structure FB (wq w : World) (m v : Nat) (k : Option Nat) (qm : Nat → Nat) (j : Nat) : Prop where
  head : w.heap[m]? = some (fbc qm j)
  t : ∀ i, i < j → RTp w (qm i) v ⟨[], 0, true⟩
  ne : ∀ a b, a < j → b < j → qm a = qm b → a = b
  z : RFz w v k
  new : wq.heap.size ≤ m ∧ ∀ i, i < j → wq.heap.size ≤ qm i
  up : Up Nul wq w
section
variable {O : TrioOps} {wq w w' w0 w2 : World} {m v q' j t f : Nat} {k : Option Nat} {qm q : Nat → Nat}
theorem FB.nxt (h : FB wq w m v k qm j) (u : Up Nul w w') : FB wq w' m v k qm j :=
  ⟨(u.block m (Array.getElem?_eq_some_iff.1 h.head).1 id).trans h.head, fun i hi => (h.t i hi).up u id, h.ne, h.z.up u id, h.new, h.up.trans u⟩
theorem FB.cell (h : FB wq w m v k qm j) (hj : j < 3) : (∃ y, w.cell? ⟨m, j, none⟩ = some y) ∧ w.frozen? ⟨m, j, none⟩ = false := by
  have hh := h.head
  unfold fbc at hh
  refine ⟨?_, by simp [World.frozen?, hh]⟩
  match j, hj with
  | 0, _ => exact ⟨_, by simp [World.cell?, hh]; rfl⟩
  | 1, _ => exact ⟨_, by simp [World.cell?, hh]; rfl⟩
  | 2, _ => exact ⟨_, by simp [World.cell?, hh]; rfl⟩
theorem FB.next (h : FB wq w m v k qm j) (hj : j < 3) (r : RTp w q' v ⟨[], 0, true⟩) (hq : wq.heap.size ≤ q') (hd : ∀ i, i < j → q' ≠ qm i) : FB wq (w.setCell ⟨m, j, none⟩ (.pointer (some ⟨q', 0, none⟩))) m v k (fun i => if i = j then q' else qm i) (j + 1) := by
  have hh := h.head
  unfold fbc at hh
  have u : Up (One m) w (w.setCell ⟨m, j, none⟩ (.pointer (some ⟨q', 0, none⟩))) := (Up.refl (One m) w).setCell (.inr (show One m m from rfl)) _
  have far : ∀ x, RTp w x v ⟨[], 0, true⟩ → ¬ One m x := fun x r e => ne_type r.heap hh (by decide) (show x = m from e)
  refine ⟨?_, fun i hi => ?_, fun a b ha hb e => ?_, h.z.up u fun e => ne_type h.z.heap hh (by decide) (show v = m from e), ⟨h.new.1, fun i hi => ?_⟩, h.up.past u fun g hg => by rw [show g = m from hg]; exact h.new.1⟩
  · rw [heap_setCell_same w m j _ _ _ hh]
    unfold fbc
    match j, hj with
    | 0, _ => simp
    | 1, _ => simp
    | 2, _ => simp
  · by_cases e : i = j
    · simp only [e, if_true]; exact r.up u (far _ r)
    · simp only [e, if_false]
      have ri := h.t i (by omega)
      exact ri.up u (far _ ri)
  · by_cases e1 : a = j
    · by_cases e2 : b = j
      · omega
      · simp only [e1, e2, if_true, if_false] at e
        exact absurd e (hd b (by omega))
    · by_cases e2 : b = j
      · simp only [e1, e2, if_true, if_false] at e
        exact absurd e.symm (hd a (by omega))
      · simp only [e1, e2, if_false] at e
        exact h.ne a b (by omega) (by omega) e
  · by_cases e : i = j
    · simp only [e, if_true]; exact hq
    · simp only [e, if_false]; exact h.new.2 i (by omega)
theorem tq_first {T : Nat → Prop} (h0 : Up Nul w0 w2) (hf : Fz w2 f k) (hfn : w0.heap.size ≤ f) (hvn : w0.heap.size ≤ v) (hne : f ≠ v) (hvl : v < w2.heap.size) (p1 : O.PQ wq t q 0 (some f) (fun _ => ⟨[], 0, true⟩) T) (p2 : Up Nul w2 wq) (p3 : ∀ g, T g → w2.heap.size ≤ g)
    (h : FB wq w m v k qm 3) : TQ O 0 Nul w0 w t q f m qm v := by
  have hfl := Fz.lt hf
  have s0 := h0.size
  have s1 := p2.size
  have s2 := h.up.size
  have hm := h.new.1
  have hql := h.new.2
  have hlm : m < w.heap.size := (Array.getElem?_eq_some_iff.1 h.head).1
  have hlq : ∀ i, i < 3 → qm i < w.heap.size := fun i hi => (h.t i hi).lt
  refine ⟨⟨k, fun _ => ⟨[], 0, true⟩, 0, ⟨⟨T, O.keep p1 h.up fun _ _ h => h, fun g hg => Nat.le_trans s0 (p3 g hg), ?_⟩, Fz.up hf (p2.trans h.up) fun h => h, ?_, ?_, (h0.trans p2).trans h.up⟩, ⟨?_, ⟨⟨fun i hi => h.t i hi, h.ne⟩, h.z⟩⟩, Nat.le_refl _⟩, ?_, fun _ h => h.elim⟩
  · rintro x (hx | hx) e
    · rcases hx with rfl | ⟨i, hi, rfl⟩ | rfl
      · have := O.lt p1 x e; omega
      · have := O.lt p1 _ e; have := hql i hi; omega
      · have := p3 x e; omega
    · exact hx
  · intro g hg
    cases hg
    refine ⟨hfn, ?_⟩
    rintro (hx | hx)
    · rcases hx with e | ⟨i, hi, e⟩ | e
      · omega
      · have := hql i hi; omega
      · exact hne e
    · exact hx
  · rintro x (hx | hx)
    · rcases hx with rfl | ⟨i, hi, rfl⟩ | rfl
      · exact hlm
      · exact hlq i hi
      · omega
    · exact hx.elim
  · have hh := h.head
    unfold fbc at hh
    unfold rtc
    simpa using hh
  · rintro x (e | ⟨i, hi, e⟩ | e)
    · omega
    · have := hql i hi; omega
    · omega
end
theorem one_qcs (v : QOp) : ∀ x ∈ qcs v, x.oneCell' = true := by
  intro x hx
  simp only [qcs, List.mem_cons, List.not_mem_nil, or_false] at hx
  rcases hx with rfl | rfl | rfl | rfl | rfl | rfl <;> rfl
theorem info_qop : (Try.prog.info? 62).map (·.size) = some 6 := by kernel_rfl
theorem zero_qop : ∃ Z : Array Value, Z.size = 6 ∧ ∀ W, (zeroValue 62).run Try.prog W = .ok (.agg Z) W := by
  have h : (Try.prog.info? 62).map (fun i => i.zero.map fun z => match z with | .agg Z => some Z.size | _ => none) = some (some (some 6)) := by kernel_rfl
  cases e : Try.prog.info? 62 with
  | none => rw [e] at h; cases h
  | some i =>
    rw [e] at h
    simp only [Option.map_some, Option.some.injEq, Option.map_eq_some_iff] at h
    obtain ⟨z, h1, h2⟩ := h
    cases z with
    | agg Z => exact ⟨Z, by simpa using h2, fun W => by simp [zeroValue, typeInfo, e, h1]⟩
    | _ => simp at h2
/-- The law's own blocks: the call, the Tapes. -/
def Q2 (ob tb x : Nat) : Prop := x = ob ∨ x = tb
structure L4 (w : World) (b : Nat) (q : Nat → Nat) : Prop where
  heap : w.heap[b]? = some (.cells #[.pointer (some ⟨q 0, 0, none⟩), .pointer (some ⟨q 1, 0, none⟩), .pointer (some ⟨q 2, 0, none⟩)] 27 (0, 0))
section
variable {w w' : World} {b : Nat} {q : Nat → Nat} {Q : Nat → Prop}
theorem L4.cell (h : L4 w b q) : ∀ i, i < 3 → w.cell? ⟨b, i, none⟩ = some (.pointer (some ⟨q i, 0, none⟩)) := fun i hi => by
  match i, hi with
  | 0, _ => simp [World.cell?, h.heap]
  | 1, _ => simp [World.cell?, h.heap]
  | 2, _ => simp [World.cell?, h.heap]
theorem L4.lt (h : L4 w b q) : b < w.heap.size := (Array.getElem?_eq_some_iff.1 h.heap).1
theorem L4.fr (h : L4 w b q) (i : Nat) : w.frozen? ⟨b, i, none⟩ = false := by simp [World.frozen?, h.heap]
theorem L4.nxt (h : L4 w b q) (u : Up Nul w w') : L4 w' b q := ⟨(u.block b h.lt id).trans h.heap⟩
theorem L4.of {P : Nat → Prop} (h : L4 w b q) (k : Tp P w w') (hp : P b) : L4 w' b q := ⟨(k.2 b hp).trans h.heap⟩
theorem L4.new (w : World) (q : Nat → Nat) : L4 (w.alloc (.cells #[.pointer (some ⟨q 0, 0, none⟩), .pointer (some ⟨q 1, 0, none⟩), .pointer (some ⟨q 2, 0, none⟩)] 27)) w.heap.size q := ⟨heap_alloc_new _ _⟩
theorem L4.put (h : L4 w b q) : L4 (((w.setCell ⟨b, 0, none⟩ (.pointer (some ⟨q 0, 0, none⟩))).setCell ⟨b, 1, none⟩ (.pointer (some ⟨q 1, 0, none⟩))).setCell ⟨b, 2, none⟩ (.pointer (some ⟨q 2, 0, none⟩))) b q := ⟨by
  rw [heap_setCell_same _ b 2 _ _ _ (heap_setCell_same _ b 1 _ _ _ (heap_setCell_same w b 0 _ _ _ h.heap))]
  simp⟩
theorem QpB.nxt {x : QOp} (h : QpB w b x) (u : Up Nul w w') : QpB w' b x := ⟨(u.block b (Array.getElem?_eq_some_iff.1 h.heap).1 id).trans h.heap⟩
end
theorem came_off {w : World} {a : Option Addr} {l c : Nat} {z : List Int} (P : Nat → Prop) (h : CameIn w a l c z) : Off P w a l := by
  obtain ⟨z', h'⟩ := SlN.of h
  rcases h'.row with e | ⟨b, o, e, hb, _⟩
  · exact .inl e
  · exact .inr fun x hx => by rw [e] at hx; cases hx; exact .inr hb
theorem TQ.putTb {O : TrioOps} {NB ob tb t f m v : Nat} {q qm : Nat → Nat} {w0 w : World} (h : TQ O NB (Q2 ob tb) w0 w t q f m qm v) (htb : w0.heap.size ≤ tb) :
    TQ O NB (Q2 ob tb) w0 (((w.setCell ⟨tb, 0, none⟩ (.pointer (some ⟨q 0, 0, none⟩))).setCell ⟨tb, 1, none⟩ (.pointer (some ⟨q 1, 0, none⟩))).setCell ⟨tb, 2, none⟩ (.pointer (some ⟨q 2, 0, none⟩))) t q f m qm v := by
  have u : Up (One tb) w (((w.setCell ⟨tb, 0, none⟩ (.pointer (some ⟨q 0, 0, none⟩))).setCell ⟨tb, 1, none⟩ (.pointer (some ⟨q 1, 0, none⟩))).setCell ⟨tb, 2, none⟩ (.pointer (some ⟨q 2, 0, none⟩))) := (((Up.refl (One tb) w).put rfl 0 _).put rfl 1 _).put rfl 2 _
  exact h.mine u (fun x hx => Or.inr (show x = tb from hx)) fun x hx => by rw [show x = tb from hx]; exact htb
end Go.Proofs.Ytencinajieicpaa
