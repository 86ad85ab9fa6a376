/- The script of the law RackUnlike that comes in: a slice of calls; one of them, copied out. -/
import Derived.Test.YtcejdobmgbielaaRkMath
import Derived.ProofKit
import Derived.OpenShut
import Derived.Deep.Slices
namespace Go.Proofs.Ytcejdobmgbielaa
open Go.RowKit
open Go.ChangeShapes Go.WideShapes Go.ChangeAt
set_option linter.unusedVariables false

/-- One call of the script: its nine cells; what the law reads of them. -/
structure KOp where
  cs : List Value
  n : Int
  cl : Int
  la : Option Addr
  ll : Nat
  lc : Nat
  zs : List Int
structure KAt (w : World) (g o : Nat) (v : KOp) : Prop where
  len : v.cs.length = 9
  cells : ∀ j u, v.cs[j]? = some u → w.cell? ⟨g, o + j, none⟩ = some u
  one : ∀ u ∈ v.cs, u.oneCell' = true
  e1 : v.cs[1]? = some (.int .i64 v.n)
  e2 : v.cs[2]? = some (.int .i64 v.cl)
  e4 : v.cs[4]? = some (.slice v.la v.ll v.lc)
  wl : CameI w v.la v.ll v.lc v.zs
def KOp.nil : KOp := ⟨[], 0, 0, none, 0, 0, []⟩
/-- What is known of a script that came in. -/
def CameK (w : World) (a : Option Addr) (len : Nat) (F : Nat → KOp) : Prop :=
  (len = 0 ∨ ∃ g o, a = some ⟨g, o, none⟩ ∧ g < w.heap.size ∧ ∀ i, i < len → KAt w g (o + i * 9) (F i)) ∧ len ≤ 9223372036854775807
set_option maxRecDepth 100000 in
theorem open_kop {H : Type} {enc : TypeId × Value → H} {w : World} {held : Bool} {n : Nat} {cs : List Value} {y : DataW H × List MemPlace} {g o : Nat} (hc : ∀ j v, cs[j]? = some v → w.cell? ⟨g, o + j, none⟩ = some v)
    (h : DataW.trod enc Try.prog w 0 (fun _ => true) held n 49 cs = some y) : ∃ v, KAt w g o v := by
  obtain ⟨xs, k, _, _, hl, hxl, hf⟩ := DataW.trod_struct Try.underlying49 h
  have hl9 : cs.length = 9 := hl.trans (by kernel_rfl)
  match cs, hl9 with
  | [v0, v1, v2, v3, v4, v5, v6, v7, v8], _ =>
    have hx7 : xs.length = 7 := hxl
    match xs, hx7 with
    | [y0, y1, y2, y3, y4, y5, y6], _ =>
      have ci : Try.prog.cellsOf 3 = 1 := by kernel_rfl
      have cj : Try.prog.cellsOf 22 = 1 := by kernel_rfl
      have cl : Try.prog.cellsOf 47 = 1 := by kernel_rfl
      have cb : Try.prog.cellsOf 5 = 1 := by kernel_rfl
      have c3 : Try.prog.cellsOf 36 = 3 := by kernel_rfl
      have g0 := hf 0 _ rfl
      have g1 := hf 1 _ rfl
      have g2 := hf 2 _ rfl
      have g3 := hf 3 _ rfl
      have g4 := hf 4 _ rfl
      have g5 := hf 5 _ rfl
      have g6 := hf 6 _ rfl
      simp [ci, cj, cl, c3] at g0 g1 g2 g3 g4 g5 g6
      obtain ⟨z0, q0, _, _⟩ := DataW.trod_int Try.underlying3 g0
      obtain ⟨z1, q1, _, _⟩ := DataW.trod_int Try.underlying3 g1
      obtain ⟨z2, q2, _, _⟩ := DataW.trod_int Try.underlying3 g2
      obtain ⟨z3, q3, _, _⟩ := DataW.trod_int Try.underlying3 g3
      obtain ⟨la, ll, lc, zs, q4, hb⟩ : ∃ la ll lc zs, v4 = .slice la ll lc ∧ CameI w la ll lc zs := by
        rcases open_ints Try.underlying22 Try.underlying3 ci g4 with ⟨e, _⟩ | ⟨a, l, c, zs, e, _, hl, hm, hz, _, hcell, hwz⟩
        · exact ⟨none, 0, 0, [], by simpa using e, .inl ⟨rfl, rfl, rfl, rfl⟩⟩
        · exact ⟨some a, l, c, zs, by simpa using e, .inr ⟨a, rfl, hl, hm, by simpa using hz, hcell, hwz⟩⟩
      obtain ⟨bs, k2, _, _, _, hbl, hfb⟩ := DataW.trod_struct Try.underlying36 g5
      have hb3 : bs.length = 3 := hbl
      match bs, hb3 with
      | [b0, b1, b2], _ =>
        have f0 := hfb 0 _ rfl
        have f1 := hfb 1 _ rfl
        have f2 := hfb 2 _ rfl
        simp [ci] at f0 f1 f2
        obtain ⟨z5, q5, _, _⟩ := DataW.trod_int Try.underlying3 f0
        obtain ⟨z6, q6, _, _⟩ := DataW.trod_int Try.underlying3 f1
        obtain ⟨z7, q7, _, _⟩ := DataW.trod_int Try.underlying3 f2
        obtain ⟨ba, bl, bc, q8⟩ : ∃ ba bl bc, v8 = .slice ba bl bc := by
          rcases open_ints Try.underlying47 Try.underlying5 cb g6 with ⟨e, _⟩ | ⟨a, l, c, zs, e, _⟩
          · exact ⟨none, 0, 0, by simpa using e⟩
          · exact ⟨some a, l, c, by simpa using e⟩
        simp only [List.cons.injEq, and_true] at q0 q1 q2 q3 q5 q6 q7
        subst q0 q1 q2 q3 q4 q5 q6 q7 q8
        exact ⟨⟨_, z1, z2, la, ll, lc, zs⟩, rfl, hc, by
          intro u hu
          simp only [List.mem_cons, List.not_mem_nil, or_false] at hu
          rcases hu with rfl | rfl | rfl | rfl | rfl | rfl | rfl | rfl | rfl <;> rfl, rfl, rfl, rfl, hb⟩
theorem open_kops {H : Type} {enc : TypeId × Value → H} {w : World} {held : Bool} {fuel : Nat} {a : Option Addr} {len cap : Nat} {x : DataW H × List MemPlace}
    (h : DataW.trod enc Try.prog w 0 (fun _ => true) held fuel 43 [.slice a len cap] = some x) : ∃ F, CameK w a len F := by
  have c9 : Try.prog.cellsOf 49 = 9 := by kernel_rfl
  rcases Go.Deep.open_slice Try.underlying43 h with ⟨e, _⟩ | ⟨ad, l, c, m, n, D, Pl, e, _, hl, hm, hmm, _, hx⟩
  · simp at e
    obtain ⟨rfl, rfl, rfl⟩ := e
    exact ⟨fun _ => KOp.nil, .inl rfl, by omega⟩
  · simp at e
    obtain ⟨rfl, rfl, rfl⟩ := e
    simp only [if_true] at hmm
    unfold maxLen at hm
    by_cases h0 : len = 0
    · exact ⟨fun _ => KOp.nil, .inl h0, by omega⟩
    · obtain ⟨g, o, spot⟩ := ad
      have first : ∃ v, w.cell? ⟨g, o, spot⟩ = some v := by
        obtain ⟨cs', h1, _⟩ := hx 0 (by omega)
        obtain ⟨_, hln, hcell⟩ := World.cells?_some h1
        rw [c9] at hln
        have := hcell 0 (by rw [c9]; omega)
        match cs', hln with
        | v :: _, _ => exact ⟨v, by simpa [Addr.add] using this⟩
      obtain ⟨v0, hv0⟩ := first
      have hs : spot = none := by simpa using World.cell?_spot hv0
      subst hs
      have each : ∀ i, i < len → ∃ v, KAt w g (o + i * 9) v := fun i hi => by
        obtain ⟨cs', h1, h2⟩ := hx i (by omega)
        obtain ⟨_, hln, hcell⟩ := World.cells?_some h1
        rw [c9] at hln hcell
        refine open_kop (fun j v hv => ?_) h2
        have hj : j < 9 := by
          rw [← hln]
          rcases Nat.lt_or_ge j cs'.length with h | h
          · exact h
          · rw [List.getElem?_eq_none h] at hv; cases hv
        have := hcell j hj
        rw [add_off, add_off] at this
        rw [this, hv]
      obtain ⟨F, hF⟩ : ∃ F : Nat → KOp, ∀ i, i < len → KAt w g (o + i * 9) (F i) := by
        refine ⟨fun i => if h : i < len then (each i h).choose else KOp.nil, fun i hi => ?_⟩
        simp only [hi, dif_pos]
        exact (each i hi).choose_spec
      exact ⟨F, .inr ⟨g, o, rfl, lt_of_cell hv0, hF⟩, by omega⟩
/-- A call in a block of its own. -/
structure KB (W : World) (q : Nat) (cs : List Value) : Prop where
  heap : W.heap[q]? = some (.cells cs.toArray 49 (0, 0))
theorem KB.cell {W : World} {q : Nat} {cs : List Value} (h : KB W q cs) {j : Nat} {u : Value} (hj : cs[j]? = some u) : W.cell? ⟨q, j, none⟩ = some u := by
  simp only [World.cell?, h.heap]
  simpa using hj
theorem info_kop : (Try.prog.info? 49).map (·.size) = some 9 := by kernel_rfl
theorem zero_kop : ∃ Z : Array Value, Z.size = 9 ∧ ∀ W, (zeroValue 49).run Try.prog W = .ok (.agg Z) W := by
  have h : (Try.prog.info? 49).map (fun i => i.zero.map fun z => match z with | .agg Z => some Z.size | _ => none) = some (some (some 9)) := by kernel_rfl
  cases e : Try.prog.info? 49 with
  | none => rw [e] at h; cases h
  | some i =>
    rw [e] at h
    simp only [Option.map_some, Option.some.injEq, Option.map_eq_some_iff] at h
    obtain ⟨z, h1, h2⟩ := h
    cases z with
    | agg Z => exact ⟨Z, by simpa using h2, fun W => by simp [zeroValue, typeInfo, e, h1]⟩
    | _ => simp at h2
/-! ### An array of eighteen Booleans -/
structure H18 (w : World) (q : Nat) (U : Nat → Bool) : Prop where
  heap : w.heap[q]? = some (.cells (bls 18 U) 44 (0, 0))
section
variable {w w' : World} {q : Nat} {U : Nat → Bool}
theorem H18.lt (h : H18 w q U) : q < w.heap.size := (Array.getElem?_eq_some_iff.1 h.heap).1
theorem H18.cell (h : H18 w q U) {i : Nat} (hi : i < 18) : w.cell? ⟨q, i, none⟩ = some (.bool (U i)) := by
  simp only [World.cell?, h.heap]
  exact bls_at U hi
theorem H18.froz (h : H18 w q U) (i : Nat) : w.frozen? ⟨q, i, none⟩ = false := by simp [World.frozen?, h.heap]
theorem H18.keep (h : H18 w q U) (e : w'.heap[q]? = w.heap[q]?) : H18 w' q U := ⟨e.trans h.heap⟩
theorem H18.set (h : H18 w q U) {i : Nat} (hi : i < 18) (b : Bool) : H18 (w.setCell ⟨q, i, none⟩ (.bool b)) q (updB U i b) :=
  ⟨by rw [heap_setCell_same w q i _ _ _ h.heap, bls_set U b hi]⟩
end
/-! ### 'In' -/
theorem in_no (a : Option Addr) (L c : Nat) (f : Nat → Int) (x : Int) (w : World) (hL : L ≤ 1000) (h1 : SlI w a L f) (he : ∀ i, i < L → ¬ f i = x) :
    Calls Try.prog 16 #[.slice a L c, .int .i64 x] w fun e w' => e = .returned (.bool false) ∧ Up Nul w w' := by
  have HL : Hid (L ≤ 1000) := hL
  have HC := hid h1
  have HE := hid he
  clear h1 hL he
  go_enter Try.func16, Try.ntmps16
  go_wp2_with fail
  go_loopw [5] (fun i wr => ∃ t : Nat, t ≤ L ∧ i = .int .i64 (t : Nat) ∧ wr = w) (fun i _ => L - (intOf i).toNat)
  case atStart => exact ⟨0, Nat.zero_le _, rfl, rfl⟩
  case round =>
    obtain ⟨t, ht, rfl, rfl⟩ := hrel
    have i0 : (0 : Int) ≤ (t : Int) := by omega
    have i2 : (t : Int) ≤ 1000 := by have := HL.out; omega
    by_cases hlt : t < L
    · have i1 : (t : Int) < (L : Int) := by omega
      obtain ⟨g, o, rfl, _, hc⟩ : ∃ g o, a = some ⟨g, o, none⟩ ∧ g < wr.heap.size ∧ ∀ i, i < L → wr.cell? ⟨g, o + i, none⟩ = some (.int .i64 (f i)) := by
        rcases HC.out.row with e | e
        · omega
        · exact e
      have k1 := hc t hlt
      have hne : (f t == x) = false := by simp [HE.out t hlt]
      have HT := hid hlt
      clear hc hlt ht
      go_wp2_with fail
      go_roundw
      case rel => exact ⟨t + 1, HT.out, by go_num, by first | rfl | trivial⟩
      case measure => have := HT.out; simp [intOf]; omega
    · have i1 : ¬ (t : Int) < (L : Int) := by omega
      clear hlt ht
      go_wp2_with fail
      go_ret
      exact ⟨rfl, Up.refl _ _⟩
end Go.Proofs.Ytcejdobmgbielaa
