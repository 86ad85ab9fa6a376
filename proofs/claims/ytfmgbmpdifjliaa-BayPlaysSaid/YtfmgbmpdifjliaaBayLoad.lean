/- One call of the script, copied out. -/
import Derived.Test.YtfmgbmpdifjliaaBayArg
namespace Go.Proofs.Ytfmgbmpdifjliaa
open Go.RowKit
set_option linter.unusedVariables false

/-- The six cells of a call. -/
def opcs (v : OpV) : List Value := [.int .i64 v.kind, .int .i64 v.slot, .int .i64 v.at_, .int .i64 v.n, .int .u8 v.fill, .slice v.ba v.bl v.bc]
/-- A call in a block of its own. -/
structure OpB (W : World) (q : Nat) (v : OpV) : Prop where
  heap : W.heap[q]? = some (.cells (opcs v).toArray 52 (0, 0))
section
variable {W W' : World} {q : Nat} {v : OpV}
theorem OpB.c0 (h : OpB W q v) : W.cell? ⟨q, 0, none⟩ = some (.int .i64 v.kind) := by simp [World.cell?, h.heap, opcs]
theorem OpB.c1 (h : OpB W q v) : W.cell? ⟨q, 1, none⟩ = some (.int .i64 v.slot) := by simp [World.cell?, h.heap, opcs]
theorem OpB.c2 (h : OpB W q v) : W.cell? ⟨q, 2, none⟩ = some (.int .i64 v.at_) := by simp [World.cell?, h.heap, opcs]
theorem OpB.c3 (h : OpB W q v) : W.cell? ⟨q, 3, none⟩ = some (.int .i64 v.n) := by simp [World.cell?, h.heap, opcs]
theorem OpB.c4 (h : OpB W q v) : W.cell? ⟨q, 4, none⟩ = some (.int .u8 v.fill) := by simp [World.cell?, h.heap, opcs]
theorem OpB.c5 (h : OpB W q v) : W.cell? ⟨q, 5, none⟩ = some (.slice v.ba v.bl v.bc) := by simp [World.cell?, h.heap, opcs]
theorem op_dr : ¬ DR 52 := by unfold DR DD RT; decide
theorem OpB.ks (h : OpB W q v) (k : Ks DR W W') : OpB W' q v := ⟨k.kept _ _ _ _ h.heap op_dr⟩
theorem OpB.new (W : World) (v : OpV) : OpB (W.alloc (.cells (opcs v).toArray 52)) W.heap.size v := ⟨heap_alloc_new _ _⟩
end
theorem opcs_length (v : OpV) : (opcs v).length = 6 := rfl
theorem one_opcs (v : OpV) : ∀ x ∈ opcs v, x.oneCell' = true := by
  intro x hx
  simp only [opcs, List.mem_cons, List.not_mem_nil, or_false] at hx
  rcases hx with rfl | rfl | rfl | rfl | rfl | rfl <;> rfl
theorem info_op : (Try.prog.info? 52).map (·.size) = some 6 := by kernel_rfl
theorem zero_op : ∃ Z : Array Value, Z.size = 6 ∧ ∀ W, (zeroValue 52).run Try.prog W = .ok (.agg Z) W := by
  have h : (Try.prog.info? 52).map (fun i => i.zero.map fun z => match z with | .agg Z => some Z.size | _ => none) = some (some (some 6)) := by kernel_rfl
  cases e : Try.prog.info? 52 with
  | none => rw [e] at h; cases h
  | some i =>
    rw [e] at h
    simp only [Option.map_some, Option.some.injEq, Option.map_eq_some_iff] at h
    obtain ⟨z, h1, h2⟩ := h
    cases z with
    | agg Z => exact ⟨Z, by simpa using h2, fun W => by simp [zeroValue, typeInfo, e, h1]⟩
    | _ => simp at h2
/-- The bytes of a call. -/
theorem OpAt.bytes {w : World} {g o : Nat} {v : OpV} (h : OpAt w g o v) : ∃ z, SlN w v.ba v.bl z ∧ (v.bl = 96 → ∀ q, v.ba = some q → q.block < w.heap.size) := by
  obtain ⟨z, hz⟩ := SlN.of h.wb
  refine ⟨z, hz, fun h96 q hq => ?_⟩
  rcases hz.row with e | ⟨b, o, e, hb, _⟩
  · omega
  · rw [hq] at e
    cases e
    exact hb

/-- A new pair of Disks. -/
theorem px_new {w0 w : World} {b mm n : Nat} {f g : Option Nat} {k : Option Nat} {r : RK} (hd : H w0 w b n f k true (fun _ => zer 96) []) (rd : RD w r) (rf : RFzO w r.fu k) (h1 : r.n = n) (h2 : r.live = true) (h3 : r.ws = []) (h4 : r.R = fun _ => zer 96) (h5 : ∀ q, r.foot q → w0.heap.size ≤ q) (h6 : ∀ q, r.fu = some q → w0.heap.size ≤ q) (u : Up Nul w0 w) (e1 : r.m = mm) (e2 : r.fu = g) : PX w w0 w b n f mm g 0 :=
  ⟨k, true, _, [], r, ⟨⟨hd, rd, rf, h5, h6, u, Ks.refl _ _⟩, h1, h2, by rw [h3, h4]; exact Inv.none fun _ _ => rfl, H.sm hd⟩, Nat.le_refl _, e1, e2⟩
end Go.Proofs.Ytfmgbmpdifjliaa
