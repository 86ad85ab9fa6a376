/- 'Blob'. -/
import Derived.Test.YtmhmlfgikmeejaaDoorMtNew
namespace Go.Proofs.YtmhmlfgikmeejaaDoor
open Go.RowKit Go.Maps
set_option linter.unusedVariables false

theorem zero_bl (w : World) : (zeroValue 47).run Tryd.prog w = .ok (.agg #[.int .i64 0, .int .i64 0, .int .i64 0]) w := by kernel_rfl
theorem info_bl : (Tryd.prog.info? 47).map (·.size) = some 3 := by kernel_rfl
section
variable {F : Nat → Prop} {w : World} {p bm bs n : Nat} {Q : Int → Value} {M : MM}
theorem blob_any (h : MT F w p bm bs n Q M) (k : ByteArray) (hk : k.size ≤ maxLen) :
    Calls Tryd.prog 12 #[.pointer (some ⟨p, 0, none⟩), .string k] w fun e w' => e = .returned (.tuple #[blv ((M.b k).getD ⟨0, 0, 0⟩), .bool (M.b k).isSome]) ∧ Up Nul w w' := by
  have u0 : Up Nul w (w.alloc (.cells #[.int .i64 0, .int .i64 0, .int .i64 0] 47)) := (Up.refl Nul w).alloc _
  have h0 := h.nxt u0
  obtain ⟨c0, c1, c2⟩ := h0.cells
  have hl := h0.mb.look2 Tryd.underlying54 (zero_bl _) hk
  have HU := hid u0
  obtain ⟨o, O⟩ : ∃ o, Hid (M.b k = o) := ⟨_, rfl⟩
  have e1 : (o.map blv).getD (.agg #[.int .i64 0, .int .i64 0, .int .i64 0]) = .agg #[.int .i64 (o.getD ⟨0, 0, 0⟩).n, .int .i64 (o.getD ⟨0, 0, 0⟩).sid, .int .i64 (o.getD ⟨0, 0, 0⟩).part] := by cases o <;> rfl
  have e2 : (o.map blv).isSome = o.isSome := by cases o <;> rfl
  rw [O.out, e1, e2] at hl
  rw [O.out]
  clear e1 e2
  show Calls Tryd.prog 12 #[.pointer (some ⟨p, 0, none⟩), .string k] w fun e w' => e = .returned (.tuple #[.agg #[.int .i64 (o.getD ⟨0, 0, 0⟩).n, .int .i64 (o.getD ⟨0, 0, 0⟩).sid, .int .i64 (o.getD ⟨0, 0, 0⟩).part], .bool o.isSome]) ∧ Up Nul w w'
  generalize (o.getD ⟨0, 0, 0⟩).n = x0 at hl ⊢
  generalize (o.getD ⟨0, 0, 0⟩).sid = x1 at hl ⊢
  generalize (o.getD ⟨0, 0, 0⟩).part = x2 at hl ⊢
  generalize o.isSome = ok at hl ⊢
  have hlt := h.lt
  clear O h h0 hk u0
  go_enter Tryd.func12, Tryd.ntmps12
  go_wp2_with fail
  have hb : ((w.alloc (.cells #[.int .i64 x0, .int .i64 x1, .int .i64 x2] 47)).alloc (.cells #[.int .i64 x0, .int .i64 x1, .int .i64 x2] 47)).heap[w.heap.size]? = some (.cells #[.int .i64 x0, .int .i64 x1, .int .i64 x2] 47 (0, 0)) :=
    (((Up.refl Nul _).alloc _).block w.heap.size (by rw [World.size_alloc]; omega) id).trans (heap_alloc_new w _)
  have hld := run_loadVar_row (P := Tryd.prog) _ _ _ 47 _ _ _ hb Tryd.underlying47 rfl info_bl
  refine bodyPost_ret (v := .tuple #[.agg #[.int .i64 x0, .int .i64 x1, .int .i64 x2], .bool ok]) (by rw [results_cell_tmp rfl]; simp [asAddr, hld, Result.andThen]) rfl ?_
  exact ⟨rfl, ((Up.refl _ _).alloc _).alloc _⟩
end
end Go.Proofs.YtmhmlfgikmeejaaDoor
