/- Chunks alike; where a row's chunk lies. -/
import Derived.Test.YtfmgbmpdifjliaaBayLoad
import Derived.Laws.StructEq
import Derived.Deep.MidRow
namespace Go.Proofs.Ytfmgbmpdifjliaa
open Go.RowKit
set_option linter.unusedVariables false

theorem ck_fields : (Try.prog.fieldsOf 38).toList.map (fun f => (f.type, f.offset, f.name == "_")) = [(3, 0, false), (3, 1, false), (3, 2, false)] := by kernel_rfl
theorem ck_neq (W : World) (x y z : Int) : (binOp .neq 38 (.agg #[.int .i64 x, .int .i64 y, .int .i64 z]) (.agg #[.int .i64 x, .int .i64 y, .int .i64 z])).run Try.prog W = .ok (.bool false) W := by
  rw [run_neq_struct]
  go_simp
theorem ckV_at (l : List Ck) : ∀ s j : Nat, j < 3 → ∀ c, l[s]? = some c → (ckV l)[s * 3 + j]? = c.cells[j]? := by
  induction l with
  | nil => intro s j _ c h; simp at h
  | cons c0 l ih =>
    intro s j hj c h
    have e : ckV (c0 :: l) = c0.cells ++ ckV l := by simp [ckV]
    have h3 : c0.cells.length = 3 := rfl
    cases s with
    | zero =>
      have : c0 = c := by simpa using h
      subst this
      rw [e, Nat.zero_mul, Nat.zero_add, List.getElem?_append_left (by omega)]
    | succ s =>
      have h : l[s]? = some c := by simpa using h
      rw [e, List.getElem?_append_right (by omega), h3, show (s + 1) * 3 + j - 3 = s * 3 + j by omega]
      exact ih s j hj c h
theorem OwnK.at {base : Nat} {w : World} {v : Value} {l : List Ck} (h : OwnK base w v l) {s : Nat} (hs : s < l.length) : ∃ g cap, v = .slice (some ⟨g, 0, none⟩) l.length cap ∧ g < w.heap.size ∧ w.rangeAt g (s * 3) l[s].cells := by
  rcases h.2 with ⟨_, hn⟩ | ⟨g, cap, cur, h1, h2, h3, h4, h5, h6, h7⟩
  · omega
  · refine ⟨g, cap, h1, (Array.getElem?_eq_some_iff.1 h3).1, fun j x hx => ?_⟩
    have hj : j < 3 := by
      rcases Nat.lt_or_ge j 3 with e | e
      · exact e
      · rw [List.getElem?_eq_none (by exact e)] at hx; cases hx
    have e := ckV_at l s j hj l[s] (List.getElem?_eq_getElem hs)
    rw [← h7, List.getElem?_take, if_pos (by omega), hx] at e
    simp only [World.cell?, h3]
    simpa using e
theorem info_ck3 : (Try.prog.info? 38).map (·.size) = some 3 := by kernel_rfl
end Go.Proofs.Ytfmgbmpdifjliaa
