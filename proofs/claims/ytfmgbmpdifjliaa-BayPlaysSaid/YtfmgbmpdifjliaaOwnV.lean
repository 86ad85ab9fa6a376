/- Rows of values of the call's own: a cell each, or some cells each; append of one more. -/
import Derived.Test.YtfmgbmpdifjliaaPadBase
import Derived.Laws.AppendOwn
namespace Go.Proofs.Ytfmgbmpdifjliaa
open Go.RowKit
set_option linter.unusedVariables false

/-! ### Rows of values -/
/-- The slice v, of the call's own, holds the values xs, a cell each. -/
def OwnV (T : TypeId) (base : Nat) (w : World) (v : Value) (xs : List Value) : Prop := w.ownsRow base T 1 v xs.length xs
theorem OwnV.nil (T : TypeId) (base : Nat) (w : World) : OwnV T base w (.slice none 0 0) [] := World.ownsRow_nil _ _ _ _
theorem OwnV.alloc {T : TypeId} {base : Nat} {w : World} {v : Value} {xs : List Value} (h : OwnV T base w v xs) (o : Obj) : OwnV T base (w.alloc o) v xs := World.ownsRow.alloc h o
theorem OwnV.drewN {T : TypeId} {base : Nat} {w : World} {v : Value} {xs : List Value} (h : OwnV T base w v xs) (n : Nat) : OwnV T base (w.drewN n) v xs := h
theorem OwnV.up {T : TypeId} {S : Nat → Prop} {base : Nat} {w w' : World} {v : Value} {xs : List Value} (h : OwnV T base w v xs) (u : Up S w w') (hs : ∀ k, base ≤ k → k < w.heap.size → ¬ S k) : OwnV T base w' v xs := by
  refine ⟨h.1, ?_⟩
  rcases h.2 with hn | ⟨g, cap, cur, h1, h2, h3, h4⟩
  · exact .inl hn
  · have hl := (Array.getElem?_eq_some_iff.1 h3).1
    exact .inr ⟨g, cap, cur, h1, h2, (u.block g hl (hs g h2 hl)).trans h3, h4⟩
theorem OwnV.base {T : TypeId} {base : Nat} {w : World} {v : Value} {xs : List Value} (h : OwnV T base w v xs) : ∀ k, v.ownBlock = some k → base ≤ k := fun k hk => (World.ownsRow.lt h k hk).1
theorem OwnV.shape {T : TypeId} {base : Nat} {w : World} {v : Value} {xs : List Value} (h : OwnV T base w v xs) : ∃ a cap, v = .slice a xs.length cap := by
  rcases h.2 with ⟨e, e0⟩ | ⟨g, cap, cur, e, _⟩
  · exact ⟨none, 0, by rw [e, e0]⟩
  · exact ⟨_, _, e⟩
theorem OwnV.row {T : TypeId} {base : Nat} {w : World} {v : Value} {xs : List Value} (h : OwnV T base w v xs) (h0 : 0 < xs.length) :
    ∃ g cap, v = .slice (some ⟨g, 0, none⟩) xs.length cap ∧ base ≤ g ∧ g < w.heap.size ∧ (∀ i x, xs[i]? = some x → w.cell? ⟨g, i, none⟩ = some x) ∧ (∀ i, w.frozen? ⟨g, i, none⟩ = false) ∧ xs.length ≤ cap := by
  rcases h.2 with ⟨_, hn⟩ | ⟨g, cap, cur, h1, h2, h3, h4, h5, h6, h7⟩
  · omega
  · refine ⟨g, cap, h1, h2, (Array.getElem?_eq_some_iff.1 h3).1, fun i x hi => ?_, fun i => by simp [World.frozen?, h3], h4⟩
    have hl : i < xs.length := by
      rcases Nat.lt_or_ge i xs.length with h | h
      · exact h
      · rw [List.getElem?_eq_none h] at hi; cases hi
    have hc : cur[i]? = some x := by
      have e : (cur.toList.take (xs.length * 1))[i]? = some x := by rw [h7]; exact hi
      rw [List.getElem?_take, if_pos (by omega)] at e
      simpa using e
    simp only [World.cell?, h3]
    exact hc
/-- append(v, y...). -/
theorem wpList_append_vals {t T : TypeId} {zr : Value} {by_ : Nat} (ht : Try.prog.underlying t = some (.slice T)) (hinf : (Try.prog.info? T).map (fun i => (i.zero, i.size, i.bytes)) = some (some zr, 1, by_)) (hz1 : zr.cells.size = 1) (hby : by_ ≤ 24)
    {w : World} {ops : Array Oper} {rest : List Oper} {o : Oper} {a : Act} {Q : Exit → Act → World → Prop} (hgd : o.guard = none) (s x : Operand)
    (ho : o.op = .call { callee := .builtin .append, args := #[s, x], argTypes := #[t, t] }) (base : Nat) (v : Value) (xs : List Value) (hs : a.eval s = v) (hown : OwnV T base w v xs)
    (ad : Addr) (n cap : Nat) (ys : List Value) (hx : a.eval x = .slice (some ad) n cap) (hc : ∀ j u, ys[j]? = some u → w.cell? (ad.add j) = some u) (h1 : ∀ u ∈ ys, u.oneCell' = true) (hy : ys.length = n) (hl : xs.length + n ≤ 1000000) (hbase : base ≤ w.heap.size)
    (h : ∀ v' w', Hid (OwnV T base w' v' (xs ++ ys)) → Hid (w.grownBy w' v.ownBlock) → wpList Try.prog ops Q rest (a.put o.dst v') w') : wpList Try.prog ops Q (o :: rest) a w := by
  obtain ⟨i0, hi, hz0, hz2, hz3⟩ := info_parts hinf
  refine wpList_append_own w hgd s x t ho base T i0 zr 1 by_ ht hi hz0 hz2 hz3 hz1 (by decide) v xs.length xs hs hown ad n cap ys hx (by rw [hy, Nat.mul_one]) hc h1 (by unfold maxLen; omega) ?_ hbase fun v' w' g1 g2 _ => h v' w' ?_ g2
  · have := Nat.mul_le_mul (show xs.length + n ≤ 1000000 from hl) hby
    omega
  · show w'.ownsRow base T 1 v' (xs ++ ys).length (xs ++ ys)
    rw [List.length_append, hy]
    exact g1
theorem info_int : (Try.prog.info? 3).map (fun i => (i.zero, i.size, i.bytes)) = some (some (.int .i64 0), 1, 8) := by kernel_rfl
/-- append(v, one int). -/
theorem wpList_append_int {w : World} {ops : Array Oper} {rest : List Oper} {o : Oper} {a : Act} {Q : Exit → Act → World → Prop} (hgd : o.guard = none) (s x : Operand)
    (ho : o.op = .call { callee := .builtin .append, args := #[s, x], argTypes := #[22, 22] }) (base : Nat) (v : Value) (xs : List Value) (hs : a.eval s = v) (hown : OwnV 3 base w v xs)
    (ad : Addr) (cap : Nat) (y : Int) (hx : a.eval x = .slice (some ad) 1 cap) (hc : w.cell? ad = some (.int .i64 y)) (hl : xs.length + 1 ≤ 1000000) (hbase : base ≤ w.heap.size)
    (h : ∀ v' w', Hid (OwnV 3 base w' v' (xs ++ [.int .i64 y])) → Hid (w.grownBy w' v.ownBlock) → wpList Try.prog ops Q rest (a.put o.dst v') w') : wpList Try.prog ops Q (o :: rest) a w :=
  wpList_append_vals Try.underlying22 info_int rfl (by omega) hgd s x ho base v xs hs hown ad 1 cap [.int .i64 y] hx (fun j u hj => by
    match j, hj with
    | 0, hj => simp at hj; subst hj; simpa [Addr.add] using hc) (fun u hu => by simp at hu; subst hu; rfl) rfl hl hbase h
end Go.Proofs.Ytfmgbmpdifjliaa
