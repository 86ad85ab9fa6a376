/- What the walk of MatMakes lacks besides: an append by hand, a part of a row, rows picked one by one. -/
import Derived.Test.YtoibfpcobhopeaaMatGroupsWalk
namespace Go.Proofs.Ytoibfpcobhopeaa
open Go.RowKit
set_option linter.unusedVariables false

theorem step_append_bytes {w : World} {ops : Array Oper} {o : Oper} {a : Act} {K : Act → World → Prop} {Q : Exit → Act → World → Prop} {E : Prop} (hgd : o.guard = none) (s x : Operand)
    (ho : o.op = .call { callee := .builtin .append, args := #[s, x], argTypes := #[24, 24] }) (base : Nat) (v : Value) (z : List Nat) (hs : a.eval s = v) (hown : OwnB base w v z)
    (b so n cap : Nat) (y : List Nat) (hx : a.eval x = .slice (some ⟨b, so, none⟩) n cap) (hr : Row w b so y) (hy : y.length = n) (hl : z.length + n ≤ 1000000) (hbase : base ≤ w.heap.size)
    (h : ∀ v' w', Hid (OwnB base w' v' (z ++ y)) → Hid (w.grownBy w' v.ownBlock) → K (a.put o.dst v') w') : if Region.wanted o (yielded ops a.tmps) = true then Oper.wp Try.prog o a w K Q else E := by
  have hw : Region.wanted o (yielded ops a.tmps) = true := by simp [Region.wanted, hgd]
  rw [if_pos hw]
  obtain ⟨i0, hi, hz0, hz1, hz2⟩ := info_parts info_u8
  obtain ⟨v', w', hrun, h1, h2, _⟩ := run_append_own (P := Try.prog) w base 24 o.type 5 i0 (.int .u8 0) 1 1 Try.underlying24 hi hz0 hz1 hz2 rfl (by decide) v z.length _ hown.own ⟨b, so, none⟩ n cap (y.map fun (n : Nat) => Value.int .u8 (n : Int)) (by simp [hy])
    (by
      intro j u hu
      rw [List.getElem?_map] at hu
      have hj : j < y.length := by
        rcases Nat.lt_or_ge j y.length with h | h
        · exact h
        · rw [List.getElem?_eq_none h] at hu; cases hu
      rw [List.getElem?_eq_getElem hj] at hu
      have hc := hr.cells j hj
      rw [List.getD_eq_getElem?_getD, List.getElem?_eq_getElem hj] at hc
      have ea : Addr.add ⟨b, so, none⟩ j = ⟨b, so + j, none⟩ := by
        by_cases h0 : j = 0
        · subst h0; simp [Addr.add]
        · simp [Addr.add, h0]
      rw [ea, hc]
      exact hu)
    (by
      intro u hu
      obtain ⟨k, _, rfl⟩ := List.mem_map.1 hu
      rfl) (by unfold maxLen; omega) (by omega) hbase
  unfold Oper.wp
  simp [execOp, ho, resolve, invoke, builtin, hs, hx, hrun, Result.andThen]
  refine h v' w' ⟨by rw [List.length_append, List.map_append, hy]; exact h1, fun x hx => ?_⟩ h2
  rcases List.mem_append.1 hx with hx | hx
  · exact hown.small x hx
  · obtain ⟨i, hi, rfl⟩ := List.mem_iff_getElem.1 hx
    have := hr.small i
    rwa [List.getD_eq_getElem?_getD, List.getElem?_eq_getElem hi] at this

theorem size_byte (w : World) : (sizeOf (Try.prog.elem 24)).run Try.prog w = .ok 1 w := by
  have h : (Try.prog.info? (Try.prog.elem 24)).map (·.size) = some 1 := by kernel_rfl
  obtain ⟨i, hi, hs⟩ := Option.map_eq_some_iff.1 h
  simp [sizeOf, typeInfo, hi, hs]
theorem run_mid (g n cap l h k : Nat) (hl : l + k = h) (hk : 0 < k) (hh : h ≤ n) (hc : n ≤ cap) (w : World) :
    (Instr.slice 24 (.slice (some ⟨g, 0, none⟩) n cap) (some (.int .i64 l)) (some (.int .i64 h)) none).run Try.prog w = .ok (.slice (some ⟨g, l, none⟩) k (cap - l)) w := by
  rw [run_slice_lh (P := Try.prog) (w := w) 24 (some ⟨g, 0, none⟩) n cap (by kernel_rfl) .i64 .i64 l h (by omega) (by omega) (by omega), size_byte]
  have e : Addr.add ⟨g, 0, none⟩ l = ⟨g, l, none⟩ := by
    by_cases h0 : l = 0
    · subst h0; simp [Addr.add]
    · simp [Addr.add, h0]
  simp only [Result.andThen, sliced, Int.toNat_natCast, Nat.mul_one, Option.map_some, e]
  rw [if_neg (by omega), show h - l = k by omega]

theorem pickZ_next (k c : Nat) (z : List Nat) (f : Nat → Nat) (h1 : 1 ≤ c) (hz : f k * c + c ≤ z.length) : pickZ (k + 1) c z f = pickZ k c z f ++ (z.drop (f k * c)).take c := by
  have hs : (k + 1) * c = k * c + c := by rw [Nat.add_mul, Nat.one_mul]
  have lr : ((z.drop (f k * c)).take c).length = c := by simp; omega
  refine ext_getD (by rw [List.length_append, lr]; unfold pickZ; rw [tab_length, tab_length, hs]) fun t ht => ?_
  have ht' : t < k * c + c := by unfold pickZ at ht; rw [tab_length, hs] at ht; exact ht
  have e1 : (pickZ (k + 1) c z f).getD t 0 = z.getD (f (t / c) * c + t % c) 0 := by unfold pickZ; rw [tab_at _ _ _ (by rw [hs]; exact ht')]
  rw [e1]
  have ll : (pickZ k c z f).length = k * c := by unfold pickZ; rw [tab_length]
  by_cases hlt : t < k * c
  · have e2 : (pickZ k c z f ++ (z.drop (f k * c)).take c).getD t 0 = (pickZ k c z f).getD t 0 := by
      simp only [List.getD_eq_getElem?_getD, List.getElem?_append_left (show t < (pickZ k c z f).length by omega)]
    rw [e2]
    unfold pickZ
    rw [tab_at _ _ _ hlt]
  · obtain ⟨s, rfl⟩ : ∃ s, t = k * c + s := ⟨t - k * c, by omega⟩
    have hsc : s < c := by omega
    have d1 : (k * c + s) / c = k := by rw [Nat.mul_comm, Nat.mul_add_div (by omega), Nat.div_eq_of_lt hsc, Nat.add_zero]
    have d2 : (k * c + s) % c = s := by rw [Nat.mul_comm, Nat.mul_add_mod, Nat.mod_eq_of_lt hsc]
    rw [d1, d2]
    simp only [List.getD_eq_getElem?_getD]
    rw [List.getElem?_append_right (by omega), ll, show k * c + s - k * c = s by omega, List.getElem?_take, if_pos hsc, List.getElem?_drop]
theorem pickZ_zero (c : Nat) (z : List Nat) (f : Nat → Nat) : pickZ 0 c z f = [] := by simp [pickZ, tab]
theorem pickZ_length (k c : Nat) (z : List Nat) (f : Nat → Nat) : (pickZ k c z f).length = k * c := by unfold pickZ; rw [tab_length]
end Go.Proofs.Ytoibfpcobhopeaa
