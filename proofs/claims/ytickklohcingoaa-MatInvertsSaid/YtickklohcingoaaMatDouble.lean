/- One part of a slice of the call's own copied over another part of it. -/
import Derived.Test.YtickklohcingoaaMatTimesWalk
namespace Go.Proofs.Ytickklohcingoaa
open Go.RowKit
set_option linter.unusedVariables false

theorem run_copy_own (w : World) (ty : TypeId) (base g n cap k dcap scap : Nat) (z : List Nat) (h : OwnB base w (.slice (some ⟨g, 0, none⟩) n cap) z) (hz : z.length = n) (h2 : k + k ≤ n) (hk : 0 < k) :
    ∃ w', (Builtin.copy_ #[24, 24] ty #[.slice (some ⟨g, k, none⟩) k dcap, .slice (some ⟨g, 0, none⟩) k scap]).run Try.prog w = .ok (goInt k) w' ∧ OwnB base w' (.slice (some ⟨g, 0, none⟩) n cap) (over z k (z.take k)) ∧ Up (One g) w w' := by
  obtain ⟨_, _, e, g1, g2, g3, _, _⟩ := h.row (by omega)
  cases e
  rcases h.own.2 with ⟨e, _⟩ | ⟨g', cap', cur, e, b1, b2, b3, b4, b5, b6⟩
  · cases e
  have eg : g' = g := by
    have := congrArg (fun v => match v with | Value.slice (some a) _ _ => a.block | _ => 0) e
    exact this.symm
  subst eg
  have hk2 : (z.take k).length = k := by simp; omega
  have hlm : ((z.take k).map fun (n : Nat) => Value.int .u8 (n : Int)).length = k := by simp; omega
  have hcur : cur.size = cap' := by omega
  have hsrc : ∀ (j : Nat) (v : Value), ((z.take k).map fun (n : Nat) => Value.int .u8 (n : Int))[j]? = some v → w.cell? (Addr.add ⟨g', 0, none⟩ j) = some v := by
    intro j v hv
    have hj : j < k := by
      rcases Nat.lt_or_ge j k with h | h
      · exact h
      · rw [List.getElem?_eq_none (by rw [hlm]; exact h)] at hv; cases hv
    have hjz : j < z.length := by omega
    rw [List.getElem?_map, List.getElem?_take, if_pos hj, List.getElem?_eq_getElem hjz] at hv
    have hc := g3.cells j hjz
    rw [List.getD_eq_getElem?_getD, List.getElem?_eq_getElem hjz] at hc
    have ea : Addr.add ⟨g', 0, none⟩ j = ⟨g', 0 + j, none⟩ := by
      by_cases h0 : j = 0
      · subst h0; simp [Addr.add]
      · simp [Addr.add, h0]
    rw [ea, hc]
    exact hv
  have hr := run_copy_row (P := Try.prog) w 24 24 ty 5 g' k k dcap ⟨g', 0, none⟩ k scap cur 5 ((z.take k).map fun (n : Nat) => Value.int .u8 (n : Int)) Try.underlying24 info_u8_size b2
    (by rw [hlm]; exact (Nat.min_self k).symm) hsrc (by rw [hlm, hcur]; omega) (fun v hv => by
      obtain ⟨k, _, rfl⟩ := List.mem_map.1 hv
      rfl)
  rw [hlm] at hr
  have hlen : (over z k (z.take k)).length = z.length := over_length (by omega)
  have hsm : ∀ x ∈ over z k (z.take k), x < 256 := by
    intro x hx
    simp only [over, List.mem_append] at hx
    rcases hx with (hx | hx) | hx
    · exact h.small x (List.mem_of_mem_take hx)
    · exact h.small x (List.mem_of_mem_take hx)
    · exact h.small x (List.mem_of_mem_drop hx)
  refine ⟨_, hr, ⟨⟨?_, .inr ⟨g', cap', _, ?_, b1, setRow_heap w g' _ _ _ _ b2, ?_, b4, ?_, ?_⟩⟩, hsm⟩, ⟨rfl, rfl, rfl, by simp [World.setRow], fun j hj hs => setRow_other w g' j _ hs⟩⟩
  · rw [List.length_map]; omega
  · rw [hlen]; exact e
  · rw [hlen]; exact b3
  · simp only [List.size_toArray, List.length_append, List.length_take, List.length_map, List.length_drop, Array.length_toList]
    omega
  · rw [hlen]
    rw [Nat.mul_one] at b6 ⊢
    have hsplit : cur.toList = (z.map fun (n : Nat) => Value.int .u8 (n : Int)) ++ cur.toList.drop z.length := by
      rw [← b6, List.take_append_drop]
    have hml : (z.map fun (n : Nat) => Value.int .u8 (n : Int)).length = z.length := List.length_map _
    have ht : cur.toList.take k = (z.map fun (n : Nat) => Value.int .u8 (n : Int)).take k := by
      rw [← b6, List.take_take, Nat.min_eq_left (by omega)]
    have hd : cur.toList.drop (k + k) = (z.map fun (n : Nat) => Value.int .u8 (n : Int)).drop (k + k) ++ cur.toList.drop z.length := by
      conv => lhs; rw [hsplit]
      rw [List.drop_append_of_le_length (by omega)]
    rw [List.toList_toArray, ht, hd, ← List.append_assoc, List.take_left' (by simp only [List.length_append, List.length_take, List.length_map, List.length_drop]; omega)]
    simp only [over, hk2, List.map_append, List.map_take, List.map_drop]
theorem step_copy_own {w : World} {ops : Array Oper} {o : Oper} {a : Act} {K : Act → World → Prop} {Q : Exit → Act → World → Prop} {E : Prop} (hgd : o.guard = none) (d s : Operand)
    (ho : o.op = .call { callee := .builtin .copy, args := #[d, s], argTypes := #[24, 24] }) (base g n cap k dl dcap scap : Nat) (z : List Nat) (h : OwnB base w (.slice (some ⟨g, 0, none⟩) n cap) z) (hz : z.length = n) (h2 : k + k ≤ n) (hk : 0 < k) (hdl : dl = k)
    (hd : a.eval d = .slice (some ⟨g, k, none⟩) dl dcap) (hs : a.eval s = .slice (some ⟨g, 0, none⟩) k scap)
    (hh : ∀ w', Hid (OwnB base w' (.slice (some ⟨g, 0, none⟩) n cap) (over z k (z.take k))) → Hid (Up (One g) w w') → K (a.put o.dst (goInt k)) w') : if Region.wanted o (yielded ops a.tmps) = true then Oper.wp Try.prog o a w K Q else E := by
  subst hdl
  have hw : Region.wanted o (yielded ops a.tmps) = true := by simp [Region.wanted, hgd]
  rw [if_pos hw]
  obtain ⟨w', hrun, h1, h3⟩ := run_copy_own w o.type base g n cap dl dcap scap z h hz h2 hk
  unfold Oper.wp
  simp [execOp, ho, resolve, invoke, builtin, hd, hs, hrun, Result.andThen]
  exact hh w' h1 h3
end Go.Proofs.Ytickklohcingoaa
