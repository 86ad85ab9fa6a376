/- append(append(b, byte), record...): both runs, ahead of a region that draws. -/
import Derived.Test.YtencinajieicpaaTrIn
import Derived.Test.YtencinajieicpaaTrPack
import Derived.Test.YtencinajieicpaaTrTapes
namespace Go.Proofs.Ytencinajieicpaa
open Go.RowKit
set_option linter.unusedVariables false

theorem OwnB.sln2 {base : Nat} {w : World} {v : Value} {z : List Nat} (h : OwnB base w v z) : ∃ a c, v = .slice a z.length c ∧ z.length ≤ c := by
  rcases h.own.2 with ⟨e, e0⟩ | ⟨g, cap, cur, e, _, _, h4, _⟩
  · exact ⟨none, 0, by rw [e, e0], by omega⟩
  · exact ⟨_, _, e, h4⟩
theorem wrap_u8 (n m : Nat) (h : (n : Int) % 256 = (m : Int)) : IntKind.u8.wrap (n : Int) = (m : Int) := by
  rw [← h]
  simp [IntKind.wrap, IntKind.signed, IntKind.bits]
theorem app_two {wr : World} {base : Nat} {v : Value} {zb : List Nat} (ho : OwnB base wr v zb) {ea : Option Addr} {k ec : Nat} {y : List Nat} (hy : SlN wr ea k y) (hl : zb.length + 1 + k ≤ 900000) (hb : base ≤ wr.heap.size) (hne : k = 0 ∨ ∀ x, ea = some x → ¬ v.ownBlock = some x.block) (nn : Nat) (hnn : nn < 256) (ty1 ty2 : TypeId) :
    ∃ a5 l5 c5 w5 a6 l6 c6 w6, (Builtin.append_ #[30, 30] ty1 #[v, .slice (some ⟨wr.heap.size, 0, none⟩) 1 1]).run Try.prog (wr.alloc (.cells #[.int .u8 (nn : Nat)] 5)).drew = .ok (.slice a5 l5 c5) w5 ∧ (Builtin.append_ #[30, 30] ty2 #[.slice a5 l5 c5, .slice ea k ec]).run Try.prog w5 = .ok (.slice a6 l6 c6) w6 ∧
      OwnB base w6 (.slice a6 l6 c6) (zb ++ nn :: y) ∧ Up (fun g => v.ownBlock = some g) wr w5 ∧ Up (fun g => v.ownBlock = some g) wr w6 := by
  have ua : Up Nul wr (wr.drew.alloc (.cells #[.int .u8 (nn : Nat)] 5)) := ((Up.refl Nul wr).drew).alloc _
  have ho1 : OwnB base wr.drew v zb := ho.drewN 1
  obtain ⟨v5, w5, h1, g1, g2, g3⟩ := run_append_slw (wr.drew.alloc (.cells #[.int .u8 (nn : Nat)] 5)) ty1 base v zb (ho1.alloc _) (some ⟨wr.heap.size, 0, none⟩) 1 1 [nn] (byte_sln wr.drew nn hnn) (by omega) (Nat.le_trans hb ua.size)
  have u5 : Up (fun g => v.ownBlock = some g) (wr.drew.alloc (.cells #[.int .u8 (nn : Nat)] 5)) w5 := ⟨g2.os, g2.tape, g2.output, g2.size, fun k hk hs => g2.block k hk fun e => hs e.symm⟩
  have U5 : Up (fun g => v.ownBlock = some g) wr w5 := ua.nul.trans u5
  have hy5 : SlN w5 ea k y := hy.off U5 hne
  obtain ⟨v6, w6, h2, g4, g5, g6⟩ := run_append_slw w5 ty2 base v5 (zb ++ [nn]) g1 ea k ec y hy5 (by rw [List.length_append]; simp only [List.length_cons, List.length_nil]; omega) (Nat.le_trans hb U5.size)
  have u6 : Up (fun g => v5.ownBlock = some g) w5 w6 := ⟨g5.os, g5.tape, g5.output, g5.size, fun k hk hs => g5.block k hk fun e => hs e.symm⟩
  obtain ⟨a5, c5, rfl, _⟩ := g1.sln2
  have g4 : OwnB base w6 v6 (zb ++ nn :: y) := by rw [List.append_assoc] at g4; exact g4
  obtain ⟨a6, c6, rfl, _⟩ := g4.sln2
  refine ⟨a5, _, c5, w5, a6, _, c6, w6, h1, h2, g4, U5, U5.past2 u6 fun g hg e => ?_⟩
  rcases g3 with g3 | g3
  · rw [← g3]; exact e
  · rw [g3] at e
    injection e with e
    have : (wr.drew.alloc (.cells #[.int .u8 (nn : Nat)] 5)).heap.size = wr.heap.size + 1 := by simp
    omega
end Go.Proofs.Ytencinajieicpaa
