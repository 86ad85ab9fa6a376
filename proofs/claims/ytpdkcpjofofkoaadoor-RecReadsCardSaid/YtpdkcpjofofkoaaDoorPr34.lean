/- 'awake'. -/
import Derived.Test.YtpdkcpjofofkoaaDoorPkTidy
import Derived.Test.YtpdkcpjofofkoaaDoorPq13
namespace Go.Proofs.YtpdkcpjofofkoaaDoor
open Go.RowKit
set_option linter.unusedVariables false

def rk : Rc := ⟨2, ⟨#[107]⟩, 0, 0, [], 0, [], tb0⟩
theorem rk_ok : OkF rk := okR_iff.1 (by decide +kernel)
theorem rk_enc : encR rk = [2, 1, 107] := by decide +kernel
theorem rk_dec : decR [2, 1, 107] = some rk := decR_iff.2 ⟨rk_ok, rk_enc⟩
theorem nil_dec : decR [] = none := by
 cases h : decR [] with
 | none => rfl
 | some r =>
  obtain ⟨_, e⟩ := decR_iff.1 h
  unfold encR at e
  simp at e
set_option maxHeartbeats 2000000 in
theorem rawake_any (w : World) (hS : Shp w) : Calls Tryd.prog 10 #[] w fun e w' => e = .returned (.bool true) ∧ Up Nul w w' := by
 have HE := hid (enc_yes rk none none 0 0 w hS ⟨RowI.nil _ _, RowL.nil _ _, by decide, by decide⟩ rk_ok)
 rw [rk_enc] at HE
 have HS := hid hS
 have HD : Hid (∀ W, Up Nul w W → ∀ g, W.heap[g]? = some (.cells #[.int .u8 2, .int .u8 1, .int .u8 107] 5 (0, 0)) → Calls Tryd.prog 13 #[.slice (some ⟨g, 0, none⟩) 3 3] W fun e w' => ∃ sa sc la lc, e = .returned (.tuple #[rv rk (.slice sa 0 sc) (.slice la 0 lc), .bool true]) ∧ Up Nul W w') := fun W u g hg => by
  have hb : Blk W g [2, 1, 107] := ⟨hg, by decide⟩
  have := dec_any (some ⟨g, 0, none⟩) 3 3 [2, 1, 107] W (hS.nxt u) (SlN.ofBlk hb (by decide)) (by omega)
  unfold decO at this
  rw [rk_dec] at this
  refine this.mono ?_
  rintro e w' ⟨sa, sc, la, lc, rfl, _, u2⟩
  exact ⟨sa, sc, la, lc, rfl, u2⟩
 have HN : Hid (∀ W, Up Nul w W → Calls Tryd.prog 13 #[.slice none 0 0] W fun e w' => ∃ sa sc la lc, e = .returned (.tuple #[rv rc0 (.slice sa 0 sc) (.slice la 0 lc), .bool false]) ∧ Up Nul W w') := fun W u => by
  have := dec_any none 0 0 [] W (hS.nxt u) ⟨rfl, .inl rfl, by omega⟩ (by omega)
  unfold decO at this
  rw [nil_dec] at this
  refine this.mono ?_
  rintro e w' ⟨sa, sc, la, lc, rfl, _, u2⟩
  exact ⟨sa, sc, la, lc, rfl, u2⟩
 clear hS
 go_enter Tryd.func10, Tryd.ntmps10
 go_wp2_with fail
 refine HE.out.mono ?_
 rintro e w1 ⟨v, W0, rfl, u0, hz⟩
 obtain ⟨va, vc, rfl, vs, _⟩ := hz.sln (by decide)
 have U1 := hid (u0.trans hz.up)
 have HV := hid vs
 clear u0 hz vs HE
 go_wp2_with fail
 refine (HD.out _ (U1.out.alloc _) _ (heap_alloc_new _ _)).mono ?_
 rintro e w2 ⟨sa, sc, la, lc, rfl, u2⟩
 have U2 := hid ((U1.out.alloc _).trans u2)
 have HV2 := hid ((HV.out.nxt ((Up.refl Nul w1).alloc (.cells #[.int .u8 2, .int .u8 1, .int .u8 107] 5))).nxt u2)
 clear u2 HD HV
 go_wp2_with fail
 obtain ⟨W3, hW3⟩ : ∃ W, W = w2.alloc (.cells #[.int .i64 rk.kind, .string rk.key, .int .i64 rk.n, .int .i64 rk.sid, .slice sa 0 sc, .int .i64 rk.colour, .slice la 0 lc, .int .i64 rk.t.hot, .int .i64 rk.t.warm, .int .i64 rk.t.gap, .int .i64 rk.t.add, .int .i64 rk.t.top, .int .i64 rk.t.half] 27) := ⟨_, rfl⟩
 have U3 : Hid (Up Nul w2 W3) := by show Up _ _ _; rw [hW3]; exact (Up.refl Nul w2).alloc _
 have x3 : W3.cell? ⟨w2.heap.size, 1, none⟩ = some (.string ⟨#[107]⟩) := by rw [hW3]; exact World.cell?_alloc_new _ _ _ 1
 have hl3 : w2.heap.size < W3.heap.size := by rw [hW3]; simp
 rw [← hW3]
 clear hW3
 refine (HN.out _ (U2.out.trans U3.out)).mono ?_
 rintro e w4 ⟨sa2, sc2, la2, lc2, rfl, u4⟩
 have x4 := (u4.cell (p := ⟨w2.heap.size, 1, none⟩) hl3 id).trans x3
 have hl4 := Nat.lt_of_lt_of_le hl3 u4.size
 obtain ⟨W5, hW5⟩ : ∃ W, W = w4.alloc (.cells #[.int .i64 rc0.kind, .string rc0.key, .int .i64 rc0.n, .int .i64 rc0.sid, .slice sa2 0 sc2, .int .i64 rc0.colour, .slice la2 0 lc2, .int .i64 rc0.t.hot, .int .i64 rc0.t.warm, .int .i64 rc0.t.gap, .int .i64 rc0.t.add, .int .i64 rc0.t.top, .int .i64 rc0.t.half] 27) := ⟨_, rfl⟩
 have U5 : Up Nul w4 W5 := by rw [hW5]; exact (Up.refl Nul w4).alloc _
 have x5 := (U5.cell (p := ⟨w2.heap.size, 1, none⟩) hl4 id).trans x4
 have hcv := (((HV2.out.nxt U3.out).nxt u4).nxt U5).conv vc
 rw [show strOf [2, 1, 107] = (⟨#[2, 1, 107]⟩ : ByteArray) from rfl] at hcv
 simp only [List.length_cons, List.length_nil, Nat.reduceAdd] at hcv
 have UF := hid ((U2.out.trans U3.out).trans (u4.trans U5))
 clear x3 x4 hl3 hl4 u4 U5 U3 HV2 HN HS U1 U2
 generalize w2.heap.size = q at x5 ⊢
 go_upto_region 4 with fail
 rw [← hW5]
 clear hW5
 go_wp2
 go_ret
 exact ⟨by first | rfl | simp, UF.out⟩
end Go.Proofs.YtpdkcpjofofkoaaDoor
