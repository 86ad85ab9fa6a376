/- 'awake' of stage 10. -/
import Derived.Test.YtcejdobmgbielaaRkLaw
namespace Go.Proofs.Ytcejdobmgbielaa
open Go.RowKit
set_option linter.unusedVariables false

theorem plc_two {D : Nat → DS} {av : Int → Prop} {p : List Nat} (hD : NewD 6 D) (h : Plc (Fit 6 2 D 0 av) (fun d => fre 2 (D d)) 2 p) : p = [0, 3] := by
  match p, h with
  | [x, y], h =>
    obtain ⟨x1, _, _, _, x2⟩ := h.all x (by simp)
    obtain ⟨y1, _, _, _, y2⟩ := h.all y (by simp)
    have hb : Bef (fun d => fre 2 (D d)) x y := by
      have := h.ord
      simp at this
      exact this
    unfold Bef at hb
    dsimp only at hb
    rw [hD.fre x1, hD.fre y1] at hb
    have hx : x = 0 := by omega
    have hy : y = 3 := by omega
    rw [hx, hy]
  | [], h => exact absurd h.len (by decide)
  | [_], h => exact absurd h.len (by simp)
  | _ :: _ :: _ :: _, h => exact absurd h.len (by simp)
theorem fit_two {D : Nat → DS} {av : Int → Prop} (hD : NewD 6 D) (hav : ∀ d, ¬ av d) : ∀ d ∈ [0, 3], Fit 6 2 D 0 av d := by
  intro d hd
  simp at hd
  rcases hd with rfl | rfl
  · exact ⟨by omega, hD.live 0 (by omega), by rw [hD.fre (by omega)]; omega, hav _, .inr rfl⟩
  · exact ⟨by omega, hD.live 3 (by omega), by rw [hD.fre (by omega)]; omega, hav _, .inr rfl⟩
set_option maxRecDepth 100000 in
set_option maxHeartbeats 1600000 in
theorem kawake_any (O : RackOps) (w : World) : Calls Try.prog 18 #[] w fun e w' => e = .returned (.bool true) ∧ Up Nul w w' := by
  go_enter Try.func18, Try.ntmps18
  go_wp2_with fail
  refine (rh_new (n := 6) (m := 2) (fu := none) (k := none) O (Up.refl Nul w) rfl (fun f e => by cases e) (by omega) (by omega) (by omega) (by omega)).mono ?_
  rintro e w1 ⟨r, D, rfl, h1, hD, _⟩
  have H1 := hid h1
  have HD := hid hD
  clear h1 hD
  go_wp2_with fail
  refine (rh_place H1.out 2 0 0 (slInil w1 fun _ => 0) (by omega) (by omega)).mono ?_
  rintro e w2 (⟨_, p, a, c, ht, rfl, hp, h2, u2⟩ | ⟨hno, ⟨b, c, rfl⟩, h2, u2⟩)
  · obtain rfl : p = [0, 3] := plc_two HD.out ht.plc
    have H2 := hid h2
    have HP := hid hp
    clear h2 ht hp H1
    go_wp2_with fail
    refine (rh_take H2.out c HP.out (by decide) (fun d hd => by
      obtain ⟨g1, g2, g3, _⟩ := fit_two (av := fun _ => False) HD.out (fun _ h => h) d hd
      exact ⟨g1, g3⟩) (by omega)).mono ?_
    rintro e w3 ⟨v, D', rfl, hl, hy, hn, h3, sp, sz⟩
    have HP3 : Hid (SlI w3 a 2 (fun i => ([0, 3].getD i 0 : Nat))) := HP.out.1.keep sz fun x hx => sp _ (.inr (by rw [hx]; rfl))
    obtain ⟨la, lc, rfl⟩ := hl.shape
    obtain ⟨P3, H3⟩ : ∃ P3, Hid (RH O P3 w w3 r 6 2 none none D' 3) := ⟨_, h3⟩
    have HRG : Hid (∃ g, la = some ⟨g, 0, none⟩ ∧ ∀ W, Up Nul w3 W → W.rangeAt g 3 [.int .i64 3, .int .i64 0, .int .i64 2]) := by
      obtain ⟨g, cap, e, hg, hr⟩ := hl.at (s := 1) (by rw [locs_length]; decide)
      injection e with e
      rw [locs_at _ _ _ _ (by decide)] at hr
      have e3 : ([0, 3] : List Nat)[1] = 3 := rfl
      rw [e3, HD.out.slo (by omega)] at hr
      exact ⟨g, e, fun W u j x hx => (u.cell (p := ⟨g, 1 * 3 + j, none⟩) hg (fun h => h)).trans (hr j x hx)⟩
    obtain ⟨lg, rfl, hrg⟩ := HRG.out
    have HRG := hid hrg
    have e2 : (locs 2 1 D [0, 3]).length = 2 := by rw [locs_length]; rfl
    rw [e2]
    clear hl hy hn h3 sp hrg e2
    clear HP H2
    go_wp2_with fail
    refine (O.newBad (fu := none) (x := 0) (y := 2) (.inl (by omega))).mono ?_
    rintro e w3b ⟨rfl, u3⟩
    have H3b := hid (H3.out.nxt u3)
    have HP3b := hid (HP3.out.nxt u3)
    have HRGb : Hid (∀ W, Up Nul w3b W → W.rangeAt lg 3 [.int .i64 3, .int .i64 0, .int .i64 2]) := fun W u => HRG.out W (u3.trans u)
    clear u3 HRG HP3 H3
    have UA := hid ((Up.refl Nul w3b).alloc (.cells #[.int .i64 0, .int .i64 3] 3))
    have HSA : Hid (SlI (w3b.alloc (.cells #[.int .i64 0, .int .i64 3] 3)) (some ⟨w3b.heap.size, 0, none⟩) 2 (fun i => if i = 0 then 0 else 3)) := ⟨.inr ⟨_, 0, rfl, by simp, fun i hi => match i, hi with
      | 0, _ => World.cell?_alloc_new _ _ _ 0
      | 1, _ => World.cell?_alloc_new _ _ _ 1⟩, by omega⟩
    go_wp2_with fail
    refine (sameI_yes a _ 2 c 2 _ (fun i => if i = 0 then 0 else 3) _ (by omega) (HP3b.out.nxt UA.out) HSA.out (fun i hi => match i, hi with
      | 0, _ => rfl
      | 1, _ => rfl)).mono ?_
    rintro e w4 ⟨rfl, u4⟩
    have U4 : Hid (Up Nul w3b w4) := UA.out.trans u4
    clear u4 UA HSA HP3b
    have k3 : w4.cell? ⟨lg, 3, none⟩ = some (.int .i64 3) := HRGb.out w4 U4.out 0 _ rfl
    have k4 : w4.cell? ⟨lg, 4, none⟩ = some (.int .i64 0) := HRGb.out w4 U4.out 1 _ rfl
    have k5 : w4.cell? ⟨lg, 5, none⟩ = some (.int .i64 2) := HRGb.out w4 U4.out 2 _ rfl
    have heq := lc_eq w4 3 0 2
    go_wp2_with fail
    refine (rh_next (H3b.out.nxt U4.out)).mono ?_
    rintro e w5 ⟨rfl, h5, u5⟩
    have H5 := hid h5
    clear h5 u5
    go_wp2
    go_ret
    exact ⟨rfl, H5.out.up⟩
  · exfalso
    rcases hno with e | e
    · omega
    · have := e [0, 3] (by decide) (fit_two HD.out fun d hd => by obtain ⟨i, hi, _⟩ := hd; omega)
      simp at this
end Go.Proofs.Ytcejdobmgbielaa
