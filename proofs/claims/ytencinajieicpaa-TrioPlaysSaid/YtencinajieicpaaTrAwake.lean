/- 'awake' of stage 12. -/
import Derived.Test.YtencinajieicpaaTrFace
namespace Go.Proofs.Ytencinajieicpaa
open Go.RowKit
set_option linter.unusedVariables false

/-- The three Tapes of the law's own variable. -/
structure L3 (w : World) (b : Nat) (q : Nat → Nat) : Prop where
  cell : ∀ i, i < 3 → w.cell? ⟨b, i, none⟩ = some (.pointer (some ⟨q i, 0, none⟩))
  lt : b < w.heap.size
theorem L3.nxt {w w' : World} {b : Nat} {q : Nat → Nat} (h : L3 w b q) (u : Up Nul w w') : L3 w' b q := ⟨fun i hi => (u.cell (p := ⟨b, i, none⟩) h.lt id).trans (h.cell i hi), Nat.lt_of_lt_of_le h.lt u.size⟩
theorem L3.tp {P : Nat → Prop} {w w' : World} {b : Nat} {q : Nat → Nat} (h : L3 w b q) (u : Tp P w w') (hp : P b) : L3 w' b q := ⟨fun i hi => by
  have := h.cell i hi
  simp only [World.cell?] at this ⊢
  rw [u.2 b hp]
  exact this, Nat.lt_of_lt_of_le h.lt u.1⟩
theorem l3_new (w : World) (q : Nat → Nat) : L3 (w.alloc (.cells #[.pointer (some ⟨q 0, 0, none⟩), .pointer (some ⟨q 1, 0, none⟩), .pointer (some ⟨q 2, 0, none⟩)] 27)) w.heap.size q := ⟨fun i hi => by
  match i, hi with
  | 0, _ => exact World.cell?_alloc_new _ _ _ 0
  | 1, _ => exact World.cell?_alloc_new _ _ _ 1
  | 2, _ => exact World.cell?_alloc_new _ _ _ 2, by simp⟩
set_option maxRecDepth 100000 in
set_option maxHeartbeats 1600000 in
theorem qawake_any (O : TrioOps) (w : World) : Calls Try.prog 11 #[] w fun e w' => e = .returned (.bool true) ∧ Up Nul w w' := by
  go_enter Try.func11, Try.ntmps11
  go_wp2_with fail
  refine (qh_new (fu := none) (k := none) O (Up.refl Nul w) rfl (fun f e => by cases e)).mono ?_
  rintro e w1 ⟨t, q, rfl, h1, _⟩
  have H1 : Hid (QH O (fun x => x = w1.heap.size) w (w1.alloc (.cells #[.int .u8 7, .int .u8 8] 5)) t q 0 none none (fun _ => ⟨[], 0, true⟩)) := h1.owns ((Up.refl _ _).alloc _) fun x hx => .inr ⟨by omega, by rw [hx]; simp⟩
  have HS : Hid (SlN (w1.alloc (.cells #[.int .u8 7, .int .u8 8] 5)) (some ⟨w1.heap.size, 0, none⟩) 2 [7, 8]) := slm_mark w1 [7, 8] _ (by decide) (by decide) _ rfl
  clear h1
  go_wp2_with fail
  refine (qh_appendE H1.out (by omega) 2 HS.out (by omega) (by decide) (.inr fun x hx => by cases hx; exact .inl rfl) (r := 0) rfl).mono ?_
  rintro e w2 ⟨rfl, h2, _⟩
  have H2 : Hid (QH O (fun x => x = w1.heap.size) w w2 t q 1 none none (fun _ => ⟨[2, 7, 8], 0, true⟩)) := h2.same fun i hi => by
    match i, hi with
    | 0, _ => exact Alk.refl _
    | 1, _ => exact Alk.refl _
    | 2, _ => exact Alk.refl _
  clear h2 H1 HS
  go_wp2_with fail
  refine (qh_tapes H2.out).mono ?_
  rintro e w3 ⟨rfl, h3, _⟩
  have H3 := hid h3
  clear h3 H2
  unfold tri
  go_wp2_with fail
  have HL := hid (l3_new w3 q)
  have H4 : Hid (QH O (fun x => x = w3.heap.size) w (w3.alloc (.cells #[.pointer (some ⟨q 0, 0, none⟩), .pointer (some ⟨q 1, 0, none⟩), .pointer (some ⟨q 2, 0, none⟩)] 27)) t q 1 none none (fun _ => ⟨[2, 7, 8], 0, true⟩)) := H3.out.owns ((Up.refl _ _).alloc _) fun x hx => .inr ⟨by omega, by rw [hx]; simp⟩
  clear H3
  generalize World.alloc w3 _ = w4 at HL H4 ⊢
  generalize w3.heap.size = lb at HL H4 ⊢
  refine (qh_fail H4.out (i := 2) (by omega)).mono ?_
  rintro e w5 ⟨rfl, h5, tp⟩
  have HL5 := hid (HL.out.tp tp rfl)
  have H5 := hid h5
  have c0 := HL5.out.cell 0 (by omega)
  have c1 := HL5.out.cell 1 (by omega)
  have c2 := HL5.out.cell 2 (by omega)
  have HO := hid (qh_openE H5.out (l := [[7, 8]]) rfl)
  unfold tri at HO
  clear h5 tp HL H4
  go_wp2_with fail
  refine HO.out.mono ?_
  rintro e w6 ⟨t', v, rfl, hr, h6, tp⟩
  have H6 := hid h6
  obtain ⟨a, c, rfl, hr⟩ := hr
  obtain ⟨g, o, rfl, hg, hc⟩ := hr.resolve_left (by decide)
  obtain ⟨ea, ec, x0, sl⟩ := hc 0 [7, 8] rfl
  have HX0 := hid x0
  have HSL := hid sl
  have HG := hid hg
  clear hr h6 tp HO c0 c1 c2 hc x0 sl hg H5 HL5
  have HSP : Hid (SlN (w6.alloc (.cells #[.int .u8 2, .int .u8 7, .int .u8 8, .int .u8 3, .int .u8 1] 5)) (some ⟨w6.heap.size, 0, none⟩) 5 [2, 7, 8, 3, 1]) := slm_mark w6 [2, 7, 8, 3, 1] _ (by decide) (by decide) _ rfl
  have UA : Hid (Up Nul w6 (w6.alloc (.cells #[.int .u8 2, .int .u8 7, .int .u8 8, .int .u8 3, .int .u8 1] 5))) := (Up.refl _ _).alloc _
  have HS := hid (O.split _ 5 5 _ HSP.out (by omega) (by omega))
  go_wp2_with fail
  refine HS.out.mono ?_
  rintro e w7 ⟨v, rfl, hr, u⟩
  have U7 : Hid (Up Nul w6 w7) := UA.out.trans u
  obtain ⟨a2, c2, rfl, _⟩ := hr
  have x0 : w7.cell? ⟨g, o, none⟩ = some (.slice ea 2 ec) := (U7.out.cell (p := ⟨g, o + 0, none⟩) HG.out id).trans HX0.out
  have z1 : (convert 30 9 (.slice ea 2 ec)).run Try.prog w7 = .ok (.string ⟨#[7, 8]⟩) w7 := (HSL.out.nxt U7.out).conv ec
  have hqq : ((⟨#[7, 8]⟩ : ByteArray).toList == (⟨#[7, 8]⟩ : ByteArray).toList) = true := by simp
  have hw : Hid (Up Nul w w7) := H6.out.up.trans U7.out
  have e1 : spl [2, 7, 8, 3, 1] = [[7, 8]] := by decide
  have e2 : (flt (spl [2, 7, 8, 3, 1])).length = 3 := by decide
  rw [e1, show (flt [[7, 8]]).length = 3 from rfl]
  clear u U7 HS HSP UA H6 HX0 HSL HG e1 e2
  go_wp2_with fail
  go_ret
  exact ⟨rfl, hw.out⟩
end Go.Proofs.Ytencinajieicpaa
