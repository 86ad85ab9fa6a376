/- The law DiskTears, walked. -/
import Derived.Test.YtcehphnpffedhaaDiskLaw
namespace Go.Proofs.Ytcehphnpffedhaa
open Go.RowKit
set_option linter.unusedVariables false

set_option maxRecDepth 100000 in
set_option maxHeartbeats 3200000 in
theorem tears_nat (aa bb : Nat) (x : Int) (w : World) (ha : aa < 256) (hb : bb < 256) :
    Calls Try.prog 6 #[.int .u8 aa, .int .u8 bb, .int .i64 x] w fun e w' => e = .returned (.bool true) ∧ Below w.heap.size w w' := by
  have HA8 := hid ha
  have HB8 := hid hb
  clear ha hb
  obtain ⟨k0, hk0, _⟩ := i64_mask8 x
  obtain ⟨r, hr, hr97⟩ := rem_lit k0 97 (by omega)
  have hr : (k0 : Int) % 97 = (r : Int) := hr
  have HR : Hid (r ≤ 96) := by show _ ≤ _; omega
  have hr2 : (r : Int) ≤ 96 := by omega
  clear hr97
  go_enter Try.func6, Try.ntmps6
  go_wp2_with fail
  refine (newH_nil (Up.refl Nul w) 1 1 rfl).mono ?_
  rintro e w1 ⟨b, rfl, h1, h2⟩
  have H1 := hid h1
  have U1 := hid h2
  clear h1 h2
  go_wp2_with fail
  refine (fullH aa w1 HA8.out).mono ?_
  rintro e w2 ⟨q, rfl, k1, k2⟩
  have U2 := hid (U1.out.trans k2)
  go_wp2_with fail
  refine (writeH (s := 0) (H1.out.nxt k2) U2.out (by omega) (by decide) (by decide) k1 (ful_length aa)).mono ?_
  rintro e w3 ⟨rfl, h1, h2, _⟩
  clear k1 k2 H1 U1 U2
  have H1 := hid h1
  have U1 := hid h2
  clear h1 h2
  go_wp2_with fail
  refine (syncH H1.out U1.out (by decide)).mono ?_
  rintro e w4 ⟨rfl, h1, h2, _⟩
  clear H1 U1
  have H1 := hid h1
  have U1 := hid h2
  clear h1 h2
  go_wp2_with fail
  refine (fullH bb w4 HB8.out).mono ?_
  rintro e w5 ⟨q, rfl, k1, k2⟩
  have U2 := hid (U1.out.trans k2)
  go_wp2_with fail
  refine (writeH (s := 0) (H1.out.nxt k2) U2.out (by omega) (by decide) (by simp) k1 (ful_length bb)).mono ?_
  rintro e w6 ⟨rfl, h1, h2, _⟩
  clear k1 k2 H1 U1 U2
  have H1 := hid h1
  have U1 := hid h2
  clear h1 h2
  go_wp2_with fail
  refine (crashH H1.out U1.out 0 (r : Int)).mono ?_
  rintro e w7 ⟨rfl, h1, h2, _⟩
  clear H1 U1
  have H1 := hid h1
  have U1 := hid h2
  clear h1 h2
  go_wp2_with fail
  refine (readH (s := 0) H1.out (by omega)).mono ?_
  rintro e w9 ⟨a9, c9, rfl, k1⟩
  have hr0 : crashR [(0, upd (fun _ => zer 96) 0 (ful aa) 0)] (0 : Int).toNat (min (r : Int).toNat 96) (upd (upd (fun _ => zer 96) 0 (ful aa)) 0 (ful bb)) 0 = (ful bb).take r ++ (ful aa).drop r := by
    unfold crashR
    rw [if_pos ⟨Nat.zero_lt_one, rfl⟩]
    have : min (r : Int).toNat 96 = r := by have := HR.out; omega
    rw [this]
    rfl
  have k1 : Got w7 w9 a9 96 c9 ((ful bb).take r ++ (ful aa).drop r) := by rw [← hr0]; exact k1
  have U9 : Hid (Up Nul w w9) := U1.out.trans k1.up
  have CX : Hid (∀ W, Up Nul w9 W → (convert 26 9 (.slice a9 96 c9)).run Try.prog W = .ok (.string (strOf ((ful bb).take r ++ (ful aa).drop r))) W) := fun W u => (k1.sl.nxt u).conv c9
  have CUT : Hid (∀ wb q1, Blk wb q1 (ful bb) → ∀ W, Up Nul wb W → (convert 26 9 (.slice (some ⟨q1, 0, none⟩) r 96)).run Try.prog W = .ok (.string (strOf ((ful bb).take r))) W) := fun wb q1 kb W u => cutB (kb.up u id) (ful_length bb) HR.out (by omega) 96
  obtain ⟨mr, hmr⟩ : ∃ mr, 96 - r = mr := ⟨_, rfl⟩
  have REST : Hid (∀ wc q2, Blk wc q2 (ful aa) → ∃ ar, (∀ W, (Instr.slice 26 (.slice (some ⟨q2, 0, none⟩) 96 96) (some (.int .i64 (r : Int))) none none).run Try.prog W = .ok (.slice ar mr mr) W) ∧ Hid (∀ W, Up Nul wc W → (convert 26 9 (.slice ar mr mr)).run Try.prog W = .ok (.string (strOf ((ful aa).drop r))) W)) := fun wc q2 kc => by
    refine ⟨atOff (some ⟨q2, 0, none⟩) r 96, fun W => ?_, fun W u => ?_⟩
    · rw [run_from _ 96 96 r HR.out (Nat.le_refl _), hmr]
    · rw [← hmr]
      exact restB (kc.up u id) (ful_length aa) HR.out (by omega) _
  have HCAT : Hid (strOf ((ful bb).take r) ++ strOf ((ful aa).drop r) = strOf ((ful bb).take r ++ (ful aa).drop r)) := strOf_append _ _
  have z1 : (strOf ((ful bb).take r)).size ≤ 96 := by rw [strOf_size, List.length_take, ful_length]; omega
  have z2 : (strOf ((ful aa).drop r)).size ≤ 96 := by rw [strOf_size, List.length_drop, ful_length]; omega
  have z3 : ¬ 9223372036854775807 < (strOf ((ful bb).take r)).size + (strOf ((ful aa).drop r)).size := by omega
  generalize strOf ((ful bb).take r ++ (ful aa).drop r) = tx at CX HCAT
  generalize strOf ((ful bb).take r) = t1 at CUT HCAT z1 z3
  generalize strOf ((ful aa).drop r) = t2 at REST HCAT z2 z3
  have hcat := HCAT.out
  have q0 : (tx.toList == tx.toList) = true := by simp
  have hsl : ∀ (a : Option Addr) W, (Instr.slice 26 (.slice a 96 96) none (some (.int .i64 (r : Int))) none).run Try.prog W = .ok (.slice a r 96) W := fun a W => run_upto a 96 96 r HR.out W
  clear H1 U1 k1 hr0 hmr
  go_wp2_with fail
  have HR0 : Hid (Up Nul w9 w9) := Up.refl _ _
  refine wp_region_held_drew (S := (fun W => Up Nul w9 W ∧ (convert 26 9 (.slice a9 96 c9)).run Try.prog W = .ok (.string tx) W)) (by kernel_rfl) (by exact ⟨HR0.out.drew, CX.out _ HR0.out.drew⟩) (fun hHeld => ?_)
  refine wpAnyH_take (i := 0) (oi := ⟨some 34, _, _, _, _, _⟩) (v := ?vt1) rfl (by kernel_rfl) (by kernel_rfl) (by kernel_rfl) (fun _ _ _ h => h) (Or.inl ⟨by rfl, ?yt1⟩) (by assumption) ?rt1
  case yt1 => (intro w hSw; (try dsimp only at hSw); go_simp; try with_reducible rfl)
  try simp only [Act.put, List.setIfInBounds_toArray, List.set_cons_zero, List.set_cons_succ]
  refine wpAnyH_take (i := 1) (oi := ⟨some 35, _, _, _, _, _⟩) (v := ?vt2) rfl (by kernel_rfl) (by kernel_rfl) (by kernel_rfl) (fun _ _ _ h => h) (Or.inl ⟨by rfl, ?yt2⟩) (by assumption) ?rt2
  case yt2 => (intro w hSw; (try dsimp only at hSw); go_simp; try with_reducible rfl)
  try simp only [Act.put, List.setIfInBounds_toArray, List.set_cons_zero, List.set_cons_succ]
  refine wpAnyH_take (i := 2) (oi := ⟨some 36, _, _, _, _, _⟩) (v := ?vt3) rfl (by kernel_rfl) (by kernel_rfl) (by kernel_rfl) (fun _ _ _ h => h) (Or.inl ⟨by rfl, ?yt3⟩) (by assumption) ?rt3
  case yt3 => (intro w hSw; (try dsimp only at hSw); go_simp; try with_reducible rfl)
  try simp only [Act.put, List.setIfInBounds_toArray, List.set_cons_zero, List.set_cons_succ]
  refine wpAnyH_take (i := 3) (oi := ⟨some 37, _, _, _, _, _⟩) (v := ?vt4) rfl (by kernel_rfl) (by kernel_rfl) (by kernel_rfl) (fun _ _ _ h => h) (Or.inl ⟨by rfl, ?yt4⟩) (by assumption) ?rt4
  case yt4 => (intro w hSw; (try dsimp only at hSw); go_simp; try with_reducible rfl)
  try simp only [Act.put, List.setIfInBounds_toArray, List.set_cons_zero, List.set_cons_succ]
  refine wpAnyH_take (i := 4) (oi := ⟨some 38, _, _, _, _, _⟩) (v := ?vt5) rfl (by kernel_rfl) (by kernel_rfl) (by kernel_rfl) (fun _ _ _ h => h) (Or.inl ⟨by rfl, ?yt5⟩) (by assumption) ?rt5
  case yt5 => (intro w hSw; (try dsimp only at hSw); go_simp; try with_reducible rfl)
  try simp only [Act.put, List.setIfInBounds_toArray, List.set_cons_zero, List.set_cons_succ]
  refine wpAnyH_take (i := 5) (oi := ⟨some 39, _, _, _, _, _⟩) (v := ?vt6) rfl (by kernel_rfl) (by kernel_rfl) (by kernel_rfl) (fun _ _ _ h => h) (Or.inl ⟨by rfl, ?yt6⟩) (by assumption) ?rt6
  case yt6 => (intro w hSw; (try dsimp only at hSw); go_simp; try with_reducible rfl)
  try simp only [Act.put, List.setIfInBounds_toArray, List.set_cons_zero, List.set_cons_succ]
  refine wpAnyH_take (i := 7) (oi := ⟨some 41, _, _, _, _, _⟩) (v := ?vt7) rfl (by kernel_rfl) (by kernel_rfl) (by kernel_rfl) (fun _ _ _ h => h) (Or.inl ⟨by rfl, ?yt7⟩) (by assumption) ?rt7
  case yt7 => (intro w hSw; (try dsimp only at hSw); go_simp; try with_reducible rfl)
  try simp only [Act.put, List.setIfInBounds_toArray, List.set_cons_zero, List.set_cons_succ]
  refine wpAnyH_take (i := 10) (oi := ⟨some 44, _, _, _, _, _⟩) (v := ?vt8) rfl (by kernel_rfl) (by kernel_rfl) (by kernel_rfl) (fun _ _ _ h => h) (Or.inl ⟨by rfl, ?yt8⟩) (by assumption) ?rt8
  case yt8 => (intro w hSw; (try dsimp only at hSw); go_simp; try with_reducible rfl)
  try simp only [Act.put, List.setIfInBounds_toArray, List.set_cons_zero, List.set_cons_succ]
  refine wpAnyH_take (i := 12) (oi := ⟨some 46, _, _, _, _, _⟩) (v := ?vt9) rfl (by kernel_rfl) (by kernel_rfl) (by kernel_rfl) (fun _ _ _ h => h) (Or.inl ⟨by rfl, ?yt9⟩) (by assumption) ?rt9
  case yt9 => (intro w hSw; (try dsimp only at hSw); go_simp; try with_reducible rfl)
  try simp only [Act.put, List.setIfInBounds_toArray, List.set_cons_zero, List.set_cons_succ]
  refine wpAnyH_ready (rs := [6]) (by kernel_rfl) (by simp) ?_
  refine AllReadyH.cons (o := ⟨some 40, _, _, _, _, _⟩) rfl (fun K hK => ?_) AllReadyH.nil
  go_simp
  refine (fullH bb _ HB8.out).mono ?_; rintro e wb ⟨q1, rfl, kb1, kb2⟩; have ob : Hid (Up Nul w9 wb) := HR0.out.drew.trans kb2; have CB := hid (CUT.out wb q1 kb1)
  refine hK.out _ _ ?kt10 (fun hHeld => ?_)
  case kt10 => exact ⟨ob.out, CX.out _ ob.out⟩
  clear hK K
  try simp only [Act.put, List.setIfInBounds_toArray, List.set_cons_zero, List.set_cons_succ]
  have hHeldt11 : ((fun W => Up Nul wb W ∧ (convert 26 9 (.slice (some ⟨q1, 0, none⟩) r 96)).run Try.prog W = .ok (.string t1) W)) _ := ⟨Up.refl _ _, CB.out _ (Up.refl _ _)⟩
  refine wpAnyH_sub (S := (fun W => Up Nul wb W ∧ (convert 26 9 (.slice (some ⟨q1, 0, none⟩) r 96)).run Try.prog W = .ok (.string t1) W)) (fun W hW => ⟨ob.out.trans hW.1, CX.out _ (ob.out.trans hW.1)⟩) ?_
  refine wpAnyH_take (i := 8) (oi := ⟨some 42, _, _, _, _, _⟩) (v := ?vt12) rfl (by kernel_rfl) (by kernel_rfl) (by kernel_rfl) (fun _ _ _ h => h) (Or.inl ⟨by rfl, ?yt12⟩) (by assumption) ?rt12
  case yt12 => (intro w hSw; (try dsimp only at hSw); go_simp; try with_reducible rfl)
  try simp only [Act.put, List.setIfInBounds_toArray, List.set_cons_zero, List.set_cons_succ]
  refine wpAnyH_take (i := 9) (oi := ⟨some 43, _, _, _, _, _⟩) (v := ?vt13) rfl (by kernel_rfl) (by kernel_rfl) (by kernel_rfl) (fun _ _ _ h => h) (Or.inl ⟨by rfl, ?yt13⟩) (by assumption) ?rt13
  case yt13 => (intro w hSw; (try dsimp only at hSw); go_simp; try with_reducible rfl)
  try simp only [Act.put, List.setIfInBounds_toArray, List.set_cons_zero, List.set_cons_succ]
  refine wpAnyH_ready (rs := [11]) (by kernel_rfl) (by simp) ?_
  refine AllReadyH.cons (o := ⟨some 45, _, _, _, _, _⟩) rfl (fun K hK => ?_) AllReadyH.nil
  go_simp
  refine (fullH aa _ HA8.out).mono ?_; rintro e wc ⟨q2, rfl, kc1, kc2⟩; have oc : Hid (Up Nul w9 wc) := ob.out.trans kc2; have kc2 := hid kc2; obtain ⟨ar, hsr, CC⟩ := REST.out wc q2 kc1
  refine hK.out _ _ ?kt14 (fun hHeld => ?_)
  case kt14 => exact ⟨kc2.out, CB.out _ kc2.out⟩
  clear hK K
  try simp only [Act.put, List.setIfInBounds_toArray, List.set_cons_zero, List.set_cons_succ]
  have hHeldt15 : ((fun W => Up Nul wc W ∧ (convert 26 9 (.slice ar mr mr)).run Try.prog W = .ok (.string t2) W)) _ := ⟨Up.refl _ _, CC.out _ (Up.refl _ _)⟩
  refine wpAnyH_sub (S := (fun W => Up Nul wc W ∧ (convert 26 9 (.slice ar mr mr)).run Try.prog W = .ok (.string t2) W)) (fun W hW => ⟨kc2.out.trans hW.1, CB.out _ (kc2.out.trans hW.1)⟩) ?_
  refine wpAnyH_take (i := 13) (oi := ⟨some 47, _, _, _, _, _⟩) (v := ?vt16) rfl (by kernel_rfl) (by kernel_rfl) (by kernel_rfl) (fun _ _ _ h => h) (Or.inl ⟨by rfl, ?yt16⟩) (by assumption) ?rt16
  case yt16 => (intro w hSw; (try dsimp only at hSw); go_simp; try with_reducible rfl)
  try simp only [Act.put, List.setIfInBounds_toArray, List.set_cons_zero, List.set_cons_succ]
  refine wpAnyH_take (i := 14) (oi := ⟨some 48, _, _, _, _, _⟩) (v := ?vt17) rfl (by kernel_rfl) (by kernel_rfl) (by kernel_rfl) (fun _ _ _ h => h) (Or.inl ⟨by rfl, ?yt17⟩) (by assumption) ?rt17
  case yt17 => (intro w hSw; (try dsimp only at hSw); go_simp; try with_reducible rfl)
  try simp only [Act.put, List.setIfInBounds_toArray, List.set_cons_zero, List.set_cons_succ]
  refine wpAnyH_take (i := 15) (oi := ⟨some 49, _, _, _, _, _⟩) (v := ?vt18) rfl (by kernel_rfl) (by kernel_rfl) (by kernel_rfl) (fun _ _ _ h => h) (Or.inl ⟨by rfl, ?yt18⟩) (by assumption) ?rt18
  case yt18 => (intro w hSw; (try dsimp only at hSw); go_simp; try with_reducible rfl)
  try simp only [Act.put, List.setIfInBounds_toArray, List.set_cons_zero, List.set_cons_succ]
  refine wpAnyH_take (i := 16) (oi := ⟨some 50, _, _, _, _, _⟩) (v := ?vt19) rfl (by kernel_rfl) (by kernel_rfl) (by kernel_rfl) (fun _ _ _ h => h) (Or.inl ⟨by rfl, ?yt19⟩) (by assumption) ?rt19
  case yt19 => (intro w hSw; (try dsimp only at hSw); go_simp; try with_reducible rfl)
  try simp only [Act.put, List.setIfInBounds_toArray, List.set_cons_zero, List.set_cons_succ]
  refine wpAnyH_take (i := 17) (oi := ⟨some 51, _, _, _, _, _⟩) (v := ?vt20) rfl (by kernel_rfl) (by kernel_rfl) (by kernel_rfl) (fun _ _ _ h => h) (Or.inl ⟨by rfl, ?yt20⟩) (by assumption) ?rt20
  case yt20 => (intro w hSw; (try dsimp only at hSw); go_simp; try with_reducible rfl)
  try simp only [Act.put, List.setIfInBounds_toArray, List.set_cons_zero, List.set_cons_succ]
  refine wpAnyH_take (i := 18) (oi := ⟨some 52, _, _, _, _, _⟩) (v := ?vt21) rfl (by kernel_rfl) (by kernel_rfl) (by kernel_rfl) (fun _ _ _ h => h) (Or.inl ⟨by rfl, ?yt21⟩) (by assumption) ?rt21
  case yt21 => (intro w hSw; (try dsimp only at hSw); go_simp; try with_reducible rfl)
  try simp only [Act.put, List.setIfInBounds_toArray, List.set_cons_zero, List.set_cons_succ]
  refine wpAnyH_ready (rs := [19]) (by kernel_rfl) (by simp) ?_
  refine AllReadyH.cons (o := ⟨some 53, _, _, _, _, _⟩) rfl (fun K hK => ?_) AllReadyH.nil
  go_simp
  refine (awake_any _).mono ?_; rintro e wd ⟨rfl, kd⟩; have od : Hid (Up Nul wc wd) := kd
  refine hK.out _ _ ?kt22 (fun hHeld => ?_)
  case kt22 => exact ⟨od.out, CC.out _ od.out⟩
  clear hK K
  try simp only [Act.put, List.setIfInBounds_toArray, List.set_cons_zero, List.set_cons_succ]
  refine wpAnyH_take (i := 20) (oi := ⟨some 54, _, _, _, _, _⟩) (v := ?vt23) rfl (by kernel_rfl) (by kernel_rfl) (by kernel_rfl) (fun _ _ _ h => h) (Or.inl ⟨by rfl, ?yt23⟩) (by assumption) ?rt23
  case yt23 => (intro w hSw; (try dsimp only at hSw); go_simp; try with_reducible rfl)
  try simp only [Act.put, List.setIfInBounds_toArray, List.set_cons_zero, List.set_cons_succ]
  refine wpAnyH_take (i := 21) (oi := ⟨some 6, _, _, _, _, _⟩) (v := ?vt24) rfl (by kernel_rfl) (by kernel_rfl) (by kernel_rfl) (fun _ _ _ h => h) (Or.inl ⟨by rfl, ?yt24⟩) (by assumption) ?rt24
  case yt24 => (intro w hSw; (try dsimp only at hSw); go_simp; try with_reducible rfl)
  try simp only [Act.put, List.setIfInBounds_toArray, List.set_cons_zero, List.set_cons_succ]
  refine wpAnyH_done (by kernel_rfl) ?_ _
  go_wp2
  go_ret
  exact ⟨rfl, ((U9.out.trans oc.out).trans od.out).below (Nat.le_refl _) fun _ _ => id⟩
theorem tears_walk (x y z : Int) (w : World) (hx : (Lit.int .u8 x).wf = true) (hy : (Lit.int .u8 y).wf = true) :
    Calls Try.prog 6 #[.int .u8 x, .int .u8 y, .int .i64 z] w fun e w' => e = .returned (.bool true) ∧ Below w.heap.size w w' := by
  have h1 := bounds_u8 hx
  have h2 := bounds_u8 hy
  obtain ⟨a, rfl⟩ : ∃ a : Nat, x = a := ⟨x.toNat, by omega⟩
  obtain ⟨b, rfl⟩ : ∃ b : Nat, y = b := ⟨y.toNat, by omega⟩
  exact tears_nat a b z w (by omega) (by omega)
end Go.Proofs.Ytcehphnpffedhaa
