/- The document's own frames. -/
import Derived.Test.YtfmgbmpdifjliaaFrameTake
import Derived.Deep.CutBlock
import Derived.Deep.CutRange
namespace Go.Proofs.Ytfmgbmpdifjliaa
open Go.RowKit
set_option linter.unusedVariables false
theorem slm_mark (w : World) (z : List Nat) (fr : Nat × Nat) (hz : ∀ x ∈ z, x < 256) (hl : z.length ≤ 9223372036854775807) (q : Nat) (hq : q = w.heap.size) : SlN (w.alloc (.cells (bys z) 5 fr)) (some ⟨q, 0, none⟩) z.length z := by
  subst hq
  refine ⟨rfl, .inr ⟨_, 0, rfl, by simp, fun i hi => ?_, fun i => small_getD hz i⟩, hl⟩
  rw [World.cell?_alloc_mark, Nat.zero_add]
  exact bys_at z i hi
theorem four_int (v : Nat) : (v : Int) / 16777216 % 256 = ((v / 16777216 % 256 : Nat) : Int) ∧ (v : Int) / 65536 % 256 = ((v / 65536 % 256 : Nat) : Int) ∧ (v : Int) / 256 % 256 = ((v / 256 % 256 : Nat) : Int) ∧ (v : Int) % 256 = ((v % 256 : Nat) : Int) := by omega
set_option maxHeartbeats 800000 in
theorem refFour_any (v : Nat) (w : World) (hv : v < 4294967296) :
    Calls Try.prog 63 #[.int .i64 v] w fun e w' => e = .returned (.string (strOf (FrM.four v))) ∧ Up Nul w w' := by
  obtain ⟨e0, e1, e2, e3⟩ := four_int v
  have HX : Hid (FrM.four v = [v / 16777216 % 256, v / 65536 % 256, v / 256 % 256, v % 256]) := rfl
  generalize v / 16777216 % 256 = x0 at e0 HX
  generalize v / 65536 % 256 = x1 at e1 HX
  generalize v / 256 % 256 = x2 at e2 HX
  generalize v % 256 = x3 at e3 HX
  have HV : Hid (v < 4294967296) := hv
  have h4 := FrM.four_small v
  rw [HX.out] at h4
  rw [HX.out]
  have hc : (convert 32 9 (.slice (some ⟨w.heap.size, 0, none⟩) 4 4)).run Try.prog (w.alloc (.cells #[.int .u8 x0, .int .u8 x1, .int .u8 x2, .int .u8 x3] 5)) = .ok (.string (strOf [x0, x1, x2, x3])) _ := (slm_mark w [x0, x1, x2, x3] (0, 0) h4 (by show 4 ≤ _; omega) _ rfl).conv 4
  generalize strOf [x0, x1, x2, x3] = s at hc ⊢
  clear h4 HX hv
  go_enter Try.func63, Try.ntmps63
  go_wp2
  go_ret
  exact ⟨rfl, (Up.refl _ _).alloc _⟩
theorem sum_nums {y : List Nat} (h : ∀ x ∈ y, x < 256) : nums (strOf y) = y := nums_strOf (small_getD h)
theorem refFrame_bad (id : Int) (s : ByteArray) (w : World) (hs : s.size ≤ 9223372036854775807) (h : id < 0 ∨ 4294967295 < id ∨ 64 < s.size) :
    Calls Try.prog 49 #[.int .i64 id, .string s] w fun e w' => e = .returned (.tuple #[.string ⟨#[]⟩, .bool false]) ∧ w' = w := by
  by_cases h1 : id < 0
  · clear h
    go_enter Try.func49, Try.ntmps49
    go_wp2
    go_ret2
    exact ⟨rfl, rfl⟩
  · by_cases h2 : 4294967295 < id
    · clear h
      go_enter Try.func49, Try.ntmps49
      go_wp2
      go_ret2
      exact ⟨rfl, rfl⟩
    · have h3 : (64 : Int) < (s.size : Int) := by omega
      clear h
      go_enter Try.func49, Try.ntmps49
      go_wp2
      go_ret2
      exact ⟨rfl, rfl⟩
set_option maxRecDepth 100000 in
set_option maxHeartbeats 1600000 in
theorem refFrame_good (id : Nat) (z : List Nat) (w : World) (hi : id < 4294967296) (hz : ∀ x ∈ z, x < 256) (hl : z.length ≤ 64) :
    Calls Try.prog 49 #[.int .i64 id, .string (strOf z)] w fun e w' => e = .returned (.tuple #[.string (strOf (FrM.fr id z)), .bool true]) ∧ Up Nul w w' := by
  obtain ⟨n, N⟩ : ∃ n, z.length = n := ⟨_, rfl⟩
  obtain ⟨r, hr⟩ : ∃ r : Nat, n + r = 84 := ⟨84 - n, by omega⟩
  have hck := FrM.chk_lt (id := id) hl hz
  have HSUM : Hid (∀ W, Calls Try.prog 64 #[.string (strOf (FrM.head id n ++ z))] W fun e w' => e = .returned (.int .u32 (FrM.chk id z : Nat)) ∧ W = w') := fun W => by
    have h := refSum_any (strOf (FrM.head id n ++ z)) W (by rw [strOf_size, List.length_append, FrM.head_length]; omega)
    have e : CrcM.sum (nums (strOf (FrM.head id n ++ z))) = FrM.chk id z := by
      rw [sum_nums fun x hx => ?_]
      · rw [← N]; rfl
      · rcases List.mem_append.1 hx with hx | hx
        · exact FrM.head_small (by omega) x hx
        · exact hz x hx
    rw [e] at h
    exact h
  have HF := hid fun W => refFour_any id W hi
  have HF2 := hid fun W => refFour_any (FrM.chk id z) W hck
  have HNEW : Hid (∀ (W : World) (q : Nat), q = W.heap.size → ∀ W', Up Nul (W.alloc (.cells #[.int .u8 183, .int .u8 (n : Nat), .int .u8 0, .int .u8 0] 5)) W' → (convert 32 9 (.slice (some ⟨q, 0, none⟩) 4 4)).run Try.prog W' = .ok (.string (strOf [183, n, 0, 0])) W') := fun W q hq W' u =>
    ((slm_mark W [183, n, 0, 0] (0, 0) (by intro x hx; simp only [List.mem_cons, List.not_mem_nil, or_false] at hx; omega) (by show 4 ≤ _; omega) q hq).nxt u).conv 4
  have hcat : strOf [183, n, 0, 0] ++ strOf (FrM.four id) = strOf (FrM.head id n) := strOf_append _ _
  have hcat2 : strOf (FrM.head id n) ++ strOf z = strOf (FrM.head id n ++ z) := strOf_append _ _
  have hcat3 : strOf (FrM.head id n) ++ strOf (FrM.four (FrM.chk id z)) = strOf (FrM.head id n ++ FrM.four (FrM.chk id z)) := strOf_append _ _
  have hcat4 : strOf (FrM.head id n ++ FrM.four (FrM.chk id z)) ++ strOf z = strOf (FrM.head id n ++ FrM.four (FrM.chk id z) ++ z) := strOf_append _ _
  have hcat5 : strOf (FrM.head id n ++ FrM.four (FrM.chk id z) ++ z) ++ strOf (zer r) = strOf (FrM.fr id z) := by
    rw [strOf_append, FrM.fr, N, show 84 - n = r by omega]
    rfl
  have z1 : (strOf [183, n, 0, 0]).size ≤ 100 := by rw [strOf_size]; show 4 ≤ 100; omega
  have z2 : (strOf (FrM.four id)).size ≤ 100 := by rw [strOf_size]; show 4 ≤ 100; omega
  have z3 : (strOf (FrM.head id n)).size ≤ 100 := by rw [strOf_size]; show 8 ≤ 100; omega
  have z4 : (strOf (FrM.four (FrM.chk id z))).size ≤ 100 := by rw [strOf_size]; show 4 ≤ 100; omega
  have z5 : (strOf (FrM.head id n ++ FrM.four (FrM.chk id z))).size ≤ 100 := by rw [strOf_size]; show 12 ≤ 100; omega
  have h13 : (strOf (FrM.head id n ++ FrM.four (FrM.chk id z) ++ z)).size = 12 + n := by
    rw [strOf_size, List.length_append, N]
    rfl
  have z6 : (strOf (zer r)).size ≤ 100 := by rw [strOf_size, zer_length]; omega
  have hsz : (strOf z).size = n := by rw [strOf_size, N]
  have hcv : ∀ W : World, (convert 32 9 (.slice (some ⟨W.heap.size, 0, none⟩) r r)).run Try.prog (W.alloc (.cells (bys (zer r)) 5)) = .ok (.string (strOf (zer r))) _ := fun W => by
    have := (slm_mark W (zer r) (0, 0) (zer_small r) (by rw [zer_length]; omega) _ rfl).conv r
    rwa [zer_length] at this
  generalize strOf (FrM.fr id z) = t96 at hcat5 ⊢
  generalize strOf (FrM.head id n ++ FrM.four (FrM.chk id z) ++ z) = t13 at hcat4 hcat5 h13
  generalize strOf (FrM.head id n ++ FrM.four (FrM.chk id z)) = t12 at hcat3 hcat4 z5
  generalize strOf (FrM.head id n ++ z) = ts at hcat2 HSUM
  generalize strOf (FrM.head id n) = th at hcat hcat2 hcat3 z3
  generalize strOf [183, n, 0, 0] = t1 at hcat HNEW z1
  generalize strOf (FrM.four id) = tf at hcat HF z2
  generalize FrM.chk id z = ck at HSUM HF2 hck hcat3 z4
  generalize strOf (FrM.four ck) = tc at hcat3 HF2 z4
  generalize strOf (zer r) = tz at hcat5 hcv z6
  generalize strOf z = s at hcat2 hcat4 hsz ⊢
  have hmk : ∀ W, (Instr.makeSlice 32 (.int .i64 (96 - (t13.size : Int))) (.int .i64 (96 - (t13.size : Int)))).run Try.prog W = .ok (.slice (some ⟨W.heap.size, 0, none⟩) r r) (W.alloc (.cells (bys (zer r)) 5)) := fun W => by
    rw [show (96 - (t13.size : Int)) = ((r : Nat) : Int) by omega]
    exact make_bytes W r (by omega)
  have y1 : s.size ≤ 64 := by omega
  have y2 : t13.size ≤ 96 := by omega
  have n1 : IntKind.u8.wrap (s.size : Int) = (n : Int) := by rw [IntKind.wrap_u8]; omega
  have n2 : ¬ (id : Int) < 0 := by omega
  have n3 : ¬ (4294967295 : Int) < (id : Int) := by omega
  have n4 : ¬ (64 : Int) < (s.size : Int) := by omega
  have n5 : IntKind.i64.wrap (ck : Int) = (ck : Int) := IntWalk.i64_in _ (by omega)
  have y3 : ¬ 9223372036854775807 < t1.size + tf.size := by omega
  have y4 : ¬ 9223372036854775807 < th.size + s.size := by omega
  have y5 : ¬ 9223372036854775807 < th.size + tc.size := by omega
  have y6 : ¬ 9223372036854775807 < t12.size + s.size := by omega
  have y7 : ¬ 9223372036854775807 < t13.size + tz.size := by omega
  clear h13 hsz hck hi hz hl N hr z1 z2 z3 z4 z5 z6
  go_enter Try.func49, Try.ntmps49
  have HR0 : Hid (Up Nul w w) := Up.refl _ _
  go_upto_region 3 with fail
  refine wp_region_held_drew (S := (fun W => Up Nul w W)) (by kernel_rfl) (by exact HR0.out.drew) (fun hHeld => ?_)
  refine wpAnyH_take (i := 0) (oi := ⟨some 18, _, _, _, _, _⟩) (v := ?vt1) rfl (by kernel_rfl) (by kernel_rfl) (by kernel_rfl) (fun _ _ _ h => h) (Or.inl ⟨by rfl, ?yt1⟩) (by assumption) ?rt1
  case yt1 => (intro w hSw; (try dsimp only at hSw); go_simp; try with_reducible rfl)
  try simp only [Act.put, List.setIfInBounds_toArray, List.set_cons_zero, List.set_cons_succ]
  refine wpAnyH_take (i := 1) (oi := ⟨some 19, _, _, _, _, _⟩) (v := ?vt2) rfl (by kernel_rfl) (by kernel_rfl) (by kernel_rfl) (fun _ _ _ h => h) (Or.inl ⟨by rfl, ?yt2⟩) (by assumption) ?rt2
  case yt2 => (intro w hSw; (try dsimp only at hSw); go_simp; try with_reducible rfl)
  try simp only [Act.put, List.setIfInBounds_toArray, List.set_cons_zero, List.set_cons_succ]
  refine wpAnyH_take (i := 2) (oi := ⟨some 20, _, _, _, _, _⟩) (v := ?vt3) rfl (by kernel_rfl) (by kernel_rfl) (by kernel_rfl) (fun _ _ _ h => h) (Or.inl ⟨by rfl, ?yt3⟩) (by assumption) ?rt3
  case yt3 => (intro w hSw; (try dsimp only at hSw); go_simp; try with_reducible rfl)
  try simp only [Act.put, List.setIfInBounds_toArray, List.set_cons_zero, List.set_cons_succ]
  refine wpAnyH_take (i := 5) (oi := ⟨some 23, _, _, _, _, _⟩) (v := ?vt4) rfl (by kernel_rfl) (by kernel_rfl) (by kernel_rfl) (fun _ _ _ h => h) (Or.inl ⟨by rfl, ?yt4⟩) (by assumption) ?rt4
  case yt4 => (intro w hSw; (try dsimp only at hSw); go_simp; try with_reducible rfl)
  try simp only [Act.put, List.setIfInBounds_toArray, List.set_cons_zero, List.set_cons_succ]
  refine wpAnyH_ready (rs := [3, 6]) (by kernel_rfl) (by simp) ?_
  refine (AllReadyH.cons (o := ⟨some 21, _, _, _, _, _⟩) rfl (fun K hK => ?_) (AllReadyH.cons (o := ⟨some 24, _, _, _, _, _⟩) rfl (fun K hK => ?_) AllReadyH.nil))
  · go_simp
    have UA : Hid (Up Nul w ((w.alloc (.cells #[.int .u8 183, .int .u8 (n : Nat), .int .u8 0, .int .u8 0] 5)).drew)) := (HR0.out.alloc _).drew; have HX : Hid (∀ W', Up Nul ((w.alloc (.cells #[.int .u8 183, .int .u8 (n : Nat), .int .u8 0, .int .u8 0] 5)).drew) W' → (convert 32 9 (.slice (some ⟨w.heap.size, 0, none⟩) 4 4)).run Try.prog W' = .ok (.string t1) W') := fun W' u => HNEW.out w _ rfl W' ((Up.refl _ _).drew.trans u); generalize (w.alloc (.cells #[.int .u8 183, .int .u8 (n : Nat), .int .u8 0, .int .u8 0] 5)).drew = wa at UA HX ⊢; generalize w.heap.size = q at HX ⊢; have hx := HX.out wa (Up.refl _ _)
    refine hK.out _ _ ?kt5x (fun hHeld => ?_)
    case kt5x => exact UA.out
    clear hK K
    try simp only [Act.put, List.setIfInBounds_toArray, List.set_cons_zero, List.set_cons_succ]
    have hHeldt5x1 : ((fun W => Up Nul wa W ∧ (convert 32 9 (.slice (some ⟨q, 0, none⟩) 4 4)).run Try.prog W = .ok (.string t1) W)) _ := ⟨Up.refl _ _, HX.out _ (Up.refl _ _)⟩
    refine wpAnyH_sub (S := (fun W => Up Nul wa W ∧ (convert 32 9 (.slice (some ⟨q, 0, none⟩) 4 4)).run Try.prog W = .ok (.string t1) W)) (fun W hW => UA.out.trans hW.1) ?_
    refine wpAnyH_take (i := 4) (oi := ⟨some 22, _, _, _, _, _⟩) (v := ?vt5x2) rfl (by kernel_rfl) (by kernel_rfl) (by kernel_rfl) (fun _ _ _ h => h) (Or.inl ⟨by rfl, ?yt5x2⟩) (by assumption) ?rt5x2
    case yt5x2 => (intro w hSw; (try dsimp only at hSw); go_simp; try with_reducible rfl)
    try simp only [Act.put, List.setIfInBounds_toArray, List.set_cons_zero, List.set_cons_succ]
    refine wpAnyH_ready (rs := [6]) (by kernel_rfl) (by simp) ?_
    refine AllReadyH.cons (o := ⟨some 24, _, _, _, _, _⟩) rfl (fun K hK => ?_) AllReadyH.nil
    go_simp
    refine (HF.out _).mono ?_; rintro e wb ⟨rfl, kb⟩; have KB := hid kb; clear kb; have UB := hid (UA.out.trans KB.out)
    refine hK.out _ _ ?kt5x3 (fun hHeld => ?_)
    case kt5x3 => exact ⟨KB.out, HX.out _ KB.out⟩
    clear hK K
    try simp only [Act.put, List.setIfInBounds_toArray, List.set_cons_zero, List.set_cons_succ]
    refine wpAnyH_take (i := 7) (oi := ⟨some 25, _, _, _, _, _⟩) (v := ?vt5x4) rfl (by kernel_rfl) (by kernel_rfl) (by kernel_rfl) (fun _ _ _ h => h) (Or.inl ⟨by rfl, ?yt5x4⟩) (by assumption) ?rt5x4
    case yt5x4 => (intro w hSw; (try dsimp only at hSw); go_simp; try with_reducible rfl)
    try simp only [Act.put, List.setIfInBounds_toArray, List.set_cons_zero, List.set_cons_succ]
    refine wpAnyH_take (i := 8) (oi := ⟨some 6, _, _, _, _, _⟩) (v := ?vt5x5) rfl (by kernel_rfl) (by kernel_rfl) (by kernel_rfl) (fun _ _ _ h => h) (Or.inl ⟨by rfl, ?yt5x5⟩) (by assumption) ?rt5x5
    case yt5x5 => (intro w hSw; (try dsimp only at hSw); go_simp; try with_reducible rfl)
    try simp only [Act.put, List.setIfInBounds_toArray, List.set_cons_zero, List.set_cons_succ]
    refine wpAnyH_done (by kernel_rfl) ?_ _
    go_wp2_with fail
    refine (HSUM.out _).mono ?_
    rintro e w4 ⟨rfl, rfl⟩
    go_wp2_with fail
    refine (HF2.out _).mono ?_
    rintro e w5 ⟨rfl, k5⟩
    have U5 := hid (UB.out.trans k5)
    have hm5 := hmk w5
    have hc5 := hcv w5
    have V5 := hid (U5.out.alloc (.cells (bys (zer r)) 5))
    clear k5 hmk hcv
    go_wp2
    go_ret2
    exact ⟨rfl, V5.out⟩
  · go_simp
    refine (HF.out _).mono ?_; rintro e wb ⟨rfl, kb⟩; have KB := hid kb; clear kb; have U6 := hid (HR0.out.drew.trans KB.out)
    refine hK.out _ _ ?kt5y (fun hHeld => ?_)
    case kt5y => exact U6.out
    clear hK K
    try simp only [Act.put, List.setIfInBounds_toArray, List.set_cons_zero, List.set_cons_succ]
    refine wpAnyH_ready (rs := [3]) (by kernel_rfl) (by simp) ?_
    refine AllReadyH.cons (o := ⟨some 21, _, _, _, _, _⟩) rfl (fun K hK => ?_) AllReadyH.nil
    go_simp
    have UA : Hid (Up Nul w (wb.alloc (.cells #[.int .u8 183, .int .u8 (n : Nat), .int .u8 0, .int .u8 0] 5))) := (U6.out.alloc _); have HX : Hid (∀ W', Up Nul (wb.alloc (.cells #[.int .u8 183, .int .u8 (n : Nat), .int .u8 0, .int .u8 0] 5)) W' → (convert 32 9 (.slice (some ⟨wb.heap.size, 0, none⟩) 4 4)).run Try.prog W' = .ok (.string t1) W') := fun W' u => HNEW.out wb _ rfl W' (u); generalize wb.alloc (.cells #[.int .u8 183, .int .u8 (n : Nat), .int .u8 0, .int .u8 0] 5) = wa at UA HX ⊢; generalize wb.heap.size = q at HX ⊢; have hx := HX.out wa (Up.refl _ _)
    refine hK.out _ _ ?kt5y1 (fun hHeld => ?_)
    case kt5y1 => exact UA.out
    clear hK K
    try simp only [Act.put, List.setIfInBounds_toArray, List.set_cons_zero, List.set_cons_succ]
    refine wpAnyH_ready (rs := [4]) (by kernel_rfl) (by simp) ?_
    refine AllReadyH.cons (o := ⟨some 22, _, _, _, _, _⟩) rfl (fun K hK => ?_) AllReadyH.nil
    go_simp
    skip
    refine hK.out _ _ ?kt5y2 (fun hHeld => ?_)
    case kt5y2 => exact UA.out
    clear hK K
    try simp only [Act.put, List.setIfInBounds_toArray, List.set_cons_zero, List.set_cons_succ]
    refine wpAnyH_ready (rs := [7]) (by kernel_rfl) (by simp) ?_
    refine AllReadyH.cons (o := ⟨some 25, _, _, _, _, _⟩) rfl (fun K hK => ?_) AllReadyH.nil
    go_simp
    skip
    refine hK.out _ _ ?kt5y3 (fun hHeld => ?_)
    case kt5y3 => exact UA.out
    clear hK K
    try simp only [Act.put, List.setIfInBounds_toArray, List.set_cons_zero, List.set_cons_succ]
    refine wpAnyH_ready (rs := [8]) (by kernel_rfl) (by simp) ?_
    refine AllReadyH.cons (o := ⟨some 6, _, _, _, _, _⟩) rfl (fun K hK => ?_) AllReadyH.nil
    go_simp
    have UB := hid UA.out
    refine hK.out _ _ ?kt5y4 (fun hHeld => ?_)
    case kt5y4 => exact UA.out
    clear hK K
    try simp only [Act.put, List.setIfInBounds_toArray, List.set_cons_zero, List.set_cons_succ]
    refine wpAnyH_done (by kernel_rfl) ?_ _
    go_wp2_with fail
    refine (HSUM.out _).mono ?_
    rintro e w4 ⟨rfl, rfl⟩
    go_wp2_with fail
    refine (HF2.out _).mono ?_
    rintro e w5 ⟨rfl, k5⟩
    have U5 := hid (UB.out.trans k5)
    have hm5 := hmk w5
    have hc5 := hcv w5
    have V5 := hid (U5.out.alloc (.cells (bys (zer r)) 5))
    clear k5 hmk hcv
    go_wp2
    go_ret2
    exact ⟨rfl, V5.out⟩
end Go.Proofs.Ytfmgbmpdifjliaa
