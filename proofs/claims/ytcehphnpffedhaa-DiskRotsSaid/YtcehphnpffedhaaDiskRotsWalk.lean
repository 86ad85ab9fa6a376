/- The law DiskRots, walked. -/
import Derived.Test.YtcehphnpffedhaaDiskLaw
namespace Go.Proofs.Ytcehphnpffedhaa
open Go.RowKit
set_option linter.unusedVariables false

theorem turn_length (z : List Nat) (t c : Nat) : (turn z t c).length = z.length := by simp [turn]
theorem turn_turn {z : List Nat} {t c : Nat} (ht : t < z.length) : turn (turn z t c) t c = z := by
  unfold turn
  rw [getD_set _ _ _ _ ht, if_pos rfl, Nat.xor_assoc, Nat.xor_self, Nat.xor_zero, List.set_set]
  apply ext_getD
  · simp
  · intro i hi
    rw [getD_set _ _ _ _ ht]
    split
    · next e => rw [e]
    · rfl
theorem Ks.set {w : World} {q : Nat} {z : List Nat} (h : Blk w q z) (i : Nat) (v : Value) : Ks (fun t => t = 5) w (w.setCell ⟨q, i, none⟩ v) := ⟨by simp, fun g A T fr e d => by
  rw [Below.heap_setCell]
  · exact e
  · rintro rfl
    have := h.heap
    rw [e] at this
    injection this with this
    injection this with _ this _
    exact d this⟩
theorem byte_dd : ∀ t, DD t → ¬ t = 5 := by
  intro t h e
  subst e
  exact dd_byte h
set_option maxRecDepth 100000 in
set_option maxHeartbeats 3200000 in
theorem rots_false_false (aa bb cc : Nat) (x : Int) (w : World) (ha : aa < 256) (hb : bb < 256) (hc : cc < 256) :
    Calls Try.prog 3 #[.int .u8 aa, .int .u8 bb, .int .i64 x, .int .u8 cc, .bool false, .bool false] w fun e w' => e = .returned (.bool true) ∧ Below w.heap.size w w' := by
  have HA8 := hid ha
  have HB8 := hid hb
  have HC8 := hid hc
  clear ha hb hc
  obtain ⟨k0, hk0, _⟩ := i64_mask8 x
  obtain ⟨r, hr, hr97⟩ := rem_lit k0 96 (by omega)
  have hr : (k0 : Int) % 96 = (r : Int) := hr
  have HR : Hid (r < 96) := hr97
  have hr2 : (r : Int) < 96 := by omega
  clear hr97
  go_enter Try.func3, Try.ntmps3
  go_wp2_with fail
  refine (newH_nil (Up.refl Nul w) 1 1 rfl).mono ?_
  rintro e w1 ⟨b, rfl, h1, h2⟩
  have H1 := hid h1
  have U1 := hid h2
  clear h1 h2
  go_wp2_with fail
  refine (fullH aa w1 HA8.out).mono ?_
  rintro e w2 ⟨q, rfl, k1, k2⟩
  have U2 := hid (U1.out.trans k2)
  go_wp2_with fail
  refine (writeH (s := 0) (H1.out.nxt k2) U2.out (by omega) (by decide) (by decide) k1 (ful_length aa)).mono ?_
  rintro e w3 ⟨rfl, h1, h2, _⟩
  clear k1 k2 U2
  clear H1 U1
  have H1 := hid h1
  have U1 := hid h2
  clear h1 h2
  go_wp2_with fail
  refine (syncH H1.out U1.out (by decide)).mono ?_
  rintro e w4 ⟨rfl, h1, h2, _⟩
  clear H1 U1
  have H1 := hid h1
  have U1 := hid h2
  clear h1 h2
  go_wp2_with fail
  refine (rotH (s := 0) (t := r) H1.out U1.out (by omega) HR.out HC8.out).mono ?_
  rintro e w5 ⟨rfl, h1, h2, x5⟩
  clear H1 U1
  have H1 := hid h1
  have U1 := hid h2
  clear h1 h2
  go_wp2_with fail
  refine (fullH bb w5 HB8.out).mono ?_
  rintro e w6 ⟨q, rfl, k1, k2⟩
  have U2 := hid (U1.out.trans k2)
  go_wp2_with fail
  refine (writeH (s := 0) (H1.out.nxt k2) U2.out (by omega) (by decide) (by simp) k1 (ful_length bb)).mono ?_
  rintro e w7 ⟨rfl, h1, h2, _⟩
  clear k1 k2 U2
  clear H1 U1
  have H1 := hid h1
  have U1 := hid h2
  clear h1 h2
  go_wp2_with fail
  refine (crashH H1.out U1.out 0 0).mono ?_
  rintro e w9 ⟨rfl, h1, h2, _⟩
  clear H1 U1
  have H1 := hid h1
  have U1 := hid h2
  clear h1 h2
  go_wp2_with fail
  refine (full_any aa w9 HA8.out).mono ?_
  rintro e w10 ⟨q, rfl, k1, k2, k3⟩
  have H2 := hid (H1.out.nxt k2)
  have U2 := hid (U1.out.trans k2)
  have K1 : Hid (Blk w10 q (ful aa) ∧ w.heap.size ≤ q) := ⟨k1, Nat.le_trans U1.out.size k3⟩
  clear k1 k2 k3 H1 U1
  obtain ⟨v, hv⟩ : ∃ v, v = (ful aa).getD r 0 := ⟨_, rfl⟩
  have v8 : v < 256 := by rw [hv]; exact ful_small aa r
  have x1 : w10.cell? ⟨q, r, none⟩ = some (.int .u8 (v : Nat)) := by rw [hv]; exact K1.out.1.cell r (by rw [ful_length]; exact HR.out)
  have x2 := K1.out.1.froz r
  have hxo := u8_xor_nat v cc v8 HC8.out
  have K2 : Hid (Blk (w10.setCell ⟨q, r, none⟩ (.int .u8 ((v ^^^ cc : Nat) : Int))) q (turn (ful aa) r cc)) := by
    have := K1.out.1.set r (v ^^^ cc) (xor_small v8 HC8.out)
    show Blk _ _ _
    unfold turn
    rw [← hv]
    exact this
  have H3 := hid (H2.out.ks (Ks.set K1.out.1 r (.int .u8 ((v ^^^ cc : Nat) : Int))) byte_dd)
  have U3 : Hid (Up Nul w (w10.setCell ⟨q, r, none⟩ (.int .u8 ((v ^^^ cc : Nat) : Int)))) := U2.out.setCell (.inl K1.out.2) _
  clear hv v8 H2 U2
  generalize v ^^^ cc = vc at hxo K2 H3 U3
  go_wp2_with fail
  generalize w10.setCell ⟨q, r, none⟩ (.int .u8 (vc : Int)) = w12 at K2 H3 U3 ⊢
  have HZ : Hid ((turn (ful aa) r cc).length = 96) := by show _ = _; rw [turn_length]; exact ful_length _
  obtain ⟨z, hz⟩ : ∃ z, turn (ful aa) r cc = z := ⟨_, rfl⟩
  have hr0 := hz
  rw [hz] at K2 HZ
  refine (readH (s := 0) H3.out (by omega)).mono ?_
  rintro e w13 ⟨a9, c9, rfl, k1⟩
  have k1 : Got w12 w13 a9 96 c9 z := by
    rw [← hz]
    exact k1
  have c1 := k1.sl.conv c9
  have K3 := hid (K2.out.up k1.up id)
  have c2 : (convert 26 9 (.slice (some ⟨q, 0, none⟩) 96 96)).run Try.prog w13 = .ok (.string (strOf z)) w13 := conv_row K3.out.whole HZ.out
  have HS : Hid (∀ W q', Blk W q' z → (convert 26 9 (.slice (some ⟨q', 0, none⟩) 96 96)).run Try.prog W = .ok (.string (strOf z)) W) := fun W q' h => conv_row h.whole HZ.out
  have HT : Hid (∀ W a c n, SlN W a n z → (convert 26 9 (.slice a n c)).run Try.prog W = .ok (.string (strOf z)) W) := fun W a c n h => h.conv c
  generalize strOf z = s at c1 c2 HS HT
  have q0 : (s.toList == s.toList) = true := by simp
  have H1 := hid (H3.out.nxt k1.up)
  have U1 := hid (U3.out.trans k1.up)
  clear k1 H3 U3 K1 K2 hr0
  go_wp2_with fail
  refine (rotH (s := 0) (t := r) H1.out U1.out (by omega) HR.out HC8.out).mono ?_
  rintro e w14 ⟨rfl, h1, h2, x14⟩
  have K3 := hid (x14.blk dd_byte K3.out)
  clear H1 U1
  have H1 := hid h1
  have U1 := hid h2
  clear h1 h2
  go_wp2_with fail
  refine (rotH (s := 0) (t := r) H1.out U1.out (by omega) HR.out HC8.out).mono ?_
  rintro e w15 ⟨rfl, h1, h2, x15⟩
  have K3 := hid (x15.blk dd_byte K3.out)
  clear H1 U1
  have H1 := hid h1
  have U1 := hid h2
  clear h1 h2
  go_wp2_with fail
  refine (readH (s := 0) H1.out (by omega)).mono ?_
  rintro e w16 ⟨a8, c8, rfl, k1⟩
  have k1 : Got w15 w16 a8 96 c8 z := by
    have e : turn (turn z r cc) r cc = z := turn_turn (by rw [HZ.out]; exact HR.out)
    rw [← e, ← hz]
    exact k1
  have c1 := HT.out w16 a8 c8 96 k1.sl
  have c2 := HS.out w16 q (K3.out.up k1.up id)
  have U2 := hid (U1.out.trans k1.up)
  clear k1 H1 U1 K3 HS HT hz
  go_wp2_with fail
  refine (blank_any _).mono ?_
  rintro e w17 ⟨rfl, kb⟩
  have hsz : (strOf (zer 96)).size = 96 := by rw [strOf_size, zer_length]
  generalize strOf (zer 96) = s3 at hsz
  have U3 := hid (U2.out.trans kb)
  clear kb U2
  go_wp2_with fail
  refine (awake_any _).mono ?_
  rintro e w18 ⟨rfl, kb⟩
  have U4 := hid (U3.out.trans kb)
  go_wp2
  go_ret
  exact ⟨rfl, U4.out.below (Nat.le_refl _) fun _ _ => id⟩
set_option maxRecDepth 100000 in
set_option maxHeartbeats 3200000 in
theorem rots_false_true (aa bb cc : Nat) (x : Int) (w : World) (ha : aa < 256) (hb : bb < 256) (hc : cc < 256) :
    Calls Try.prog 3 #[.int .u8 aa, .int .u8 bb, .int .i64 x, .int .u8 cc, .bool false, .bool true] w fun e w' => e = .returned (.bool true) ∧ Below w.heap.size w w' := by
  have HA8 := hid ha
  have HB8 := hid hb
  have HC8 := hid hc
  clear ha hb hc
  obtain ⟨k0, hk0, _⟩ := i64_mask8 x
  obtain ⟨r, hr, hr97⟩ := rem_lit k0 96 (by omega)
  have hr : (k0 : Int) % 96 = (r : Int) := hr
  have HR : Hid (r < 96) := hr97
  have hr2 : (r : Int) < 96 := by omega
  clear hr97
  go_enter Try.func3, Try.ntmps3
  go_wp2_with fail
  refine (newH_nil (Up.refl Nul w) 1 1 rfl).mono ?_
  rintro e w1 ⟨b, rfl, h1, h2⟩
  have H1 := hid h1
  have U1 := hid h2
  clear h1 h2
  go_wp2_with fail
  refine (fullH aa w1 HA8.out).mono ?_
  rintro e w2 ⟨q, rfl, k1, k2⟩
  have U2 := hid (U1.out.trans k2)
  go_wp2_with fail
  refine (writeH (s := 0) (H1.out.nxt k2) U2.out (by omega) (by decide) (by decide) k1 (ful_length aa)).mono ?_
  rintro e w3 ⟨rfl, h1, h2, _⟩
  clear k1 k2 U2
  clear H1 U1
  have H1 := hid h1
  have U1 := hid h2
  clear h1 h2
  go_wp2_with fail
  refine (syncH H1.out U1.out (by decide)).mono ?_
  rintro e w4 ⟨rfl, h1, h2, _⟩
  clear H1 U1
  have H1 := hid h1
  have U1 := hid h2
  clear h1 h2
  go_wp2_with fail
  refine (rotH (s := 0) (t := r) H1.out U1.out (by omega) HR.out HC8.out).mono ?_
  rintro e w5 ⟨rfl, h1, h2, x5⟩
  clear H1 U1
  have H1 := hid h1
  have U1 := hid h2
  clear h1 h2
  go_wp2_with fail
  refine (fullH bb w5 HB8.out).mono ?_
  rintro e w6 ⟨q, rfl, k1, k2⟩
  have U2 := hid (U1.out.trans k2)
  go_wp2_with fail
  refine (writeH (s := 0) (H1.out.nxt k2) U2.out (by omega) (by decide) (by simp) k1 (ful_length bb)).mono ?_
  rintro e w7 ⟨rfl, h1, h2, _⟩
  clear k1 k2 U2
  clear H1 U1
  have H1 := hid h1
  have U1 := hid h2
  clear h1 h2
  go_wp2_with fail
  refine (crashH H1.out U1.out 1 0).mono ?_
  rintro e w9 ⟨rfl, h1, h2, _⟩
  clear H1 U1
  have H1 := hid h1
  have U1 := hid h2
  clear h1 h2
  go_wp2_with fail
  refine (full_any aa w9 HA8.out).mono ?_
  rintro e w10 ⟨q, rfl, k1, k2, k3⟩
  have H2 := hid (H1.out.nxt k2)
  have U2 := hid (U1.out.trans k2)
  have K1 : Hid (Blk w10 q (ful aa) ∧ w.heap.size ≤ q) := ⟨k1, Nat.le_trans U1.out.size k3⟩
  clear k1 k2 k3 H1 U1
  go_wp2_with fail
  refine (full_any bb w10 HB8.out).mono ?_
  rintro e w11 ⟨q2, rfl, k1, k2, k3⟩
  have H2 := hid (H2.out.nxt k2)
  have K1 : Hid (Blk w11 q2 (ful bb) ∧ w.heap.size ≤ q2) := ⟨k1, Nat.le_trans U2.out.size k3⟩
  have U2 := hid (U2.out.trans k2)
  clear k1 k2 k3
  have K2 : Hid (Blk w11 q2 (ful bb)) := K1.out.1
  have H3 := hid H2.out
  have U3 := hid U2.out
  clear H2 U2
  go_wp2_with fail
  generalize w11 = w12 at K2 H3 U3 ⊢
  have HZ : Hid (((ful bb)).length = 96) := by show _ = _; exact ful_length _
  obtain ⟨z, hz⟩ : ∃ z, (ful bb) = z := ⟨_, rfl⟩
  have hr0 := hz
  rw [hz] at K2 HZ
  refine (readH (s := 0) H3.out (by omega)).mono ?_
  rintro e w13 ⟨a9, c9, rfl, k1⟩
  have k1 : Got w12 w13 a9 96 c9 z := by
    rw [← hz]
    exact k1
  have c1 := k1.sl.conv c9
  have K3 := hid (K2.out.up k1.up id)
  have c2 : (convert 26 9 (.slice (some ⟨q2, 0, none⟩) 96 96)).run Try.prog w13 = .ok (.string (strOf z)) w13 := conv_row K3.out.whole HZ.out
  have HS : Hid (∀ W q', Blk W q' z → (convert 26 9 (.slice (some ⟨q', 0, none⟩) 96 96)).run Try.prog W = .ok (.string (strOf z)) W) := fun W q' h => conv_row h.whole HZ.out
  have HT : Hid (∀ W a c n, SlN W a n z → (convert 26 9 (.slice a n c)).run Try.prog W = .ok (.string (strOf z)) W) := fun W a c n h => h.conv c
  generalize strOf z = s at c1 c2 HS HT
  have q0 : (s.toList == s.toList) = true := by simp
  have H1 := hid (H3.out.nxt k1.up)
  have U1 := hid (U3.out.trans k1.up)
  clear k1 H3 U3 K1 K2 hr0
  go_wp2_with fail
  refine (rotH (s := 0) (t := r) H1.out U1.out (by omega) HR.out HC8.out).mono ?_
  rintro e w14 ⟨rfl, h1, h2, x14⟩
  have K3 := hid (x14.blk dd_byte K3.out)
  clear H1 U1
  have H1 := hid h1
  have U1 := hid h2
  clear h1 h2
  go_wp2_with fail
  refine (rotH (s := 0) (t := r) H1.out U1.out (by omega) HR.out HC8.out).mono ?_
  rintro e w15 ⟨rfl, h1, h2, x15⟩
  have K3 := hid (x15.blk dd_byte K3.out)
  clear H1 U1
  have H1 := hid h1
  have U1 := hid h2
  clear h1 h2
  go_wp2_with fail
  refine (readH (s := 0) H1.out (by omega)).mono ?_
  rintro e w16 ⟨a8, c8, rfl, k1⟩
  have k1 : Got w15 w16 a8 96 c8 z := by
    have e : turn (turn z r cc) r cc = z := turn_turn (by rw [HZ.out]; exact HR.out)
    rw [← e, ← hz]
    exact k1
  have c1 := HT.out w16 a8 c8 96 k1.sl
  have c2 := HS.out w16 q2 (K3.out.up k1.up id)
  have U2 := hid (U1.out.trans k1.up)
  clear k1 H1 U1 K3 HS HT hz
  go_wp2_with fail
  refine (blank_any _).mono ?_
  rintro e w17 ⟨rfl, kb⟩
  have hsz : (strOf (zer 96)).size = 96 := by rw [strOf_size, zer_length]
  generalize strOf (zer 96) = s3 at hsz
  have U3 := hid (U2.out.trans kb)
  clear kb U2
  go_wp2_with fail
  refine (awake_any _).mono ?_
  rintro e w18 ⟨rfl, kb⟩
  have U4 := hid (U3.out.trans kb)
  go_wp2
  go_ret
  exact ⟨rfl, U4.out.below (Nat.le_refl _) fun _ _ => id⟩
set_option maxRecDepth 100000 in
set_option maxHeartbeats 3200000 in
theorem rots_true_false (aa bb cc : Nat) (x : Int) (w : World) (ha : aa < 256) (hb : bb < 256) (hc : cc < 256) :
    Calls Try.prog 3 #[.int .u8 aa, .int .u8 bb, .int .i64 x, .int .u8 cc, .bool true, .bool false] w fun e w' => e = .returned (.bool true) ∧ Below w.heap.size w w' := by
  have HA8 := hid ha
  have HB8 := hid hb
  have HC8 := hid hc
  clear ha hb hc
  obtain ⟨k0, hk0, _⟩ := i64_mask8 x
  obtain ⟨r, hr, hr97⟩ := rem_lit k0 96 (by omega)
  have hr : (k0 : Int) % 96 = (r : Int) := hr
  have HR : Hid (r < 96) := hr97
  have hr2 : (r : Int) < 96 := by omega
  clear hr97
  go_enter Try.func3, Try.ntmps3
  go_wp2_with fail
  refine (newH_nil (Up.refl Nul w) 1 1 rfl).mono ?_
  rintro e w1 ⟨b, rfl, h1, h2⟩
  have H1 := hid h1
  have U1 := hid h2
  clear h1 h2
  go_wp2_with fail
  refine (fullH aa w1 HA8.out).mono ?_
  rintro e w2 ⟨q, rfl, k1, k2⟩
  have U2 := hid (U1.out.trans k2)
  go_wp2_with fail
  refine (writeH (s := 0) (H1.out.nxt k2) U2.out (by omega) (by decide) (by decide) k1 (ful_length aa)).mono ?_
  rintro e w3 ⟨rfl, h1, h2, _⟩
  clear k1 k2 U2
  clear H1 U1
  have H1 := hid h1
  have U1 := hid h2
  clear h1 h2
  go_wp2_with fail
  refine (syncH H1.out U1.out (by decide)).mono ?_
  rintro e w4 ⟨rfl, h1, h2, _⟩
  clear H1 U1
  have H1 := hid h1
  have U1 := hid h2
  clear h1 h2
  go_wp2_with fail
  refine (fullH bb w4 HB8.out).mono ?_
  rintro e w6 ⟨q, rfl, k1, k2⟩
  have U2 := hid (U1.out.trans k2)
  go_wp2_with fail
  refine (writeH (s := 0) (H1.out.nxt k2) U2.out (by omega) (by decide) (by simp) k1 (ful_length bb)).mono ?_
  rintro e w7 ⟨rfl, h1, h2, _⟩
  clear k1 k2 U2
  clear H1 U1
  have H1 := hid h1
  have U1 := hid h2
  clear h1 h2
  go_wp2_with fail
  refine (rotH (s := 0) (t := r) H1.out U1.out (by omega) HR.out HC8.out).mono ?_
  rintro e w8 ⟨rfl, h1, h2, x8⟩
  clear H1 U1
  have H1 := hid h1
  have U1 := hid h2
  clear h1 h2
  go_wp2_with fail
  refine (crashH H1.out U1.out 0 0).mono ?_
  rintro e w9 ⟨rfl, h1, h2, _⟩
  clear H1 U1
  have H1 := hid h1
  have U1 := hid h2
  clear h1 h2
  go_wp2_with fail
  refine (full_any aa w9 HA8.out).mono ?_
  rintro e w10 ⟨q, rfl, k1, k2, k3⟩
  have H2 := hid (H1.out.nxt k2)
  have U2 := hid (U1.out.trans k2)
  have K1 : Hid (Blk w10 q (ful aa) ∧ w.heap.size ≤ q) := ⟨k1, Nat.le_trans U1.out.size k3⟩
  clear k1 k2 k3 H1 U1
  have K2 : Hid (Blk w10 q (ful aa)) := K1.out.1
  have H3 := hid H2.out
  have U3 := hid U2.out
  clear H2 U2
  go_wp2_with fail
  generalize w10 = w12 at K2 H3 U3 ⊢
  have HZ : Hid (((ful aa)).length = 96) := by show _ = _; exact ful_length _
  obtain ⟨z, hz⟩ : ∃ z, (ful aa) = z := ⟨_, rfl⟩
  have hr0 := hz
  rw [hz] at K2 HZ
  refine (readH (s := 0) H3.out (by omega)).mono ?_
  rintro e w13 ⟨a9, c9, rfl, k1⟩
  have k1 : Got w12 w13 a9 96 c9 z := by
    rw [← hz]
    exact k1
  have c1 := k1.sl.conv c9
  have K3 := hid (K2.out.up k1.up id)
  have c2 : (convert 26 9 (.slice (some ⟨q, 0, none⟩) 96 96)).run Try.prog w13 = .ok (.string (strOf z)) w13 := conv_row K3.out.whole HZ.out
  have HS : Hid (∀ W q', Blk W q' z → (convert 26 9 (.slice (some ⟨q', 0, none⟩) 96 96)).run Try.prog W = .ok (.string (strOf z)) W) := fun W q' h => conv_row h.whole HZ.out
  have HT : Hid (∀ W a c n, SlN W a n z → (convert 26 9 (.slice a n c)).run Try.prog W = .ok (.string (strOf z)) W) := fun W a c n h => h.conv c
  generalize strOf z = s at c1 c2 HS HT
  have q0 : (s.toList == s.toList) = true := by simp
  have H1 := hid (H3.out.nxt k1.up)
  have U1 := hid (U3.out.trans k1.up)
  clear k1 H3 U3 K1 K2 hr0
  go_wp2_with fail
  refine (rotH (s := 0) (t := r) H1.out U1.out (by omega) HR.out HC8.out).mono ?_
  rintro e w14 ⟨rfl, h1, h2, x14⟩
  have K3 := hid (x14.blk dd_byte K3.out)
  clear H1 U1
  have H1 := hid h1
  have U1 := hid h2
  clear h1 h2
  go_wp2_with fail
  refine (rotH (s := 0) (t := r) H1.out U1.out (by omega) HR.out HC8.out).mono ?_
  rintro e w15 ⟨rfl, h1, h2, x15⟩
  have K3 := hid (x15.blk dd_byte K3.out)
  clear H1 U1
  have H1 := hid h1
  have U1 := hid h2
  clear h1 h2
  go_wp2_with fail
  refine (readH (s := 0) H1.out (by omega)).mono ?_
  rintro e w16 ⟨a8, c8, rfl, k1⟩
  have k1 : Got w15 w16 a8 96 c8 z := by
    have e : turn (turn z r cc) r cc = z := turn_turn (by rw [HZ.out]; exact HR.out)
    rw [← e, ← hz]
    exact k1
  have c1 := HT.out w16 a8 c8 96 k1.sl
  have c2 := HS.out w16 q (K3.out.up k1.up id)
  have U2 := hid (U1.out.trans k1.up)
  clear k1 H1 U1 K3 HS HT hz
  go_wp2_with fail
  refine (blank_any _).mono ?_
  rintro e w17 ⟨rfl, kb⟩
  have hsz : (strOf (zer 96)).size = 96 := by rw [strOf_size, zer_length]
  generalize strOf (zer 96) = s3 at hsz
  have U3 := hid (U2.out.trans kb)
  clear kb U2
  go_wp2_with fail
  refine (awake_any _).mono ?_
  rintro e w18 ⟨rfl, kb⟩
  have U4 := hid (U3.out.trans kb)
  go_wp2
  go_ret
  exact ⟨rfl, U4.out.below (Nat.le_refl _) fun _ _ => id⟩
set_option maxRecDepth 100000 in
set_option maxHeartbeats 3200000 in
theorem rots_true_true (aa bb cc : Nat) (x : Int) (w : World) (ha : aa < 256) (hb : bb < 256) (hc : cc < 256) :
    Calls Try.prog 3 #[.int .u8 aa, .int .u8 bb, .int .i64 x, .int .u8 cc, .bool true, .bool true] w fun e w' => e = .returned (.bool true) ∧ Below w.heap.size w w' := by
  have HA8 := hid ha
  have HB8 := hid hb
  have HC8 := hid hc
  clear ha hb hc
  obtain ⟨k0, hk0, _⟩ := i64_mask8 x
  obtain ⟨r, hr, hr97⟩ := rem_lit k0 96 (by omega)
  have hr : (k0 : Int) % 96 = (r : Int) := hr
  have HR : Hid (r < 96) := hr97
  have hr2 : (r : Int) < 96 := by omega
  clear hr97
  go_enter Try.func3, Try.ntmps3
  go_wp2_with fail
  refine (newH_nil (Up.refl Nul w) 1 1 rfl).mono ?_
  rintro e w1 ⟨b, rfl, h1, h2⟩
  have H1 := hid h1
  have U1 := hid h2
  clear h1 h2
  go_wp2_with fail
  refine (fullH aa w1 HA8.out).mono ?_
  rintro e w2 ⟨q, rfl, k1, k2⟩
  have U2 := hid (U1.out.trans k2)
  go_wp2_with fail
  refine (writeH (s := 0) (H1.out.nxt k2) U2.out (by omega) (by decide) (by decide) k1 (ful_length aa)).mono ?_
  rintro e w3 ⟨rfl, h1, h2, _⟩
  clear k1 k2 U2
  clear H1 U1
  have H1 := hid h1
  have U1 := hid h2
  clear h1 h2
  go_wp2_with fail
  refine (syncH H1.out U1.out (by decide)).mono ?_
  rintro e w4 ⟨rfl, h1, h2, _⟩
  clear H1 U1
  have H1 := hid h1
  have U1 := hid h2
  clear h1 h2
  go_wp2_with fail
  refine (fullH bb w4 HB8.out).mono ?_
  rintro e w6 ⟨q, rfl, k1, k2⟩
  have U2 := hid (U1.out.trans k2)
  go_wp2_with fail
  refine (writeH (s := 0) (H1.out.nxt k2) U2.out (by omega) (by decide) (by simp) k1 (ful_length bb)).mono ?_
  rintro e w7 ⟨rfl, h1, h2, _⟩
  clear k1 k2 U2
  clear H1 U1
  have H1 := hid h1
  have U1 := hid h2
  clear h1 h2
  go_wp2_with fail
  refine (rotH (s := 0) (t := r) H1.out U1.out (by omega) HR.out HC8.out).mono ?_
  rintro e w8 ⟨rfl, h1, h2, x8⟩
  clear H1 U1
  have H1 := hid h1
  have U1 := hid h2
  clear h1 h2
  go_wp2_with fail
  refine (crashH H1.out U1.out 1 0).mono ?_
  rintro e w9 ⟨rfl, h1, h2, _⟩
  clear H1 U1
  have H1 := hid h1
  have U1 := hid h2
  clear h1 h2
  go_wp2_with fail
  refine (full_any aa w9 HA8.out).mono ?_
  rintro e w10 ⟨q, rfl, k1, k2, k3⟩
  have H2 := hid (H1.out.nxt k2)
  have U2 := hid (U1.out.trans k2)
  have K1 : Hid (Blk w10 q (ful aa) ∧ w.heap.size ≤ q) := ⟨k1, Nat.le_trans U1.out.size k3⟩
  clear k1 k2 k3 H1 U1
  go_wp2_with fail
  refine (full_any bb w10 HB8.out).mono ?_
  rintro e w11 ⟨q2, rfl, k1, k2, k3⟩
  have H2 := hid (H2.out.nxt k2)
  have K1 : Hid (Blk w11 q2 (ful bb) ∧ w.heap.size ≤ q2) := ⟨k1, Nat.le_trans U2.out.size k3⟩
  have U2 := hid (U2.out.trans k2)
  clear k1 k2 k3
  obtain ⟨v, hv⟩ : ∃ v, v = (ful bb).getD r 0 := ⟨_, rfl⟩
  have v8 : v < 256 := by rw [hv]; exact ful_small bb r
  have x1 : w11.cell? ⟨q2, r, none⟩ = some (.int .u8 (v : Nat)) := by rw [hv]; exact K1.out.1.cell r (by rw [ful_length]; exact HR.out)
  have x2 := K1.out.1.froz r
  have hxo := u8_xor_nat v cc v8 HC8.out
  have K2 : Hid (Blk (w11.setCell ⟨q2, r, none⟩ (.int .u8 ((v ^^^ cc : Nat) : Int))) q2 (turn (ful bb) r cc)) := by
    have := K1.out.1.set r (v ^^^ cc) (xor_small v8 HC8.out)
    show Blk _ _ _
    unfold turn
    rw [← hv]
    exact this
  have H3 := hid (H2.out.ks (Ks.set K1.out.1 r (.int .u8 ((v ^^^ cc : Nat) : Int))) byte_dd)
  have U3 : Hid (Up Nul w (w11.setCell ⟨q2, r, none⟩ (.int .u8 ((v ^^^ cc : Nat) : Int)))) := U2.out.setCell (.inl K1.out.2) _
  clear hv v8 H2 U2
  generalize v ^^^ cc = vc at hxo K2 H3 U3
  go_wp2_with fail
  generalize w11.setCell ⟨q2, r, none⟩ (.int .u8 (vc : Int)) = w12 at K2 H3 U3 ⊢
  have HZ : Hid ((turn (ful bb) r cc).length = 96) := by show _ = _; rw [turn_length]; exact ful_length _
  obtain ⟨z, hz⟩ : ∃ z, turn (ful bb) r cc = z := ⟨_, rfl⟩
  have hr0 := hz
  rw [hz] at K2 HZ
  refine (readH (s := 0) H3.out (by omega)).mono ?_
  rintro e w13 ⟨a9, c9, rfl, k1⟩
  have k1 : Got w12 w13 a9 96 c9 z := by
    rw [← hz]
    exact k1
  have c1 := k1.sl.conv c9
  have K3 := hid (K2.out.up k1.up id)
  have c2 : (convert 26 9 (.slice (some ⟨q2, 0, none⟩) 96 96)).run Try.prog w13 = .ok (.string (strOf z)) w13 := conv_row K3.out.whole HZ.out
  have HS : Hid (∀ W q', Blk W q' z → (convert 26 9 (.slice (some ⟨q', 0, none⟩) 96 96)).run Try.prog W = .ok (.string (strOf z)) W) := fun W q' h => conv_row h.whole HZ.out
  have HT : Hid (∀ W a c n, SlN W a n z → (convert 26 9 (.slice a n c)).run Try.prog W = .ok (.string (strOf z)) W) := fun W a c n h => h.conv c
  generalize strOf z = s at c1 c2 HS HT
  have q0 : (s.toList == s.toList) = true := by simp
  have H1 := hid (H3.out.nxt k1.up)
  have U1 := hid (U3.out.trans k1.up)
  clear k1 H3 U3 K1 K2 hr0
  go_wp2_with fail
  refine (rotH (s := 0) (t := r) H1.out U1.out (by omega) HR.out HC8.out).mono ?_
  rintro e w14 ⟨rfl, h1, h2, x14⟩
  have K3 := hid (x14.blk dd_byte K3.out)
  clear H1 U1
  have H1 := hid h1
  have U1 := hid h2
  clear h1 h2
  go_wp2_with fail
  refine (rotH (s := 0) (t := r) H1.out U1.out (by omega) HR.out HC8.out).mono ?_
  rintro e w15 ⟨rfl, h1, h2, x15⟩
  have K3 := hid (x15.blk dd_byte K3.out)
  clear H1 U1
  have H1 := hid h1
  have U1 := hid h2
  clear h1 h2
  go_wp2_with fail
  refine (readH (s := 0) H1.out (by omega)).mono ?_
  rintro e w16 ⟨a8, c8, rfl, k1⟩
  have k1 : Got w15 w16 a8 96 c8 z := by
    have e : turn (turn z r cc) r cc = z := turn_turn (by rw [HZ.out]; exact HR.out)
    rw [← e, ← hz]
    exact k1
  have c1 := HT.out w16 a8 c8 96 k1.sl
  have c2 := HS.out w16 q2 (K3.out.up k1.up id)
  have U2 := hid (U1.out.trans k1.up)
  clear k1 H1 U1 K3 HS HT hz
  go_wp2_with fail
  refine (blank_any _).mono ?_
  rintro e w17 ⟨rfl, kb⟩
  have hsz : (strOf (zer 96)).size = 96 := by rw [strOf_size, zer_length]
  generalize strOf (zer 96) = s3 at hsz
  have U3 := hid (U2.out.trans kb)
  clear kb U2
  go_wp2_with fail
  refine (awake_any _).mono ?_
  rintro e w18 ⟨rfl, kb⟩
  have U4 := hid (U3.out.trans kb)
  go_wp2
  go_ret
  exact ⟨rfl, U4.out.below (Nat.le_refl _) fun _ _ => id⟩
theorem rots_walk (x y z u : Int) (b k : Bool) (w : World) (hx : (Lit.int .u8 x).wf = true) (hy : (Lit.int .u8 y).wf = true) (hu : (Lit.int .u8 u).wf = true) :
    Calls Try.prog 3 #[.int .u8 x, .int .u8 y, .int .i64 z, .int .u8 u, .bool b, .bool k] w fun e w' => e = .returned (.bool true) ∧ Below w.heap.size w w' := by
  have h1 := bounds_u8 hx
  have h2 := bounds_u8 hy
  have h3 := bounds_u8 hu
  obtain ⟨a', rfl⟩ : ∃ a : Nat, x = a := ⟨x.toNat, by omega⟩
  obtain ⟨b', rfl⟩ : ∃ b : Nat, y = b := ⟨y.toNat, by omega⟩
  obtain ⟨c', rfl⟩ : ∃ c : Nat, u = c := ⟨u.toNat, by omega⟩
  cases b <;> cases k
  · exact rots_false_false a' b' c' z w (by omega) (by omega) (by omega)
  · exact rots_false_true a' b' c' z w (by omega) (by omega) (by omega)
  · exact rots_true_false a' b' c' z w (by omega) (by omega) (by omega)
  · exact rots_true_true a' b' c' z w (by omega) (by omega) (by omega)
end Go.Proofs.Ytcehphnpffedhaa
