/- The law MatInverts, walked. -/
import Derived.Test.YtickklohcingoaaMatTimesWalk
import Derived.Test.YtickklohcingoaaMatDouble
import Derived.Test.YtickklohcingoaaRefInvert2
namespace Go.Proofs.Ytickklohcingoaa
open Go.RowKit
set_option linter.unusedVariables false

/-- n & 0xff % 9 + 1. -/
theorem size9 (x : Int) : ∃ y n : Nat, bits .and .i64 x 255 = (y : Int) ∧ (y : Int).tmod 9 = (n : Int) - 1 ∧ (y : Int) % 9 = (n : Int) - 1 ∧ 1 ≤ n ∧ n ≤ 9 ∧ y < 256 := by
  obtain ⟨y, hy, h⟩ := i64_and255 x
  refine ⟨y, y % 9 + 1, hy, ?_, by omega, by omega, by omega, h⟩
  rw [Int.tmod_eq_emod_of_nonneg (by omega)]
  omega

set_option maxRecDepth 100000 in
theorem inverts_long (n0 k0 : Int) (a : Option Addr) (la ca : Nat) (d : Bool) (w : World) (h1 : 100 < la) :
    Calls Try.prog 7 #[.int .i64 n0, .int .i64 k0, .slice a la ca, .bool d] w fun e w' => e = .returned (.bool true) ∧ Below w.heap.size w w' := by
  go_enter Try.func7, Try.ntmps7
  go_wp2_with ((go_at_call 16; (with_reducible refine (awakeL (LS.start w)).mono ?_); rintro e w1 ⟨rfl, k1⟩; have K := hid ((LS.start w).nxt k1); clear k1))
  go_ret
  exact ⟨rfl, K.out.below⟩

theorem make1O {w0 w : World} {FS : List Nat} {r c n cap : Nat} {a : Option Addr} {z : List Nat} (h : LS w0 FS w) (r1 : 1 ≤ r) (hr : r ≤ 10) (c1 : 1 ≤ c) (hc : c ≤ 10) (hz : SlN w a n z) :
    Calls Try.prog 17 #[.int .i64 r, .int .i64 c, .slice a n cap] w
      fun e w' => ∃ g cap', e = .returned (.agg #[.int .i64 r, .int .i64 c, .slice (some ⟨g, 0, none⟩) (r * c) cap']) ∧ OwnB w.heap.size w' (.slice (some ⟨g, 0, none⟩) (r * c) cap') (tab (r * c) (mk1 z)) ∧ r * c ≤ cap' ∧ w.heap.size ≤ g ∧ g < w'.heap.size ∧ Nxt FS w w' := by
  refine (make1_any r c n cap a z w hr hc hz).mono ?_
  rintro e w' ⟨v, rfl, h1, h2⟩
  have hp := Nat.mul_le_mul r1 c1
  obtain ⟨g, cap', rfl, g1, g2, g3, g4, g5⟩ := h1.row (by rw [tab_length]; omega)
  rw [tab_length] at g5 h1
  rw [tab_length]
  exact ⟨g, cap', rfl, h1, g5, g1, g2, h.nul h2⟩
/-- A row of the law's own turns. -/
theorem LS.fresh1 {w0 w w' : World} {g : Nat} (h : LS w0 [] w) (u : Up (One g) w w') (hg : w0.heap.size ≤ g) : LS w0 [] w' :=
  ⟨⟨u.os.trans h.up.os, u.tape.trans h.up.tape, u.output.trans h.up.output, Nat.le_trans h.up.size u.size, fun k hk hs => (u.block k (Nat.lt_of_lt_of_le hk h.up.size) (fun e => by unfold One at e; omega)).trans (h.up.block k hk hs)⟩, fun _ h => (List.not_mem_nil h).elim, fun _ h => (List.not_mem_nil h).elim⟩
theorem LT.fresh1 {w w' : World} {g M r c : Nat} {v : Value} (h : LT [] w M r c v) (u : Up (One g) w w') (hg : M ≠ g) : LT [] w' M r c v := ⟨h.st.up u hg, h.b⟩
theorem LR.own {base n cap g : Nat} {w : World} {z : List Nat} (h : OwnB base w (.slice (some ⟨g, 0, none⟩) n cap) z) (h0 : 0 < z.length) : LR [] w g 0 z := by
  obtain ⟨g', cap', e, g1, g2, g3, g4, g5⟩ := h.row h0
  cases e
  exact ⟨g3, g2, fun h => (List.not_mem_nil h).elim⟩

theorem refInvertL {w0 w : World} {FS : List Nat} {n ga na ca : Nat} {z : List Nat} (h : LS w0 FS w) (n1 : 1 ≤ n) (n2 : n ≤ 32) (h1 : LR FS w ga 0 z) (hna : na = n * n) (hz : z.length = na) (hzs : ∀ x ∈ z, x < 256) :
    Calls Try.prog 24 #[.agg #[.int .i64 n, .int .i64 n, .slice (some ⟨ga, 0, none⟩) na ca]] w
      fun e w' => Nxt FS w w' ∧ ((GfM.run n (GfM.beside n (cz n z)) n = none ∧ e = .returned (.tuple #[.agg #[.int .i64 0, .int .i64 0, .slice none 0 0], .bool false])) ∨
        ∃ M gb, GfM.run n (GfM.beside n (cz n z)) n = some M ∧ e = .returned (.tuple #[.agg #[.int .i64 n, .int .i64 n, .slice (some ⟨gb, 0, none⟩) (n * n) (n * n)], .bool true]) ∧
          LR FS w' gb 0 (tab (n * n) fun t => GfM.half n M (t / n) (t % n))) := by
  refine (refInvert_any n ga na ca z w n1 n2 h1.row h1.lt hna hz hzs).mono ?_
  rintro e w' ⟨h2, h3 | ⟨M, gb, h3, h4, h5, h6, h7⟩⟩
  · exact ⟨h.nul h2, .inl h3⟩
  · exact ⟨h.nul h2, .inr ⟨M, gb, h3, h4, h7, h6, h.lt h5⟩⟩

set_option maxRecDepth 100000 in
set_option maxHeartbeats 6400000 in
theorem inverts_wide_no (n0 k0 : Int) (yn n yk : Nat) (hn : bits .and .i64 n0 255 = (yn : Int)) (hn1 : (yn : Int).tmod 9 = (n : Int) - 1) (hn2 : (yn : Int) % 9 = (n : Int) - 1) (n1 : 1 ≤ n) (n9 : n ≤ 9) (yn8 : yn < 256)
    (k : Nat) (hk : bits .and .i64 k0 255 = (yk : Int)) (hk1 : (yk : Int).tmod 9 = (k : Int) - 1) (hk2 : (yk : Int) % 9 = (k : Int) - 1) (k1 : 1 ≤ k) (k9 : k ≤ 9) (yk8 : yk < 256) (hodd : k % 2 = 1) (hnk : n ≠ k)
    (a : Option Addr) (la ca : Nat) (za : List Nat) (w : World) (ha : SlN w a la za) (h8 : ∀ i, za.getD i 0 < 256) (la1 : la ≤ 100) :
    Calls Try.prog 7 #[.int .i64 n0, .int .i64 k0, .slice a la ca, .bool false] w fun e w' => e = .returned (.bool true) ∧ Below w.heap.size w w' := by
  have hnot : ∀ (x : Bool) (w : World), (Op.unary .not (.bool x)).run Try.prog w = .ok (.bool (!x)) w := fun _ _ => rfl
  have hb := odd_yes k (by omega) hodd
  have hd1 : ((n : Int) == (k : Int)) = false := by simp; omega
  have hd2 : ((n : Int) != (k : Int)) = true := by simp; omega
  have HA := hid ha
  have H8 := hid h8
  clear ha h8
  go_enter Try.func7, Try.ntmps7
  go_wp2_with fail
  refine (make1O (LS.start w) n1 (by omega) k1 (by omega) HA.out).mono ?_
  rintro e w1 ⟨g, cap1, rfl, r1, cle, gl, gu, m1⟩
  obtain ⟨z, Z⟩ : ∃ x, x = tab (n * k) (mk1 za) := ⟨_, rfl⟩
  have L1 : Hid (z.length = n * k) := by show _ = _; rw [Z]; exact tab_length _ _
  have S1 : Hid (∀ x ∈ z, x < 256) := by show ∀ x ∈ z, _; rw [Z]; exact mk1_small H8.out _
  have HP : Hid (0 < z.length) := by show 0 < _; rw [L1.out]; exact Nat.mul_pos n1 k1
  rw [← Z] at r1
  clear Z H8
  have hls := (LS.start w).nxt m1
  have hx := LT.new hls n k (.slice (some ⟨g, 0, none⟩) (n * k) cap1) 35
  have hal := hls.alloc (.cells #[.int .i64 n, .int .i64 k, (.slice (some ⟨g, 0, none⟩) (n * k) cap1)] 35)
  have H := hid (And.intro (hls.nxt hal) (And.intro hx (r1.alloc (.cells #[.int .i64 n, .int .i64 k, (.slice (some ⟨g, 0, none⟩) (n * k) cap1)] 35))))
  have HG : Hid (w1.heap.size ≠ g ∧ w.heap.size ≤ g) := ⟨by omega, gl⟩
  clear hls hx hal r1 m1 cle gl gu
  go_wp2_with fail
  generalize w1.alloc (.cells #[.int .i64 n, .int .i64 k, (.slice (some ⟨g, 0, none⟩) (n * k) cap1)] 35) = w2 at *
  generalize w1.heap.size = X at *
  have s2 := H.out.2.1.st.c2
  have hrow := LR.own H.out.2.2 HP.out
  have HD : Hid (LS w [] w2.drew ∧ LT [] w2.drew X n k (.slice (some ⟨g, 0, none⟩) (n * k) cap1) ∧ LR [] w2.drew g 0 z) := ⟨H.out.1.nxt H.out.1.drew, H.out.2.1.nxt H.out.1.drew, hrow.nxt H.out.1.drew⟩
  clear hrow
  go_region_held3 (fun w' => w'.cell? ⟨X, 2, none⟩ = some (.slice (some ⟨g, 0, none⟩) (n * k) cap1)) (first | assumption | go_keep)
    ((first
      | (go_at_call 9; (with_reducible refine (gfNewF _).mono ?_); rintro e w3 ⟨F1, rfl, k3⟩; have H3 := hid (And.intro (HD.out.1.newF k3) (And.intro (HD.out.2.1.newF k3) (HD.out.2.2.newF k3))); have s3 := H3.out.2.1.st.c2; clear k3)
      | (go_at_call 11; (with_reducible refine (newL H3.out.1 (List.mem_cons_self ..) n1 (by omega) k1 (by omega) H3.out.2.2 L1.out rfl).mono ?_); rintro e w4 ⟨p1, q1, rfl, m4, k4⟩; have H4 := hid (And.intro m4 (And.intro (H3.out.1.nxt k4) (And.intro (H3.out.2.1.nxt k4) (H3.out.2.2.nxt k4)))); have s4 := H4.out.2.2.1.st.c2; clear k4 m4)))
  clear s2 s3 s4 H HD H3
  go_wp2_with fail
  refine (invert_bad p1 q1 F1 n k _ w4 H4.out.1.mat hnk).mono ?_
  rintro e w5 ⟨rfl, d5, E5⟩
  have hn5 : Nxt [F1] w4 w5 := by rw [E5]; exact H4.out.2.1.drewN d5
  have H5 := hid (H4.out.2.1.nxt hn5)
  clear hn5 E5 H4
  go_wp2_with fail
  refine (awakeL H5.out).mono ?_
  rintro e w6 ⟨rfl, k6⟩
  have H6 := hid (H5.out.nxt k6)
  clear k6 H5
  go_wp2
  go_ret
  exact ⟨rfl, H6.out.below⟩

set_option maxRecDepth 100000 in
set_option maxHeartbeats 6400000 in
theorem inverts_wide_one (n0 k0 : Int) (yn n yk : Nat) (hn : bits .and .i64 n0 255 = (yn : Int)) (hn1 : (yn : Int).tmod 9 = (n : Int) - 1) (hn2 : (yn : Int) % 9 = (n : Int) - 1) (n1 : 1 ≤ n) (n9 : n ≤ 9) (yn8 : yn < 256)
    (k : Nat) (hk : bits .and .i64 k0 255 = (yk : Int)) (hk1 : (yk : Int).tmod 9 = (k : Int) - 1) (hk2 : (yk : Int) % 9 = (k : Int) - 1) (k1 : 1 ≤ k) (k9 : k ≤ 9) (yk8 : yk < 256) (hodd : k % 2 = 1) (hnk : n ≠ k) (n2 : n ≤ 1)
    (a : Option Addr) (la ca : Nat) (za : List Nat) (w : World) (ha : SlN w a la za) (h8 : ∀ i, za.getD i 0 < 256) (la1 : la ≤ 100) :
    Calls Try.prog 7 #[.int .i64 n0, .int .i64 k0, .slice a la ca, .bool true] w fun e w' => e = .returned (.bool true) ∧ Below w.heap.size w w' := by
  have hnot : ∀ (x : Bool) (w : World), (Op.unary .not (.bool x)).run Try.prog w = .ok (.bool (!x)) w := fun _ _ => rfl
  have hb := odd_yes k (by omega) hodd
  have hd1 : ((n : Int) == (k : Int)) = false := by simp; omega
  have hd2 : ((n : Int) != (k : Int)) = true := by simp; omega
  have HA := hid ha
  have H8 := hid h8
  clear ha h8
  go_enter Try.func7, Try.ntmps7
  go_wp2_with fail
  refine (make1O (LS.start w) n1 (by omega) k1 (by omega) HA.out).mono ?_
  rintro e w1 ⟨g, cap1, rfl, r1, cle, gl, gu, m1⟩
  obtain ⟨z, Z⟩ : ∃ x, x = tab (n * k) (mk1 za) := ⟨_, rfl⟩
  have L1 : Hid (z.length = n * k) := by show _ = _; rw [Z]; exact tab_length _ _
  have S1 : Hid (∀ x ∈ z, x < 256) := by show ∀ x ∈ z, _; rw [Z]; exact mk1_small H8.out _
  have HP : Hid (0 < z.length) := by show 0 < _; rw [L1.out]; exact Nat.mul_pos n1 k1
  rw [← Z] at r1
  clear Z H8
  have hls := (LS.start w).nxt m1
  have hx := LT.new hls n k (.slice (some ⟨g, 0, none⟩) (n * k) cap1) 35
  have hal := hls.alloc (.cells #[.int .i64 n, .int .i64 k, (.slice (some ⟨g, 0, none⟩) (n * k) cap1)] 35)
  have H := hid (And.intro (hls.nxt hal) (And.intro hx (r1.alloc (.cells #[.int .i64 n, .int .i64 k, (.slice (some ⟨g, 0, none⟩) (n * k) cap1)] 35))))
  have HG : Hid (w1.heap.size ≠ g ∧ w.heap.size ≤ g) := ⟨by omega, gl⟩
  clear hls hx hal r1 m1 cle gl gu
  go_wp2_with fail
  generalize w1.alloc (.cells #[.int .i64 n, .int .i64 k, (.slice (some ⟨g, 0, none⟩) (n * k) cap1)] 35) = w2 at *
  generalize w1.heap.size = X at *
  have s2 := H.out.2.1.st.c2
  have hrow := LR.own H.out.2.2 HP.out
  have HD : Hid (LS w [] w2.drew ∧ LT [] w2.drew X n k (.slice (some ⟨g, 0, none⟩) (n * k) cap1) ∧ LR [] w2.drew g 0 z) := ⟨H.out.1.nxt H.out.1.drew, H.out.2.1.nxt H.out.1.drew, hrow.nxt H.out.1.drew⟩
  clear hrow
  go_region_held3 (fun w' => w'.cell? ⟨X, 2, none⟩ = some (.slice (some ⟨g, 0, none⟩) (n * k) cap1)) (first | assumption | go_keep)
    ((first
      | (go_at_call 9; (with_reducible refine (gfNewF _).mono ?_); rintro e w3 ⟨F1, rfl, k3⟩; have H3 := hid (And.intro (HD.out.1.newF k3) (And.intro (HD.out.2.1.newF k3) (HD.out.2.2.newF k3))); have s3 := H3.out.2.1.st.c2; clear k3)
      | (go_at_call 11; (with_reducible refine (newL H3.out.1 (List.mem_cons_self ..) n1 (by omega) k1 (by omega) H3.out.2.2 L1.out rfl).mono ?_); rintro e w4 ⟨p1, q1, rfl, m4, k4⟩; have H4 := hid (And.intro m4 (And.intro (H3.out.1.nxt k4) (And.intro (H3.out.2.1.nxt k4) (H3.out.2.2.nxt k4)))); have s4 := H4.out.2.2.1.st.c2; clear k4 m4)))
  clear s2 s3 s4 H HD H3
  go_wp2_with fail
  refine (invert_bad p1 q1 F1 n k _ w4 H4.out.1.mat hnk).mono ?_
  rintro e w5 ⟨rfl, d5, E5⟩
  have hn5 : Nxt [F1] w4 w5 := by rw [E5]; exact H4.out.2.1.drewN d5
  have H5 := hid (H4.out.2.1.nxt hn5)
  clear hn5 E5 H4
  go_wp2_with fail
  refine (awakeL H5.out).mono ?_
  rintro e w6 ⟨rfl, k6⟩
  have H6 := hid (H5.out.nxt k6)
  clear k6 H5
  go_wp2
  go_ret
  exact ⟨rfl, H6.out.below⟩

set_option maxRecDepth 100000 in
set_option maxHeartbeats 6400000 in
theorem inverts_wide_yes (n0 k0 : Int) (yn n yk : Nat) (hn : bits .and .i64 n0 255 = (yn : Int)) (hn1 : (yn : Int).tmod 9 = (n : Int) - 1) (hn2 : (yn : Int) % 9 = (n : Int) - 1) (n1 : 1 ≤ n) (n9 : n ≤ 9) (yn8 : yn < 256)
    (k : Nat) (hk : bits .and .i64 k0 255 = (yk : Int)) (hk1 : (yk : Int).tmod 9 = (k : Int) - 1) (hk2 : (yk : Int) % 9 = (k : Int) - 1) (k1 : 1 ≤ k) (k9 : k ≤ 9) (yk8 : yk < 256) (hodd : k % 2 = 1) (hnk : n ≠ k) (n2 : 2 ≤ n)
    (a : Option Addr) (la ca : Nat) (za : List Nat) (w : World) (ha : SlN w a la za) (h8 : ∀ i, za.getD i 0 < 256) (la1 : la ≤ 100) :
    Calls Try.prog 7 #[.int .i64 n0, .int .i64 k0, .slice a la ca, .bool true] w fun e w' => e = .returned (.bool true) ∧ Below w.heap.size w w' := by
  have hnot : ∀ (x : Bool) (w : World), (Op.unary .not (.bool x)).run Try.prog w = .ok (.bool (!x)) w := fun _ _ => rfl
  have hb := odd_yes k (by omega) hodd
  have hd1 : ((n : Int) == (k : Int)) = false := by simp; omega
  have hd2 : ((n : Int) != (k : Int)) = true := by simp; omega
  have HA := hid ha
  have H8 := hid h8
  clear ha h8
  go_enter Try.func7, Try.ntmps7
  go_wp2_with fail
  refine (make1O (LS.start w) n1 (by omega) k1 (by omega) HA.out).mono ?_
  rintro e w1 ⟨g, cap1, rfl, r1, cle, gl, gu, m1⟩
  obtain ⟨z, Z⟩ : ∃ x, x = tab (n * k) (mk1 za) := ⟨_, rfl⟩
  have L1 : Hid (z.length = n * k) := by show _ = _; rw [Z]; exact tab_length _ _
  have S1 : Hid (∀ x ∈ z, x < 256) := by show ∀ x ∈ z, _; rw [Z]; exact mk1_small H8.out _
  have HP : Hid (0 < z.length) := by show 0 < _; rw [L1.out]; exact Nat.mul_pos n1 k1
  rw [← Z] at r1
  clear Z H8
  have hls := (LS.start w).nxt m1
  have hx := LT.new hls n k (.slice (some ⟨g, 0, none⟩) (n * k) cap1) 35
  have hal := hls.alloc (.cells #[.int .i64 n, .int .i64 k, (.slice (some ⟨g, 0, none⟩) (n * k) cap1)] 35)
  have H := hid (And.intro (hls.nxt hal) (And.intro hx (r1.alloc (.cells #[.int .i64 n, .int .i64 k, (.slice (some ⟨g, 0, none⟩) (n * k) cap1)] 35))))
  have HG : Hid (w1.heap.size ≠ g ∧ w.heap.size ≤ g) := ⟨by omega, gl⟩
  have h2k : k + k ≤ n * k := by have := Nat.mul_le_mul_right k n2; omega
  have HK2 := hid h2k
  obtain ⟨m2, M2⟩ : ∃ x : Nat, x = k + k := ⟨_, rfl⟩
  have em : (2 : Int) * (k : Int) = (m2 : Int) := by omega
  have hc1 : k ≤ cap1 := by omega
  have hc2 : m2 ≤ cap1 := by omega
  have hm1 : k ≤ m2 := by omega
  have hc3 : ¬ cap1 = k := by omega
  have hm9 : m2 ≤ 18 := by omega
  have z0 : (0 : Int) ≤ (k : Int) := by omega
  have z1 : (k : Int) ≤ (m2 : Int) := by omega
  have z2 : (m2 : Int) ≤ (cap1 : Int) := by omega
  have z3 : (k : Int) ≤ (cap1 : Int) := by omega
  have z4 : IntKind.i64.wrap (m2 : Int) = (m2 : Int) := IntWalk.i64_in _ (by omega)
  have z5 : (0 : Int) ≤ (m2 : Int) := by omega
  have HM := hid M2
  clear M2 h2k
  clear hls hx hal r1 m1 cle gl gu
  go_wp2_with fail
  generalize w1.alloc (.cells #[.int .i64 n, .int .i64 k, (.slice (some ⟨g, 0, none⟩) (n * k) cap1)] 35) = w2 at *
  generalize w1.heap.size = X at *
  have s2 := H.out.2.1.st.c2
  have HQ : Hid (LS w [] w2.drew ∧ LT [] w2.drew X n k (.slice (some ⟨g, 0, none⟩) (n * k) cap1) ∧ OwnB w.heap.size w2.drew (.slice (some ⟨g, 0, none⟩) (n * k) cap1) z) := ⟨H.out.1.nxt H.out.1.drew, H.out.2.1.nxt H.out.1.drew, H.out.2.2.up H.out.1.drew.up fun _ _ h => (List.not_mem_nil h).elim⟩
  go_region_held3 (fun w' => w'.cell? ⟨X, 2, none⟩ = some (.slice (some ⟨g, 0, none⟩) (n * k) cap1)) (first | assumption | go_keep)
    ((first | ((with_reducible refine step_copy_own rfl (.tmp 50) (.tmp 54) rfl w.heap.size g (n * k) cap1 k _ _ _ z HQ.out.2.2 L1.out HK2.out (by omega) (by have := HM.out; omega) rfl rfl ?_); intro wc O1 U1; have d2 := (U1.out.cell (p := ⟨X, 2, none⟩) (lt_of_cell HQ.out.2.1.st.c2) HG.out.1).trans HQ.out.2.1.st.c2)))
  have hlo : (over z k (z.take k)).length = z.length := over_length (by rw [List.length_take]; have := L1.out; have := HK2.out; omega)
  have L2 : Hid ((over z k (z.take k)).length = n * k) := by show _ = _; rw [hlo]; exact L1.out
  have S2 : Hid (∀ x ∈ over z k (z.take k), x < 256) := O1.out.small
  have H0 : Hid (LS w [] wc ∧ LT [] wc X n k (.slice (some ⟨g, 0, none⟩) (n * k) cap1) ∧ LR [] wc g 0 (over z k (z.take k))) := ⟨HQ.out.1.fresh1 U1.out HG.out.2, HQ.out.2.1.fresh1 U1.out HG.out.1, LR.own O1.out (by rw [hlo]; exact HP.out)⟩
  generalize over z k (z.take k) = zz at *
  clear s2 H HQ O1 U1 hlo L1 S1 HP HK2 d2
  go_wp2_with fail
  have s2 := H0.out.2.1.st.c2
  have HD : Hid (LS w [] wc.drew ∧ LT [] wc.drew X n k (.slice (some ⟨g, 0, none⟩) (n * k) cap1) ∧ LR [] wc.drew g 0 zz) := ⟨H0.out.1.nxt H0.out.1.drew, H0.out.2.1.nxt H0.out.1.drew, H0.out.2.2.nxt H0.out.1.drew⟩
  have L1 := L2
  have S1 := S2
  have H := H0
  clear H0 L2 S2
  go_region_held3 (fun w' => w'.cell? ⟨X, 2, none⟩ = some (.slice (some ⟨g, 0, none⟩) (n * k) cap1)) (first | assumption | go_keep)
    ((first
      | (go_at_call 9; (with_reducible refine (gfNewF _).mono ?_); rintro e w3 ⟨F1, rfl, k3⟩; have H3 := hid (And.intro (HD.out.1.newF k3) (And.intro (HD.out.2.1.newF k3) (HD.out.2.2.newF k3))); have s3 := H3.out.2.1.st.c2; clear k3)
      | (go_at_call 11; (with_reducible refine (newL H3.out.1 (List.mem_cons_self ..) n1 (by omega) k1 (by omega) H3.out.2.2 L1.out rfl).mono ?_); rintro e w4 ⟨p1, q1, rfl, m4, k4⟩; have H4 := hid (And.intro m4 (And.intro (H3.out.1.nxt k4) (And.intro (H3.out.2.1.nxt k4) (H3.out.2.2.nxt k4)))); have s4 := H4.out.2.2.1.st.c2; clear k4 m4)))
  clear s2 s3 s4 H HD H3
  go_wp2_with fail
  refine (invert_bad p1 q1 F1 n k _ w4 H4.out.1.mat hnk).mono ?_
  rintro e w5 ⟨rfl, d5, E5⟩
  have hn5 : Nxt [F1] w4 w5 := by rw [E5]; exact H4.out.2.1.drewN d5
  have H5 := hid (H4.out.2.1.nxt hn5)
  clear hn5 E5 H4
  go_wp2_with fail
  refine (awakeL H5.out).mono ?_
  rintro e w6 ⟨rfl, k6⟩
  have H6 := hid (H5.out.nxt k6)
  clear k6 H5
  go_wp2
  go_ret
  exact ⟨rfl, H6.out.below⟩

set_option maxRecDepth 100000 in
set_option maxHeartbeats 6400000 in
theorem inverts_odd_no (n0 k0 : Int) (yn n yk : Nat) (hn : bits .and .i64 n0 255 = (yn : Int)) (hn1 : (yn : Int).tmod 9 = (n : Int) - 1) (hn2 : (yn : Int) % 9 = (n : Int) - 1) (n1 : 1 ≤ n) (n9 : n ≤ 9) (yn8 : yn < 256)
    (hk : bits .and .i64 k0 255 = (yk : Int)) (hk1 : (yk : Int).tmod 9 = (n : Int) - 1) (hk2 : (yk : Int) % 9 = (n : Int) - 1) (yk8 : yk < 256) (hodd : n % 2 = 1)
    (a : Option Addr) (la ca : Nat) (za : List Nat) (w : World) (ha : SlN w a la za) (h8 : ∀ i, za.getD i 0 < 256) (la1 : la ≤ 100) :
    Calls Try.prog 7 #[.int .i64 n0, .int .i64 k0, .slice a la ca, .bool false] w fun e w' => e = .returned (.bool true) ∧ Below w.heap.size w w' := by
  have hnot : ∀ (x : Bool) (w : World), (Op.unary .not (.bool x)).run Try.prog w = .ok (.bool (!x)) w := fun _ _ => rfl
  have hb := odd_yes n (by omega) hodd
  have hd2 : ((n : Int) != (n : Int)) = false := by simp
  have HA := hid ha
  have H8 := hid h8
  clear ha h8
  go_enter Try.func7, Try.ntmps7
  go_wp2_with fail
  refine (make1O (LS.start w) n1 (by omega) n1 (by omega) HA.out).mono ?_
  rintro e w1 ⟨g, cap1, rfl, r1, cle, gl, gu, m1⟩
  obtain ⟨z, Z⟩ : ∃ x, x = tab (n * n) (mk1 za) := ⟨_, rfl⟩
  have L1 : Hid (z.length = n * n) := by show _ = _; rw [Z]; exact tab_length _ _
  have S1 : Hid (∀ x ∈ z, x < 256) := by show ∀ x ∈ z, _; rw [Z]; exact mk1_small H8.out _
  have HP : Hid (0 < z.length) := by show 0 < _; rw [L1.out]; exact Nat.mul_pos n1 n1
  rw [← Z] at r1
  clear Z H8
  have hls := (LS.start w).nxt m1
  have hx := LT.new hls n n (.slice (some ⟨g, 0, none⟩) (n * n) cap1) 35
  have hal := hls.alloc (.cells #[.int .i64 n, .int .i64 n, (.slice (some ⟨g, 0, none⟩) (n * n) cap1)] 35)
  have H := hid (And.intro (hls.nxt hal) (And.intro hx (r1.alloc (.cells #[.int .i64 n, .int .i64 n, (.slice (some ⟨g, 0, none⟩) (n * n) cap1)] 35))))
  have HG : Hid (w1.heap.size ≠ g ∧ w.heap.size ≤ g) := ⟨by omega, gl⟩
  clear hls hx hal r1 m1 cle gl gu
  go_wp2_with fail
  generalize w1.alloc (.cells #[.int .i64 n, .int .i64 n, (.slice (some ⟨g, 0, none⟩) (n * n) cap1)] 35) = w2 at *
  generalize w1.heap.size = X at *
  have s2 := H.out.2.1.st.c2
  have hrow := LR.own H.out.2.2 HP.out
  have HD : Hid (LS w [] w2.drew ∧ LT [] w2.drew X n n (.slice (some ⟨g, 0, none⟩) (n * n) cap1) ∧ LR [] w2.drew g 0 z) := ⟨H.out.1.nxt H.out.1.drew, H.out.2.1.nxt H.out.1.drew, hrow.nxt H.out.1.drew⟩
  clear hrow
  go_region_held3 (fun w' => w'.cell? ⟨X, 2, none⟩ = some (.slice (some ⟨g, 0, none⟩) (n * n) cap1)) (first | assumption | go_keep)
    ((first
      | (go_at_call 9; (with_reducible refine (gfNewF _).mono ?_); rintro e w3 ⟨F1, rfl, k3⟩; have H3 := hid (And.intro (HD.out.1.newF k3) (And.intro (HD.out.2.1.newF k3) (HD.out.2.2.newF k3))); have s3 := H3.out.2.1.st.c2; clear k3)
      | (go_at_call 11; (with_reducible refine (newL H3.out.1 (List.mem_cons_self ..) n1 (by omega) n1 (by omega) H3.out.2.2 L1.out rfl).mono ?_); rintro e w4 ⟨p1, q1, rfl, m4, k4⟩; have H4 := hid (And.intro m4 (And.intro (H3.out.1.nxt k4) (And.intro (H3.out.2.1.nxt k4) (H3.out.2.2.nxt k4)))); have s4 := H4.out.2.2.1.st.c2; clear k4 m4)))
  clear s2 s3 s4 H HD H3
  go_wp2_with fail
  refine (invertL H4.out.2.1 H4.out.1).mono ?_
  rintro e w5 ⟨k5, ⟨hr, rfl⟩ | ⟨M, p5, q5, hr, rfl, m5⟩⟩
  · have H5 := hid (And.intro (H4.out.2.1.nxt k5) (And.intro (H4.out.2.2.1.nxt k5) (H4.out.2.2.2.nxt k5)))
    have HR := hid hr
    have x0 := H5.out.2.1.st.c0
    have x1 := H5.out.2.1.st.c1
    have x2 := H5.out.2.1.st.c2
    clear k5 hr H4
    go_wp2_with fail
    refine (refInvertL H5.out.1 n1 (by omega) H5.out.2.2 rfl L1.out S1.out).mono ?_
    rintro e w6 ⟨k6, ⟨_, rfl⟩ | ⟨M, gb, hr, _, _⟩⟩
    · have hl6 := H5.out.1.nxt k6
      have H6 := hid (hl6.nxt (hl6.alloc (.cells #[.int .i64 0, .int .i64 0, .slice none 0 0] 35)))
      clear k6 H5 x0 x1 x2 hl6
      go_wp2_with fail
      refine (awakeL H6.out).mono ?_
      rintro e w7 ⟨rfl, k7⟩
      have H7 := hid (H6.out.nxt k7)
      clear k7 H6
      go_wp2
      go_ret
      exact ⟨rfl, H7.out.below⟩
    · have := HR.out
      rw [hr] at this
      cases this
  · have H5 := hid (And.intro (H4.out.2.1.nxt k5) (And.intro (H4.out.2.2.1.nxt k5) (And.intro (H4.out.2.2.2.nxt k5) (And.intro (H4.out.1.nxt k5) m5))))
    have HR := hid hr
    have x0 := H5.out.2.1.st.c0
    have x1 := H5.out.2.1.st.c1
    have x2 := H5.out.2.1.st.c2
    clear k5 hr m5 H4
    go_wp2_with fail
    refine (refInvertL H5.out.1 n1 (by omega) H5.out.2.2.1 rfl L1.out S1.out).mono ?_
    rintro e w6 ⟨k6, ⟨hr, _⟩ | ⟨M', gb, hr, rfl, rb⟩⟩
    · have := HR.out
      rw [hr] at this
      cases this
    · have hMM := HR.out
      rw [hr] at hMM
      cases hMM
      have hl6 := H5.out.1.nxt k6
      have A6 := hl6.alloc (.cells #[.int .i64 n, .int .i64 n, (.slice (some ⟨gb, 0, none⟩) (n * n) (n * n))] 35)
      have H6 := hid (And.intro (hl6.nxt A6) (And.intro (rb.nxt A6) (And.intro ((H5.out.2.2.2.1.nxt k6).nxt A6) ((H5.out.2.2.2.2.nxt k6).nxt A6))))
      clear k6 rb hr H5 x0 x1 x2 hl6 A6
      go_wp2_with fail
      refine (sameL H6.out.1 H6.out.2.2.2 H6.out.2.1 rfl).mono ?_
      rintro e w7 ⟨rfl, k7⟩
      have H7 := hid (And.intro (H6.out.1.nxt k7) (And.intro (H6.out.2.2.1.nxt k7) (H6.out.2.2.2.nxt k7)))
      clear k7 H6
      go_wp2_with fail
      refine (mulL H7.out.1 H7.out.2.1 H7.out.2.2).mono ?_
      rintro e w8 ⟨p8, q8, rfl, m8, k8⟩
      have e8 := prod_inv S1.out HR.out
      unfold invZ at e8
      rw [e8] at m8
      have H8 := hid (And.intro (H7.out.1.nxt k8) (And.intro (H7.out.2.1.nxt k8) (And.intro (H7.out.2.2.nxt k8) m8)))
      clear k8 m8 e8 H7
      go_wp2_with fail
      refine (mulL H8.out.1 H8.out.2.2.1 H8.out.2.1).mono ?_
      rintro e w9 ⟨p9, q9, rfl, m9, k9⟩
      have e9 := inv_prod S1.out HR.out
      unfold invZ at e9
      rw [e9] at m9
      have H9 := hid (And.intro (H8.out.1.nxt k9) (And.intro (H8.out.2.2.2.nxt k9) m9))
      clear k9 m9 e9 H8
      go_wp2_with fail
      refine (refUnitL H9.out.1 n1 (by omega)).mono ?_
      rintro e w10 ⟨g10, rfl, r10, k10⟩
      have H10 := hid (And.intro (H9.out.1.nxt k10) (And.intro (H9.out.2.1.nxt k10) (And.intro (H9.out.2.2.nxt k10) r10)))
      clear k10 r10 H9
      go_wp2_with fail
      refine (sameL H10.out.1 H10.out.2.1 H10.out.2.2.2 rfl).mono ?_
      rintro e w11 ⟨rfl, k11⟩
      have H11 := hid (And.intro (H10.out.1.nxt k11) (H10.out.2.2.1.nxt k11))
      clear k11 H10
      go_wp2_with fail
      refine (refUnitL H11.out.1 n1 (by omega)).mono ?_
      rintro e w12 ⟨g12, rfl, r12, k12⟩
      have H12 := hid (And.intro (H11.out.1.nxt k12) (And.intro (H11.out.2.nxt k12) r12))
      clear k12 r12 H11
      go_wp2_with fail
      refine (sameL H12.out.1 H12.out.2.1 H12.out.2.2 rfl).mono ?_
      rintro e w13 ⟨rfl, k13⟩
      have H13 := hid (H12.out.1.nxt k13)
      clear k13 H12
      go_wp2_with fail
      refine (awakeL H13.out).mono ?_
      rintro e w14 ⟨rfl, k14⟩
      have H14 := hid (H13.out.nxt k14)
      clear k14 H13
      go_wp2
      go_ret
      exact ⟨rfl, H14.out.below⟩

set_option maxRecDepth 100000 in
set_option maxHeartbeats 6400000 in
theorem inverts_odd_one (n0 k0 : Int) (yn n yk : Nat) (hn : bits .and .i64 n0 255 = (yn : Int)) (hn1 : (yn : Int).tmod 9 = (n : Int) - 1) (hn2 : (yn : Int) % 9 = (n : Int) - 1) (n1 : 1 ≤ n) (n9 : n ≤ 9) (yn8 : yn < 256)
    (hk : bits .and .i64 k0 255 = (yk : Int)) (hk1 : (yk : Int).tmod 9 = (n : Int) - 1) (hk2 : (yk : Int) % 9 = (n : Int) - 1) (yk8 : yk < 256) (hodd : n % 2 = 1) (n2 : n ≤ 1)
    (a : Option Addr) (la ca : Nat) (za : List Nat) (w : World) (ha : SlN w a la za) (h8 : ∀ i, za.getD i 0 < 256) (la1 : la ≤ 100) :
    Calls Try.prog 7 #[.int .i64 n0, .int .i64 k0, .slice a la ca, .bool true] w fun e w' => e = .returned (.bool true) ∧ Below w.heap.size w w' := by
  have hnot : ∀ (x : Bool) (w : World), (Op.unary .not (.bool x)).run Try.prog w = .ok (.bool (!x)) w := fun _ _ => rfl
  have hb := odd_yes n (by omega) hodd
  have hd2 : ((n : Int) != (n : Int)) = false := by simp
  have HA := hid ha
  have H8 := hid h8
  clear ha h8
  go_enter Try.func7, Try.ntmps7
  go_wp2_with fail
  refine (make1O (LS.start w) n1 (by omega) n1 (by omega) HA.out).mono ?_
  rintro e w1 ⟨g, cap1, rfl, r1, cle, gl, gu, m1⟩
  obtain ⟨z, Z⟩ : ∃ x, x = tab (n * n) (mk1 za) := ⟨_, rfl⟩
  have L1 : Hid (z.length = n * n) := by show _ = _; rw [Z]; exact tab_length _ _
  have S1 : Hid (∀ x ∈ z, x < 256) := by show ∀ x ∈ z, _; rw [Z]; exact mk1_small H8.out _
  have HP : Hid (0 < z.length) := by show 0 < _; rw [L1.out]; exact Nat.mul_pos n1 n1
  rw [← Z] at r1
  clear Z H8
  have hls := (LS.start w).nxt m1
  have hx := LT.new hls n n (.slice (some ⟨g, 0, none⟩) (n * n) cap1) 35
  have hal := hls.alloc (.cells #[.int .i64 n, .int .i64 n, (.slice (some ⟨g, 0, none⟩) (n * n) cap1)] 35)
  have H := hid (And.intro (hls.nxt hal) (And.intro hx (r1.alloc (.cells #[.int .i64 n, .int .i64 n, (.slice (some ⟨g, 0, none⟩) (n * n) cap1)] 35))))
  have HG : Hid (w1.heap.size ≠ g ∧ w.heap.size ≤ g) := ⟨by omega, gl⟩
  clear hls hx hal r1 m1 cle gl gu
  go_wp2_with fail
  generalize w1.alloc (.cells #[.int .i64 n, .int .i64 n, (.slice (some ⟨g, 0, none⟩) (n * n) cap1)] 35) = w2 at *
  generalize w1.heap.size = X at *
  have s2 := H.out.2.1.st.c2
  have hrow := LR.own H.out.2.2 HP.out
  have HD : Hid (LS w [] w2.drew ∧ LT [] w2.drew X n n (.slice (some ⟨g, 0, none⟩) (n * n) cap1) ∧ LR [] w2.drew g 0 z) := ⟨H.out.1.nxt H.out.1.drew, H.out.2.1.nxt H.out.1.drew, hrow.nxt H.out.1.drew⟩
  clear hrow
  go_region_held3 (fun w' => w'.cell? ⟨X, 2, none⟩ = some (.slice (some ⟨g, 0, none⟩) (n * n) cap1)) (first | assumption | go_keep)
    ((first
      | (go_at_call 9; (with_reducible refine (gfNewF _).mono ?_); rintro e w3 ⟨F1, rfl, k3⟩; have H3 := hid (And.intro (HD.out.1.newF k3) (And.intro (HD.out.2.1.newF k3) (HD.out.2.2.newF k3))); have s3 := H3.out.2.1.st.c2; clear k3)
      | (go_at_call 11; (with_reducible refine (newL H3.out.1 (List.mem_cons_self ..) n1 (by omega) n1 (by omega) H3.out.2.2 L1.out rfl).mono ?_); rintro e w4 ⟨p1, q1, rfl, m4, k4⟩; have H4 := hid (And.intro m4 (And.intro (H3.out.1.nxt k4) (And.intro (H3.out.2.1.nxt k4) (H3.out.2.2.nxt k4)))); have s4 := H4.out.2.2.1.st.c2; clear k4 m4)))
  clear s2 s3 s4 H HD H3
  go_wp2_with fail
  refine (invertL H4.out.2.1 H4.out.1).mono ?_
  rintro e w5 ⟨k5, ⟨hr, rfl⟩ | ⟨M, p5, q5, hr, rfl, m5⟩⟩
  · have H5 := hid (And.intro (H4.out.2.1.nxt k5) (And.intro (H4.out.2.2.1.nxt k5) (H4.out.2.2.2.nxt k5)))
    have HR := hid hr
    have x0 := H5.out.2.1.st.c0
    have x1 := H5.out.2.1.st.c1
    have x2 := H5.out.2.1.st.c2
    clear k5 hr H4
    go_wp2_with fail
    refine (refInvertL H5.out.1 n1 (by omega) H5.out.2.2 rfl L1.out S1.out).mono ?_
    rintro e w6 ⟨k6, ⟨_, rfl⟩ | ⟨M, gb, hr, _, _⟩⟩
    · have hl6 := H5.out.1.nxt k6
      have H6 := hid (hl6.nxt (hl6.alloc (.cells #[.int .i64 0, .int .i64 0, .slice none 0 0] 35)))
      clear k6 H5 x0 x1 x2 hl6
      go_wp2_with fail
      refine (awakeL H6.out).mono ?_
      rintro e w7 ⟨rfl, k7⟩
      have H7 := hid (H6.out.nxt k7)
      clear k7 H6
      go_wp2
      go_ret
      exact ⟨rfl, H7.out.below⟩
    · have := HR.out
      rw [hr] at this
      cases this
  · have H5 := hid (And.intro (H4.out.2.1.nxt k5) (And.intro (H4.out.2.2.1.nxt k5) (And.intro (H4.out.2.2.2.nxt k5) (And.intro (H4.out.1.nxt k5) m5))))
    have HR := hid hr
    have x0 := H5.out.2.1.st.c0
    have x1 := H5.out.2.1.st.c1
    have x2 := H5.out.2.1.st.c2
    clear k5 hr m5 H4
    go_wp2_with fail
    refine (refInvertL H5.out.1 n1 (by omega) H5.out.2.2.1 rfl L1.out S1.out).mono ?_
    rintro e w6 ⟨k6, ⟨hr, _⟩ | ⟨M', gb, hr, rfl, rb⟩⟩
    · have := HR.out
      rw [hr] at this
      cases this
    · have hMM := HR.out
      rw [hr] at hMM
      cases hMM
      have hl6 := H5.out.1.nxt k6
      have A6 := hl6.alloc (.cells #[.int .i64 n, .int .i64 n, (.slice (some ⟨gb, 0, none⟩) (n * n) (n * n))] 35)
      have H6 := hid (And.intro (hl6.nxt A6) (And.intro (rb.nxt A6) (And.intro ((H5.out.2.2.2.1.nxt k6).nxt A6) ((H5.out.2.2.2.2.nxt k6).nxt A6))))
      clear k6 rb hr H5 x0 x1 x2 hl6 A6
      go_wp2_with fail
      refine (sameL H6.out.1 H6.out.2.2.2 H6.out.2.1 rfl).mono ?_
      rintro e w7 ⟨rfl, k7⟩
      have H7 := hid (And.intro (H6.out.1.nxt k7) (And.intro (H6.out.2.2.1.nxt k7) (H6.out.2.2.2.nxt k7)))
      clear k7 H6
      go_wp2_with fail
      refine (mulL H7.out.1 H7.out.2.1 H7.out.2.2).mono ?_
      rintro e w8 ⟨p8, q8, rfl, m8, k8⟩
      have e8 := prod_inv S1.out HR.out
      unfold invZ at e8
      rw [e8] at m8
      have H8 := hid (And.intro (H7.out.1.nxt k8) (And.intro (H7.out.2.1.nxt k8) (And.intro (H7.out.2.2.nxt k8) m8)))
      clear k8 m8 e8 H7
      go_wp2_with fail
      refine (mulL H8.out.1 H8.out.2.2.1 H8.out.2.1).mono ?_
      rintro e w9 ⟨p9, q9, rfl, m9, k9⟩
      have e9 := inv_prod S1.out HR.out
      unfold invZ at e9
      rw [e9] at m9
      have H9 := hid (And.intro (H8.out.1.nxt k9) (And.intro (H8.out.2.2.2.nxt k9) m9))
      clear k9 m9 e9 H8
      go_wp2_with fail
      refine (refUnitL H9.out.1 n1 (by omega)).mono ?_
      rintro e w10 ⟨g10, rfl, r10, k10⟩
      have H10 := hid (And.intro (H9.out.1.nxt k10) (And.intro (H9.out.2.1.nxt k10) (And.intro (H9.out.2.2.nxt k10) r10)))
      clear k10 r10 H9
      go_wp2_with fail
      refine (sameL H10.out.1 H10.out.2.1 H10.out.2.2.2 rfl).mono ?_
      rintro e w11 ⟨rfl, k11⟩
      have H11 := hid (And.intro (H10.out.1.nxt k11) (H10.out.2.2.1.nxt k11))
      clear k11 H10
      go_wp2_with fail
      refine (refUnitL H11.out.1 n1 (by omega)).mono ?_
      rintro e w12 ⟨g12, rfl, r12, k12⟩
      have H12 := hid (And.intro (H11.out.1.nxt k12) (And.intro (H11.out.2.nxt k12) r12))
      clear k12 r12 H11
      go_wp2_with fail
      refine (sameL H12.out.1 H12.out.2.1 H12.out.2.2 rfl).mono ?_
      rintro e w13 ⟨rfl, k13⟩
      have H13 := hid (H12.out.1.nxt k13)
      clear k13 H12
      go_wp2_with fail
      refine (awakeL H13.out).mono ?_
      rintro e w14 ⟨rfl, k14⟩
      have H14 := hid (H13.out.nxt k14)
      clear k14 H13
      go_wp2
      go_ret
      exact ⟨rfl, H14.out.below⟩

set_option maxRecDepth 100000 in
set_option maxHeartbeats 6400000 in
theorem inverts_odd_yes (n0 k0 : Int) (yn n yk : Nat) (hn : bits .and .i64 n0 255 = (yn : Int)) (hn1 : (yn : Int).tmod 9 = (n : Int) - 1) (hn2 : (yn : Int) % 9 = (n : Int) - 1) (n1 : 1 ≤ n) (n9 : n ≤ 9) (yn8 : yn < 256)
    (hk : bits .and .i64 k0 255 = (yk : Int)) (hk1 : (yk : Int).tmod 9 = (n : Int) - 1) (hk2 : (yk : Int) % 9 = (n : Int) - 1) (yk8 : yk < 256) (hodd : n % 2 = 1) (n2 : 2 ≤ n)
    (a : Option Addr) (la ca : Nat) (za : List Nat) (w : World) (ha : SlN w a la za) (h8 : ∀ i, za.getD i 0 < 256) (la1 : la ≤ 100) :
    Calls Try.prog 7 #[.int .i64 n0, .int .i64 k0, .slice a la ca, .bool true] w fun e w' => e = .returned (.bool true) ∧ Below w.heap.size w w' := by
  have hnot : ∀ (x : Bool) (w : World), (Op.unary .not (.bool x)).run Try.prog w = .ok (.bool (!x)) w := fun _ _ => rfl
  have hb := odd_yes n (by omega) hodd
  have hd2 : ((n : Int) != (n : Int)) = false := by simp
  have HA := hid ha
  have H8 := hid h8
  clear ha h8
  go_enter Try.func7, Try.ntmps7
  go_wp2_with fail
  refine (make1O (LS.start w) n1 (by omega) n1 (by omega) HA.out).mono ?_
  rintro e w1 ⟨g, cap1, rfl, r1, cle, gl, gu, m1⟩
  obtain ⟨z, Z⟩ : ∃ x, x = tab (n * n) (mk1 za) := ⟨_, rfl⟩
  have L1 : Hid (z.length = n * n) := by show _ = _; rw [Z]; exact tab_length _ _
  have S1 : Hid (∀ x ∈ z, x < 256) := by show ∀ x ∈ z, _; rw [Z]; exact mk1_small H8.out _
  have HP : Hid (0 < z.length) := by show 0 < _; rw [L1.out]; exact Nat.mul_pos n1 n1
  rw [← Z] at r1
  clear Z H8
  have hls := (LS.start w).nxt m1
  have hx := LT.new hls n n (.slice (some ⟨g, 0, none⟩) (n * n) cap1) 35
  have hal := hls.alloc (.cells #[.int .i64 n, .int .i64 n, (.slice (some ⟨g, 0, none⟩) (n * n) cap1)] 35)
  have H := hid (And.intro (hls.nxt hal) (And.intro hx (r1.alloc (.cells #[.int .i64 n, .int .i64 n, (.slice (some ⟨g, 0, none⟩) (n * n) cap1)] 35))))
  have HG : Hid (w1.heap.size ≠ g ∧ w.heap.size ≤ g) := ⟨by omega, gl⟩
  have h2k : n + n ≤ n * n := by have := Nat.mul_le_mul_right n n2; omega
  have HK2 := hid h2k
  obtain ⟨m2, M2⟩ : ∃ x : Nat, x = n + n := ⟨_, rfl⟩
  have em : (2 : Int) * (n : Int) = (m2 : Int) := by omega
  have hc1 : n ≤ cap1 := by omega
  have hc2 : m2 ≤ cap1 := by omega
  have hm1 : n ≤ m2 := by omega
  have hc3 : ¬ cap1 = n := by omega
  have hm9 : m2 ≤ 18 := by omega
  have z0 : (0 : Int) ≤ (n : Int) := by omega
  have z1 : (n : Int) ≤ (m2 : Int) := by omega
  have z2 : (m2 : Int) ≤ (cap1 : Int) := by omega
  have z3 : (n : Int) ≤ (cap1 : Int) := by omega
  have z4 : IntKind.i64.wrap (m2 : Int) = (m2 : Int) := IntWalk.i64_in _ (by omega)
  have z5 : (0 : Int) ≤ (m2 : Int) := by omega
  have HM := hid M2
  clear M2 h2k
  clear hls hx hal r1 m1 cle gl gu
  go_wp2_with fail
  generalize w1.alloc (.cells #[.int .i64 n, .int .i64 n, (.slice (some ⟨g, 0, none⟩) (n * n) cap1)] 35) = w2 at *
  generalize w1.heap.size = X at *
  have s2 := H.out.2.1.st.c2
  have HQ : Hid (LS w [] w2.drew ∧ LT [] w2.drew X n n (.slice (some ⟨g, 0, none⟩) (n * n) cap1) ∧ OwnB w.heap.size w2.drew (.slice (some ⟨g, 0, none⟩) (n * n) cap1) z) := ⟨H.out.1.nxt H.out.1.drew, H.out.2.1.nxt H.out.1.drew, H.out.2.2.up H.out.1.drew.up fun _ _ h => (List.not_mem_nil h).elim⟩
  go_region_held3 (fun w' => w'.cell? ⟨X, 2, none⟩ = some (.slice (some ⟨g, 0, none⟩) (n * n) cap1)) (first | assumption | go_keep)
    ((first | ((with_reducible refine step_copy_own rfl (.tmp 50) (.tmp 54) rfl w.heap.size g (n * n) cap1 n _ _ _ z HQ.out.2.2 L1.out HK2.out (by omega) (by have := HM.out; omega) rfl rfl ?_); intro wc O1 U1; have d2 := (U1.out.cell (p := ⟨X, 2, none⟩) (lt_of_cell HQ.out.2.1.st.c2) HG.out.1).trans HQ.out.2.1.st.c2)))
  have hlo : (over z n (z.take n)).length = z.length := over_length (by rw [List.length_take]; have := L1.out; have := HK2.out; omega)
  have L2 : Hid ((over z n (z.take n)).length = n * n) := by show _ = _; rw [hlo]; exact L1.out
  have S2 : Hid (∀ x ∈ over z n (z.take n), x < 256) := O1.out.small
  have H0 : Hid (LS w [] wc ∧ LT [] wc X n n (.slice (some ⟨g, 0, none⟩) (n * n) cap1) ∧ LR [] wc g 0 (over z n (z.take n))) := ⟨HQ.out.1.fresh1 U1.out HG.out.2, HQ.out.2.1.fresh1 U1.out HG.out.1, LR.own O1.out (by rw [hlo]; exact HP.out)⟩
  generalize over z n (z.take n) = zz at *
  clear s2 H HQ O1 U1 hlo L1 S1 HP HK2 d2
  go_wp2_with fail
  have s2 := H0.out.2.1.st.c2
  have HD : Hid (LS w [] wc.drew ∧ LT [] wc.drew X n n (.slice (some ⟨g, 0, none⟩) (n * n) cap1) ∧ LR [] wc.drew g 0 zz) := ⟨H0.out.1.nxt H0.out.1.drew, H0.out.2.1.nxt H0.out.1.drew, H0.out.2.2.nxt H0.out.1.drew⟩
  have L1 := L2
  have S1 := S2
  have H := H0
  clear H0 L2 S2
  go_region_held3 (fun w' => w'.cell? ⟨X, 2, none⟩ = some (.slice (some ⟨g, 0, none⟩) (n * n) cap1)) (first | assumption | go_keep)
    ((first
      | (go_at_call 9; (with_reducible refine (gfNewF _).mono ?_); rintro e w3 ⟨F1, rfl, k3⟩; have H3 := hid (And.intro (HD.out.1.newF k3) (And.intro (HD.out.2.1.newF k3) (HD.out.2.2.newF k3))); have s3 := H3.out.2.1.st.c2; clear k3)
      | (go_at_call 11; (with_reducible refine (newL H3.out.1 (List.mem_cons_self ..) n1 (by omega) n1 (by omega) H3.out.2.2 L1.out rfl).mono ?_); rintro e w4 ⟨p1, q1, rfl, m4, k4⟩; have H4 := hid (And.intro m4 (And.intro (H3.out.1.nxt k4) (And.intro (H3.out.2.1.nxt k4) (H3.out.2.2.nxt k4)))); have s4 := H4.out.2.2.1.st.c2; clear k4 m4)))
  clear s2 s3 s4 H HD H3
  go_wp2_with fail
  refine (invertL H4.out.2.1 H4.out.1).mono ?_
  rintro e w5 ⟨k5, ⟨hr, rfl⟩ | ⟨M, p5, q5, hr, rfl, m5⟩⟩
  · have H5 := hid (And.intro (H4.out.2.1.nxt k5) (And.intro (H4.out.2.2.1.nxt k5) (H4.out.2.2.2.nxt k5)))
    have HR := hid hr
    have x0 := H5.out.2.1.st.c0
    have x1 := H5.out.2.1.st.c1
    have x2 := H5.out.2.1.st.c2
    clear k5 hr H4
    go_wp2_with fail
    refine (refInvertL H5.out.1 n1 (by omega) H5.out.2.2 rfl L1.out S1.out).mono ?_
    rintro e w6 ⟨k6, ⟨_, rfl⟩ | ⟨M, gb, hr, _, _⟩⟩
    · have hl6 := H5.out.1.nxt k6
      have H6 := hid (hl6.nxt (hl6.alloc (.cells #[.int .i64 0, .int .i64 0, .slice none 0 0] 35)))
      clear k6 H5 x0 x1 x2 hl6
      go_wp2_with fail
      refine (awakeL H6.out).mono ?_
      rintro e w7 ⟨rfl, k7⟩
      have H7 := hid (H6.out.nxt k7)
      clear k7 H6
      go_wp2
      go_ret
      exact ⟨rfl, H7.out.below⟩
    · have := HR.out
      rw [hr] at this
      cases this
  · have H5 := hid (And.intro (H4.out.2.1.nxt k5) (And.intro (H4.out.2.2.1.nxt k5) (And.intro (H4.out.2.2.2.nxt k5) (And.intro (H4.out.1.nxt k5) m5))))
    have HR := hid hr
    have x0 := H5.out.2.1.st.c0
    have x1 := H5.out.2.1.st.c1
    have x2 := H5.out.2.1.st.c2
    clear k5 hr m5 H4
    go_wp2_with fail
    refine (refInvertL H5.out.1 n1 (by omega) H5.out.2.2.1 rfl L1.out S1.out).mono ?_
    rintro e w6 ⟨k6, ⟨hr, _⟩ | ⟨M', gb, hr, rfl, rb⟩⟩
    · have := HR.out
      rw [hr] at this
      cases this
    · have hMM := HR.out
      rw [hr] at hMM
      cases hMM
      have hl6 := H5.out.1.nxt k6
      have A6 := hl6.alloc (.cells #[.int .i64 n, .int .i64 n, (.slice (some ⟨gb, 0, none⟩) (n * n) (n * n))] 35)
      have H6 := hid (And.intro (hl6.nxt A6) (And.intro (rb.nxt A6) (And.intro ((H5.out.2.2.2.1.nxt k6).nxt A6) ((H5.out.2.2.2.2.nxt k6).nxt A6))))
      clear k6 rb hr H5 x0 x1 x2 hl6 A6
      go_wp2_with fail
      refine (sameL H6.out.1 H6.out.2.2.2 H6.out.2.1 rfl).mono ?_
      rintro e w7 ⟨rfl, k7⟩
      have H7 := hid (And.intro (H6.out.1.nxt k7) (And.intro (H6.out.2.2.1.nxt k7) (H6.out.2.2.2.nxt k7)))
      clear k7 H6
      go_wp2_with fail
      refine (mulL H7.out.1 H7.out.2.1 H7.out.2.2).mono ?_
      rintro e w8 ⟨p8, q8, rfl, m8, k8⟩
      have e8 := prod_inv S1.out HR.out
      unfold invZ at e8
      rw [e8] at m8
      have H8 := hid (And.intro (H7.out.1.nxt k8) (And.intro (H7.out.2.1.nxt k8) (And.intro (H7.out.2.2.nxt k8) m8)))
      clear k8 m8 e8 H7
      go_wp2_with fail
      refine (mulL H8.out.1 H8.out.2.2.1 H8.out.2.1).mono ?_
      rintro e w9 ⟨p9, q9, rfl, m9, k9⟩
      have e9 := inv_prod S1.out HR.out
      unfold invZ at e9
      rw [e9] at m9
      have H9 := hid (And.intro (H8.out.1.nxt k9) (And.intro (H8.out.2.2.2.nxt k9) m9))
      clear k9 m9 e9 H8
      go_wp2_with fail
      refine (refUnitL H9.out.1 n1 (by omega)).mono ?_
      rintro e w10 ⟨g10, rfl, r10, k10⟩
      have H10 := hid (And.intro (H9.out.1.nxt k10) (And.intro (H9.out.2.1.nxt k10) (And.intro (H9.out.2.2.nxt k10) r10)))
      clear k10 r10 H9
      go_wp2_with fail
      refine (sameL H10.out.1 H10.out.2.1 H10.out.2.2.2 rfl).mono ?_
      rintro e w11 ⟨rfl, k11⟩
      have H11 := hid (And.intro (H10.out.1.nxt k11) (H10.out.2.2.1.nxt k11))
      clear k11 H10
      go_wp2_with fail
      refine (refUnitL H11.out.1 n1 (by omega)).mono ?_
      rintro e w12 ⟨g12, rfl, r12, k12⟩
      have H12 := hid (And.intro (H11.out.1.nxt k12) (And.intro (H11.out.2.nxt k12) r12))
      clear k12 r12 H11
      go_wp2_with fail
      refine (sameL H12.out.1 H12.out.2.1 H12.out.2.2 rfl).mono ?_
      rintro e w13 ⟨rfl, k13⟩
      have H13 := hid (H12.out.1.nxt k13)
      clear k13 H12
      go_wp2_with fail
      refine (awakeL H13.out).mono ?_
      rintro e w14 ⟨rfl, k14⟩
      have H14 := hid (H13.out.nxt k14)
      clear k14 H13
      go_wp2
      go_ret
      exact ⟨rfl, H14.out.below⟩

set_option maxRecDepth 100000 in
set_option maxHeartbeats 6400000 in
theorem inverts_even_no (n0 k0 : Int) (yn n yk : Nat) (hn : bits .and .i64 n0 255 = (yn : Int)) (hn1 : (yn : Int).tmod 9 = (n : Int) - 1) (hn2 : (yn : Int) % 9 = (n : Int) - 1) (n1 : 1 ≤ n) (n9 : n ≤ 9) (yn8 : yn < 256)
    (kk : Nat) (hk : bits .and .i64 k0 255 = (yk : Int)) (hk1 : (yk : Int).tmod 9 = (kk : Int) - 1) (hk2 : (yk : Int) % 9 = (kk : Int) - 1) (kk1 : 1 ≤ kk) (kk9 : kk ≤ 9) (yk8 : yk < 256) (hodd : kk % 2 = 0)
    (a : Option Addr) (la ca : Nat) (za : List Nat) (w : World) (ha : SlN w a la za) (h8 : ∀ i, za.getD i 0 < 256) (la1 : la ≤ 100) :
    Calls Try.prog 7 #[.int .i64 n0, .int .i64 k0, .slice a la ca, .bool false] w fun e w' => e = .returned (.bool true) ∧ Below w.heap.size w w' := by
  have hnot : ∀ (x : Bool) (w : World), (Op.unary .not (.bool x)).run Try.prog w = .ok (.bool (!x)) w := fun _ _ => rfl
  have hb := odd_no kk (by omega) hodd
  have hd2 : ((n : Int) != (n : Int)) = false := by simp
  have HA := hid ha
  have H8 := hid h8
  clear ha h8
  go_enter Try.func7, Try.ntmps7
  go_wp2_with fail
  refine (make1O (LS.start w) n1 (by omega) n1 (by omega) HA.out).mono ?_
  rintro e w1 ⟨g, cap1, rfl, r1, cle, gl, gu, m1⟩
  obtain ⟨z, Z⟩ : ∃ x, x = tab (n * n) (mk1 za) := ⟨_, rfl⟩
  have L1 : Hid (z.length = n * n) := by show _ = _; rw [Z]; exact tab_length _ _
  have S1 : Hid (∀ x ∈ z, x < 256) := by show ∀ x ∈ z, _; rw [Z]; exact mk1_small H8.out _
  have HP : Hid (0 < z.length) := by show 0 < _; rw [L1.out]; exact Nat.mul_pos n1 n1
  rw [← Z] at r1
  clear Z H8
  have hls := (LS.start w).nxt m1
  have hx := LT.new hls n n (.slice (some ⟨g, 0, none⟩) (n * n) cap1) 35
  have hal := hls.alloc (.cells #[.int .i64 n, .int .i64 n, (.slice (some ⟨g, 0, none⟩) (n * n) cap1)] 35)
  have H := hid (And.intro (hls.nxt hal) (And.intro hx (r1.alloc (.cells #[.int .i64 n, .int .i64 n, (.slice (some ⟨g, 0, none⟩) (n * n) cap1)] 35))))
  have HG : Hid (w1.heap.size ≠ g ∧ w.heap.size ≤ g) := ⟨by omega, gl⟩
  clear hls hx hal r1 m1 cle gl gu
  go_wp2_with fail
  generalize w1.alloc (.cells #[.int .i64 n, .int .i64 n, (.slice (some ⟨g, 0, none⟩) (n * n) cap1)] 35) = w2 at *
  generalize w1.heap.size = X at *
  have s2 := H.out.2.1.st.c2
  have hrow := LR.own H.out.2.2 HP.out
  have HD : Hid (LS w [] w2.drew ∧ LT [] w2.drew X n n (.slice (some ⟨g, 0, none⟩) (n * n) cap1) ∧ LR [] w2.drew g 0 z) := ⟨H.out.1.nxt H.out.1.drew, H.out.2.1.nxt H.out.1.drew, hrow.nxt H.out.1.drew⟩
  clear hrow
  go_region_held3 (fun w' => w'.cell? ⟨X, 2, none⟩ = some (.slice (some ⟨g, 0, none⟩) (n * n) cap1)) (first | assumption | go_keep)
    ((first
      | (go_at_call 9; (with_reducible refine (gfNewF _).mono ?_); rintro e w3 ⟨F1, rfl, k3⟩; have H3 := hid (And.intro (HD.out.1.newF k3) (And.intro (HD.out.2.1.newF k3) (HD.out.2.2.newF k3))); have s3 := H3.out.2.1.st.c2; clear k3)
      | (go_at_call 11; (with_reducible refine (newL H3.out.1 (List.mem_cons_self ..) n1 (by omega) n1 (by omega) H3.out.2.2 L1.out rfl).mono ?_); rintro e w4 ⟨p1, q1, rfl, m4, k4⟩; have H4 := hid (And.intro m4 (And.intro (H3.out.1.nxt k4) (And.intro (H3.out.2.1.nxt k4) (H3.out.2.2.nxt k4)))); have s4 := H4.out.2.2.1.st.c2; clear k4 m4)))
  clear s2 s3 s4 H HD H3
  go_wp2_with fail
  refine (invertL H4.out.2.1 H4.out.1).mono ?_
  rintro e w5 ⟨k5, ⟨hr, rfl⟩ | ⟨M, p5, q5, hr, rfl, m5⟩⟩
  · have H5 := hid (And.intro (H4.out.2.1.nxt k5) (And.intro (H4.out.2.2.1.nxt k5) (H4.out.2.2.2.nxt k5)))
    have HR := hid hr
    have x0 := H5.out.2.1.st.c0
    have x1 := H5.out.2.1.st.c1
    have x2 := H5.out.2.1.st.c2
    clear k5 hr H4
    go_wp2_with fail
    refine (refInvertL H5.out.1 n1 (by omega) H5.out.2.2 rfl L1.out S1.out).mono ?_
    rintro e w6 ⟨k6, ⟨_, rfl⟩ | ⟨M, gb, hr, _, _⟩⟩
    · have hl6 := H5.out.1.nxt k6
      have H6 := hid (hl6.nxt (hl6.alloc (.cells #[.int .i64 0, .int .i64 0, .slice none 0 0] 35)))
      clear k6 H5 x0 x1 x2 hl6
      go_wp2_with fail
      refine (awakeL H6.out).mono ?_
      rintro e w7 ⟨rfl, k7⟩
      have H7 := hid (H6.out.nxt k7)
      clear k7 H6
      go_wp2
      go_ret
      exact ⟨rfl, H7.out.below⟩
    · have := HR.out
      rw [hr] at this
      cases this
  · have H5 := hid (And.intro (H4.out.2.1.nxt k5) (And.intro (H4.out.2.2.1.nxt k5) (And.intro (H4.out.2.2.2.nxt k5) (And.intro (H4.out.1.nxt k5) m5))))
    have HR := hid hr
    have x0 := H5.out.2.1.st.c0
    have x1 := H5.out.2.1.st.c1
    have x2 := H5.out.2.1.st.c2
    clear k5 hr m5 H4
    go_wp2_with fail
    refine (refInvertL H5.out.1 n1 (by omega) H5.out.2.2.1 rfl L1.out S1.out).mono ?_
    rintro e w6 ⟨k6, ⟨hr, _⟩ | ⟨M', gb, hr, rfl, rb⟩⟩
    · have := HR.out
      rw [hr] at this
      cases this
    · have hMM := HR.out
      rw [hr] at hMM
      cases hMM
      have hl6 := H5.out.1.nxt k6
      have A6 := hl6.alloc (.cells #[.int .i64 n, .int .i64 n, (.slice (some ⟨gb, 0, none⟩) (n * n) (n * n))] 35)
      have H6 := hid (And.intro (hl6.nxt A6) (And.intro (rb.nxt A6) (And.intro ((H5.out.2.2.2.1.nxt k6).nxt A6) ((H5.out.2.2.2.2.nxt k6).nxt A6))))
      clear k6 rb hr H5 x0 x1 x2 hl6 A6
      go_wp2_with fail
      refine (sameL H6.out.1 H6.out.2.2.2 H6.out.2.1 rfl).mono ?_
      rintro e w7 ⟨rfl, k7⟩
      have H7 := hid (And.intro (H6.out.1.nxt k7) (And.intro (H6.out.2.2.1.nxt k7) (H6.out.2.2.2.nxt k7)))
      clear k7 H6
      go_wp2_with fail
      refine (mulL H7.out.1 H7.out.2.1 H7.out.2.2).mono ?_
      rintro e w8 ⟨p8, q8, rfl, m8, k8⟩
      have e8 := prod_inv S1.out HR.out
      unfold invZ at e8
      rw [e8] at m8
      have H8 := hid (And.intro (H7.out.1.nxt k8) (And.intro (H7.out.2.1.nxt k8) (And.intro (H7.out.2.2.nxt k8) m8)))
      clear k8 m8 e8 H7
      go_wp2_with fail
      refine (mulL H8.out.1 H8.out.2.2.1 H8.out.2.1).mono ?_
      rintro e w9 ⟨p9, q9, rfl, m9, k9⟩
      have e9 := inv_prod S1.out HR.out
      unfold invZ at e9
      rw [e9] at m9
      have H9 := hid (And.intro (H8.out.1.nxt k9) (And.intro (H8.out.2.2.2.nxt k9) m9))
      clear k9 m9 e9 H8
      go_wp2_with fail
      refine (refUnitL H9.out.1 n1 (by omega)).mono ?_
      rintro e w10 ⟨g10, rfl, r10, k10⟩
      have H10 := hid (And.intro (H9.out.1.nxt k10) (And.intro (H9.out.2.1.nxt k10) (And.intro (H9.out.2.2.nxt k10) r10)))
      clear k10 r10 H9
      go_wp2_with fail
      refine (sameL H10.out.1 H10.out.2.1 H10.out.2.2.2 rfl).mono ?_
      rintro e w11 ⟨rfl, k11⟩
      have H11 := hid (And.intro (H10.out.1.nxt k11) (H10.out.2.2.1.nxt k11))
      clear k11 H10
      go_wp2_with fail
      refine (refUnitL H11.out.1 n1 (by omega)).mono ?_
      rintro e w12 ⟨g12, rfl, r12, k12⟩
      have H12 := hid (And.intro (H11.out.1.nxt k12) (And.intro (H11.out.2.nxt k12) r12))
      clear k12 r12 H11
      go_wp2_with fail
      refine (sameL H12.out.1 H12.out.2.1 H12.out.2.2 rfl).mono ?_
      rintro e w13 ⟨rfl, k13⟩
      have H13 := hid (H12.out.1.nxt k13)
      clear k13 H12
      go_wp2_with fail
      refine (awakeL H13.out).mono ?_
      rintro e w14 ⟨rfl, k14⟩
      have H14 := hid (H13.out.nxt k14)
      clear k14 H13
      go_wp2
      go_ret
      exact ⟨rfl, H14.out.below⟩

set_option maxRecDepth 100000 in
set_option maxHeartbeats 6400000 in
theorem inverts_even_one (n0 k0 : Int) (yn n yk : Nat) (hn : bits .and .i64 n0 255 = (yn : Int)) (hn1 : (yn : Int).tmod 9 = (n : Int) - 1) (hn2 : (yn : Int) % 9 = (n : Int) - 1) (n1 : 1 ≤ n) (n9 : n ≤ 9) (yn8 : yn < 256)
    (kk : Nat) (hk : bits .and .i64 k0 255 = (yk : Int)) (hk1 : (yk : Int).tmod 9 = (kk : Int) - 1) (hk2 : (yk : Int) % 9 = (kk : Int) - 1) (kk1 : 1 ≤ kk) (kk9 : kk ≤ 9) (yk8 : yk < 256) (hodd : kk % 2 = 0) (n2 : n ≤ 1)
    (a : Option Addr) (la ca : Nat) (za : List Nat) (w : World) (ha : SlN w a la za) (h8 : ∀ i, za.getD i 0 < 256) (la1 : la ≤ 100) :
    Calls Try.prog 7 #[.int .i64 n0, .int .i64 k0, .slice a la ca, .bool true] w fun e w' => e = .returned (.bool true) ∧ Below w.heap.size w w' := by
  have hnot : ∀ (x : Bool) (w : World), (Op.unary .not (.bool x)).run Try.prog w = .ok (.bool (!x)) w := fun _ _ => rfl
  have hb := odd_no kk (by omega) hodd
  have hd2 : ((n : Int) != (n : Int)) = false := by simp
  have HA := hid ha
  have H8 := hid h8
  clear ha h8
  go_enter Try.func7, Try.ntmps7
  go_wp2_with fail
  refine (make1O (LS.start w) n1 (by omega) n1 (by omega) HA.out).mono ?_
  rintro e w1 ⟨g, cap1, rfl, r1, cle, gl, gu, m1⟩
  obtain ⟨z, Z⟩ : ∃ x, x = tab (n * n) (mk1 za) := ⟨_, rfl⟩
  have L1 : Hid (z.length = n * n) := by show _ = _; rw [Z]; exact tab_length _ _
  have S1 : Hid (∀ x ∈ z, x < 256) := by show ∀ x ∈ z, _; rw [Z]; exact mk1_small H8.out _
  have HP : Hid (0 < z.length) := by show 0 < _; rw [L1.out]; exact Nat.mul_pos n1 n1
  rw [← Z] at r1
  clear Z H8
  have hls := (LS.start w).nxt m1
  have hx := LT.new hls n n (.slice (some ⟨g, 0, none⟩) (n * n) cap1) 35
  have hal := hls.alloc (.cells #[.int .i64 n, .int .i64 n, (.slice (some ⟨g, 0, none⟩) (n * n) cap1)] 35)
  have H := hid (And.intro (hls.nxt hal) (And.intro hx (r1.alloc (.cells #[.int .i64 n, .int .i64 n, (.slice (some ⟨g, 0, none⟩) (n * n) cap1)] 35))))
  have HG : Hid (w1.heap.size ≠ g ∧ w.heap.size ≤ g) := ⟨by omega, gl⟩
  clear hls hx hal r1 m1 cle gl gu
  go_wp2_with fail
  generalize w1.alloc (.cells #[.int .i64 n, .int .i64 n, (.slice (some ⟨g, 0, none⟩) (n * n) cap1)] 35) = w2 at *
  generalize w1.heap.size = X at *
  have s2 := H.out.2.1.st.c2
  have hrow := LR.own H.out.2.2 HP.out
  have HD : Hid (LS w [] w2.drew ∧ LT [] w2.drew X n n (.slice (some ⟨g, 0, none⟩) (n * n) cap1) ∧ LR [] w2.drew g 0 z) := ⟨H.out.1.nxt H.out.1.drew, H.out.2.1.nxt H.out.1.drew, hrow.nxt H.out.1.drew⟩
  clear hrow
  go_region_held3 (fun w' => w'.cell? ⟨X, 2, none⟩ = some (.slice (some ⟨g, 0, none⟩) (n * n) cap1)) (first | assumption | go_keep)
    ((first
      | (go_at_call 9; (with_reducible refine (gfNewF _).mono ?_); rintro e w3 ⟨F1, rfl, k3⟩; have H3 := hid (And.intro (HD.out.1.newF k3) (And.intro (HD.out.2.1.newF k3) (HD.out.2.2.newF k3))); have s3 := H3.out.2.1.st.c2; clear k3)
      | (go_at_call 11; (with_reducible refine (newL H3.out.1 (List.mem_cons_self ..) n1 (by omega) n1 (by omega) H3.out.2.2 L1.out rfl).mono ?_); rintro e w4 ⟨p1, q1, rfl, m4, k4⟩; have H4 := hid (And.intro m4 (And.intro (H3.out.1.nxt k4) (And.intro (H3.out.2.1.nxt k4) (H3.out.2.2.nxt k4)))); have s4 := H4.out.2.2.1.st.c2; clear k4 m4)))
  clear s2 s3 s4 H HD H3
  go_wp2_with fail
  refine (invertL H4.out.2.1 H4.out.1).mono ?_
  rintro e w5 ⟨k5, ⟨hr, rfl⟩ | ⟨M, p5, q5, hr, rfl, m5⟩⟩
  · have H5 := hid (And.intro (H4.out.2.1.nxt k5) (And.intro (H4.out.2.2.1.nxt k5) (H4.out.2.2.2.nxt k5)))
    have HR := hid hr
    have x0 := H5.out.2.1.st.c0
    have x1 := H5.out.2.1.st.c1
    have x2 := H5.out.2.1.st.c2
    clear k5 hr H4
    go_wp2_with fail
    refine (refInvertL H5.out.1 n1 (by omega) H5.out.2.2 rfl L1.out S1.out).mono ?_
    rintro e w6 ⟨k6, ⟨_, rfl⟩ | ⟨M, gb, hr, _, _⟩⟩
    · have hl6 := H5.out.1.nxt k6
      have H6 := hid (hl6.nxt (hl6.alloc (.cells #[.int .i64 0, .int .i64 0, .slice none 0 0] 35)))
      clear k6 H5 x0 x1 x2 hl6
      go_wp2_with fail
      refine (awakeL H6.out).mono ?_
      rintro e w7 ⟨rfl, k7⟩
      have H7 := hid (H6.out.nxt k7)
      clear k7 H6
      go_wp2
      go_ret
      exact ⟨rfl, H7.out.below⟩
    · have := HR.out
      rw [hr] at this
      cases this
  · have H5 := hid (And.intro (H4.out.2.1.nxt k5) (And.intro (H4.out.2.2.1.nxt k5) (And.intro (H4.out.2.2.2.nxt k5) (And.intro (H4.out.1.nxt k5) m5))))
    have HR := hid hr
    have x0 := H5.out.2.1.st.c0
    have x1 := H5.out.2.1.st.c1
    have x2 := H5.out.2.1.st.c2
    clear k5 hr m5 H4
    go_wp2_with fail
    refine (refInvertL H5.out.1 n1 (by omega) H5.out.2.2.1 rfl L1.out S1.out).mono ?_
    rintro e w6 ⟨k6, ⟨hr, _⟩ | ⟨M', gb, hr, rfl, rb⟩⟩
    · have := HR.out
      rw [hr] at this
      cases this
    · have hMM := HR.out
      rw [hr] at hMM
      cases hMM
      have hl6 := H5.out.1.nxt k6
      have A6 := hl6.alloc (.cells #[.int .i64 n, .int .i64 n, (.slice (some ⟨gb, 0, none⟩) (n * n) (n * n))] 35)
      have H6 := hid (And.intro (hl6.nxt A6) (And.intro (rb.nxt A6) (And.intro ((H5.out.2.2.2.1.nxt k6).nxt A6) ((H5.out.2.2.2.2.nxt k6).nxt A6))))
      clear k6 rb hr H5 x0 x1 x2 hl6 A6
      go_wp2_with fail
      refine (sameL H6.out.1 H6.out.2.2.2 H6.out.2.1 rfl).mono ?_
      rintro e w7 ⟨rfl, k7⟩
      have H7 := hid (And.intro (H6.out.1.nxt k7) (And.intro (H6.out.2.2.1.nxt k7) (H6.out.2.2.2.nxt k7)))
      clear k7 H6
      go_wp2_with fail
      refine (mulL H7.out.1 H7.out.2.1 H7.out.2.2).mono ?_
      rintro e w8 ⟨p8, q8, rfl, m8, k8⟩
      have e8 := prod_inv S1.out HR.out
      unfold invZ at e8
      rw [e8] at m8
      have H8 := hid (And.intro (H7.out.1.nxt k8) (And.intro (H7.out.2.1.nxt k8) (And.intro (H7.out.2.2.nxt k8) m8)))
      clear k8 m8 e8 H7
      go_wp2_with fail
      refine (mulL H8.out.1 H8.out.2.2.1 H8.out.2.1).mono ?_
      rintro e w9 ⟨p9, q9, rfl, m9, k9⟩
      have e9 := inv_prod S1.out HR.out
      unfold invZ at e9
      rw [e9] at m9
      have H9 := hid (And.intro (H8.out.1.nxt k9) (And.intro (H8.out.2.2.2.nxt k9) m9))
      clear k9 m9 e9 H8
      go_wp2_with fail
      refine (refUnitL H9.out.1 n1 (by omega)).mono ?_
      rintro e w10 ⟨g10, rfl, r10, k10⟩
      have H10 := hid (And.intro (H9.out.1.nxt k10) (And.intro (H9.out.2.1.nxt k10) (And.intro (H9.out.2.2.nxt k10) r10)))
      clear k10 r10 H9
      go_wp2_with fail
      refine (sameL H10.out.1 H10.out.2.1 H10.out.2.2.2 rfl).mono ?_
      rintro e w11 ⟨rfl, k11⟩
      have H11 := hid (And.intro (H10.out.1.nxt k11) (H10.out.2.2.1.nxt k11))
      clear k11 H10
      go_wp2_with fail
      refine (refUnitL H11.out.1 n1 (by omega)).mono ?_
      rintro e w12 ⟨g12, rfl, r12, k12⟩
      have H12 := hid (And.intro (H11.out.1.nxt k12) (And.intro (H11.out.2.nxt k12) r12))
      clear k12 r12 H11
      go_wp2_with fail
      refine (sameL H12.out.1 H12.out.2.1 H12.out.2.2 rfl).mono ?_
      rintro e w13 ⟨rfl, k13⟩
      have H13 := hid (H12.out.1.nxt k13)
      clear k13 H12
      go_wp2_with fail
      refine (awakeL H13.out).mono ?_
      rintro e w14 ⟨rfl, k14⟩
      have H14 := hid (H13.out.nxt k14)
      clear k14 H13
      go_wp2
      go_ret
      exact ⟨rfl, H14.out.below⟩

set_option maxRecDepth 100000 in
set_option maxHeartbeats 6400000 in
theorem inverts_even_yes (n0 k0 : Int) (yn n yk : Nat) (hn : bits .and .i64 n0 255 = (yn : Int)) (hn1 : (yn : Int).tmod 9 = (n : Int) - 1) (hn2 : (yn : Int) % 9 = (n : Int) - 1) (n1 : 1 ≤ n) (n9 : n ≤ 9) (yn8 : yn < 256)
    (kk : Nat) (hk : bits .and .i64 k0 255 = (yk : Int)) (hk1 : (yk : Int).tmod 9 = (kk : Int) - 1) (hk2 : (yk : Int) % 9 = (kk : Int) - 1) (kk1 : 1 ≤ kk) (kk9 : kk ≤ 9) (yk8 : yk < 256) (hodd : kk % 2 = 0) (n2 : 2 ≤ n)
    (a : Option Addr) (la ca : Nat) (za : List Nat) (w : World) (ha : SlN w a la za) (h8 : ∀ i, za.getD i 0 < 256) (la1 : la ≤ 100) :
    Calls Try.prog 7 #[.int .i64 n0, .int .i64 k0, .slice a la ca, .bool true] w fun e w' => e = .returned (.bool true) ∧ Below w.heap.size w w' := by
  have hnot : ∀ (x : Bool) (w : World), (Op.unary .not (.bool x)).run Try.prog w = .ok (.bool (!x)) w := fun _ _ => rfl
  have hb := odd_no kk (by omega) hodd
  have hd2 : ((n : Int) != (n : Int)) = false := by simp
  have HA := hid ha
  have H8 := hid h8
  clear ha h8
  go_enter Try.func7, Try.ntmps7
  go_wp2_with fail
  refine (make1O (LS.start w) n1 (by omega) n1 (by omega) HA.out).mono ?_
  rintro e w1 ⟨g, cap1, rfl, r1, cle, gl, gu, m1⟩
  obtain ⟨z, Z⟩ : ∃ x, x = tab (n * n) (mk1 za) := ⟨_, rfl⟩
  have L1 : Hid (z.length = n * n) := by show _ = _; rw [Z]; exact tab_length _ _
  have S1 : Hid (∀ x ∈ z, x < 256) := by show ∀ x ∈ z, _; rw [Z]; exact mk1_small H8.out _
  have HP : Hid (0 < z.length) := by show 0 < _; rw [L1.out]; exact Nat.mul_pos n1 n1
  rw [← Z] at r1
  clear Z H8
  have hls := (LS.start w).nxt m1
  have hx := LT.new hls n n (.slice (some ⟨g, 0, none⟩) (n * n) cap1) 35
  have hal := hls.alloc (.cells #[.int .i64 n, .int .i64 n, (.slice (some ⟨g, 0, none⟩) (n * n) cap1)] 35)
  have H := hid (And.intro (hls.nxt hal) (And.intro hx (r1.alloc (.cells #[.int .i64 n, .int .i64 n, (.slice (some ⟨g, 0, none⟩) (n * n) cap1)] 35))))
  have HG : Hid (w1.heap.size ≠ g ∧ w.heap.size ≤ g) := ⟨by omega, gl⟩
  have h2k : n + n ≤ n * n := by have := Nat.mul_le_mul_right n n2; omega
  have HK2 := hid h2k
  obtain ⟨m2, M2⟩ : ∃ x : Nat, x = n + n := ⟨_, rfl⟩
  have em : (2 : Int) * (n : Int) = (m2 : Int) := by omega
  have hc1 : n ≤ cap1 := by omega
  have hc2 : m2 ≤ cap1 := by omega
  have hm1 : n ≤ m2 := by omega
  have hc3 : ¬ cap1 = n := by omega
  have hm9 : m2 ≤ 18 := by omega
  have z0 : (0 : Int) ≤ (n : Int) := by omega
  have z1 : (n : Int) ≤ (m2 : Int) := by omega
  have z2 : (m2 : Int) ≤ (cap1 : Int) := by omega
  have z3 : (n : Int) ≤ (cap1 : Int) := by omega
  have z4 : IntKind.i64.wrap (m2 : Int) = (m2 : Int) := IntWalk.i64_in _ (by omega)
  have z5 : (0 : Int) ≤ (m2 : Int) := by omega
  have HM := hid M2
  clear M2 h2k
  clear hls hx hal r1 m1 cle gl gu
  go_wp2_with fail
  generalize w1.alloc (.cells #[.int .i64 n, .int .i64 n, (.slice (some ⟨g, 0, none⟩) (n * n) cap1)] 35) = w2 at *
  generalize w1.heap.size = X at *
  have s2 := H.out.2.1.st.c2
  have HQ : Hid (LS w [] w2.drew ∧ LT [] w2.drew X n n (.slice (some ⟨g, 0, none⟩) (n * n) cap1) ∧ OwnB w.heap.size w2.drew (.slice (some ⟨g, 0, none⟩) (n * n) cap1) z) := ⟨H.out.1.nxt H.out.1.drew, H.out.2.1.nxt H.out.1.drew, H.out.2.2.up H.out.1.drew.up fun _ _ h => (List.not_mem_nil h).elim⟩
  go_region_held3 (fun w' => w'.cell? ⟨X, 2, none⟩ = some (.slice (some ⟨g, 0, none⟩) (n * n) cap1)) (first | assumption | go_keep)
    ((first | ((with_reducible refine step_copy_own rfl (.tmp 50) (.tmp 54) rfl w.heap.size g (n * n) cap1 n _ _ _ z HQ.out.2.2 L1.out HK2.out (by omega) (by have := HM.out; omega) rfl rfl ?_); intro wc O1 U1; have d2 := (U1.out.cell (p := ⟨X, 2, none⟩) (lt_of_cell HQ.out.2.1.st.c2) HG.out.1).trans HQ.out.2.1.st.c2)))
  have hlo : (over z n (z.take n)).length = z.length := over_length (by rw [List.length_take]; have := L1.out; have := HK2.out; omega)
  have L2 : Hid ((over z n (z.take n)).length = n * n) := by show _ = _; rw [hlo]; exact L1.out
  have S2 : Hid (∀ x ∈ over z n (z.take n), x < 256) := O1.out.small
  have H0 : Hid (LS w [] wc ∧ LT [] wc X n n (.slice (some ⟨g, 0, none⟩) (n * n) cap1) ∧ LR [] wc g 0 (over z n (z.take n))) := ⟨HQ.out.1.fresh1 U1.out HG.out.2, HQ.out.2.1.fresh1 U1.out HG.out.1, LR.own O1.out (by rw [hlo]; exact HP.out)⟩
  generalize over z n (z.take n) = zz at *
  clear s2 H HQ O1 U1 hlo L1 S1 HP HK2 d2
  go_wp2_with fail
  have s2 := H0.out.2.1.st.c2
  have HD : Hid (LS w [] wc.drew ∧ LT [] wc.drew X n n (.slice (some ⟨g, 0, none⟩) (n * n) cap1) ∧ LR [] wc.drew g 0 zz) := ⟨H0.out.1.nxt H0.out.1.drew, H0.out.2.1.nxt H0.out.1.drew, H0.out.2.2.nxt H0.out.1.drew⟩
  have L1 := L2
  have S1 := S2
  have H := H0
  clear H0 L2 S2
  go_region_held3 (fun w' => w'.cell? ⟨X, 2, none⟩ = some (.slice (some ⟨g, 0, none⟩) (n * n) cap1)) (first | assumption | go_keep)
    ((first
      | (go_at_call 9; (with_reducible refine (gfNewF _).mono ?_); rintro e w3 ⟨F1, rfl, k3⟩; have H3 := hid (And.intro (HD.out.1.newF k3) (And.intro (HD.out.2.1.newF k3) (HD.out.2.2.newF k3))); have s3 := H3.out.2.1.st.c2; clear k3)
      | (go_at_call 11; (with_reducible refine (newL H3.out.1 (List.mem_cons_self ..) n1 (by omega) n1 (by omega) H3.out.2.2 L1.out rfl).mono ?_); rintro e w4 ⟨p1, q1, rfl, m4, k4⟩; have H4 := hid (And.intro m4 (And.intro (H3.out.1.nxt k4) (And.intro (H3.out.2.1.nxt k4) (H3.out.2.2.nxt k4)))); have s4 := H4.out.2.2.1.st.c2; clear k4 m4)))
  clear s2 s3 s4 H HD H3
  go_wp2_with fail
  refine (invertL H4.out.2.1 H4.out.1).mono ?_
  rintro e w5 ⟨k5, ⟨hr, rfl⟩ | ⟨M, p5, q5, hr, rfl, m5⟩⟩
  · have H5 := hid (And.intro (H4.out.2.1.nxt k5) (And.intro (H4.out.2.2.1.nxt k5) (H4.out.2.2.2.nxt k5)))
    have HR := hid hr
    have x0 := H5.out.2.1.st.c0
    have x1 := H5.out.2.1.st.c1
    have x2 := H5.out.2.1.st.c2
    clear k5 hr H4
    go_wp2_with fail
    refine (refInvertL H5.out.1 n1 (by omega) H5.out.2.2 rfl L1.out S1.out).mono ?_
    rintro e w6 ⟨k6, ⟨_, rfl⟩ | ⟨M, gb, hr, _, _⟩⟩
    · have hl6 := H5.out.1.nxt k6
      have H6 := hid (hl6.nxt (hl6.alloc (.cells #[.int .i64 0, .int .i64 0, .slice none 0 0] 35)))
      clear k6 H5 x0 x1 x2 hl6
      go_wp2_with fail
      refine (awakeL H6.out).mono ?_
      rintro e w7 ⟨rfl, k7⟩
      have H7 := hid (H6.out.nxt k7)
      clear k7 H6
      go_wp2
      go_ret
      exact ⟨rfl, H7.out.below⟩
    · have := HR.out
      rw [hr] at this
      cases this
  · have H5 := hid (And.intro (H4.out.2.1.nxt k5) (And.intro (H4.out.2.2.1.nxt k5) (And.intro (H4.out.2.2.2.nxt k5) (And.intro (H4.out.1.nxt k5) m5))))
    have HR := hid hr
    have x0 := H5.out.2.1.st.c0
    have x1 := H5.out.2.1.st.c1
    have x2 := H5.out.2.1.st.c2
    clear k5 hr m5 H4
    go_wp2_with fail
    refine (refInvertL H5.out.1 n1 (by omega) H5.out.2.2.1 rfl L1.out S1.out).mono ?_
    rintro e w6 ⟨k6, ⟨hr, _⟩ | ⟨M', gb, hr, rfl, rb⟩⟩
    · have := HR.out
      rw [hr] at this
      cases this
    · have hMM := HR.out
      rw [hr] at hMM
      cases hMM
      have hl6 := H5.out.1.nxt k6
      have A6 := hl6.alloc (.cells #[.int .i64 n, .int .i64 n, (.slice (some ⟨gb, 0, none⟩) (n * n) (n * n))] 35)
      have H6 := hid (And.intro (hl6.nxt A6) (And.intro (rb.nxt A6) (And.intro ((H5.out.2.2.2.1.nxt k6).nxt A6) ((H5.out.2.2.2.2.nxt k6).nxt A6))))
      clear k6 rb hr H5 x0 x1 x2 hl6 A6
      go_wp2_with fail
      refine (sameL H6.out.1 H6.out.2.2.2 H6.out.2.1 rfl).mono ?_
      rintro e w7 ⟨rfl, k7⟩
      have H7 := hid (And.intro (H6.out.1.nxt k7) (And.intro (H6.out.2.2.1.nxt k7) (H6.out.2.2.2.nxt k7)))
      clear k7 H6
      go_wp2_with fail
      refine (mulL H7.out.1 H7.out.2.1 H7.out.2.2).mono ?_
      rintro e w8 ⟨p8, q8, rfl, m8, k8⟩
      have e8 := prod_inv S1.out HR.out
      unfold invZ at e8
      rw [e8] at m8
      have H8 := hid (And.intro (H7.out.1.nxt k8) (And.intro (H7.out.2.1.nxt k8) (And.intro (H7.out.2.2.nxt k8) m8)))
      clear k8 m8 e8 H7
      go_wp2_with fail
      refine (mulL H8.out.1 H8.out.2.2.1 H8.out.2.1).mono ?_
      rintro e w9 ⟨p9, q9, rfl, m9, k9⟩
      have e9 := inv_prod S1.out HR.out
      unfold invZ at e9
      rw [e9] at m9
      have H9 := hid (And.intro (H8.out.1.nxt k9) (And.intro (H8.out.2.2.2.nxt k9) m9))
      clear k9 m9 e9 H8
      go_wp2_with fail
      refine (refUnitL H9.out.1 n1 (by omega)).mono ?_
      rintro e w10 ⟨g10, rfl, r10, k10⟩
      have H10 := hid (And.intro (H9.out.1.nxt k10) (And.intro (H9.out.2.1.nxt k10) (And.intro (H9.out.2.2.nxt k10) r10)))
      clear k10 r10 H9
      go_wp2_with fail
      refine (sameL H10.out.1 H10.out.2.1 H10.out.2.2.2 rfl).mono ?_
      rintro e w11 ⟨rfl, k11⟩
      have H11 := hid (And.intro (H10.out.1.nxt k11) (H10.out.2.2.1.nxt k11))
      clear k11 H10
      go_wp2_with fail
      refine (refUnitL H11.out.1 n1 (by omega)).mono ?_
      rintro e w12 ⟨g12, rfl, r12, k12⟩
      have H12 := hid (And.intro (H11.out.1.nxt k12) (And.intro (H11.out.2.nxt k12) r12))
      clear k12 r12 H11
      go_wp2_with fail
      refine (sameL H12.out.1 H12.out.2.1 H12.out.2.2 rfl).mono ?_
      rintro e w13 ⟨rfl, k13⟩
      have H13 := hid (H12.out.1.nxt k13)
      clear k13 H12
      go_wp2_with fail
      refine (awakeL H13.out).mono ?_
      rintro e w14 ⟨rfl, k14⟩
      have H14 := hid (H13.out.nxt k14)
      clear k14 H13
      go_wp2
      go_ret
      exact ⟨rfl, H14.out.below⟩

theorem inverts_short (n0 k0 : Int) (a : Option Addr) (la ca : Nat) (d : Bool) (za : List Nat) (w : World) (ha : SlN w a la za) (h8 : ∀ i, za.getD i 0 < 256) (la1 : la ≤ 100) :
    Calls Try.prog 7 #[.int .i64 n0, .int .i64 k0, .slice a la ca, .bool d] w fun e w' => e = .returned (.bool true) ∧ Below w.heap.size w w' := by
  obtain ⟨yn, n, hn, hn1, hn2, n1, n9, yn8⟩ := size9 n0
  obtain ⟨yk, k, hk, hk1, hk2, k1, k9, yk8⟩ := size9 k0
  rcases Nat.mod_two_eq_zero_or_one k with he | ho
  · cases d with
    | false => exact inverts_even_no n0 k0 yn n yk hn hn1 hn2 n1 n9 yn8 k hk hk1 hk2 k1 k9 yk8 he a la ca za w ha h8 la1
    | true =>
      rcases Nat.lt_or_ge n 2 with h | h
      · exact inverts_even_one n0 k0 yn n yk hn hn1 hn2 n1 n9 yn8 k hk hk1 hk2 k1 k9 yk8 he (by omega) a la ca za w ha h8 la1
      · exact inverts_even_yes n0 k0 yn n yk hn hn1 hn2 n1 n9 yn8 k hk hk1 hk2 k1 k9 yk8 he h a la ca za w ha h8 la1
  · by_cases e : n = k
    · subst e
      cases d with
      | false => exact inverts_odd_no n0 k0 yn n yk hn hn1 hn2 n1 n9 yn8 hk hk1 hk2 yk8 ho a la ca za w ha h8 la1
      | true =>
        rcases Nat.lt_or_ge n 2 with h | h
        · exact inverts_odd_one n0 k0 yn n yk hn hn1 hn2 n1 n9 yn8 hk hk1 hk2 yk8 ho (by omega) a la ca za w ha h8 la1
        · exact inverts_odd_yes n0 k0 yn n yk hn hn1 hn2 n1 n9 yn8 hk hk1 hk2 yk8 ho h a la ca za w ha h8 la1
    · cases d with
      | false => exact inverts_wide_no n0 k0 yn n yk hn hn1 hn2 n1 n9 yn8 k hk hk1 hk2 k1 k9 yk8 ho e a la ca za w ha h8 la1
      | true =>
        rcases Nat.lt_or_ge n 2 with h | h
        · exact inverts_wide_one n0 k0 yn n yk hn hn1 hn2 n1 n9 yn8 k hk hk1 hk2 k1 k9 yk8 ho e (by omega) a la ca za w ha h8 la1
        · exact inverts_wide_yes n0 k0 yn n yk hn hn1 hn2 n1 n9 yn8 k hk hk1 hk2 k1 k9 yk8 ho e h a la ca za w ha h8 la1

theorem inverts_walk (a0 a1 : Int) (a2 : Option Addr) (len2 cap2 : Nat) (z2 : List Int) (a3 : Bool) (w : World) (w2 : CameIn w a2 len2 cap2 z2) :
    Calls Try.prog 7 #[.int .i64 a0, .int .i64 a1, .slice a2 len2 cap2, .bool a3] w fun e w' => e = .returned (.bool true) ∧ Below w.heap.size w w' := by
  by_cases h : 100 < len2
  · exact inverts_long a0 a1 a2 len2 cap2 a3 w h
  · obtain ⟨z, hz⟩ := SlN.of w2
    refine inverts_short a0 a1 a2 len2 cap2 a3 z w hz (fun i => ?_) (by omega)
    rcases hz.row with e | ⟨b, o, _, _, r⟩
    · have hl := hz.len
      rw [e] at hl
      rw [List.eq_nil_of_length_eq_zero hl]
      simp
    · exact r.small i
end Go.Proofs.Ytickklohcingoaa
