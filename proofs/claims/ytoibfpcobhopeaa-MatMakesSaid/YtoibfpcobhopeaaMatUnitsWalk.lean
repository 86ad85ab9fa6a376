/- The law MatUnits, walked. -/
import Derived.Test.YtoibfpcobhopeaaMatLaw
import Derived.Laws.BitsLemmas
namespace Go.Proofs.Ytoibfpcobhopeaa
open Go.RowKit
set_option linter.unusedVariables false

theorem i64_mask (k : Nat) (hk : k < 63) (n m : Int) (hm : (BitVec.ofInt 64 m).toNat = 2 ^ k - 1) : bits .and .i64 n m = n % (2 ^ k : Nat) := by
  have key : (BitVec.ofInt 64 n &&& BitVec.ofInt 64 m).toNat = (n % ((2 ^ 64 : Nat) : Int)).toNat % 2 ^ k := by
    rw [BitVec.toNat_and, BitVec.toNat_ofInt, hm, Nat.and_two_pow_sub_one_eq_mod]
  show IntKind.i64.wrap ((BitVec.ofInt 64 n &&& BitVec.ofInt 64 m).toNat : Nat) = n % (2 ^ k : Nat)
  rw [key, IntKind.wrap_i64]
  have h1 : (2 : Nat) ^ 64 = 2 ^ k * 2 ^ (64 - k) := by rw [← Nat.pow_add]; congr 1; omega
  have h2 : (0 : Int) ≤ n % ((2 ^ 64 : Nat) : Int) := Int.emod_nonneg _ (by decide)
  have h3 : (((n % ((2 ^ 64 : Nat) : Int)).toNat % 2 ^ k : Nat) : Int) = n % ((2 ^ k : Nat) : Int) := by
    rw [Int.natCast_emod, Int.toNat_of_nonneg h2, h1, Int.natCast_mul]
    exact Int.emod_emod_of_dvd n ⟨_, rfl⟩
  rw [h3]
  have h4 : (0 : Int) < ((2 ^ k : Nat) : Int) := by have := Nat.two_pow_pos k; omega
  have h5 := Int.emod_nonneg n (Int.ne_of_gt h4)
  have h6 := Int.emod_lt_of_pos n h4
  have h7 : (2 : Nat) ^ k ≤ 2 ^ 62 := Nat.pow_le_pow_right (by omega) (by omega)
  have h8 : (2 : Nat) ^ 62 = 4611686018427387904 := by decide
  omega
theorem i64_and7 (n : Int) : ∃ k : Nat, bits .and .i64 n 7 = (k : Int) - 1 ∧ 1 ≤ k ∧ k ≤ 8 := by
  rw [i64_mask 3 (by omega) n 7 (by decide)]
  exact ⟨(n % 8).toNat + 1, by show n % 8 = _; omega, by omega, by omega⟩
theorem i64_and255 (n : Int) : ∃ k : Nat, bits .and .i64 n 255 = (k : Int) ∧ k < 256 := by
  rw [i64_mask 8 (by omega) n 255 (by decide)]
  exact ⟨(n % 256).toNat, by show n % 256 = _; omega, by omega⟩
theorem i64_and3 (n : Int) : ∃ k : Nat, bits .and .i64 n 3 = (k : Int) - 1 ∧ 1 ≤ k ∧ k ≤ 4 := by
  rw [i64_mask 2 (by omega) n 3 (by decide)]
  exact ⟨(n % 4).toNat + 1, by show n % 4 = _; omega, by omega, by omega⟩

set_option maxRecDepth 100000 in
theorem units_long (n0 : Int) (a v : Option Addr) (la ca lv cv : Nat) (w : World) (h : 100 < la ∨ 100 < lv) :
    Calls Try.prog 8 #[.int .i64 n0, .slice a la ca, .slice v lv cv] w fun e w' => e = .returned (.bool true) ∧ Below w.heap.size w w' := by
  by_cases h1 : 100 < la
  · clear h
    go_enter Try.func8, Try.ntmps8
    go_wp2_with ((go_at_call 16; (with_reducible refine (awakeL (LS.start w)).mono ?_); rintro e w1 ⟨rfl, k1⟩; have K := hid ((LS.start w).nxt k1); clear k1))
    go_ret
    exact ⟨rfl, K.out.below⟩
  · have h2 : 100 < lv := by omega
    clear h
    go_enter Try.func8, Try.ntmps8
    go_wp2_with ((go_at_call 16; (with_reducible refine (awakeL (LS.start w)).mono ?_); rintro e w1 ⟨rfl, k1⟩; have K := hid ((LS.start w).nxt k1); clear k1))
    go_ret
    exact ⟨rfl, K.out.below⟩

theorem mk1_small {z : List Nat} (hz : ∀ i, z.getD i 0 < 256) (n : Nat) : ∀ x ∈ tab n (mk1 z), x < 256 := tab_small (mk1_lt z hz)

set_option maxRecDepth 100000 in
set_option maxHeartbeats 3200000 in
theorem units_short (n0 : Int) (a v : Option Addr) (la ca lv cv : Nat) (za : List Nat) (w : World) (ha : SlN w a la za) (h8 : ∀ i, za.getD i 0 < 256) (l1 : la ≤ 100) (l2 : lv ≤ 100) :
    Calls Try.prog 8 #[.int .i64 n0, .slice a la ca, .slice v lv cv] w fun e w' => e = .returned (.bool true) ∧ Below w.heap.size w w' := by
  have hnot : ∀ (x : Bool) (w : World), (Op.unary .not (.bool x)).run Try.prog w = .ok (.bool (!x)) w := fun _ _ => rfl
  obtain ⟨n, hn, n1, n8⟩ := i64_and7 n0
  have hz1 : (tab (n * n) (mk1 za)).length = n * n := tab_length _ _
  have hz2 := mk1_small h8 (n * n)
  obtain ⟨z, Z⟩ : ∃ x, x = tab (n * n) (mk1 za) := ⟨_, rfl⟩
  have HZ := hid Z
  rw [← Z] at hz1 hz2
  have HZ1 := hid hz1
  have HZ2 := hid hz2
  have HA := hid ha
  clear Z hz1 hz2 ha h8
  go_enter Try.func8, Try.ntmps8
  go_wp2_with fail
  refine (make1L (LS.start w) n1 (by omega) n1 (by omega) HA.out).mono ?_
  rintro e w1 ⟨g, cap1, rfl, r1, _, _, k1⟩
  rw [← HZ.out] at r1
  have hls := (LS.start w).nxt k1
  have hx := LT.new hls n n (.slice (some ⟨g, 0, none⟩) (n * n) cap1) 35
  have H := hid (And.intro (hls.nxt (hls.alloc (.cells #[.int .i64 n, .int .i64 n, .slice (some ⟨g, 0, none⟩) (n * n) cap1] 35))) (And.intro hx (r1.nxt (hls.alloc (.cells #[.int .i64 n, .int .i64 n, .slice (some ⟨g, 0, none⟩) (n * n) cap1] 35)))))
  clear hls hx r1 k1
  go_wp2_with fail
  generalize w1.alloc (.cells #[.int .i64 n, .int .i64 n, (.slice (some ⟨g, 0, none⟩) (n * n) cap1)] 35) = w2 at *
  generalize w1.heap.size = X at *
  have s2 := H.out.2.1.st.c2
  have HD : Hid (LS w [] w2.drew ∧ LT [] w2.drew X n n (.slice (some ⟨g, 0, none⟩) (n * n) cap1) ∧ LR [] w2.drew g 0 z) := ⟨H.out.1.nxt H.out.1.drew, H.out.2.1.nxt H.out.1.drew, H.out.2.2.nxt H.out.1.drew⟩
  go_region_held3 (fun w' => w'.cell? ⟨X, 2, none⟩ = some (.slice (some ⟨g, 0, none⟩) (n * n) cap1)) (first | assumption | go_keep)
    ((first
      | (go_at_call 9; (with_reducible refine (gfNewF _).mono ?_); rintro e w3 ⟨F1, rfl, k3⟩; have H3 := hid (And.intro (HD.out.1.newF k3) (And.intro (HD.out.2.1.newF k3) (HD.out.2.2.newF k3))); have s3 := H3.out.2.1.st.c2; clear k3)
      | (go_at_call 11; (with_reducible refine (newL H3.out.1 (List.mem_cons_self ..) n1 (by omega) n1 (by omega) H3.out.2.2 HZ1.out rfl).mono ?_); rintro e w4 ⟨p1, q1, rfl, m4, k4⟩; have H4 := hid (And.intro m4 (And.intro (H3.out.1.nxt k4) (And.intro (H3.out.2.1.nxt k4) (H3.out.2.2.nxt k4)))); have s4 := H4.out.2.2.1.st.c2; clear k4 m4)))
  clear s2 s3 s4 H HD H3
  go_wp2_with fail
  refine (gfNewF _).mono ?_
  rintro e w5 ⟨F2, rfl, k5⟩
  have H5 := hid (And.intro (H4.out.1.newF k5) (And.intro (H4.out.2.1.newF k5) (And.intro (H4.out.2.2.1.newF k5) (H4.out.2.2.2.newF k5))))
  clear k5 H4
  go_wp2_with fail
  refine (unitL H5.out.2.1 (List.mem_cons_self ..) n1 (by omega)).mono ?_
  rintro e w6 ⟨p2, q2, rfl, m6, k6⟩
  have H6 := hid (And.intro m6 (And.intro (H5.out.1.nxt k6) (And.intro (H5.out.2.1.nxt k6) (And.intro (H5.out.2.2.1.nxt k6) (H5.out.2.2.2.nxt k6)))))
  clear k6 m6 H5
  go_wp2_with fail
  refine (gfNewF _).mono ?_
  rintro e w7 ⟨F3, rfl, k7⟩
  have H7 := hid (And.intro (H6.out.1.newF k7) (And.intro (H6.out.2.1.newF k7) (And.intro (H6.out.2.2.1.newF k7) (And.intro (H6.out.2.2.2.1.newF k7) (H6.out.2.2.2.2.newF k7)))))
  clear k7 H6
  go_wp2_with fail
  refine (unit_out F3 33 _ (by omega)).mono ?_
  rintro e w8 ⟨rfl, rfl⟩
  go_wp2_with fail
  refine (unit_nil 3 _).mono ?_
  rintro e w9 ⟨rfl, rfl⟩
  go_wp2_with fail
  refine (refUnitL H7.out.2.2.1 n1 (by omega)).mono ?_
  rintro e w10 ⟨g2, rfl, r10, k10⟩
  have H10 := hid (And.intro (H7.out.1.nxt k10) (And.intro (H7.out.2.1.nxt k10) (And.intro (H7.out.2.2.1.nxt k10) (And.intro (H7.out.2.2.2.1.nxt k10) (H7.out.2.2.2.2.nxt k10)))))
  have R10 := hid r10
  clear k10 H7 r10
  go_wp2_with fail
  refine (sameL H10.out.2.2.1 H10.out.1 R10.out rfl).mono ?_
  rintro e w11 ⟨rfl, k11⟩
  have H11 := hid (And.intro (H10.out.1.nxt k11) (And.intro (H10.out.2.1.nxt k11) (And.intro (H10.out.2.2.1.nxt k11) (And.intro (H10.out.2.2.2.1.nxt k11) (H10.out.2.2.2.2.nxt k11)))))
  clear k11 H10 R10
  go_wp2_with fail
  refine (mulL H11.out.2.2.1 H11.out.2.1 H11.out.1).mono ?_
  rintro e w12 ⟨p3, q3, rfl, m12, k12⟩
  rw [prod_unit HZ1.out HZ2.out] at m12
  have H12 := hid (And.intro m12 (And.intro (H11.out.1.nxt k12) (And.intro (H11.out.2.1.nxt k12) (And.intro (H11.out.2.2.1.nxt k12) (And.intro (H11.out.2.2.2.1.nxt k12) (H11.out.2.2.2.2.nxt k12))))))
  clear k12 H11 m12
  go_wp2_with fail
  refine (mulL H12.out.2.2.2.1 H12.out.2.1 H12.out.2.2.1).mono ?_
  rintro e w13 ⟨p4, q4, rfl, m13, k13⟩
  rw [unit_prod HZ1.out HZ2.out] at m13
  have H13 := hid (And.intro m13 (And.intro (H12.out.1.nxt k13) (And.intro (H12.out.2.2.1.nxt k13) (And.intro (H12.out.2.2.2.1.nxt k13) (And.intro (H12.out.2.2.2.2.1.nxt k13) (H12.out.2.2.2.2.2.nxt k13))))))
  have x0 := H13.out.2.2.2.2.1.st.c0
  have x1 := H13.out.2.2.2.2.1.st.c1
  have x2 := H13.out.2.2.2.2.1.st.c2
  clear k13 H12 m13
  go_wp2_with fail
  refine (sameL H13.out.2.2.2.1 H13.out.2.1 H13.out.2.2.2.2.2 rfl).mono ?_
  rintro e w14 ⟨rfl, k14⟩
  have H14 := hid (And.intro (H13.out.1.nxt k14) (And.intro (H13.out.2.2.1.nxt k14) (And.intro (H13.out.2.2.2.1.nxt k14) (And.intro (H13.out.2.2.2.2.1.nxt k14) (H13.out.2.2.2.2.2.nxt k14)))))
  clear x0 x1 x2
  have x0 := H14.out.2.2.2.1.st.c0
  have x1 := H14.out.2.2.2.1.st.c1
  have x2 := H14.out.2.2.2.1.st.c2
  clear k14 H13
  go_wp2_with fail
  refine (sameL H14.out.2.2.1 H14.out.1 H14.out.2.2.2.2 rfl).mono ?_
  rintro e w15 ⟨rfl, k15⟩
  have H15 := hid (And.intro (H14.out.2.1.nxt k15) (And.intro (H14.out.2.2.1.nxt k15) (And.intro (H14.out.2.2.2.1.nxt k15) (H14.out.2.2.2.2.nxt k15))))
  clear x0 x1 x2 k15 H14
  go_wp2_with fail
  refine (invertL H15.out.2.1 H15.out.1).mono ?_
  rintro e w16 ⟨k16, ⟨hr, rfl⟩ | ⟨M, p5, q5, hr, rfl, m16⟩⟩
  · have H16 := hid (H15.out.2.1.nxt k16)
    clear k16 H15 hr
    go_wp2_with fail
    refine (awakeL H16.out).mono ?_
    rintro e w17 ⟨rfl, k17⟩
    have H17 := hid (H16.out.nxt k17)
    clear k17 H16
    go_wp2
    go_ret
    exact ⟨rfl, H17.out.below⟩
  · have H16 := hid (And.intro m16 (And.intro (H15.out.2.1.nxt k16) (And.intro (H15.out.2.2.1.nxt k16) (H15.out.2.2.2.nxt k16))))
    obtain ⟨M2, hr2, e2⟩ := inv_inv HZ1.out HZ2.out hr
    have HR := hid (And.intro hr2 e2)
    clear k16 H15 hr m16 hr2 e2
    go_wp2_with fail
    refine (invertL H16.out.2.1 H16.out.1).mono ?_
    rintro e w17 ⟨k17, ⟨hr, rfl⟩ | ⟨M3, p6, q6, hr, rfl, m17⟩⟩
    · have := HR.out.1
      unfold invZ at this
      rw [hr] at this
      cases this
    · have h2 := HR.out.1
      unfold invZ at h2
      rw [hr] at h2
      cases h2
      have h3 := HR.out.2
      unfold invZ at h3
      rw [h3] at m17
      have H17 := hid (And.intro m17 (And.intro (H16.out.2.1.nxt k17) (And.intro (H16.out.2.2.1.nxt k17) (H16.out.2.2.2.nxt k17))))
      have x0 := H17.out.2.2.1.st.c0
      have x1 := H17.out.2.2.1.st.c1
      have x2 := H17.out.2.2.1.st.c2
      clear k17 H16 hr m17 h3 HR
      go_wp2_with fail
      refine (sameL H17.out.2.1 H17.out.1 H17.out.2.2.2 rfl).mono ?_
      rintro e w18 ⟨rfl, k18⟩
      have H18 := hid (H17.out.2.1.nxt k18)
      clear k18 H17 x0 x1 x2
      go_wp2_with fail
      refine (awakeL H18.out).mono ?_
      rintro e w19 ⟨rfl, k19⟩
      have H19 := hid (H18.out.nxt k19)
      clear k19 H18
      go_wp2
      go_ret
      exact ⟨rfl, H19.out.below⟩

theorem units_walk (a0 : Int) (a1 : Option Addr) (len1 cap1 : Nat) (z1 : List Int) (a2 : Option Addr) (len2 cap2 : Nat) (z2 : List Int) (w : World) (w1 : CameIn w a1 len1 cap1 z1) (w2 : CameIn w a2 len2 cap2 z2) :
    Calls Try.prog 8 #[.int .i64 a0, .slice a1 len1 cap1, .slice a2 len2 cap2] w fun e w' => e = .returned (.bool true) ∧ Below w.heap.size w w' := by
  by_cases h : 100 < len1 ∨ 100 < len2
  · exact units_long a0 a1 a2 len1 cap1 len2 cap2 w h
  · obtain ⟨z, hz⟩ := SlN.of w1
    refine units_short a0 a1 a2 len1 cap1 len2 cap2 z w hz (fun i => ?_) (by omega) (by omega)
    rcases hz.row with e | ⟨b, o, _, _, r⟩
    · have hl := hz.len
      rw [e] at hl
      rw [List.eq_nil_of_length_eq_zero hl]
      simp
    · exact r.small i
end Go.Proofs.Ytoibfpcobhopeaa
