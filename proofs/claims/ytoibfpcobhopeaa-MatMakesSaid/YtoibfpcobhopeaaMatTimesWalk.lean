/- The law MatTimes, walked. -/
import Derived.Test.YtoibfpcobhopeaaMatUnitsWalk
import Derived.Test.YtoibfpcobhopeaaRefMatMul
namespace Go.Proofs.Ytoibfpcobhopeaa
open Go.RowKit
set_option linter.unusedVariables false

/-- Two documents' matrices in variables, and their rows. -/
structure G2 (w0 : World) (FS : List Nat) (w : World) (n k o l X1 X2 g1 g2 : Nat) (v1 v2 : Value) (z1 z2 : List Nat) : Prop where
  ls : LS w0 FS w
  t1 : LT FS w X1 n k v1
  t2 : LT FS w X2 o l v2
  r1 : LR FS w g1 0 z1
  r2 : LR FS w g2 0 z2
theorem G2.nxt {w0 : World} {FS : List Nat} {w w' : World} {n k o l X1 X2 g1 g2 : Nat} {v1 v2 : Value} {z1 z2 : List Nat} (h : G2 w0 FS w n k o l X1 X2 g1 g2 v1 v2 z1 z2) (m : Nxt FS w w') : G2 w0 FS w' n k o l X1 X2 g1 g2 v1 v2 z1 z2 :=
  ⟨h.ls.nxt m, h.t1.nxt m, h.t2.nxt m, h.r1.nxt m, h.r2.nxt m⟩
theorem G2.newF {w0 : World} {FS : List Nat} {w w' : World} {F n k o l X1 X2 g1 g2 : Nat} {v1 v2 : Value} {z1 z2 : List Nat} (h : G2 w0 FS w n k o l X1 X2 g1 g2 v1 v2 z1 z2) (m : NewF w w' F) : G2 w0 (F :: FS) w' n k o l X1 X2 g1 g2 v1 v2 z1 z2 :=
  ⟨h.ls.newF m, h.t1.newF m, h.t2.newF m, h.r1.newF m, h.r2.newF m⟩
theorem G2.start {w0 : World} {FS : List Nat} {w : World} {n k o l g1 g2 : Nat} {v1 v2 : Value} {z1 z2 : List Nat} (h : LS w0 FS w) (r1 : LR FS w g1 0 z1) (r2 : LR FS w g2 0 z2) (t : TypeId) :
    G2 w0 FS ((w.alloc (.cells #[.int .i64 n, .int .i64 k, v1] t)).alloc (.cells #[.int .i64 o, .int .i64 l, v2] t)) n k o l w.heap.size (w.heap.size + 1) g1 g2 v1 v2 z1 z2 := by
  have a1 := h.alloc (.cells #[.int .i64 n, .int .i64 k, v1] t)
  have h1 := h.nxt a1
  have t1 := LT.new h n k v1 t
  have a2 := h1.alloc (.cells #[.int .i64 o, .int .i64 l, v2] t)
  have h2 := h1.nxt a2
  have t2 := LT.new h1 o l v2 t
  rw [show (w.alloc (.cells #[.int .i64 n, .int .i64 k, v1] t)).heap.size = w.heap.size + 1 by simp] at t2
  exact ⟨h2, t1.nxt a2, t2, (r1.nxt a1).nxt a2, (r2.nxt a1).nxt a2⟩

theorem make1C {w0 w : World} {FS : List Nat} {r c n cap : Nat} {a : Option Addr} {z : List Nat} (h : LS w0 FS w) (r1 : 1 ≤ r) (hr : r ≤ 10) (c1 : 1 ≤ c) (hc : c ≤ 10) (hz : SlN w a n z) :
    Calls Try.prog 17 #[.int .i64 r, .int .i64 c, .slice a n cap] w
      fun e w' => ∃ g cap', e = .returned (.agg #[.int .i64 r, .int .i64 c, .slice (some ⟨g, 0, none⟩) (r * c) cap']) ∧ LR FS w' g 0 (tab (r * c) (mk1 z)) ∧ r * c ≤ cap' ∧ (∀ i, w'.frozen? ⟨g, i, none⟩ = false) ∧ Nxt FS w w' := by
  refine (make1_any r c n cap a z w hr hc hz).mono ?_
  rintro e w' ⟨v, rfl, h1, h2⟩
  have hp := Nat.mul_le_mul r1 c1
  obtain ⟨g, cap', rfl, g1, g2, g3, g4, g5⟩ := h1.row (by rw [tab_length]; omega)
  rw [tab_length] at g5
  rw [tab_length]
  exact ⟨g, cap', rfl, ⟨g3, g2, h.lt g1⟩, g5, g4, h.nul h2⟩
theorem refMatMulL {w0 w : World} {FS : List Nat} {r k c ga gb ca cb : Nat} {z z2 : List Nat} (h : LS w0 FS w) (r1 : 1 ≤ r) (hr : r ≤ 32) (hk : k ≤ 32) (c1 : 1 ≤ c) (hc : c ≤ 32) (h1 : LR FS w ga 0 z) (h2 : LR FS w gb 0 z2) (hz1 : z.length = r * k) (hz2 : z2.length = k * c) :
    Calls Try.prog 21 #[.agg #[.int .i64 r, .int .i64 k, .slice (some ⟨ga, 0, none⟩) (r * k) ca], .agg #[.int .i64 k, .int .i64 c, .slice (some ⟨gb, 0, none⟩) (k * c) cb]] w
      fun e w' => ∃ g cap, e = .returned (.agg #[.int .i64 r, .int .i64 c, .slice (some ⟨g, 0, none⟩) (r * c) cap]) ∧ LR FS w' g 0 (prodZ r k c z z2) ∧ Nxt FS w w' := by
  refine (refMatMul_any r k c ga gb (r * k) (k * c) ca cb z z2 w hr hk hc h1.row h2.row h1.lt h2.lt rfl rfl hz1 hz2).mono ?_
  rintro e w' ⟨v, rfl, hv, hu⟩
  have hl : (prodZ r k c z z2).length = r * c := tab_length _ _
  obtain ⟨g, cap, rfl, g1, g2, g3, _, _⟩ := hv.row (by rw [hl]; exact Nat.mul_pos r1 c1)
  rw [hl]
  exact ⟨g, cap, rfl, ⟨g3, g2, h.lt g1⟩, h.nul hu⟩
theorem timesL {w0 w : World} {FS : List Nat} {p q F r c b o cap : Nat} {z z2 : List Nat} (h : LS w0 FS w) (hm : LM FS w p q F r c z) (hr : LR FS w b o z2) (hl : z2.length = c) :
    Calls Try.prog 22 #[.pointer (some ⟨p, 0, none⟩), .slice (some ⟨b, o, none⟩) c cap] w
      fun e w' => ∃ g, e = .returned (.tuple #[.slice (some ⟨g, 0, none⟩) r r, .int .i64 0]) ∧ LR FS w' g 0 (tab r fun i => sumAt c z z2 i) ∧ Nxt FS w w' := by
  refine (times_good p q F r c b o cap z z2 w hm.mat (h.fld F hm.F) hr.row hl hr.lt (fun e => hr.b (by rw [e]; exact hm.F))).mono ?_
  rintro e w' ⟨rfl, hb, hu, hf⟩
  have hrow := hb.row 0 r (by rw [tab_length]; omega)
  rw [List.drop_zero, List.take_of_length_le (by rw [tab_length]; exact Nat.le_refl _)] at hrow
  exact ⟨_, rfl, ⟨hrow, hb.lt, h.lt (Nat.le_refl _)⟩, h.one hm.F hu hf⟩
theorem dot_sum {k i : Nat} {z zv : List Nat} (hz : ∀ i, z.getD i 0 < 256) (hv : ∀ i, zv.getD i 0 < 256) (hl : i * k + k ≤ z.length) (hvl : zv.length = k) :
    dotk (nums (strOf ((z.drop (i * k)).take k))) (nums (strOf zv)) (min (strOf ((z.drop (i * k)).take k)).size (strOf zv).size) = sumAt k z zv i := by
  have h1 : ∀ s, ((z.drop (i * k)).take k).getD s 0 < 256 := fun s => by
    rcases Nat.lt_or_ge s k with h | h
    · rw [rowz_at h]; exact hz _
    · rw [List.getD_eq_getElem?_getD, List.getElem?_eq_none (by rw [rowz_length hl]; exact h)]; simp
  rw [nums_strOf h1, nums_strOf hv, strOf_size, strOf_size, rowz_length hl, hvl, Nat.min_self]
  exact dotk_sumAt
theorem refDotQ (s1 s2 : ByteArray) (w : World) (n v : Nat) (h1 : s1.size ≤ 1000) (h2 : s2.size ≤ 1000) (hv : dotk (nums s1) (nums s2) (min s1.size s2.size) = v) :
    Calls Try.prog 23 #[.string s1, .string s2] (w.drewN n) fun e w' => e = .returned (.int .u8 v) ∧ ∃ m, w' = w.drewN m := by
  refine (refDot_any s1 s2 (w.drewN n) (by omega) (by omega)).mono ?_
  rintro e w' ⟨h, m, hm⟩
  exact ⟨by rw [h, hv], n + m, by rw [hm]; exact drewN_add _ _ _⟩
theorem odd_yes (k : Nat) (hk : k < 100) (h : k % 2 = 1) : bits .and .i64 (k : Int) 1 = 1 := by
  rw [i64_mask 1 (by omega) (k : Int) 1 (by decide)]
  omega
theorem odd_no (k : Nat) (hk : k < 100) (h : k % 2 = 0) : bits .and .i64 (k : Int) 1 = 0 := by
  rw [i64_mask 1 (by omega) (k : Int) 1 (by decide)]
  omega

set_option maxRecDepth 100000 in
theorem times_long (n k l o : Int) (a b v : Option Addr) (la ca lb cb lv cv : Nat) (w : World) (h : 100 < la ∨ 100 < lb ∨ 100 < lv) :
    Calls Try.prog 6 #[.int .i64 n, .int .i64 k, .int .i64 l, .int .i64 o, .slice a la ca, .slice b lb cb, .slice v lv cv] w fun e w' => e = .returned (.bool true) ∧ Below w.heap.size w w' := by
  by_cases h1 : 100 < la
  · clear h
    go_enter Try.func6, Try.ntmps6
    go_wp2_with ((go_at_call 16; (with_reducible refine (awakeL (LS.start w)).mono ?_); rintro e w1 ⟨rfl, k1⟩; have K := hid ((LS.start w).nxt k1); clear k1))
    go_ret
    exact ⟨rfl, K.out.below⟩
  by_cases h2 : 100 < lb
  · clear h
    go_enter Try.func6, Try.ntmps6
    go_wp2_with ((go_at_call 16; (with_reducible refine (awakeL (LS.start w)).mono ?_); rintro e w1 ⟨rfl, k1⟩; have K := hid ((LS.start w).nxt k1); clear k1))
    go_ret
    exact ⟨rfl, K.out.below⟩
  · have h3 : 100 < lv := by omega
    clear h
    go_enter Try.func6, Try.ntmps6
    go_wp2_with ((go_at_call 16; (with_reducible refine (awakeL (LS.start w)).mono ?_); rintro e w1 ⟨rfl, k1⟩; have K := hid ((LS.start w).nxt k1); clear k1))
    go_ret
    exact ⟨rfl, K.out.below⟩

set_option maxRecDepth 100000 in
set_option maxHeartbeats 6400000 in
theorem times_odd (n0 k0 l0 o0 : Int) (n k l : Nat) (hn : bits .and .i64 n0 7 = (n : Int) - 1) (n1 : 1 ≤ n) (n8 : n ≤ 8) (hk : bits .and .i64 k0 7 = (k : Int) - 1) (k1 : 1 ≤ k) (k8 : k ≤ 8) (hl : bits .and .i64 l0 7 = (l : Int) - 1) (l1 : 1 ≤ l) (l8 : l ≤ 8) (o1 : Nat) (ho : bits .and .i64 o0 7 = (o1 : Int) - 1) (ho1 : 1 ≤ o1) (ho8 : o1 ≤ 8) (hodd : o1 % 2 = 1)
    (a b v : Option Addr) (la ca lb cb lv cv : Nat) (za zb zv : List Nat) (w : World) (ha : SlN w a la za) (hbz : SlN w b lb zb) (hv : SlN w v lv zv) (h8 : ∀ i, za.getD i 0 < 256) (la1 : la ≤ 100) (lb1 : lb ≤ 100) (lv1 : lv ≤ 100) :
    Calls Try.prog 6 #[.int .i64 n0, .int .i64 k0, .int .i64 l0, .int .i64 o0, .slice a la ca, .slice b lb cb, .slice v lv cv] w fun e w' => e = .returned (.bool true) ∧ Below w.heap.size w w' := by
  have hnot : ∀ (x : Bool) (w : World), (Op.unary .not (.bool x)).run Try.prog w = .ok (.bool (!x)) w := fun _ _ => rfl
  have hb := odd_yes o1 (by omega) hodd
  have HA := hid ha
  have HB := hid hbz
  have HV := hid hv
  have H8 := hid h8
  clear ha hbz hv h8
  go_enter Try.func6, Try.ntmps6
  go_wp2_with fail
  refine (make1C (LS.start w) n1 (by omega) k1 (by omega) HA.out).mono ?_
  rintro e w1 ⟨g1, cap1, rfl, r1, cle, _, m1⟩
  have HCAP := hid cle
  clear cle
  have H1 := hid (And.intro ((LS.start w).nxt m1) (And.intro r1 (HB.out.up m1.up fun _ _ h => (List.not_mem_nil h).elim)))
  clear r1 m1
  go_wp2_with fail
  refine (make1L H1.out.1 k1 (by omega) l1 (by omega) H1.out.2.2).mono ?_
  rintro e w2 ⟨g2, cap2, rfl, r2, _, _, m2⟩
  have H2 := hid (And.intro (H1.out.1.nxt m2) (And.intro (H1.out.2.1.nxt m2) r2))
  clear r2 m2 H1
  go_wp2_with fail
  have HG := hid (G2.start (n := n) (k := k) (o := k) (l := l) (v1 := (.slice (some ⟨g1, 0, none⟩) (n * k) cap1)) (v2 := (.slice (some ⟨g2, 0, none⟩) (k * l) cap2)) H2.out.1 H2.out.2.1 H2.out.2.2 35)
  obtain ⟨z1, Z1⟩ : ∃ x, x = tab (n * k) (mk1 za) := ⟨_, rfl⟩
  obtain ⟨z2, Z2⟩ : ∃ x, x = tab (k * l) (mk1 zb) := ⟨_, rfl⟩
  have L1 : Hid (z1.length = n * k) := by show _ = _; rw [Z1]; exact tab_length _ _
  have L2 : Hid (z2.length = k * l) := by show _ = _; rw [Z2]; exact tab_length _ _
  have S1 : Hid (∀ i, z1.getD i 0 < 256) := by show ∀ i, _; rw [Z1]; exact small_getD (mk1_small H8.out _)
  rw [← Z1, ← Z2] at HG
  clear Z1 Z2 H2 H8
  generalize ((w2.alloc (.cells #[.int .i64 n, .int .i64 k, (.slice (some ⟨g1, 0, none⟩) (n * k) cap1)] 35)).alloc (.cells #[.int .i64 k, .int .i64 l, (.slice (some ⟨g2, 0, none⟩) (k * l) cap2)] 35)) = w4 at *
  generalize w2.heap.size + 1 = X2 at *
  generalize w2.heap.size = X1 at *
  have s2 := HG.out.t1.st.c2
  have HD : Hid (G2 w [] w4.drew n k k l X1 X2 g1 g2 (.slice (some ⟨g1, 0, none⟩) (n * k) cap1) (.slice (some ⟨g2, 0, none⟩) (k * l) cap2) z1 z2) := HG.out.nxt HG.out.ls.drew
  go_region_held3 (fun w' => w'.cell? ⟨X1, 2, none⟩ = some (.slice (some ⟨g1, 0, none⟩) (n * k) cap1)) (first | assumption | go_keep)
    ((first
      | (go_at_call 9; (with_reducible refine (gfNewF _).mono ?_); rintro e w5 ⟨F1, rfl, m5⟩; have H5 := hid (HD.out.newF m5); have s3 := H5.out.t1.st.c2; clear m5)
      | (go_at_call 11; (with_reducible refine (newL H5.out.ls (List.mem_cons_self ..) n1 (by omega) k1 (by omega) H5.out.r1 L1.out rfl).mono ?_); rintro e w6 ⟨p1, q1, rfl, n6, m6⟩; have H6 := hid (And.intro (H5.out.nxt m6) n6); have s4 := H6.out.1.t1.st.c2; clear m6 n6)))
  clear s2 s3 s4 HG HD H5
  go_wp2_with fail
  have s2 := H6.out.1.t2.st.c2
  have HD : Hid (G2 w [F1] w6.drew n k k l X1 X2 g1 g2 (.slice (some ⟨g1, 0, none⟩) (n * k) cap1) (.slice (some ⟨g2, 0, none⟩) (k * l) cap2) z1 z2 ∧ LM [F1] w6.drew p1 q1 F1 n k z1) := ⟨H6.out.1.nxt H6.out.1.ls.drew, H6.out.2.nxt H6.out.1.ls.drew⟩
  go_region_held3 (fun w' => w'.cell? ⟨X2, 2, none⟩ = some (.slice (some ⟨g2, 0, none⟩) (k * l) cap2)) (first | assumption | go_keep)
    ((first
      | (go_at_call 9; (with_reducible refine (gfNewF _).mono ?_); rintro e w7 ⟨F2, rfl, m7⟩; have H7 := hid (And.intro (HD.out.1.newF m7) (HD.out.2.newF m7)); have s3 := H7.out.1.t2.st.c2; clear m7)
      | (go_at_call 11; (with_reducible refine (newL H7.out.1.ls (List.mem_cons_self ..) k1 (by omega) l1 (by omega) H7.out.1.r2 L2.out rfl).mono ?_); rintro e w8 ⟨p2, q2, rfl, n8, m8⟩; have H8 := hid (And.intro (H7.out.1.nxt m8) (And.intro (H7.out.2.nxt m8) n8)); have s4 := H8.out.1.t2.st.c2; clear m8 n8)))
  clear s2 s3 s4 H6 HD H7
  go_wp2_with fail
  refine (mulL H8.out.1.ls H8.out.2.1 H8.out.2.2).mono ?_
  rintro e wm ⟨p3, q3, rfl, nm, mm⟩
  have HM := hid (And.intro (H8.out.1.nxt mm) (And.intro (H8.out.2.1.nxt mm) nm))
  have y0 := HM.out.1.t1.st.c0
  have y1 := HM.out.1.t1.st.c1
  have y2 := HM.out.1.t1.st.c2
  have y3 := HM.out.1.t2.st.c0
  have y4 := HM.out.1.t2.st.c1
  have y5 := HM.out.1.t2.st.c2
  clear nm mm H8
  go_wp2_with fail
  refine (refMatMulL HM.out.1.ls n1 (by omega) (by omega) l1 (by omega) HM.out.1.r1 HM.out.1.r2 L1.out L2.out).mono ?_
  rintro e wr1 ⟨g5, cap5, rfl, rr, mr⟩
  have HR := hid (And.intro (HM.out.1.nxt mr) (And.intro (HM.out.2.1.nxt mr) (And.intro (HM.out.2.2.nxt mr) rr)))
  clear y0 y1 y2 y3 y4 y5 rr mr HM
  go_wp2_with fail
  refine (sameL HR.out.1.ls HR.out.2.2.1 HR.out.2.2.2 rfl).mono ?_
  rintro e w9 ⟨rfl, m9⟩
  have H9 := hid (And.intro (HR.out.1.nxt m9) (HR.out.2.1.nxt m9))
  clear m9 HR
  by_cases hlv : lv = k
  · obtain rfl := hlv.symm
    obtain ⟨bv, ov, rfl, hvl, hvr⟩ : ∃ b o, v = some ⟨b, o, none⟩ ∧ b < w.heap.size ∧ Row w b o zv := by
      rcases HV.out.row with e | h
      · omega
      · exact h
    have hrv : LR [F2, F1] w9 bv ov zv := ⟨hvr.up H9.out.1.ls.up hvl id, Nat.lt_of_lt_of_le hvl H9.out.1.ls.up.size, fun hm => by have := H9.out.1.ls.own _ hm; omega⟩
    have HRV := hid hrv
    have HVL := hid HV.out.len
    have HVS := hid hvr.small
    clear hrv hvl hvr
    go_wp2_with fail
    refine (timesL H9.out.1.ls H9.out.2 HRV.out HVL.out).mono ?_
    rintro e wt ⟨gt, rfl, rt, mt⟩
    have HT := hid (And.intro (H9.out.1.nxt mt) (And.intro (H9.out.2.nxt mt) (And.intro rt (HRV.out.nxt mt))))
    clear rt mt H9 HRV
    go_wp2_with fail
    go_loopw [25] (fun i wr => ∃ m d : Nat, m ≤ n ∧ i = .int .i64 m ∧ wr = wt.drewN d) (fun i _ => n - (intOf i).toNat)
    case atStart => exact ⟨0, 0, by omega, rfl, rfl⟩
    case round =>
      obtain ⟨m, d, hm, rfl, hw⟩ := hrel
      have HW := hid hw
      by_cases hlt : m < n
      · have f1 : wr.cell? ⟨X1, 2, none⟩ = some (.slice (some ⟨g1, 0, none⟩) (n * k) cap1) := by rw [hw]; exact HT.out.1.t1.st.c2
        have hts := HT.out.2.2.1.row.cells m (by rw [tab_length]; exact hlt)
        rw [tab_at _ _ _ hlt, Nat.zero_add] at hts
        have hzl : m * k + k ≤ z1.length := by
          have := Nat.mul_le_mul_right k (show m + 1 ≤ n from hlt)
          rw [L1.out]
          rw [Nat.add_mul] at this
          omega
        have HDS := hid (dot_sum S1.out HVS.out hzl HVL.out)
        obtain ⟨x, X⟩ : ∃ x, Hid (sumAt k z1 zv m = x) := ⟨_, rfl⟩
        rw [X.out] at hts HDS
        have hts2 : wr.cell? ⟨gt, m, none⟩ = some (.int .u8 x) := by rw [hw]; exact hts
        have hrow : Row wt g1 (m * k) ((z1.drop (m * k)).take k) := by
          refine ⟨fun i hi => ?_, fun i => ?_⟩
          · rw [rowz_length hzl] at hi
            rw [rowz_at hi]
            have := HT.out.1.r1.row.cells (m * k + i) (by omega)
            rw [Nat.zero_add] at this
            exact this
          · rcases Nat.lt_or_ge i k with h | h
            · rw [rowz_at h]; exact S1.out _
            · rw [List.getD_eq_getElem?_getD, List.getElem?_eq_none (by rw [rowz_length hzl]; exact h)]; simp
        have hc1 : ∀ (y : Nat) (c : Nat), (convert 24 9 (.slice (some ⟨g1, m * k, none⟩) k c)).run Try.prog (wr.drewN y) = .ok (.string (strOf ((z1.drop (m * k)).take k))) (wr.drewN y) := fun y c => conv_row (w := wr.drewN y) (by rw [hw]; exact ⟨hrow.cells, hrow.small⟩) (rowz_length hzl)
        have hc2 : ∀ y : Nat, (convert 24 9 (.slice (some ⟨bv, ov, none⟩) k cv)).run Try.prog (wr.drewN y) = .ok (.string (strOf zv)) (wr.drewN y) := fun y => conv_row (w := wr.drewN y) (by rw [hw]; exact ⟨HT.out.2.2.2.row.cells, HT.out.2.2.2.row.small⟩) HVL.out
        obtain ⟨u1, U1⟩ : ∃ x, Hid (strOf ((z1.drop (m * k)).take k) = x) := ⟨_, rfl⟩
        obtain ⟨u2, U2⟩ : ∃ x, Hid (strOf zv = x) := ⟨_, rfl⟩
        rw [U1.out, U2.out] at HDS
        rw [U1.out] at hc1
        rw [U2.out] at hc2
        have HQ : Hid (u1.size ≤ 1000 ∧ u2.size ≤ 1000) := by
          show _ ∧ _
          rw [← U1.out, ← U2.out, strOf_size, strOf_size, rowz_length hzl, HVL.out]
          omega
        have em : (m : Int) * (k : Int) = ((m * k : Nat) : Int) := by simp
        have eml : m * k + k ≤ n * k := by rw [← L1.out]; exact hzl
        have enk : n * k ≤ 8 * 8 := Nat.mul_le_mul n8 k8
        obtain ⟨mk, MK⟩ : ∃ x, Hid (m * k = x) := ⟨_, rfl⟩
        rw [MK.out] at em eml hc1
        obtain ⟨nk, NK⟩ : ∃ x, Hid (n * k = x) := ⟨_, rfl⟩
        rw [NK.out] at eml enk f1
        have ecap := HCAP.out
        rw [NK.out] at ecap
        have e4 : mk < cap1 := by omega
        have e6 : mk + k ≤ cap1 := by omega
        clear ecap
        have e5 : mk + k - mk = k := by omega
        clear hw hts hzl hrow
        go_wp2_with fail
        go_quiet ((go_at_call 23; exact refDotQ u1 u2 _ _ x HQ.out.1 HQ.out.2 HDS.out))
        go_wp2
        go_roundw
        case rel => exact ⟨m + 1, _, by omega, by go_num, by rw [HW.out]; exact drewN_add _ _ _⟩
        case measure => simp [intOf]; omega
      · obtain rfl : n = m := by omega
        have hn9 : Nxt [F2, F1] wt wr := by rw [hw]; exact HT.out.1.ls.drewN d
        have H10 := hid (And.intro (HT.out.1.ls.nxt hn9) (HT.out.2.1.nxt hn9))
        clear hn9 hw HW HT
        go_wp2_with fail
        refine (mul_nil p1 q1 F1 n k z1 wr H10.out.2.mat).mono ?_
        rintro e wz ⟨rfl, dz, EZ⟩
        have H11 : Hid (LS w [F2, F1] wz) := by show LS _ _ _; rw [EZ]; exact H10.out.1.nxt (H10.out.1.drewN dz)
        clear EZ H10
        go_wp2_with fail
        refine (awakeL H11.out).mono ?_
        rintro e wy ⟨rfl, my⟩
        have H12 := hid (H11.out.nxt my)
        clear my H11
        go_wp2
        go_ret
        exact ⟨rfl, H12.out.below⟩
  · have hd3 : ((lv : Int) == (k : Int)) = false := by simp; omega
    have hd4 : ((lv : Int) != (k : Int)) = true := by simp; omega
    have HLV := hid hlv
    clear hlv
    go_wp2_with fail
    refine (times_bad p1 q1 F1 n k lv cv v z1 w9 H9.out.2.mat HLV.out).mono ?_
    rintro e wt ⟨rfl, rfl⟩
    go_wp2_with fail
    refine (awakeL H9.out.1.ls).mono ?_
    rintro e wy ⟨rfl, my⟩
    have H12 := hid (H9.out.1.ls.nxt my)
    clear my H9
    go_wp2
    go_ret
    exact ⟨rfl, H12.out.below⟩

set_option maxRecDepth 100000 in
set_option maxHeartbeats 6400000 in
theorem times_eq (n0 k0 l0 o0 : Int) (n k l : Nat) (hn : bits .and .i64 n0 7 = (n : Int) - 1) (n1 : 1 ≤ n) (n8 : n ≤ 8) (hk : bits .and .i64 k0 7 = (k : Int) - 1) (k1 : 1 ≤ k) (k8 : k ≤ 8) (hl : bits .and .i64 l0 7 = (l : Int) - 1) (l1 : 1 ≤ l) (l8 : l ≤ 8) (ho : bits .and .i64 o0 7 = (k : Int) - 1) (hodd : k % 2 = 0)
    (a b v : Option Addr) (la ca lb cb lv cv : Nat) (za zb zv : List Nat) (w : World) (ha : SlN w a la za) (hbz : SlN w b lb zb) (hv : SlN w v lv zv) (h8 : ∀ i, za.getD i 0 < 256) (la1 : la ≤ 100) (lb1 : lb ≤ 100) (lv1 : lv ≤ 100) :
    Calls Try.prog 6 #[.int .i64 n0, .int .i64 k0, .int .i64 l0, .int .i64 o0, .slice a la ca, .slice b lb cb, .slice v lv cv] w fun e w' => e = .returned (.bool true) ∧ Below w.heap.size w w' := by
  have hnot : ∀ (x : Bool) (w : World), (Op.unary .not (.bool x)).run Try.prog w = .ok (.bool (!x)) w := fun _ _ => rfl
  have hb := odd_no k (by omega) hodd
  have HA := hid ha
  have HB := hid hbz
  have HV := hid hv
  have H8 := hid h8
  clear ha hbz hv h8
  go_enter Try.func6, Try.ntmps6
  go_wp2_with fail
  refine (make1C (LS.start w) n1 (by omega) k1 (by omega) HA.out).mono ?_
  rintro e w1 ⟨g1, cap1, rfl, r1, cle, _, m1⟩
  have HCAP := hid cle
  clear cle
  have H1 := hid (And.intro ((LS.start w).nxt m1) (And.intro r1 (HB.out.up m1.up fun _ _ h => (List.not_mem_nil h).elim)))
  clear r1 m1
  go_wp2_with fail
  refine (make1L H1.out.1 k1 (by omega) l1 (by omega) H1.out.2.2).mono ?_
  rintro e w2 ⟨g2, cap2, rfl, r2, _, _, m2⟩
  have H2 := hid (And.intro (H1.out.1.nxt m2) (And.intro (H1.out.2.1.nxt m2) r2))
  clear r2 m2 H1
  go_wp2_with fail
  have HG := hid (G2.start (n := n) (k := k) (o := k) (l := l) (v1 := (.slice (some ⟨g1, 0, none⟩) (n * k) cap1)) (v2 := (.slice (some ⟨g2, 0, none⟩) (k * l) cap2)) H2.out.1 H2.out.2.1 H2.out.2.2 35)
  obtain ⟨z1, Z1⟩ : ∃ x, x = tab (n * k) (mk1 za) := ⟨_, rfl⟩
  obtain ⟨z2, Z2⟩ : ∃ x, x = tab (k * l) (mk1 zb) := ⟨_, rfl⟩
  have L1 : Hid (z1.length = n * k) := by show _ = _; rw [Z1]; exact tab_length _ _
  have L2 : Hid (z2.length = k * l) := by show _ = _; rw [Z2]; exact tab_length _ _
  have S1 : Hid (∀ i, z1.getD i 0 < 256) := by show ∀ i, _; rw [Z1]; exact small_getD (mk1_small H8.out _)
  rw [← Z1, ← Z2] at HG
  clear Z1 Z2 H2 H8
  generalize ((w2.alloc (.cells #[.int .i64 n, .int .i64 k, (.slice (some ⟨g1, 0, none⟩) (n * k) cap1)] 35)).alloc (.cells #[.int .i64 k, .int .i64 l, (.slice (some ⟨g2, 0, none⟩) (k * l) cap2)] 35)) = w4 at *
  generalize w2.heap.size + 1 = X2 at *
  generalize w2.heap.size = X1 at *
  have s2 := HG.out.t1.st.c2
  have HD : Hid (G2 w [] w4.drew n k k l X1 X2 g1 g2 (.slice (some ⟨g1, 0, none⟩) (n * k) cap1) (.slice (some ⟨g2, 0, none⟩) (k * l) cap2) z1 z2) := HG.out.nxt HG.out.ls.drew
  go_region_held3 (fun w' => w'.cell? ⟨X1, 2, none⟩ = some (.slice (some ⟨g1, 0, none⟩) (n * k) cap1)) (first | assumption | go_keep)
    ((first
      | (go_at_call 9; (with_reducible refine (gfNewF _).mono ?_); rintro e w5 ⟨F1, rfl, m5⟩; have H5 := hid (HD.out.newF m5); have s3 := H5.out.t1.st.c2; clear m5)
      | (go_at_call 11; (with_reducible refine (newL H5.out.ls (List.mem_cons_self ..) n1 (by omega) k1 (by omega) H5.out.r1 L1.out rfl).mono ?_); rintro e w6 ⟨p1, q1, rfl, n6, m6⟩; have H6 := hid (And.intro (H5.out.nxt m6) n6); have s4 := H6.out.1.t1.st.c2; clear m6 n6)))
  clear s2 s3 s4 HG HD H5
  go_wp2_with fail
  have s2 := H6.out.1.t2.st.c2
  have HD : Hid (G2 w [F1] w6.drew n k k l X1 X2 g1 g2 (.slice (some ⟨g1, 0, none⟩) (n * k) cap1) (.slice (some ⟨g2, 0, none⟩) (k * l) cap2) z1 z2 ∧ LM [F1] w6.drew p1 q1 F1 n k z1) := ⟨H6.out.1.nxt H6.out.1.ls.drew, H6.out.2.nxt H6.out.1.ls.drew⟩
  go_region_held3 (fun w' => w'.cell? ⟨X2, 2, none⟩ = some (.slice (some ⟨g2, 0, none⟩) (k * l) cap2)) (first | assumption | go_keep)
    ((first
      | (go_at_call 9; (with_reducible refine (gfNewF _).mono ?_); rintro e w7 ⟨F2, rfl, m7⟩; have H7 := hid (And.intro (HD.out.1.newF m7) (HD.out.2.newF m7)); have s3 := H7.out.1.t2.st.c2; clear m7)
      | (go_at_call 11; (with_reducible refine (newL H7.out.1.ls (List.mem_cons_self ..) k1 (by omega) l1 (by omega) H7.out.1.r2 L2.out rfl).mono ?_); rintro e w8 ⟨p2, q2, rfl, n8, m8⟩; have H8 := hid (And.intro (H7.out.1.nxt m8) (And.intro (H7.out.2.nxt m8) n8)); have s4 := H8.out.1.t2.st.c2; clear m8 n8)))
  clear s2 s3 s4 H6 HD H7
  go_wp2_with fail
  refine (mulL H8.out.1.ls H8.out.2.1 H8.out.2.2).mono ?_
  rintro e wm ⟨p3, q3, rfl, nm, mm⟩
  have HM := hid (And.intro (H8.out.1.nxt mm) (And.intro (H8.out.2.1.nxt mm) nm))
  have y0 := HM.out.1.t1.st.c0
  have y1 := HM.out.1.t1.st.c1
  have y2 := HM.out.1.t1.st.c2
  have y3 := HM.out.1.t2.st.c0
  have y4 := HM.out.1.t2.st.c1
  have y5 := HM.out.1.t2.st.c2
  clear nm mm H8
  go_wp2_with fail
  refine (refMatMulL HM.out.1.ls n1 (by omega) (by omega) l1 (by omega) HM.out.1.r1 HM.out.1.r2 L1.out L2.out).mono ?_
  rintro e wr1 ⟨g5, cap5, rfl, rr, mr⟩
  have HR := hid (And.intro (HM.out.1.nxt mr) (And.intro (HM.out.2.1.nxt mr) (And.intro (HM.out.2.2.nxt mr) rr)))
  clear y0 y1 y2 y3 y4 y5 rr mr HM
  go_wp2_with fail
  refine (sameL HR.out.1.ls HR.out.2.2.1 HR.out.2.2.2 rfl).mono ?_
  rintro e w9 ⟨rfl, m9⟩
  have H9 := hid (And.intro (HR.out.1.nxt m9) (HR.out.2.1.nxt m9))
  clear m9 HR
  by_cases hlv : lv = k
  · obtain rfl := hlv.symm
    obtain ⟨bv, ov, rfl, hvl, hvr⟩ : ∃ b o, v = some ⟨b, o, none⟩ ∧ b < w.heap.size ∧ Row w b o zv := by
      rcases HV.out.row with e | h
      · omega
      · exact h
    have hrv : LR [F2, F1] w9 bv ov zv := ⟨hvr.up H9.out.1.ls.up hvl id, Nat.lt_of_lt_of_le hvl H9.out.1.ls.up.size, fun hm => by have := H9.out.1.ls.own _ hm; omega⟩
    have HRV := hid hrv
    have HVL := hid HV.out.len
    have HVS := hid hvr.small
    clear hrv hvl hvr
    go_wp2_with fail
    refine (timesL H9.out.1.ls H9.out.2 HRV.out HVL.out).mono ?_
    rintro e wt ⟨gt, rfl, rt, mt⟩
    have HT := hid (And.intro (H9.out.1.nxt mt) (And.intro (H9.out.2.nxt mt) (And.intro rt (HRV.out.nxt mt))))
    clear rt mt H9 HRV
    go_wp2_with fail
    go_loopw [25] (fun i wr => ∃ m d : Nat, m ≤ n ∧ i = .int .i64 m ∧ wr = wt.drewN d) (fun i _ => n - (intOf i).toNat)
    case atStart => exact ⟨0, 0, by omega, rfl, rfl⟩
    case round =>
      obtain ⟨m, d, hm, rfl, hw⟩ := hrel
      have HW := hid hw
      by_cases hlt : m < n
      · have f1 : wr.cell? ⟨X1, 2, none⟩ = some (.slice (some ⟨g1, 0, none⟩) (n * k) cap1) := by rw [hw]; exact HT.out.1.t1.st.c2
        have hts := HT.out.2.2.1.row.cells m (by rw [tab_length]; exact hlt)
        rw [tab_at _ _ _ hlt, Nat.zero_add] at hts
        have hzl : m * k + k ≤ z1.length := by
          have := Nat.mul_le_mul_right k (show m + 1 ≤ n from hlt)
          rw [L1.out]
          rw [Nat.add_mul] at this
          omega
        have HDS := hid (dot_sum S1.out HVS.out hzl HVL.out)
        obtain ⟨x, X⟩ : ∃ x, Hid (sumAt k z1 zv m = x) := ⟨_, rfl⟩
        rw [X.out] at hts HDS
        have hts2 : wr.cell? ⟨gt, m, none⟩ = some (.int .u8 x) := by rw [hw]; exact hts
        have hrow : Row wt g1 (m * k) ((z1.drop (m * k)).take k) := by
          refine ⟨fun i hi => ?_, fun i => ?_⟩
          · rw [rowz_length hzl] at hi
            rw [rowz_at hi]
            have := HT.out.1.r1.row.cells (m * k + i) (by omega)
            rw [Nat.zero_add] at this
            exact this
          · rcases Nat.lt_or_ge i k with h | h
            · rw [rowz_at h]; exact S1.out _
            · rw [List.getD_eq_getElem?_getD, List.getElem?_eq_none (by rw [rowz_length hzl]; exact h)]; simp
        have hc1 : ∀ (y : Nat) (c : Nat), (convert 24 9 (.slice (some ⟨g1, m * k, none⟩) k c)).run Try.prog (wr.drewN y) = .ok (.string (strOf ((z1.drop (m * k)).take k))) (wr.drewN y) := fun y c => conv_row (w := wr.drewN y) (by rw [hw]; exact ⟨hrow.cells, hrow.small⟩) (rowz_length hzl)
        have hc2 : ∀ y : Nat, (convert 24 9 (.slice (some ⟨bv, ov, none⟩) k cv)).run Try.prog (wr.drewN y) = .ok (.string (strOf zv)) (wr.drewN y) := fun y => conv_row (w := wr.drewN y) (by rw [hw]; exact ⟨HT.out.2.2.2.row.cells, HT.out.2.2.2.row.small⟩) HVL.out
        obtain ⟨u1, U1⟩ : ∃ x, Hid (strOf ((z1.drop (m * k)).take k) = x) := ⟨_, rfl⟩
        obtain ⟨u2, U2⟩ : ∃ x, Hid (strOf zv = x) := ⟨_, rfl⟩
        rw [U1.out, U2.out] at HDS
        rw [U1.out] at hc1
        rw [U2.out] at hc2
        have HQ : Hid (u1.size ≤ 1000 ∧ u2.size ≤ 1000) := by
          show _ ∧ _
          rw [← U1.out, ← U2.out, strOf_size, strOf_size, rowz_length hzl, HVL.out]
          omega
        have em : (m : Int) * (k : Int) = ((m * k : Nat) : Int) := by simp
        have eml : m * k + k ≤ n * k := by rw [← L1.out]; exact hzl
        have enk : n * k ≤ 8 * 8 := Nat.mul_le_mul n8 k8
        obtain ⟨mk, MK⟩ : ∃ x, Hid (m * k = x) := ⟨_, rfl⟩
        rw [MK.out] at em eml hc1
        obtain ⟨nk, NK⟩ : ∃ x, Hid (n * k = x) := ⟨_, rfl⟩
        rw [NK.out] at eml enk f1
        have ecap := HCAP.out
        rw [NK.out] at ecap
        have e4 : mk < cap1 := by omega
        have e6 : mk + k ≤ cap1 := by omega
        clear ecap
        have e5 : mk + k - mk = k := by omega
        clear hw hts hzl hrow
        go_wp2_with fail
        go_quiet ((go_at_call 23; exact refDotQ u1 u2 _ _ x HQ.out.1 HQ.out.2 HDS.out))
        go_wp2
        go_roundw
        case rel => exact ⟨m + 1, _, by omega, by go_num, by rw [HW.out]; exact drewN_add _ _ _⟩
        case measure => simp [intOf]; omega
      · obtain rfl : n = m := by omega
        have hn9 : Nxt [F2, F1] wt wr := by rw [hw]; exact HT.out.1.ls.drewN d
        have H10 := hid (And.intro (HT.out.1.ls.nxt hn9) (HT.out.2.1.nxt hn9))
        clear hn9 hw HW HT
        go_wp2_with fail
        refine (mul_nil p1 q1 F1 n k z1 wr H10.out.2.mat).mono ?_
        rintro e wz ⟨rfl, dz, EZ⟩
        have H11 : Hid (LS w [F2, F1] wz) := by show LS _ _ _; rw [EZ]; exact H10.out.1.nxt (H10.out.1.drewN dz)
        clear EZ H10
        go_wp2_with fail
        refine (awakeL H11.out).mono ?_
        rintro e wy ⟨rfl, my⟩
        have H12 := hid (H11.out.nxt my)
        clear my H11
        go_wp2
        go_ret
        exact ⟨rfl, H12.out.below⟩
  · have hd3 : ((lv : Int) == (k : Int)) = false := by simp; omega
    have hd4 : ((lv : Int) != (k : Int)) = true := by simp; omega
    have HLV := hid hlv
    clear hlv
    go_wp2_with fail
    refine (times_bad p1 q1 F1 n k lv cv v z1 w9 H9.out.2.mat HLV.out).mono ?_
    rintro e wt ⟨rfl, rfl⟩
    go_wp2_with fail
    refine (awakeL H9.out.1.ls).mono ?_
    rintro e wy ⟨rfl, my⟩
    have H12 := hid (H9.out.1.ls.nxt my)
    clear my H9
    go_wp2
    go_ret
    exact ⟨rfl, H12.out.below⟩

set_option maxRecDepth 100000 in
set_option maxHeartbeats 6400000 in
theorem times_neq (n0 k0 l0 o0 : Int) (n k l : Nat) (hn : bits .and .i64 n0 7 = (n : Int) - 1) (n1 : 1 ≤ n) (n8 : n ≤ 8) (hk : bits .and .i64 k0 7 = (k : Int) - 1) (k1 : 1 ≤ k) (k8 : k ≤ 8) (hl : bits .and .i64 l0 7 = (l : Int) - 1) (l1 : 1 ≤ l) (l8 : l ≤ 8) (o : Nat) (ho : bits .and .i64 o0 7 = (o : Int) - 1) (o1 : 1 ≤ o) (o8 : o ≤ 8) (hodd : o % 2 = 0) (hok : o ≠ k)
    (a b v : Option Addr) (la ca lb cb lv cv : Nat) (za zb zv : List Nat) (w : World) (ha : SlN w a la za) (hbz : SlN w b lb zb) (hv : SlN w v lv zv) (h8 : ∀ i, za.getD i 0 < 256) (la1 : la ≤ 100) (lb1 : lb ≤ 100) (lv1 : lv ≤ 100) :
    Calls Try.prog 6 #[.int .i64 n0, .int .i64 k0, .int .i64 l0, .int .i64 o0, .slice a la ca, .slice b lb cb, .slice v lv cv] w fun e w' => e = .returned (.bool true) ∧ Below w.heap.size w w' := by
  have hnot : ∀ (x : Bool) (w : World), (Op.unary .not (.bool x)).run Try.prog w = .ok (.bool (!x)) w := fun _ _ => rfl
  have hb := odd_no o (by omega) hodd
  have hd1 : ((o : Int) == (k : Int)) = false := by simp; omega
  have hd2 : ((o : Int) != (k : Int)) = true := by simp; omega
  have HA := hid ha
  have HB := hid hbz
  have HV := hid hv
  have H8 := hid h8
  clear ha hbz hv h8
  go_enter Try.func6, Try.ntmps6
  go_wp2_with fail
  refine (make1C (LS.start w) n1 (by omega) k1 (by omega) HA.out).mono ?_
  rintro e w1 ⟨g1, cap1, rfl, r1, cle, _, m1⟩
  have HCAP := hid cle
  clear cle
  have H1 := hid (And.intro ((LS.start w).nxt m1) (And.intro r1 (HB.out.up m1.up fun _ _ h => (List.not_mem_nil h).elim)))
  clear r1 m1
  go_wp2_with fail
  refine (make1L H1.out.1 o1 (by omega) l1 (by omega) H1.out.2.2).mono ?_
  rintro e w2 ⟨g2, cap2, rfl, r2, _, _, m2⟩
  have H2 := hid (And.intro (H1.out.1.nxt m2) (And.intro (H1.out.2.1.nxt m2) r2))
  clear r2 m2 H1
  go_wp2_with fail
  have HG := hid (G2.start (n := n) (k := k) (o := o) (l := l) (v1 := (.slice (some ⟨g1, 0, none⟩) (n * k) cap1)) (v2 := (.slice (some ⟨g2, 0, none⟩) (o * l) cap2)) H2.out.1 H2.out.2.1 H2.out.2.2 35)
  obtain ⟨z1, Z1⟩ : ∃ x, x = tab (n * k) (mk1 za) := ⟨_, rfl⟩
  obtain ⟨z2, Z2⟩ : ∃ x, x = tab (o * l) (mk1 zb) := ⟨_, rfl⟩
  have L1 : Hid (z1.length = n * k) := by show _ = _; rw [Z1]; exact tab_length _ _
  have L2 : Hid (z2.length = o * l) := by show _ = _; rw [Z2]; exact tab_length _ _
  have S1 : Hid (∀ i, z1.getD i 0 < 256) := by show ∀ i, _; rw [Z1]; exact small_getD (mk1_small H8.out _)
  rw [← Z1, ← Z2] at HG
  clear Z1 Z2 H2 H8
  generalize ((w2.alloc (.cells #[.int .i64 n, .int .i64 k, (.slice (some ⟨g1, 0, none⟩) (n * k) cap1)] 35)).alloc (.cells #[.int .i64 o, .int .i64 l, (.slice (some ⟨g2, 0, none⟩) (o * l) cap2)] 35)) = w4 at *
  generalize w2.heap.size + 1 = X2 at *
  generalize w2.heap.size = X1 at *
  have s2 := HG.out.t1.st.c2
  have HD : Hid (G2 w [] w4.drew n k o l X1 X2 g1 g2 (.slice (some ⟨g1, 0, none⟩) (n * k) cap1) (.slice (some ⟨g2, 0, none⟩) (o * l) cap2) z1 z2) := HG.out.nxt HG.out.ls.drew
  go_region_held3 (fun w' => w'.cell? ⟨X1, 2, none⟩ = some (.slice (some ⟨g1, 0, none⟩) (n * k) cap1)) (first | assumption | go_keep)
    ((first
      | (go_at_call 9; (with_reducible refine (gfNewF _).mono ?_); rintro e w5 ⟨F1, rfl, m5⟩; have H5 := hid (HD.out.newF m5); have s3 := H5.out.t1.st.c2; clear m5)
      | (go_at_call 11; (with_reducible refine (newL H5.out.ls (List.mem_cons_self ..) n1 (by omega) k1 (by omega) H5.out.r1 L1.out rfl).mono ?_); rintro e w6 ⟨p1, q1, rfl, n6, m6⟩; have H6 := hid (And.intro (H5.out.nxt m6) n6); have s4 := H6.out.1.t1.st.c2; clear m6 n6)))
  clear s2 s3 s4 HG HD H5
  go_wp2_with fail
  have s2 := H6.out.1.t2.st.c2
  have HD : Hid (G2 w [F1] w6.drew n k o l X1 X2 g1 g2 (.slice (some ⟨g1, 0, none⟩) (n * k) cap1) (.slice (some ⟨g2, 0, none⟩) (o * l) cap2) z1 z2 ∧ LM [F1] w6.drew p1 q1 F1 n k z1) := ⟨H6.out.1.nxt H6.out.1.ls.drew, H6.out.2.nxt H6.out.1.ls.drew⟩
  go_region_held3 (fun w' => w'.cell? ⟨X2, 2, none⟩ = some (.slice (some ⟨g2, 0, none⟩) (o * l) cap2)) (first | assumption | go_keep)
    ((first
      | (go_at_call 9; (with_reducible refine (gfNewF _).mono ?_); rintro e w7 ⟨F2, rfl, m7⟩; have H7 := hid (And.intro (HD.out.1.newF m7) (HD.out.2.newF m7)); have s3 := H7.out.1.t2.st.c2; clear m7)
      | (go_at_call 11; (with_reducible refine (newL H7.out.1.ls (List.mem_cons_self ..) o1 (by omega) l1 (by omega) H7.out.1.r2 L2.out rfl).mono ?_); rintro e w8 ⟨p2, q2, rfl, n8, m8⟩; have H8 := hid (And.intro (H7.out.1.nxt m8) (And.intro (H7.out.2.nxt m8) n8)); have s4 := H8.out.1.t2.st.c2; clear m8 n8)))
  clear s2 s3 s4 H6 HD H7
  go_wp2_with fail
  refine (mul_bad p1 q1 F1 n k p2 q2 F2 o l z1 z2 w8 H8.out.2.1.mat H8.out.2.2.mat hok).mono ?_
  rintro e w9 ⟨rfl, d9, E9⟩
  have hn9 : Nxt [F2, F1] w8 w9 := by rw [E9]; exact H8.out.1.ls.drewN d9
  have H9 := hid (And.intro (H8.out.1.nxt hn9) (H8.out.2.1.nxt hn9))
  clear hn9 E9 H8
  by_cases hlv : lv = k
  · obtain rfl := hlv.symm
    obtain ⟨bv, ov, rfl, hvl, hvr⟩ : ∃ b o, v = some ⟨b, o, none⟩ ∧ b < w.heap.size ∧ Row w b o zv := by
      rcases HV.out.row with e | h
      · omega
      · exact h
    have hrv : LR [F2, F1] w9 bv ov zv := ⟨hvr.up H9.out.1.ls.up hvl id, Nat.lt_of_lt_of_le hvl H9.out.1.ls.up.size, fun hm => by have := H9.out.1.ls.own _ hm; omega⟩
    have HRV := hid hrv
    have HVL := hid HV.out.len
    have HVS := hid hvr.small
    clear hrv hvl hvr
    go_wp2_with fail
    refine (timesL H9.out.1.ls H9.out.2 HRV.out HVL.out).mono ?_
    rintro e wt ⟨gt, rfl, rt, mt⟩
    have HT := hid (And.intro (H9.out.1.nxt mt) (And.intro (H9.out.2.nxt mt) (And.intro rt (HRV.out.nxt mt))))
    clear rt mt H9 HRV
    go_wp2_with fail
    go_loopw [25] (fun i wr => ∃ m d : Nat, m ≤ n ∧ i = .int .i64 m ∧ wr = wt.drewN d) (fun i _ => n - (intOf i).toNat)
    case atStart => exact ⟨0, 0, by omega, rfl, rfl⟩
    case round =>
      obtain ⟨m, d, hm, rfl, hw⟩ := hrel
      have HW := hid hw
      by_cases hlt : m < n
      · have f1 : wr.cell? ⟨X1, 2, none⟩ = some (.slice (some ⟨g1, 0, none⟩) (n * k) cap1) := by rw [hw]; exact HT.out.1.t1.st.c2
        have hts := HT.out.2.2.1.row.cells m (by rw [tab_length]; exact hlt)
        rw [tab_at _ _ _ hlt, Nat.zero_add] at hts
        have hzl : m * k + k ≤ z1.length := by
          have := Nat.mul_le_mul_right k (show m + 1 ≤ n from hlt)
          rw [L1.out]
          rw [Nat.add_mul] at this
          omega
        have HDS := hid (dot_sum S1.out HVS.out hzl HVL.out)
        obtain ⟨x, X⟩ : ∃ x, Hid (sumAt k z1 zv m = x) := ⟨_, rfl⟩
        rw [X.out] at hts HDS
        have hts2 : wr.cell? ⟨gt, m, none⟩ = some (.int .u8 x) := by rw [hw]; exact hts
        have hrow : Row wt g1 (m * k) ((z1.drop (m * k)).take k) := by
          refine ⟨fun i hi => ?_, fun i => ?_⟩
          · rw [rowz_length hzl] at hi
            rw [rowz_at hi]
            have := HT.out.1.r1.row.cells (m * k + i) (by omega)
            rw [Nat.zero_add] at this
            exact this
          · rcases Nat.lt_or_ge i k with h | h
            · rw [rowz_at h]; exact S1.out _
            · rw [List.getD_eq_getElem?_getD, List.getElem?_eq_none (by rw [rowz_length hzl]; exact h)]; simp
        have hc1 : ∀ (y : Nat) (c : Nat), (convert 24 9 (.slice (some ⟨g1, m * k, none⟩) k c)).run Try.prog (wr.drewN y) = .ok (.string (strOf ((z1.drop (m * k)).take k))) (wr.drewN y) := fun y c => conv_row (w := wr.drewN y) (by rw [hw]; exact ⟨hrow.cells, hrow.small⟩) (rowz_length hzl)
        have hc2 : ∀ y : Nat, (convert 24 9 (.slice (some ⟨bv, ov, none⟩) k cv)).run Try.prog (wr.drewN y) = .ok (.string (strOf zv)) (wr.drewN y) := fun y => conv_row (w := wr.drewN y) (by rw [hw]; exact ⟨HT.out.2.2.2.row.cells, HT.out.2.2.2.row.small⟩) HVL.out
        obtain ⟨u1, U1⟩ : ∃ x, Hid (strOf ((z1.drop (m * k)).take k) = x) := ⟨_, rfl⟩
        obtain ⟨u2, U2⟩ : ∃ x, Hid (strOf zv = x) := ⟨_, rfl⟩
        rw [U1.out, U2.out] at HDS
        rw [U1.out] at hc1
        rw [U2.out] at hc2
        have HQ : Hid (u1.size ≤ 1000 ∧ u2.size ≤ 1000) := by
          show _ ∧ _
          rw [← U1.out, ← U2.out, strOf_size, strOf_size, rowz_length hzl, HVL.out]
          omega
        have em : (m : Int) * (k : Int) = ((m * k : Nat) : Int) := by simp
        have eml : m * k + k ≤ n * k := by rw [← L1.out]; exact hzl
        have enk : n * k ≤ 8 * 8 := Nat.mul_le_mul n8 k8
        obtain ⟨mk, MK⟩ : ∃ x, Hid (m * k = x) := ⟨_, rfl⟩
        rw [MK.out] at em eml hc1
        obtain ⟨nk, NK⟩ : ∃ x, Hid (n * k = x) := ⟨_, rfl⟩
        rw [NK.out] at eml enk f1
        have ecap := HCAP.out
        rw [NK.out] at ecap
        have e4 : mk < cap1 := by omega
        have e6 : mk + k ≤ cap1 := by omega
        clear ecap
        have e5 : mk + k - mk = k := by omega
        clear hw hts hzl hrow
        go_wp2_with fail
        go_quiet ((go_at_call 23; exact refDotQ u1 u2 _ _ x HQ.out.1 HQ.out.2 HDS.out))
        go_wp2
        go_roundw
        case rel => exact ⟨m + 1, _, by omega, by go_num, by rw [HW.out]; exact drewN_add _ _ _⟩
        case measure => simp [intOf]; omega
      · obtain rfl : n = m := by omega
        have hn9 : Nxt [F2, F1] wt wr := by rw [hw]; exact HT.out.1.ls.drewN d
        have H10 := hid (And.intro (HT.out.1.ls.nxt hn9) (HT.out.2.1.nxt hn9))
        clear hn9 hw HW HT
        go_wp2_with fail
        refine (mul_nil p1 q1 F1 n k z1 wr H10.out.2.mat).mono ?_
        rintro e wz ⟨rfl, dz, EZ⟩
        have H11 : Hid (LS w [F2, F1] wz) := by show LS _ _ _; rw [EZ]; exact H10.out.1.nxt (H10.out.1.drewN dz)
        clear EZ H10
        go_wp2_with fail
        refine (awakeL H11.out).mono ?_
        rintro e wy ⟨rfl, my⟩
        have H12 := hid (H11.out.nxt my)
        clear my H11
        go_wp2
        go_ret
        exact ⟨rfl, H12.out.below⟩
  · have hd3 : ((lv : Int) == (k : Int)) = false := by simp; omega
    have hd4 : ((lv : Int) != (k : Int)) = true := by simp; omega
    have HLV := hid hlv
    clear hlv
    go_wp2_with fail
    refine (times_bad p1 q1 F1 n k lv cv v z1 w9 H9.out.2.mat HLV.out).mono ?_
    rintro e wt ⟨rfl, rfl⟩
    go_wp2_with fail
    refine (awakeL H9.out.1.ls).mono ?_
    rintro e wy ⟨rfl, my⟩
    have H12 := hid (H9.out.1.ls.nxt my)
    clear my H9
    go_wp2
    go_ret
    exact ⟨rfl, H12.out.below⟩

theorem times_walk (n0 k0 l0 o0 : Int) (a1 : Option Addr) (len1 cap1 : Nat) (z1 : List Int) (a2 : Option Addr) (len2 cap2 : Nat) (z2 : List Int) (a3 : Option Addr) (len3 cap3 : Nat) (z3 : List Int) (w : World) (w1 : CameIn w a1 len1 cap1 z1) (w2 : CameIn w a2 len2 cap2 z2) (w3 : CameIn w a3 len3 cap3 z3) :
    Calls Try.prog 6 #[.int .i64 n0, .int .i64 k0, .int .i64 l0, .int .i64 o0, .slice a1 len1 cap1, .slice a2 len2 cap2, .slice a3 len3 cap3] w fun e w' => e = .returned (.bool true) ∧ Below w.heap.size w w' := by
  by_cases h : 100 < len1 ∨ 100 < len2 ∨ 100 < len3
  · exact times_long n0 k0 l0 o0 a1 a2 a3 len1 cap1 len2 cap2 len3 cap3 w h
  · obtain ⟨x1, h1⟩ := SlN.of w1
    obtain ⟨x2, h2⟩ := SlN.of w2
    obtain ⟨x3, h3⟩ := SlN.of w3
    have s1 : ∀ i, x1.getD i 0 < 256 := fun i => by
      rcases h1.row with e | ⟨b, o, _, _, r⟩
      · have hl := h1.len
        rw [e] at hl
        rw [List.eq_nil_of_length_eq_zero hl]
        simp
      · exact r.small i
    obtain ⟨n, hn, n1, n8⟩ := i64_and7 n0
    obtain ⟨k, hk, k1, k8⟩ := i64_and7 k0
    obtain ⟨l, hl, l1, l8⟩ := i64_and7 l0
    obtain ⟨o, ho, o1, o8⟩ := i64_and7 o0
    by_cases hodd : o % 2 = 1
    · exact times_odd n0 k0 l0 o0 n k l hn n1 n8 hk k1 k8 hl l1 l8 o ho o1 o8 hodd a1 a2 a3 len1 cap1 len2 cap2 len3 cap3 x1 x2 x3 w h1 h2 h3 s1 (by omega) (by omega) (by omega)
    · by_cases hok : o = k
      · subst hok
        exact times_eq n0 k0 l0 o0 n o l hn n1 n8 hk k1 k8 hl l1 l8 ho (by omega) a1 a2 a3 len1 cap1 len2 cap2 len3 cap3 x1 x2 x3 w h1 h2 h3 s1 (by omega) (by omega) (by omega)
      · exact times_neq n0 k0 l0 o0 n k l hn n1 n8 hk k1 k8 hl l1 l8 o ho o1 o8 (by omega) hok a1 a2 a3 len1 cap1 len2 cap2 len3 cap3 x1 x2 x3 w h1 h2 h3 s1 (by omega) (by omega) (by omega)
end Go.Proofs.Ytoibfpcobhopeaa
