/- The law MatMakes, walked. -/
import Derived.Test.YtoibfpcobhopeaaMatGroupsWalk
import Derived.Test.YtoibfpcobhopeaaMatMore
import Derived.Test.YtoibfpcobhopeaaHand
import Derived.Test.YtoibfpcobhopeaaMatTimesWalk
import Derived.Deep.CutBlock
import Derived.Deep.DeepCutAuto
namespace Go.Proofs.Ytoibfpcobhopeaa
open Go.RowKit
set_option linter.unusedVariables false

/-- Which matrices may be. -/
def Good (r c : Int) (n : Nat) : Prop := 1 ≤ r ∧ r ≤ 32 ∧ 1 ≤ c ∧ c ≤ 32 ∧ (n : Int) = r * c
noncomputable def good (r c : Int) (n : Nat) : Bool := @decide (Good r c n) (Classical.propDecidable _)
theorem good_yes {r c : Int} {n : Nat} (h : Good r c n) : good r c n = true := by unfold good; exact @decide_eq_true _ (Classical.propDecidable _) h
theorem good_no {r c : Int} {n : Nat} (h : ¬ Good r c n) : good r c n = false := by unfold good; exact @decide_eq_false _ (Classical.propDecidable _) h

/-- 'New' of whatever comes. -/
theorem new_raw {w0 w : World} {F n cap : Nat} {a : Option Addr} {z : List Nat} {r c : Int} (h : LS w0 [F] w) (hz : SlN w a n z) :
    Calls Try.prog 11 #[.pointer (some ⟨F, 0, none⟩), .int .i64 r, .int .i64 c, .slice a n cap] w
      fun e w' => Nxt [F] w w' ∧ ((Good r c n ∧ ∃ p, e = .returned (.tuple #[.pointer (some ⟨p, 0, none⟩), .int .i64 0])) ∨ (¬ Good r c n ∧ e = .returned (.tuple #[.pointer none, .int .i64 1]))) := by
  by_cases hg : 1 ≤ r ∧ r ≤ 32 ∧ 1 ≤ c ∧ c ≤ 32
  · obtain ⟨r1, r2, c1, c2⟩ := hg
    obtain ⟨R, rfl⟩ := Int.eq_ofNat_of_zero_le (show 0 ≤ r by omega)
    obtain ⟨C, rfl⟩ := Int.eq_ofNat_of_zero_le (show 0 ≤ c by omega)
    have ec : (R : Int) * (C : Int) = ((R * C : Nat) : Int) := by simp
    by_cases hn : n = R * C
    · have hp := Nat.mul_le_mul (show 1 ≤ R by omega) (show 1 ≤ C by omega)
      rcases hz.row with e0 | ⟨b, o, rfl, hb, hr⟩
      · omega
      · refine (new_good F R C n b o cap z w (h.fld F (List.mem_cons_self ..)).lt (by omega) (by omega) (by omega) (by omega) hr hb hz.len hn).mono ?_
        rintro e w' ⟨h1, h2⟩
        exact ⟨h.nul h2.up, .inl ⟨⟨r1, r2, c1, c2, by rw [ec, hn]⟩, _, h1⟩⟩
    · refine (new_len F R C n cap a w (h.fld F (List.mem_cons_self ..)).lt (by omega) (by omega) (by omega) (by omega) hn).mono ?_
      rintro e w' ⟨h1, h2⟩
      refine ⟨h.nul h2, .inr ⟨fun hg => hn ?_, h1⟩⟩
      have := hg.2.2.2.2
      rw [ec] at this
      exact Int.ofNat.inj this
  · refine (new_out F r c _ w hg).mono ?_
    rintro e w' ⟨h1, rfl⟩
    exact ⟨h.refl, .inr ⟨fun h => hg ⟨h.1, h.2.1, h.2.2.1, h.2.2.2.1⟩, h1⟩⟩

/-- Where the law stands behind its first half. -/
structure MS (w0 : World) (FS : List Nat) (w : World) (X1 g1 cap1 p1 q1 F1 r c : Nat) (z1 : List Nat) : Prop where
  ls : LS w0 FS w
  lt : LT FS w X1 r c (.slice (some ⟨g1, 0, none⟩) (r * c) cap1)
  lr : LR FS w g1 0 z1
  lm : LM FS w p1 q1 F1 r c z1
theorem MS.nxt {w0 : World} {FS : List Nat} {w w' : World} {X1 g1 cap1 p1 q1 F1 r c : Nat} {z1 : List Nat} (h : MS w0 FS w X1 g1 cap1 p1 q1 F1 r c z1) (n : Nxt FS w w') : MS w0 FS w' X1 g1 cap1 p1 q1 F1 r c z1 :=
  ⟨h.ls.nxt n, h.lt.nxt n, h.lr.nxt n, h.lm.nxt n⟩
/-- Is there such a place? -/
def Vld (r c : Nat) (i j : Int) : Prop := 0 ≤ i ∧ i < r ∧ 0 ≤ j ∧ j < c
noncomputable def vld (r c : Nat) (i j : Int) : Bool := @decide (Vld r c i j) (Classical.propDecidable _)
theorem vld_yes {r c : Nat} {i j : Int} (h : Vld r c i j) : vld r c i j = true := by unfold vld; exact @decide_eq_true _ (Classical.propDecidable _) h
theorem vld_no {r c : Nat} {i j : Int} (h : ¬ Vld r c i j) : vld r c i j = false := by unfold vld; exact @decide_eq_false _ (Classical.propDecidable _) h
/-- What is to stand there. -/
noncomputable def wnt (r c : Nat) (i j : Int) (z : List Nat) : Nat := if vld r c i j = true then z.getD (i.toNat * c + j.toNat) 0 else 0
/-- Rows that may be picked. -/
def Ok (m r : Nat) (f : Nat → Int) (k : Nat) : Prop := 1 ≤ m ∧ m ≤ 32 ∧ ∀ t, t < k → 0 ≤ f t ∧ f t < r
noncomputable def okb (m r : Nat) (f : Nat → Int) (k : Nat) : Bool := @decide (Ok m r f k) (Classical.propDecidable _)
theorem okb_yes {m r k : Nat} {f : Nat → Int} (h : Ok m r f k) : okb m r f k = true := by unfold okb; exact @decide_eq_true _ (Classical.propDecidable _) h
theorem okb_no {m r k : Nat} {f : Nat → Int} (h : ¬ Ok m r f k) : okb m r f k = false := by unfold okb; exact @decide_eq_false _ (Classical.propDecidable _) h
/-- A slice of ints that came in. -/
structure SlI (w : World) (b : Option Addr) (m : Nat) (f : Nat → Int) : Prop where
  row : m = 0 ∨ ∃ g o, b = some ⟨g, o, none⟩ ∧ g < w.heap.size ∧ RowI w g o m f
  le : m ≤ 9223372036854775807
theorem SlI.nxt {w w' : World} {b : Option Addr} {m : Nat} {f : Nat → Int} (h : SlI w b m f) (u : Up Nul w w') : SlI w' b m f := by
  refine ⟨?_, h.le⟩
  rcases h.row with e | ⟨g, o, e, l, r⟩
  · exact .inl e
  · exact .inr ⟨g, o, e, Nat.lt_of_lt_of_le l u.size, r.up u l id⟩

/-- 'Pick' of whatever rows. -/
theorem pick_raw {w0 w : World} {FS : List Nat} {p q F r c m cap : Nat} {b : Option Addr} {f : Nat → Int} {z : List Nat} (h : LS w0 FS w) (hm : LM FS w p q F r c z) (hf : SlI w b m f) :
    Calls Try.prog 19 #[.pointer (some ⟨p, 0, none⟩), .slice b m cap] w
      fun e w' => Nxt FS w w' ∧ ((Ok m r f m ∧ ∃ p3 q3, e = .returned (.tuple #[.pointer (some ⟨p3, 0, none⟩), .int .i64 0]) ∧ LM FS w' p3 q3 F m c (pickZ m c z fun k => (f k).toNat)) ∨ (¬ Ok m r f m ∧ e = .returned (.tuple #[.pointer none, .int .i64 1]))) := by
  rcases hf.row with rfl | ⟨g, o, rfl, hg, hr⟩
  · refine (pick_none p q F r c cap b z w hm.mat).mono ?_
    rintro e w' ⟨h1, h2⟩
    exact ⟨h.nul h2, .inr ⟨fun h => by have := h.1; omega, h1⟩⟩
  · by_cases hok : Ok m r f m
    · have hrow : RowI w g o m (fun i => (((f i).toNat : Nat) : Int)) := fun i hi => by
        have h0 := (hok.2.2 i hi).1
        show w.cell? ⟨g, o + i, none⟩ = some (.int .i64 (((f i).toNat : Nat) : Int))
        rw [Int.toNat_of_nonneg h0]
        exact hr i hi
      refine (pick_good p q F r c g o m cap z (fun i => (f i).toNat) w hm.mat (h.fld F hm.F).lt hrow hg (fun i hi => by have := hok.2.2 i hi; omega) hok.1 hok.2.1).mono ?_
      rintro e w' ⟨p3, q3, h1, h2, h3, h4, h5⟩
      exact ⟨h.nul h3, .inl ⟨hok, p3, q3, h1, ⟨h2, hm.F, h.lt h4, h.lt h5⟩⟩⟩
    · by_cases h0 : m = 0
      · subst h0
        refine (pick_none p q F r c cap _ z w hm.mat).mono ?_
        rintro e w' ⟨h1, h2⟩
        exact ⟨h.nul h2, .inr ⟨hok, h1⟩⟩
      · have hbad : (∃ i, i < m ∧ Bad r (f i)) ∨ 32 < m := by
          by_cases h32 : 32 < m
          · exact .inr h32
          · refine .inl (Classical.byContradiction fun hno => hok ⟨by omega, by omega, fun t ht => ?_⟩)
            refine Classical.byContradiction fun hb => hno ⟨t, ht, ?_⟩
            unfold Bad
            omega
        refine (pick_bad p q F r c g o m cap z f w hm.mat hr hg hf.le hbad (h.fld F hm.F).lt).mono ?_
        rintro e w' ⟨h1, h2⟩
        exact ⟨h.nul h2, .inr ⟨hok, h1⟩⟩

set_option maxRecDepth 100000 in
theorem makes_long (r c i j : Int) (a b : Option Addr) (n cap m cm : Nat) (w : World) (h : 1100 < n ∨ 40 < m) :
    Calls Try.prog 5 #[.int .i64 r, .int .i64 c, .slice a n cap, .int .i64 i, .int .i64 j, .slice b m cm] w fun e w' => e = .returned (.bool true) ∧ Below w.heap.size w w' := by
  by_cases h1 : 1100 < n
  · clear h
    go_enter Try.func5, Try.ntmps5
    go_wp2_with ((go_at_call 16; (with_reducible refine (awakeL (LS.start w)).mono ?_); rintro e w1 ⟨rfl, k1⟩; have K := hid ((LS.start w).nxt k1); clear k1))
    go_ret
    exact ⟨rfl, K.out.below⟩
  · have h3 : 40 < m := by omega
    clear h
    go_enter Try.func5, Try.ntmps5
    go_wp2_with ((go_at_call 16; (with_reducible refine (awakeL (LS.start w)).mono ?_); rintro e w1 ⟨rfl, k1⟩; have K := hid ((LS.start w).nxt k1); clear k1))
    go_ret
    exact ⟨rfl, K.out.below⟩

set_option maxRecDepth 100000 in
set_option maxHeartbeats 6400000 in
theorem makes_short (r0 c0 i j : Int) (a b : Option Addr) (n cap m cm : Nat) (z : List Nat) (w : World) (hn : n ≤ 1100) (hm : m ≤ 40) (hz : SlN w a n z) (f : Nat → Int) (hf : SlI w b m f) :
    Calls Try.prog 5 #[.int .i64 r0, .int .i64 c0, .slice a n cap, .int .i64 i, .int .i64 j, .slice b m cm] w fun e w' => e = .returned (.bool true) ∧ Below w.heap.size w w' := by
  have hnot : ∀ (x : Bool) (w : World), (Op.unary .not (.bool x)).run Try.prog w = .ok (.bool (!x)) w := fun _ _ => rfl
  obtain ⟨r, hr, r1, r8⟩ := i64_and7 r0
  obtain ⟨c, hc, c1, c8⟩ := i64_and7 c0
  have HZ := hid hz
  have HF := hid hf
  clear hz hf
  go_enter Try.func5, Try.ntmps5
  go_upto_region 3 with fail
  go_cut [13, 14] (fun s13 s14 wx => ∃ F, LS w [F] wx ∧ ((Good r0 c0 n ∧ ∃ p, s13 = .pointer (some ⟨p, 0, none⟩) ∧ s14 = .int .i64 0) ∨ (¬ Good r0 c0 n ∧ s13 = .pointer none ∧ s14 = .int .i64 1)))
  case first =>
    as_aux_lemma =>
    go_wp2_with fail
    refine (gfNewF _).mono ?_
    rintro e w1 ⟨F, rfl, k1⟩
    have H1 := hid (And.intro ((LS.start w).newF k1) (HZ.out.up k1.n.up fun _ _ h => h))
    clear k1
    go_wp2_with fail
    refine (new_raw H1.out.1 H1.out.2).mono ?_
    rintro e w2 ⟨k2, ⟨hg, p, rfl⟩ | ⟨hg, rfl⟩⟩
    · have HG := hid (And.intro (H1.out.1.nxt k2) hg)
      clear k2 hg H1
      go_wp2_with fail
      go_meet
      case rel => exact ⟨F, HG.out.1, .inl ⟨HG.out.2, p, rfl, rfl⟩⟩
    · have HG := hid (And.intro (H1.out.1.nxt k2) hg)
      clear k2 hg H1
      go_wp2_with fail
      go_meet
      case rel => exact ⟨F, HG.out.1, .inr ⟨HG.out.2, rfl, rfl⟩⟩
  case rest =>
    as_aux_lemma =>
    obtain ⟨F, hls, hd⟩ := hcut
    have HD := hid (And.intro hls hd)
    clear hls hd
    go_upto_region 4 with fail
    go_cut [15] (fun s15 wx => s15 = .bool (good r0 c0 n) ∧ LS w [F] wx)
    case first =>
      as_aux_lemma =>
      by_cases g1 : 1 ≤ r0
      · by_cases g2 : r0 ≤ 32
        · by_cases g3 : 1 ≤ c0
          · by_cases g4 : c0 ≤ 32
            · obtain ⟨R, rfl⟩ := Int.eq_ofNat_of_zero_le (show 0 ≤ r0 by omega)
              obtain ⟨C, rfl⟩ := Int.eq_ofNat_of_zero_le (show 0 ≤ c0 by omega)
              have ec : (R : Int) * (C : Int) = ((R * C : Nat) : Int) := by simp
              have hb : R * C ≤ 1024 := Nat.mul_le_mul (show R ≤ 32 by omega) (show C ≤ 32 by omega)
              obtain ⟨x, X⟩ : ∃ x, Hid (R * C = x) := ⟨_, rfl⟩
              rw [X.out] at ec hb
              by_cases g5 : n = x
              · have e5 : ((n : Int) == (x : Int)) = true := by simp; omega
                have HG : Hid (good R C n = true) := good_yes ⟨g1, g2, g3, g4, by rw [ec, g5]⟩
                clear g5
                go_wp2_with fail
                go_meet
                case rel => exact ⟨by rw [HG.out], HD.out.1⟩
              · have e5 : ((n : Int) == (x : Int)) = false := by simp; omega
                have HG : Hid (good R C n = false) := good_no fun h => g5 (by have := h.2.2.2.2; rw [ec] at this; exact Int.ofNat.inj this)
                clear g5
                go_wp2_with fail
                go_meet
                case rel => exact ⟨by rw [HG.out], HD.out.1⟩
            · have HG : Hid (good r0 c0 n = false) := good_no fun h => g4 h.2.2.2.1
              go_wp2_with fail
              go_meet
              case rel => exact ⟨by rw [HG.out], HD.out.1⟩
          · have HG : Hid (good r0 c0 n = false) := good_no fun h => g3 h.2.2.1
            go_wp2_with fail
            go_meet
            case rel => exact ⟨by rw [HG.out], HD.out.1⟩
        · have HG : Hid (good r0 c0 n = false) := good_no fun h => g2 h.2.1
          go_wp2_with fail
          go_meet
          case rel => exact ⟨by rw [HG.out], HD.out.1⟩
      · have HG : Hid (good r0 c0 n = false) := good_no fun h => g1 h.1
        go_wp2_with fail
        go_meet
        case rel => exact ⟨by rw [HG.out], HD.out.1⟩
    case rest =>
      as_aux_lemma =>
      obtain ⟨hgs, hls⟩ := hcut
      have HL := hid hls
      clear hls
      go_upto_region 5 with fail
      go_cut [81] (fun s81 wx => s81 = .bool false ∧ LS w [F] wx)
      case first =>
        as_aux_lemma =>
        obtain ⟨hg, p, rfl, rfl⟩ | ⟨hg, rfl, rfl⟩ := HD.out.2
        · have eg := good_yes hg
          rw [eg] at hgs
          subst hgs
          clear eg hg
          go_wp2_with fail
          go_meet
          case rel => exact ⟨rfl, HL.out⟩
        · have eg := good_no hg
          rw [eg] at hgs
          subst hgs
          clear eg hg
          go_wp2_with fail
          go_meet
          case rel => exact ⟨rfl, HL.out⟩
      case rest =>
        as_aux_lemma =>
        obtain ⟨rfl, hls⟩ := hcut
        have HW := hid (And.intro hls (HZ.out.up hls.up fun _ _ h => h))
        clear hls HD hgs HL
        go_wp2_with fail
        refine (make1C HW.out.1 r1 (by omega) c1 (by omega) HW.out.2).mono ?_
        rintro e w1 ⟨g1, cap1, rfl, rr1, hcap1, hfr1, k1⟩
        have HC := hid (And.intro hcap1 hfr1)
        have hls := HW.out.1.nxt k1
        have H1 := hid (And.intro (hls.nxt (hls.alloc (.cells #[.int .i64 r, .int .i64 c, .slice (some ⟨g1, 0, none⟩) (r * c) cap1] 35))) (And.intro (LT.new hls r c (.slice (some ⟨g1, 0, none⟩) (r * c) cap1) 35) (rr1.nxt (hls.alloc (.cells #[.int .i64 r, .int .i64 c, .slice (some ⟨g1, 0, none⟩) (r * c) cap1] 35)))))
        obtain ⟨z1, Z1⟩ : ∃ x, x = tab (r * c) (mk1 z) := ⟨_, rfl⟩
        have L1 : Hid (z1.length = r * c) := by show _ = _; rw [Z1]; exact tab_length _ _
        rw [← Z1] at H1
        clear hcap1 hfr1 rr1 k1 hls Z1 HW
        go_wp2_with fail
        generalize (w1.alloc (.cells #[.int .i64 r, .int .i64 c, (.slice (some ⟨g1, 0, none⟩) (r * c) cap1)] 35)) = w2 at *
        generalize w1.heap.size = X1 at *
        have s2 := H1.out.2.1.st.c2
        have HD : Hid (LS w [F] w2.drew ∧ LT [F] w2.drew X1 r c (.slice (some ⟨g1, 0, none⟩) (r * c) cap1) ∧ LR [F] w2.drew g1 0 z1) := ⟨H1.out.1.nxt H1.out.1.drew, H1.out.2.1.nxt H1.out.1.drew, H1.out.2.2.nxt H1.out.1.drew⟩
        go_region_held3 (fun w' => w'.cell? ⟨X1, 2, none⟩ = some (.slice (some ⟨g1, 0, none⟩) (r * c) cap1)) (first | assumption | go_keep)
          ((first
            | (go_at_call 9; (with_reducible refine (gfNewF _).mono ?_); rintro e w3 ⟨F1, rfl, k3⟩; have H3 := hid (And.intro (HD.out.1.newF k3) (And.intro (HD.out.2.1.newF k3) (HD.out.2.2.newF k3))); have s3 := H3.out.2.1.st.c2; clear k3)
            | (go_at_call 11; (with_reducible refine (newL H3.out.1 (List.mem_cons_self ..) r1 (by omega) c1 (by omega) H3.out.2.2 L1.out rfl).mono ?_); rintro e w4 ⟨p1, q1, rfl, m4, k4⟩; have H4 := hid (And.intro (H3.out.1.nxt k4) (And.intro (H3.out.2.1.nxt k4) (And.intro (H3.out.2.2.nxt k4) m4))); have s4 := H4.out.2.1.st.c2; clear k4 m4)))
        clear s2 s3 s4 H1 HD H3
        have x0 := H4.out.2.1.st.c0
        have x1 := H4.out.2.1.st.c1
        have x2 := H4.out.2.1.st.c2
        go_wp2_with fail
        refine (sameL H4.out.1 H4.out.2.2.2 H4.out.2.2.1 rfl).mono ?_
        rintro e w5 ⟨rfl, k5⟩
        have H5 : Hid (MS w [F1, F] w5 X1 g1 cap1 p1 q1 F1 r c z1) := ⟨H4.out.1.nxt k5, H4.out.2.1.nxt k5, H4.out.2.2.1.nxt k5, H4.out.2.2.2.nxt k5⟩
        clear x0 x1 x2 k5 H4
        go_upto_region 13 with fail
        go_cut [124] (fun s124 wx => s124 = .bool (vld r c i j) ∧ MS w [F1, F] wx X1 g1 cap1 p1 q1 F1 r c z1)
        case first =>
          as_aux_lemma =>
          by_cases h1 : 0 ≤ i
          · by_cases h2 : i < r
            · by_cases h3 : 0 ≤ j
              · by_cases h4 : j < c
                · have HV : Hid (vld r c i j = true) := vld_yes ⟨h1, h2, h3, h4⟩
                  go_wp2_with fail
                  go_meet
                  case rel => exact ⟨by rw [HV.out], H5.out⟩
                · have HV : Hid (vld r c i j = false) := vld_no fun h => h4 h.2.2.2
                  go_wp2_with fail
                  go_meet
                  case rel => exact ⟨by rw [HV.out], H5.out⟩
              · have HV : Hid (vld r c i j = false) := vld_no fun h => h3 h.2.2.1
                go_wp2_with fail
                go_meet
                case rel => exact ⟨by rw [HV.out], H5.out⟩
            · have HV : Hid (vld r c i j = false) := vld_no fun h => h2 h.2.1
              go_wp2_with fail
              go_meet
              case rel => exact ⟨by rw [HV.out], H5.out⟩
          · have HV : Hid (vld r c i j = false) := vld_no fun h => h1 h.1
            go_wp2_with fail
            go_meet
            case rel => exact ⟨by rw [HV.out], H5.out⟩
        case rest =>
          as_aux_lemma =>
          obtain ⟨hv124, hms⟩ := hcut
          have H6 := hid hms
          clear hms H5
          go_upto_if 124 with fail
          go_cut [17] (fun s17 wx => s17 = .int .u8 (wnt r c i j z1 : Nat) ∧ MS w [F1, F] wx X1 g1 cap1 p1 q1 F1 r c z1)
          case first =>
            as_aux_lemma =>
            by_cases hv : Vld r c i j
            · rw [vld_yes hv] at hv124
              subst hv124
              obtain ⟨v1, v2, v3, v4⟩ := hv
              obtain ⟨I, rfl⟩ := Int.eq_ofNat_of_zero_le v1
              obtain ⟨J, rfl⟩ := Int.eq_ofNat_of_zero_le v3
              have lI : I < r := by omega
              have lJ : J < c := by omega
              have hlt : I * c + J < r * c := by
                have := Nat.mul_le_mul_right c (show I + 1 ≤ r from lI)
                rw [Nat.add_mul] at this
                omega
              have e1 : (I : Int) * (c : Int) = ((I * c : Nat) : Int) := by simp
              have HWN : Hid (wnt r c I J z1 = z1.getD (I * c + J) 0) := by show _ = _; rw [wnt, if_pos (vld_yes ⟨v1, v2, v3, v4⟩)]; rfl
              have x2 := H6.out.lt.st.c2
              have gc := H6.out.lr.row.cells (I * c + J) (by rw [L1.out]; exact hlt)
              have g8 := H6.out.lr.row.small (I * c + J)
              rw [Nat.zero_add] at gc
              have hmm : r * c ≤ 64 := Nat.mul_le_mul (show r ≤ 8 by omega) (show c ≤ 8 by omega)
              obtain ⟨y, Y⟩ : ∃ x, Hid (z1.getD (I * c + J) 0 = x) := ⟨_, rfl⟩
              rw [Y.out] at gc g8 HWN
              obtain ⟨ic, IC⟩ : ∃ x, Hid (I * c = x) := ⟨_, rfl⟩
              rw [IC.out] at gc e1 hlt
              obtain ⟨rc, RC⟩ : ∃ x, Hid (r * c = x) := ⟨_, rfl⟩
              rw [RC.out] at hlt hmm x2
              go_wp2_with fail
              go_meet
              case rel => exact ⟨by rw [HWN.out], H6.out⟩
            · rw [vld_no hv] at hv124
              subst hv124
              have HWN : Hid (wnt r c i j z1 = 0) := by show _ = _; rw [wnt, if_neg (by rw [vld_no hv]; decide)]
              clear hv
              go_wp2_with fail
              go_meet
              case rel => exact ⟨by rw [HWN.out]; rfl, H6.out⟩
          case rest =>
            as_aux_lemma =>
            obtain ⟨rfl, hms⟩ := hcut
            have H7 := hid hms
            clear hms H6 hv124
            go_upto_region 15 with fail
            go_cut [18, 19] (fun s18 s19 wx => MS w [F1, F] wx X1 g1 cap1 p1 q1 F1 r c z1 ∧ ((Ok m r f m ∧ ∃ p3 q3, s18 = .pointer (some ⟨p3, 0, none⟩) ∧ s19 = .int .i64 0 ∧ LM [F1, F] wx p3 q3 F1 m c (pickZ m c z1 fun k => (f k).toNat)) ∨ (¬ Ok m r f m ∧ s18 = .pointer none ∧ s19 = .int .i64 1)))
            case first =>
              as_aux_lemma =>
              go_wp2_with fail
              refine (pick_raw H7.out.ls H7.out.lm (HF.out.nxt H7.out.ls.up)).mono ?_
              rintro e w8 ⟨k8, ⟨hok, p3, q3, rfl, m8⟩ | ⟨hok, rfl⟩⟩
              · have HG := hid (And.intro (H7.out.nxt k8) (And.intro hok m8))
                clear k8 hok m8
                go_wp2_with fail
                go_meet
                case rel => exact ⟨HG.out.1, .inl ⟨HG.out.2.1, p3, q3, rfl, rfl, HG.out.2.2⟩⟩
              · have HG := hid (And.intro (H7.out.nxt k8) hok)
                clear k8 hok
                go_wp2_with fail
                go_meet
                case rel => exact ⟨HG.out.1, .inr ⟨HG.out.2, rfl, rfl⟩⟩
            case rest =>
              as_aux_lemma =>
              obtain ⟨hms, hdis⟩ := hcut
              have H8 := hid (And.intro hms hdis)
              clear hms hdis H7
              obtain ⟨w6, hw6⟩ : ∃ x, x = wc := ⟨_, rfl⟩
              rw [← hw6] at H8 ⊢
              clear hw6
              go_upto_region 16 with fail
              go_cut [20] (fun s20 wx => s20 = .bool (okb m r f 0) ∧ w6 = wx)
              case first =>
                as_aux_lemma =>
                by_cases h1 : 1 ≤ m
                · by_cases h2 : m ≤ 32
                  · have HV : Hid (okb m r f 0 = true) := okb_yes ⟨h1, h2, fun t ht => absurd ht (Nat.not_lt_zero _)⟩
                    go_wp2_with fail
                    go_meet
                    case rel => exact ⟨by rw [HV.out] <;> first | rfl | (congr 1; simp <;> omega), rfl⟩
                  · have HV : Hid (okb m r f 0 = false) := okb_no fun h => h2 h.2.1
                    go_wp2_with fail
                    go_meet
                    case rel => exact ⟨by rw [HV.out] <;> first | rfl | (congr 1; simp <;> omega), rfl⟩
                · have HV : Hid (okb m r f 0 = false) := okb_no fun h => h1 h.1
                  go_wp2_with fail
                  go_meet
                  case rel => exact ⟨by rw [HV.out] <;> first | rfl | (congr 1; simp <;> omega), rfl⟩
              case rest =>
                as_aux_lemma =>
                obtain ⟨rfl, rfl⟩ := hcut
                have hle := HF.out.le
                go_wp2_with fail
                go_loopw [20, 21, 22] (fun ok v i wr => ∃ k : Nat, ∃ y : List Nat, k ≤ m ∧ i = .int .i64 k ∧ ok = .bool (okb m r f k) ∧ OwnB w6.heap.size wr v y ∧ (okb m r f k = true → y = pickZ k c z1 fun t => (f t).toNat) ∧ y.length ≤ k * c ∧ Up Nul w6 wr) (fun _ _ i _ => m - (intOf i).toNat)
                case atStart => exact ⟨0, [], by omega, rfl, rfl, OwnB.nil _ _, fun _ => (pickZ_zero _ _ _).symm, by simp, Up.refl _ _⟩
                case round =>
                  obtain ⟨k, y, hk, rfl, rfl, hown, hy, hly, hu⟩ := hrel
                  have HO := hid (And.intro hown hy)
                  have HU := hid hu
                  have HLY := hid hly
                  clear hown hy hu hly
                  by_cases hlt : k < m
                  · obtain ⟨g, o, rfl, hg, hrow⟩ : ∃ g o, b = some ⟨g, o, none⟩ ∧ g < w.heap.size ∧ RowI w g o m f := by
                      rcases HF.out.row with e | h
                      · omega
                      · exact h
                    have HGK : Hid (∀ W, Up Nul w6 W → W.cell? ⟨g, o + k, none⟩ = some (.int .i64 (f k))) := fun W u => (hrow.up (H8.out.1.ls.up.trans u) hg id) k hlt
                    have gk := HGK.out _ HU.out
                    have i1 : (0 : Int) ≤ (k : Int) := by omega
                    have i2 : (k : Int) < (m : Int) := by omega
                    clear hrow
                    by_cases hok : Ok m r f k
                    · by_cases h0 : 0 ≤ f k
                      · by_cases h1 : f k < r
                        · have HK1 : Hid (okb m r f (k + 1) = true) := okb_yes ⟨hok.1, hok.2.1, fun t ht => by
                            by_cases e : t = k
                            · subst e; exact ⟨h0, h1⟩
                            · exact hok.2.2 t (by omega)⟩
                          have hyy := HO.out.2 (okb_yes hok)
                          rw [okb_yes hok]
                          have HRO : Hid (Ok m r f k) := hok
                          clear hok
                          obtain ⟨fk, FK⟩ : ∃ x : Nat, f k = (x : Int) := Int.eq_ofNat_of_zero_le h0
                          rw [FK] at gk h0 h1 HGK
                          have hfr : fk < r := by omega
                          have hfc := Nat.mul_le_mul_right c (show fk + 1 ≤ r from hfr)
                          rw [Nat.add_mul, Nat.one_mul] at hfc
                          have hrc : r * c ≤ 64 := Nat.mul_le_mul (show r ≤ 8 by omega) (show c ≤ 8 by omega)
                          have HPN := hid (pickZ_next k c z1 (fun t => (f t).toNat) c1 (by show (f k).toNat * c + c ≤ _; rw [FK, L1.out]; exact hfc))
                          have efk : (f k).toNat = fk := by rw [FK]; rfl
                          rw [efk] at HPN
                          have HFK := hid FK
                          have e1 : (fk : Int) * (c : Int) = ((fk * c : Nat) : Int) := by simp
                          have e2 : ((fk * c : Nat) : Int) + (c : Int) = ((fk * c + c : Nat) : Int) := by simp
                          have hz1l := L1.out
                          have HLEN0 : Hid (((z1.drop (fk * c)).take c).length = c) := by show _ = _; rw [List.length_take, List.length_drop, hz1l]; omega
                          have hcap := HC.out.1
                          have hsl := fun W => run_mid g1 (r * c) cap1 (fk * c) (fk * c + c) c rfl c1 hfc hcap W
                          have HX2 : Hid (∀ W, Up Nul w6 W → W.cell? ⟨X1, 2, none⟩ = some (.slice (some ⟨g1, 0, none⟩) (r * c) cap1)) := fun W u => (H8.out.1.nxt (H8.out.1.ls.nul u)).lt.st.c2
                          have x2 := HX2.out _ HU.out
                          have hrow1 := (H8.out.1.nxt (H8.out.1.ls.nul HU.out)).lr.row
                          have HRW0 : Hid (Row wr g1 (fk * c) ((z1.drop (fk * c)).take c)) := by
                            refine ⟨fun t ht => ?_, fun t => ?_⟩
                            · rw [HLEN0.out] at ht
                              have := hrow1.cells (fk * c + t) (by rw [hz1l]; omega)
                              rw [Nat.zero_add] at this
                              rw [this]
                              simp [List.getD_eq_getElem?_getD, ht, List.getElem?_drop]
                            · have := hrow1.small (fk * c + t)
                              simp only [List.getD_eq_getElem?_getD, List.getElem?_take, List.getElem?_drop] at this ⊢
                              split
                              · exact this
                              · simp
                          have HY6 : Hid (y.length + c ≤ 1000000) := by
                            have h1 := HLY.out
                            have h2 : k * c ≤ 40 * 8 := Nat.mul_le_mul (by omega) c8
                            show _ ≤ _
                            omega
                          have HB6 := hid HU.out.size
                          clear hrow1 hz1l hcap
                          obtain ⟨rc, RC⟩ : ∃ x, Hid (r * c = x) := ⟨_, rfl⟩
                          obtain ⟨fkc, FC⟩ : ∃ x, Hid (fk * c = x) := ⟨_, rfl⟩
                          rw [RC.out] at hrc hfc hsl x2 HX2
                          rw [FC.out] at hfc e1 e2 HPN HLEN0 hsl HRW0
                          have HYY := hid hyy
                          obtain ⟨fe, FE⟩ : ∃ x, Hid (fkc + c = x) := ⟨_, rfl⟩
                          have hfe : fe ≤ 64 := by rw [← FE.out]; omega
                          rw [FE.out] at hsl e2
                          obtain ⟨w1', w2'⟩ : IntKind.i64.wrap (fkc : Int) = (fkc : Int) ∧ IntKind.i64.wrap (fe : Int) = (fe : Int) := ⟨IntWalk.i64_in _ (by omega), IntWalk.i64_in _ (by omega)⟩
                          clear hyy FK efk hn hm hr hc
                          go_wp2_with fail
                          refine wp_region_held_drew (S := (fun w' : World => w'.cell? ⟨X1, 2, none⟩ = some (.slice (some ⟨g1, 0, none⟩) rc cap1) ∧ w'.cell? ⟨g, o + k, none⟩ = some (.int .i64 fk))) (by kernel_rfl) (by exact ⟨x2, gk⟩) (fun hHeld => ?_)
                          refine wpAnyH_take (i := 0) (oi := ⟨some 171, _, _, _, _, _⟩) (v := ?vp1) rfl (by kernel_rfl) (by kernel_rfl) (by kernel_rfl) (fun _ _ _ h => h) (Or.inl ⟨by rfl, ?yp1⟩) (by assumption) ?rp1
                          case yp1 => (intro w hSw; (try dsimp only at hSw); go_simp; try with_reducible rfl)
                          try simp only [Act.put, List.setIfInBounds_toArray, List.set_cons_zero, List.set_cons_succ]
                          refine wpAnyH_take (i := 1) (oi := ⟨some 172, _, _, _, _, _⟩) (v := ?vp2) rfl (by kernel_rfl) (by kernel_rfl) (by kernel_rfl) (fun _ _ _ h => h) (Or.inl ⟨by rfl, ?yp2⟩) (by assumption) ?rp2
                          case yp2 => (intro w hSw; (try dsimp only at hSw); go_simp; try with_reducible rfl)
                          try simp only [Act.put, List.setIfInBounds_toArray, List.set_cons_zero, List.set_cons_succ]
                          refine wpAnyH_take (i := 2) (oi := ⟨some 173, _, _, _, _, _⟩) (v := ?vp3) rfl (by kernel_rfl) (by kernel_rfl) (by kernel_rfl) (fun _ _ _ h => h) (Or.inl ⟨by rfl, ?yp3⟩) (by assumption) ?rp3
                          case yp3 => (intro w hSw; (try dsimp only at hSw); go_simp; try with_reducible rfl)
                          try simp only [Act.put, List.setIfInBounds_toArray, List.set_cons_zero, List.set_cons_succ]
                          refine wpAnyH_take (i := 3) (oi := ⟨some 174, _, _, _, _, _⟩) (v := ?vp4) rfl (by kernel_rfl) (by kernel_rfl) (by kernel_rfl) (fun _ _ _ h => h) (Or.inl ⟨by rfl, ?yp4⟩) (by assumption) ?rp4
                          case yp4 => (intro w hSw; (try dsimp only at hSw); go_simp; try with_reducible rfl)
                          try simp only [Act.put, List.setIfInBounds_toArray, List.set_cons_zero, List.set_cons_succ]
                          refine wpAnyH_take (i := 4) (oi := ⟨some 175, _, _, _, _, _⟩) (v := ?vp5) rfl (by kernel_rfl) (by kernel_rfl) (by kernel_rfl) (fun _ _ _ h => h) (Or.inl ⟨by rfl, ?yp5⟩) (by assumption) ?rp5
                          case yp5 => (intro w hSw; (try dsimp only at hSw); go_simp; try with_reducible rfl)
                          try simp only [Act.put, List.setIfInBounds_toArray, List.set_cons_zero, List.set_cons_succ]
                          refine wpAnyH_take (i := 5) (oi := ⟨some 176, _, _, _, _, _⟩) (v := ?vp6) rfl (by kernel_rfl) (by kernel_rfl) (by kernel_rfl) (fun _ _ _ h => h) (Or.inl ⟨by rfl, ?yp6⟩) (by assumption) ?rp6
                          case yp6 => (intro w hSw; (try dsimp only at hSw); go_simp; try with_reducible rfl)
                          try simp only [Act.put, List.setIfInBounds_toArray, List.set_cons_zero, List.set_cons_succ]
                          refine wpAnyH_take (i := 6) (oi := ⟨some 177, _, _, _, _, _⟩) (v := ?vp7) rfl (by kernel_rfl) (by kernel_rfl) (by kernel_rfl) (fun _ _ _ h => h) (Or.inl ⟨by rfl, ?yp7⟩) (by assumption) ?rp7
                          case yp7 => (intro w hSw; (try dsimp only at hSw); go_simp; try with_reducible rfl)
                          try simp only [Act.put, List.setIfInBounds_toArray, List.set_cons_zero, List.set_cons_succ]
                          refine wpAnyH_take (i := 7) (oi := ⟨some 178, _, _, _, _, _⟩) (v := ?vp8) rfl (by kernel_rfl) (by kernel_rfl) (by kernel_rfl) (fun _ _ _ h => h) (Or.inl ⟨by rfl, ?yp8⟩) (by assumption) ?rp8
                          case yp8 => (intro w hSw; (try dsimp only at hSw); go_simp; try with_reducible rfl)
                          try simp only [Act.put, List.setIfInBounds_toArray, List.set_cons_zero, List.set_cons_succ]
                          refine wpAnyH_take (i := 8) (oi := ⟨some 179, _, _, _, _, _⟩) (v := ?vp9) rfl (by kernel_rfl) (by kernel_rfl) (by kernel_rfl) (fun _ _ _ h => h) (Or.inl ⟨by rfl, ?yp9⟩) (by assumption) ?rp9
                          case yp9 => (intro w hSw; (try dsimp only at hSw); go_simp; try with_reducible rfl)
                          try simp only [Act.put, List.setIfInBounds_toArray, List.set_cons_zero, List.set_cons_succ]
                          refine wpAnyH_take (i := 9) (oi := ⟨some 180, _, _, _, _, _⟩) (v := ?vp10) rfl (by kernel_rfl) (by kernel_rfl) (by kernel_rfl) (fun _ _ _ h => h) (Or.inl ⟨by rfl, ?yp10⟩) (by assumption) ?rp10
                          case yp10 => (intro w hSw; (try dsimp only at hSw); go_simp; try with_reducible rfl)
                          try simp only [Act.put, List.setIfInBounds_toArray, List.set_cons_zero, List.set_cons_succ]
                          refine wpAnyH_take (i := 10) (oi := ⟨some 181, _, _, _, _, _⟩) (v := ?vp11) rfl (by kernel_rfl) (by kernel_rfl) (by kernel_rfl) (fun _ _ _ h => h) (Or.inl ⟨by rfl, ?yp11⟩) (by assumption) ?rp11
                          case yp11 => (intro w hSw; (try dsimp only at hSw); go_simp; try with_reducible rfl)
                          try simp only [Act.put, List.setIfInBounds_toArray, List.set_cons_zero, List.set_cons_succ]
                          refine wpAnyH_take (i := 11) (oi := ⟨some 182, _, _, _, _, _⟩) (v := ?vp12) rfl (by kernel_rfl) (by kernel_rfl) (by kernel_rfl) (fun _ _ _ h => h) (Or.inl ⟨by rfl, ?yp12⟩) (by assumption) ?rp12
                          case yp12 => (intro w hSw; (try dsimp only at hSw); go_simp; try with_reducible rfl)
                          try simp only [Act.put, List.setIfInBounds_toArray, List.set_cons_zero, List.set_cons_succ]
                          refine wpAnyH_take (i := 12) (oi := ⟨some 183, _, _, _, _, _⟩) (v := ?vp13) rfl (by kernel_rfl) (by kernel_rfl) (by kernel_rfl) (fun _ _ _ h => h) (Or.inl ⟨by rfl, ?yp13⟩) (by assumption) ?rp13
                          case yp13 => (intro w hSw; (try dsimp only at hSw); go_simp; try with_reducible rfl)
                          try simp only [Act.put, List.setIfInBounds_toArray, List.set_cons_zero, List.set_cons_succ]
                          refine wpAnyH_take (i := 13) (oi := ⟨some 184, _, _, _, _, _⟩) (v := ?vp14) rfl (by kernel_rfl) (by kernel_rfl) (by kernel_rfl) (fun _ _ _ h => h) (Or.inl ⟨by rfl, ?yp14⟩) (by assumption) ?rp14
                          case yp14 => (intro w hSw; (try dsimp only at hSw); go_simp; try with_reducible rfl)
                          try simp only [Act.put, List.setIfInBounds_toArray, List.set_cons_zero, List.set_cons_succ]
                          refine wpAnyH_take (i := 14) (oi := ⟨some 185, _, _, _, _, _⟩) (v := ?vp15) rfl (by kernel_rfl) (by kernel_rfl) (by kernel_rfl) (fun _ _ _ h => h) (Or.inl ⟨by rfl, ?yp15⟩) (by assumption) ?rp15
                          case yp15 => (intro w hSw; (try dsimp only at hSw); go_simp; try with_reducible rfl)
                          try simp only [Act.put, List.setIfInBounds_toArray, List.set_cons_zero, List.set_cons_succ]
                          refine wpAnyH_take (i := 15) (oi := ⟨some 186, _, _, _, _, _⟩) (v := ?vp16) rfl (by kernel_rfl) (by kernel_rfl) (by kernel_rfl) (fun _ _ _ h => h) (Or.inl ⟨by rfl, ?yp16⟩) (by assumption) ?rp16
                          case yp16 => (intro w hSw; (try dsimp only at hSw); go_simp; try with_reducible rfl)
                          try simp only [Act.put, List.setIfInBounds_toArray, List.set_cons_zero, List.set_cons_succ]
                          refine wpAnyH_take (i := 16) (oi := ⟨some 187, _, _, _, _, _⟩) (v := ?vp17) rfl (by kernel_rfl) (by kernel_rfl) (by kernel_rfl) (fun _ _ _ h => h) (Or.inl ⟨by rfl, ?yp17⟩) (by assumption) ?rp17
                          case yp17 => (intro w hSw; (try dsimp only at hSw); go_simp; try with_reducible rfl)
                          try simp only [Act.put, List.setIfInBounds_toArray, List.set_cons_zero, List.set_cons_succ]
                          refine wpAnyH_take (i := 17) (oi := ⟨some 188, _, _, _, _, _⟩) (v := ?vp18) rfl (by kernel_rfl) (by kernel_rfl) (by kernel_rfl) (fun _ _ _ h => h) (Or.inl ⟨by rfl, ?yp18⟩) (by assumption) ?rp18
                          case yp18 => (intro w hSw; (try dsimp only at hSw); go_simp; try with_reducible rfl)
                          try simp only [Act.put, List.setIfInBounds_toArray, List.set_cons_zero, List.set_cons_succ]
                          refine wpAnyH_ready (rs := [18]) (by kernel_rfl) (by simp) ?_
                          refine AllReadyH.cons (o := ⟨some 189, _, _, _, _, _⟩) rfl (fun K hK => ?_) AllReadyH.nil
                          refine step_append_bytes rfl _ _ rfl w6.heap.size u21 y rfl ⟨HO.out.1.own, HO.out.1.small⟩ g1 fkc c (cap1 - fkc) ((z1.drop fkc).take c) rfl ⟨HRW0.out.cells, HRW0.out.small⟩ HLEN0.out HY6.out HB6.out ?_
                          intro v' w' hown' hgrow
                          have HU' := hid (HU.out.drew.grown hgrow.out fun k hk => HO.out.1.base k hk)
                          refine hK.out _ _ ⟨HX2.out _ HU'.out, HGK.out _ HU'.out⟩ (fun hHeld => ?_)
                          clear hK K
                          try simp only [Act.put, List.setIfInBounds_toArray, List.set_cons_zero, List.set_cons_succ]
                          refine wpAnyH_take (i := 19) (oi := ⟨some 21, _, _, _, _, _⟩) (v := ?vq1) rfl (by kernel_rfl) (by kernel_rfl) (by kernel_rfl) (fun _ _ _ h => h) (Or.inl ⟨by rfl, ?yq1⟩) (by assumption) ?rq1
                          case yq1 => (intro w hSw; (try dsimp only at hSw); go_simp; try with_reducible rfl)
                          try simp only [Act.put, List.setIfInBounds_toArray, List.set_cons_zero, List.set_cons_succ]
                          refine wpAnyH_done (by kernel_rfl) ?_ _
                          go_wp2_with fail
                          go_roundw
                          case rel => exact ⟨k + 1, y ++ (z1.drop fkc).take c, by omega, by go_num, by rw [HK1.out], hown'.out, fun _ => by rw [HPN.out, ← HYY.out], by have h9 := HLY.out; have h10 := HLEN0.out; rw [List.length_append, h10, Nat.add_mul, Nat.one_mul]; omega, HU'.out⟩
                          case measure => simp [intOf]; omega
                        · have HK1 : Hid (okb m r f (k + 1) = false) := okb_no fun h => h1 (h.2.2 k (by omega)).2
                          rw [okb_yes hok]
                          clear hok hr hc
                          go_wp2_with fail
                          go_roundw
                          case rel => exact ⟨k + 1, y, by omega, by go_num, by rw [HK1.out] <;> first | rfl | (congr 1; simp <;> omega), HO.out.1, fun h => absurd h (by rw [HK1.out]; decide), by have h9 := HLY.out; rw [Nat.add_mul, Nat.one_mul]; omega, HU.out⟩
                          case measure => simp [intOf]; omega
                      · have HK1 : Hid (okb m r f (k + 1) = false) := okb_no fun h => h0 (h.2.2 k (by omega)).1
                        rw [okb_yes hok]
                        clear hok hr hc
                        go_wp2_with fail
                        go_roundw
                        case rel => exact ⟨k + 1, y, by omega, by go_num, by rw [HK1.out] <;> first | rfl | (congr 1; simp <;> omega), HO.out.1, fun h => absurd h (by rw [HK1.out]; decide), by have h9 := HLY.out; rw [Nat.add_mul, Nat.one_mul]; omega, HU.out⟩
                        case measure => simp [intOf]; omega
                    · have HK1 : Hid (okb m r f (k + 1) = false) := okb_no fun h => hok ⟨h.1, h.2.1, fun t ht => h.2.2 t (by omega)⟩
                      rw [okb_no hok]
                      clear hok hr hc
                      go_wp2_with fail
                      go_roundw
                      case rel => exact ⟨k + 1, y, by omega, by go_num, by rw [HK1.out] <;> first | rfl | (congr 1; simp <;> omega), HO.out.1, fun h => absurd h (by rw [HK1.out]; decide), by have h9 := HLY.out; rw [Nat.add_mul, Nat.one_mul]; omega, HU.out⟩
                      case measure => simp [intOf]; omega
                  · obtain rfl : m = k := by omega
                    have HN := hid (H8.out.1.ls.nul HU.out)
                    have H9 := hid (H8.out.1.nxt HN.out)
                    go_upto_region 24 with fail
                    go_cut [20, 21, 218] (fun s20 s21 s218 wx => s218 = .bool false ∧ MS w [F1, F] wx X1 g1 cap1 p1 q1 F1 r c z1)
                    case first =>
                      as_aux_lemma =>
                      rcases H8.out.2 with ⟨hok, p3, q3, rfl, rfl, m8⟩ | ⟨hok, rfl, rfl⟩
                      · have hyy := HO.out.2 (okb_yes hok)
                        rw [okb_yes hok]
                        have hyl : y.length = m * c := by rw [hyy, pickZ_length]
                        have hpos : 0 < y.length := by rw [hyl]; exact Nat.mul_pos hok.1 c1
                        obtain ⟨gc, capc, rfl, b1, b2, b3, _, _⟩ := HO.out.1.row hpos
                        have M8 := hid (m8.nxt HN.out)
                        have HR3 : Hid (LR [F1, F] wr gc 0 (pickZ m c z1 fun k => (f k).toNat)) := ⟨by rw [← hyy]; exact b3, b2, H8.out.1.ls.lt b1⟩
                        rw [hyl]
                        clear hyy hyl hpos b1 b2 b3 m8 hok HO HLY hr hc
                        go_wp2_with fail
                        refine (sameL H9.out.ls M8.out HR3.out rfl).mono ?_
                        rintro e wz ⟨rfl, kz⟩
                        have HZ9 := hid (H9.out.nxt kz)
                        clear kz
                        go_wp2_with fail
                        go_meet
                        case rel => exact ⟨rfl, HZ9.out⟩
                      · rw [okb_no hok]
                        clear hok hr hc
                        go_wp2_with fail
                        go_meet
                        case rel => exact ⟨rfl, H9.out⟩
                    case rest =>
                      as_aux_lemma =>
                      obtain ⟨rfl, hms⟩ := hcut
                      have H10 := hid hms
                      clear hms H9 H8 HO HU HLY HN
                      go_wp2_with fail
                      refine (new_nil _ _ _ _).mono ?_
                      rintro e wz ⟨rfl, EZ⟩
                      have hn := H10.out.ls.alloc (.cells #[.int .u8 1] 5)
                      rw [← EZ] at hn
                      have H11 := hid (H10.out.nxt hn)
                      clear hn EZ H10
                      by_cases hv : Vld r c i j
                      · obtain ⟨v1, v2, v3, v4⟩ := hv
                        obtain ⟨I, rfl⟩ := Int.eq_ofNat_of_zero_le v1
                        obtain ⟨J, rfl⟩ := Int.eq_ofNat_of_zero_le v3
                        have lI : I < r := by omega
                        have lJ : J < c := by omega
                        have HWN : wnt r c I J z1 = z1.getD (I * c + J) 0 := by rw [wnt, if_pos (vld_yes ⟨v1, v2, v3, v4⟩)]; rfl
                        rw [HWN]
                        have HAT := hid (at_some p1 q1 F1 r c I J z1 wz H11.out.lm.mat lI lJ)
                        generalize z1.getD (I * c + J) 0 = yv at *
                        clear HWN hr hc
                        go_wp2_with fail
                        refine HAT.out.mono ?_
                        rintro e wy ⟨rfl, d, EY⟩
                        have hn := H11.out.ls.drewN d
                        rw [← EY] at hn
                        have H12 := hid (H11.out.ls.nxt hn)
                        clear hn EY HAT
                        go_wp2_with fail
                        refine (awakeL H12.out).mono ?_
                        rintro e wa ⟨rfl, ka⟩
                        have H13 := hid (H12.out.nxt ka)
                        clear ka
                        go_wp2
                        go_ret
                        exact ⟨rfl, H13.out.below⟩
                      · have HWN : wnt r c i j z1 = 0 := by rw [wnt, if_neg (by rw [vld_no hv]; decide)]
                        rw [HWN]
                        have HAT := hid (at_none p1 q1 F1 r c i j z1 wz H11.out.lm.mat (by unfold Vld at hv; omega))
                        clear HWN hv hr hc
                        go_wp2_with fail
                        refine HAT.out.mono ?_
                        rintro e wy ⟨rfl, rfl⟩
                        clear HAT
                        go_wp2_with fail
                        refine (awakeL H11.out.ls).mono ?_
                        rintro e wa ⟨rfl, ka⟩
                        have H13 := hid (H11.out.ls.nxt ka)
                        clear ka
                        go_wp2
                        go_ret
                        exact ⟨rfl, H13.out.below⟩
end Go.Proofs.Ytoibfpcobhopeaa
