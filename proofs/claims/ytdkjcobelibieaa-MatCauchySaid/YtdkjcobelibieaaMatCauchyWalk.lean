/- The law MatCauchy, walked. -/
import Derived.Test.YtdkjcobelibieaaMatUnitsWalk
import Derived.Test.YtdkjcobelibieaaMatCauchy
namespace Go.Proofs.Ytdkjcobelibieaa
open Go.RowKit
set_option linter.unusedVariables false

/-- The byte of place s. -/
def pt (a : Int) (st s : Nat) : Nat := ((a + (st : Int) * (s : Int)) % 256).toNat
theorem pt_lt (a : Int) (st s : Nat) : pt a st s < 256 := by unfold pt; omega
theorem pt_inj {a : Int} {st s u : Nat} (h0 : 1 ≤ st) (h1 : st ≤ 29) (hs : s < 8) (hu : u < 8) (h : pt a st s = pt a st u) : s = u := by
  have key : ∀ s u : Nat, s < u → u < 8 → pt a st s = pt a st u → False := by
    intro s u hsu hu h
    obtain ⟨d, rfl⟩ : ∃ d, u = s + d := ⟨u - s, by omega⟩
    have h2 : 0 < st * d := Nat.mul_pos h0 (by omega)
    have h3 : st * d ≤ 29 * 7 := Nat.mul_le_mul h1 (by omega)
    have e : (st : Int) * ((s + d : Nat) : Int) = (st : Int) * (s : Int) + ((st * d : Nat) : Int) := by
      rw [Int.natCast_add, Int.mul_add, Int.natCast_mul]
    unfold pt at h
    rw [e] at h
    omega
  rcases Nat.lt_trichotomy s u with h2 | h2 | h2
  · exact (key s u h2 hu h).elim
  · exact h2
  · exact (key u s h2 hs h.symm).elim
/-- Cell t of the matrix. -/
def cau (a : Int) (st n t : Nat) : Nat := GfM.inv (pt a st (t / n) ^^^ pt a st (n + t % n))
theorem step15 (x : Int) : ∃ y t : Nat, bits .and .i64 x 255 = (y : Int) ∧ (y : Int).tmod 15 = (t : Int) ∧ (y : Int) % 15 = (t : Int) ∧ t < 15 ∧ y < 256 := by
  obtain ⟨y, hy, h⟩ := i64_and255 x
  refine ⟨y, y % 15, hy, ?_, by omega, by omega, h⟩
  rw [Int.tmod_eq_emod_of_nonneg (by omega)]
  omega

theorem wrap64_mod (v : Int) : wrap64 v % 256 = v % 256 := by
  rw [← IntWalk.i64_left, IntKind.wrap_i64]
  omega
theorem xor_pt (a : Int) (st s u x y : Nat) (hx : st * s = x) (hy : st * u = y) : bits BinOp.xor IntKind.u8 (wrap64 (a + (x : Int)) % 256) (wrap64 (a + (y : Int)) % 256) = ((pt a st s ^^^ pt a st u : Nat) : Int) := by
  have e1 : wrap64 (a + (x : Int)) % 256 = ((pt a st s : Nat) : Int) := by
    rw [wrap64_mod, ← hx, pt, Int.natCast_mul]
    omega
  have e2 : wrap64 (a + (y : Int)) % 256 = ((pt a st u : Nat) : Int) := by
    rw [wrap64_mod, ← hy, pt, Int.natCast_mul]
    omega
  rw [e1, e2]
  exact u8_xor_nat _ _ (pt_lt _ _ _) (pt_lt _ _ _)
theorem LS.grown {w0 w w' : World} {FS : List Nat} {row : Option Nat} (h : LS w0 FS w) (g : w.grownBy w' row) (hr : ∀ k, row = some k → w0.heap.size ≤ k ∧ k ∉ FS) : LS w0 FS w' :=
  ⟨h.up.grown g fun k hk => (hr k hk).1, fun F hF => (h.fld F hF).up (S := fun k => row = some k) ⟨g.os, g.tape, g.output, g.size, fun k hk hs => g.block k hk fun e => hs e.symm⟩ fun e => (hr F e).2 hF, h.own⟩
theorem cau_at (a : Int) (st n k j : Nat) (hj : j < n) : cau a st n (k * n + j) = GfM.inv (pt a st k ^^^ pt a st (n + j)) := by
  unfold cau
  rw [Nat.mul_comm k n, Nat.mul_add_mod, Nat.mod_eq_of_lt hj, Nat.mul_add_div (by omega), Nat.div_eq_of_lt hj, Nat.add_zero]
theorem cau_run {a : Int} {st n : Nat} (h1 : 1 ≤ st) (h2 : st ≤ 29) (hn : n ≤ 4) : GfM.run n (GfM.beside n (cz n (tab (n * n) (cau a st n)))) n ≠ none := by
  refine GfM.cauchy_run (a := fun i => pt a st i) (b := fun j => pt a st (n + j)) (cz_small (tab_small fun t => GfM.inv_lt _)) (fun _ => pt_lt _ _ _) (fun _ => pt_lt _ _ _) (fun i j hi hj e => pt_inj h1 h2 (by omega) (by omega) e) (fun i j hi hj e => by
    have := pt_inj h1 h2 (by omega) (by omega) e
    omega) (fun i j hi hj e => by
    have := pt_inj h1 h2 (by omega) (by omega) e
    omega) fun i j hi hj => ?_
  exact cz_tab (f := fun i j => GfM.inv (pt a st i ^^^ pt a st (n + j))) hi hj

set_option maxRecDepth 100000 in
set_option maxHeartbeats 3200000 in
theorem cauchy_walk (n0 a s0 : Int) (w : World) (wa : (Lit.int .i64 a).wf = true) :
    Calls Try.prog 3 #[.int .i64 n0, .int .i64 a, .int .i64 s0] w fun e w' => e = .returned (.bool true) ∧ Below w.heap.size w w' := by
  have hnot : ∀ (x : Bool) (w : World), (Op.unary .not (.bool x)).run Try.prog w = .ok (.bool (!x)) w := fun _ _ => rfl
  obtain ⟨n, hn, n1, n4⟩ := i64_and3 n0
  obtain ⟨y, t, hy, ht1, ht2, ht, hy8⟩ := step15 s0
  have hab := bounds_i64 wa
  obtain ⟨st, ST⟩ : ∃ x, x = 2 * t + 1 := ⟨_, rfl⟩
  have est : (t : Int) * 2 + 1 = (st : Int) := by omega
  have st1 : 1 ≤ st := by omega
  have st29 : st ≤ 29 := by omega
  clear ST wa
  go_enter Try.func3, Try.ntmps3
  go_wp2_with fail
  refine (gfNewF _).mono ?_
  rintro e w1 ⟨F, rfl, m1⟩
  have HLS := hid (And.intro ((LS.start w).newF m1) (show F < w1.heap.size from by have := m1.eq; have := m1.n.size; omega))
  clear m1
  go_wp2_with fail
  go_loopw [8, 9] (fun v i wr => ∃ k : Nat, k ≤ n ∧ i = .int .i64 k ∧ LS w [F] wr ∧ OwnB w1.heap.size wr v (tab (k * n) (cau a st n)) ∧ w1.heap.size ≤ wr.heap.size) (fun _ i _ => n - (intOf i).toNat)
  case atStart => exact ⟨0, by omega, rfl, HLS.out.1, by rw [Nat.zero_mul]; exact OwnB.nil _ _, Nat.le_refl _⟩
  case round =>
    obtain ⟨k, hk, rfl, hls, hv, hsz⟩ := hrel
    by_cases hlt : k < n
    · have H1 := hid (And.intro hls (And.intro hv hsz))
      clear hls hv hsz
      go_wp2_with fail
      go_loopw [8, 10] (fun v j wr => ∃ m : Nat, m ≤ n ∧ j = .int .i64 m ∧ LS w [F] wr ∧ OwnB w1.heap.size wr v (tab (k * n + m) (cau a st n)) ∧ w1.heap.size ≤ wr.heap.size) (fun _ j _ => n - (intOf j).toNat)
      case atStart => exact ⟨0, by omega, rfl, H1.out⟩
      case round =>
        clear H1
        obtain ⟨j, hj, rfl, hls, hv, hsz⟩ := hrel
        by_cases hlt2 : j < n
        · have H2 := hid (And.intro hls (And.intro hv hsz))
          clear hls hv hsz
          have ek : (st : Int) * (k : Int) = ((st * k : Nat) : Int) := by simp
          have bk : st * k ≤ 29 * 4 := Nat.mul_le_mul st29 (by omega)
          have ej : (st : Int) * ((n : Int) + (j : Int)) = ((st * (n + j) : Nat) : Int) := by simp
          have bj : st * (n + j) ≤ 29 * 8 := Nat.mul_le_mul st29 (by omega)
          obtain ⟨sk, SK⟩ : ∃ x, Hid (st * k = x) := ⟨_, rfl⟩
          obtain ⟨sj, SJ⟩ : ∃ x, Hid (st * (n + j) = x) := ⟨_, rfl⟩
          rw [SK.out] at ek bk
          rw [SJ.out] at ej bj
          obtain ⟨xx, XX⟩ : ∃ x, Hid (pt a st k ^^^ pt a st (n + j) = x) := ⟨_, rfl⟩
          have hxp := xor_pt a st k (n + j) sk sj SK.out SJ.out
          rw [XX.out] at hxp
          have x8 : xx < 256 := by rw [← XX.out]; exact GfM.xor_lt (pt_lt _ _ _) (pt_lt _ _ _)
          have hx0 : xx ≠ 0 := by
            rw [← XX.out]
            exact GfM.xor_ne fun e => by have := pt_inj st1 st29 (by omega) (by omega) e; omega
          have HX0 := hid hx0
          have HC := hid (cau_at a st n k j hlt2)
          clear hx0
          go_wp2_with fail
          refine (inv_any F xx _ (H2.out.1.fld F (List.mem_cons_self ..)) HX0.out x8).mono ?_
          rintro e w2 ⟨rfl, k2⟩
          have hls2 := H2.out.1.nxt (H2.out.1.one (List.mem_cons_self ..) (Up.of_out k2.1) k2.2)
          have hv2 := H2.out.2.1.up (Up.of_out k2.1) fun b hb e => by have := HLS.out.2; unfold One at e; omega
          have hsz2 : w1.heap.size ≤ w2.heap.size := Nat.le_trans H2.out.2.2 (by rw [k2.1.size]; exact Nat.le_refl _)
          obtain ⟨yy, YY⟩ : ∃ x, Hid (GfM.inv xx = x) := ⟨_, rfl⟩
          have y8 : yy < 256 := by rw [← YY.out]; exact GfM.inv_lt _
          rw [YY.out]
          have H3 := hid (And.intro hls2 (And.intro hv2 hsz2))
          have HL : Hid ((tab (k * n + j) (cau a st n)).length ≤ 1000000) := by
            show _ ≤ _
            rw [tab_length]
            have : k * n ≤ 4 * 4 := Nat.mul_le_mul (by omega) n4
            omega
          clear k2 hls2 hv2 hsz2 H2 hxp
          go_wp2_with (first
            | (at_builtin; refine wpList_append_byte rfl (.tmp 62) (.tmp 64) rfl w1.heap.size _ (tab (k * n + j) (cau a st n)) rfl (H3.out.2.1.alloc _) ⟨w2.heap.size, 0, none⟩ 1 yy rfl (World.cell?_alloc_new w2 _ _ 0) y8 HL.out (by have := H3.out.2.2; simp; omega) ?_; intro v2 w3 G1 G2)
            | go_in)
          have hls3 : LS w [F] w3 := (H3.out.1.nxt (H3.out.1.alloc _)).grown G2.out fun b hb => by
            have h1 := H3.out.2.1.base b hb
            have h2 := HLS.out.1.up.size
            have h3 := HLS.out.2
            exact ⟨by omega, fun hm => by rcases List.mem_cons.1 hm with e | hm; omega; cases hm⟩
          have hsz3 : w1.heap.size ≤ w3.heap.size := Nat.le_trans H3.out.2.2 (Nat.le_trans (by simp) G2.out.size)
          have hown3 : OwnB w1.heap.size w3 v2 (tab (k * n + (j + 1)) (cau a st n)) := by
            rw [← Nat.add_assoc, tab_succ, HC.out, XX.out, YY.out]
            exact G1.out
          have H4 := hid (And.intro hls3 (And.intro hown3 hsz3))
          clear hls3 hsz3 hown3
          go_roundw
          case rel => exact ⟨j + 1, by omega, by go_num, H4.out⟩
          case measure => simp [intOf]; omega
        · obtain rfl : n = j := by omega
          have H2 := hid (And.intro hls (And.intro hv hsz))
          clear hls hv hsz
          go_wp2
          go_roundw
          case rel => exact ⟨k + 1, by omega, by go_num, H2.out.1, by rw [Nat.add_mul, Nat.one_mul]; exact H2.out.2.1, H2.out.2.2⟩
          case measure => simp [intOf]; omega
    · obtain rfl : n = k := by omega
      have hnn : 0 < (tab (n * n) (cau a st n)).length := by rw [tab_length]; exact Nat.mul_pos n1 n1
      obtain ⟨g, cap, rfl, g1, g2, g3, _, _⟩ := hv.row hnn
      have hgF : g ∉ [F] := fun hm => by
        have := HLS.out.2
        rcases List.mem_cons.1 hm with e | hm
        · omega
        · cases hm
      have H1 : Hid (LS w [F] wr ∧ LR [F] wr g 0 (tab (n * n) (cau a st n))) := ⟨hls, g3, g2, hgF⟩
      have HR := hid (cau_run (a := a) st1 st29 n4)
      obtain ⟨z, Z⟩ : ∃ x, x = tab (n * n) (cau a st n) := ⟨_, rfl⟩
      have hzl : z.length = n * n := by rw [Z]; exact tab_length _ _
      have hzs : ∀ x ∈ z, x < 256 := by rw [Z]; exact tab_small fun t => GfM.inv_lt _
      rw [← Z] at H1 HR
      rw [tab_length]
      have HZ := hid (And.intro hzl hzs)
      clear Z hzl hzs hls hv hsz g1 g2 g3 hgF hnn
      go_wp2_with fail
      refine (newL H1.out.1 (List.mem_cons_self ..) n1 (by omega) n1 (by omega) H1.out.2 HZ.out.1 rfl).mono ?_
      rintro e w4 ⟨p1, q1, rfl, m4, k4⟩
      have H4 := hid (And.intro (H1.out.1.nxt k4) m4)
      clear H1 m4 k4
      go_wp2_with fail
      refine (invertL H4.out.1 H4.out.2).mono ?_
      rintro e w5 ⟨k5, ⟨hr, rfl⟩ | ⟨M, p2, q2, hr, rfl, m5⟩⟩
      · exact absurd hr HR.out
      · have H5 := hid (And.intro (H4.out.1.nxt k5) (And.intro (H4.out.2.nxt k5) m5))
        have HM := hid hr
        clear k5 m5 H4 hr HR
        go_wp2_with fail
        refine (mulL H5.out.1 H5.out.2.1 H5.out.2.2).mono ?_
        rintro e w6 ⟨p3, q3, rfl, m6, k6⟩
        have ep : prodZ n n n z (tab (n * n) fun t => GfM.half n M (t / n) (t % n)) = unitZ n := prod_inv HZ.out.2 HM.out
        rw [ep] at m6
        have H6 := hid (And.intro (H5.out.1.nxt k6) m6)
        clear k6 m6 H5 ep
        go_wp2_with fail
        refine (refUnitL H6.out.1 n1 (by omega)).mono ?_
        rintro e w7 ⟨g2, rfl, r7, k7⟩
        have H7 := hid (And.intro (H6.out.1.nxt k7) (And.intro (H6.out.2.nxt k7) r7))
        clear k7 r7 H6
        go_wp2_with fail
        refine (sameL H7.out.1 H7.out.2.1 H7.out.2.2 rfl).mono ?_
        rintro e w8 ⟨rfl, k8⟩
        have H8 := hid (H7.out.1.nxt k8)
        clear k8 H7
        go_wp2_with fail
        refine (awakeL H8.out).mono ?_
        rintro e w9 ⟨rfl, k9⟩
        have H9 := hid (H8.out.nxt k9)
        clear k9 H8
        go_wp2
        go_ret
        exact ⟨rfl, H9.out.below⟩
end Go.Proofs.Ytdkjcobelibieaa
