/- The document's own product of matrices, walked. -/
import Derived.Test.YtoibfpcobhopeaaMatLaw
namespace Go.Proofs.Ytoibfpcobhopeaa
open Go.RowKit
set_option linter.unusedVariables false

theorem Filling.drewN {w wr : World} {P M r c : Nat} {zs : List Nat} {v : Value} (h : Filling w P M r c zs wr v) (n : Nat) : Filling w P M r c zs (wr.drewN n) v := ⟨h.own.drewN n, h.st.drewN n, h.st0, h.up.drewN n, h.PM, h.Pw⟩
theorem xs_next {k : Nat} {f : Nat → Nat} {x v : Nat} (h : f k = x) (hv : GfM.xs k f = v) : GfM.xs (k + 1) f = v ^^^ x := by rw [GfM.xs, h, hv]

set_option maxRecDepth 100000 in
set_option maxHeartbeats 3200000 in
theorem refMatMul_any (r k c ga gb na nb ca cb : Nat) (z z2 : List Nat) (w : World) (hr : r ≤ 32) (hk : k ≤ 32) (hc : c ≤ 32) (h1 : Row w ga 0 z) (h2 : Row w gb 0 z2) (l1 : ga < w.heap.size) (l2 : gb < w.heap.size) (hna : na = r * k) (hnb : nb = k * c) (hz1 : z.length = na) (hz2 : z2.length = nb) :
    Calls Try.prog 21 #[.agg #[.int .i64 r, .int .i64 k, .slice (some ⟨ga, 0, none⟩) na ca], .agg #[.int .i64 k, .int .i64 c, .slice (some ⟨gb, 0, none⟩) nb cb]] w
      fun e w' => ∃ v, e = .returned (.agg #[.int .i64 r, .int .i64 c, v]) ∧ OwnB w.heap.size w' v (prodZ r k c z z2) ∧ Up Nul w w' := by
  obtain ⟨w2, W2⟩ : ∃ x, x = (w.alloc (.cells #[.int .i64 r, .int .i64 k, .slice (some ⟨ga, 0, none⟩) na ca] 35)).alloc (.cells #[.int .i64 k, .int .i64 c, .slice (some ⟨gb, 0, none⟩) nb cb] 35) := ⟨_, rfl⟩
  have ea : (w.alloc (.cells #[.int .i64 r, .int .i64 k, .slice (some ⟨ga, 0, none⟩) na ca] 35)).heap.size = w.heap.size + 1 := by simp
  have hs2 : w2.heap.size = w.heap.size + 2 := by rw [W2]; simp
  have hA : St w2 w.heap.size r k (.slice (some ⟨ga, 0, none⟩) na ca) := by rw [W2]; exact (St.new w r k _ _).alloc _
  have hB : St w2 (w.heap.size + 1) k c (.slice (some ⟨gb, 0, none⟩) nb cb) := by
    have := St.new (w.alloc (.cells #[.int .i64 r, .int .i64 k, .slice (some ⟨ga, 0, none⟩) na ca] 35)) k c (.slice (some ⟨gb, 0, none⟩) nb cb) 35
    rw [ea, ← W2] at this
    exact this
  have hu : Up Nul w w2 := by rw [W2]; exact ((Up.refl _ _).alloc _).alloc _
  have HX := hid (And.intro hA (And.intro hB (And.intro hu (And.intro (h1.up hu l1 id) (h2.up hu l2 id)))))
  have HS := hid (Filling.start w2 r c)
  have HL := hid (And.intro l1 (And.intro l2 (And.intro hna (And.intro hnb (And.intro hz1 hz2)))))
  have hS2 := hid hs2
  rw [hs2] at HS
  clear hA hB hu h1 h2 l1 l2 hna hnb hz1 hz2 hs2 ea
  go_enter Try.func21, Try.ntmps21
  go_wp2_with fail
  rw [← W2]
  generalize ((w2.alloc (.cells #[.int .i64 0, .int .i64 0, .slice none 0 0] 35)).alloc (.cells #[.int .i64 r, .int .i64 c, .slice none 0 0] 35)) = w3 at *
  have HS1 : Hid (Filling w2 (w.heap.size + 1 + 1) (w.heap.size + 1 + 1 + 1) r c [] w3 (.slice none 0 0)) := HS.out
  obtain ⟨M, MM⟩ : ∃ x, x = w.heap.size + 1 + 1 + 1 := ⟨_, rfl⟩
  obtain ⟨P, PP⟩ : ∃ x, x = w.heap.size + 1 + 1 := ⟨_, rfl⟩
  obtain ⟨B, BB⟩ : ∃ x, x = w.heap.size + 1 := ⟨_, rfl⟩
  obtain ⟨A, AA⟩ : ∃ x, Hid (x = w.heap.size) := ⟨_, rfl⟩
  rw [← MM, ← PP] at HS1
  rw [← BB, ← AA.out] at HX
  rw [← MM, ← PP, ← BB, ← AA.out]
  clear MM PP BB HS W2
  obtain ⟨G, GG⟩ : ∃ G : Nat → Nat, G = fun t => sumAt k z (colOf k c (t % c) z2) (t / c) := ⟨_, rfl⟩
  have HGG := hid GG
  have hG8 : ∀ t, G t < 256 := fun t => by rw [GG]; exact sumAt_lt _ _ _ _
  clear GG
  go_loopw [6] (fun i wr => ∃ m : Nat, m ≤ r ∧ i = .int .i64 m ∧ ∃ v, Filling w2 P M r c (tab (m * c) G) wr v) (fun i _ => r - (intOf i).toNat)
  case atStart => exact ⟨0, by omega, rfl, _, by rw [Nat.zero_mul]; exact HS1.out⟩
  case round =>
    clear HS1
    obtain ⟨i, hi, rfl, v, hv⟩ := hrel
    have a0 := (HX.out.1.up hv.up id).c0
    have HV := hid hv
    clear hv
    by_cases hlt : i < r
    · go_wp2_with fail
      go_loopw [7] (fun j wr => ∃ m : Nat, m ≤ c ∧ j = .int .i64 m ∧ ∃ v, Filling w2 P M r c (tab (i * c + m) G) wr v) (fun j _ => c - (intOf j).toNat)
      case atStart => exact ⟨0, by omega, rfl, _, HV.out⟩
      case round =>
        clear HV a0
        obtain ⟨j, hj, rfl, v, hv⟩ := hrel
        have b1 := (HX.out.2.1.up hv.up id).c1
        have HV := hid hv
        clear hv
        by_cases hlt2 : j < c
        · have HG1 : Hid (G (i * c + j) = GfM.xs k fun s => GfM.mul (z.getD (i * k + s) 0) (z2.getD (s * c + j) 0)) := by
            show _ = _
            rw [HGG.out]
            show sumAt k z (colOf k c ((i * c + j) % c) z2) ((i * c + j) / c) = _
            rw [Nat.mul_comm i c, Nat.mul_add_mod, Nat.mod_eq_of_lt hlt2, Nat.mul_add_div (by omega), Nat.div_eq_of_lt hlt2, Nat.add_zero]
            exact GfM.xs_congr fun s hs => by unfold colOf; rw [tab_at _ _ _ hs]
          obtain ⟨f, FF⟩ : ∃ f : Nat → Nat, f = fun s => GfM.mul (z.getD (i * k + s) 0) (z2.getD (s * c + j) 0) := ⟨_, rfl⟩
          rw [← FF] at HG1
          have HFF := hid FF
          have hx8 : ∀ m, GfM.xs m f < 256 := fun m => GfM.xs_lt fun s _ => by rw [FF]; exact GfM.mul_lt _ _
          clear FF
          go_wp2_with fail
          go_loopw [8, 9] (fun s q wx => ∃ m n : Nat, m ≤ k ∧ q = .int .i64 m ∧ s = .int .u8 (GfM.xs m f) ∧ wx = wr.drewN n) (fun _ q _ => k - (intOf q).toNat)
          case atStart => exact ⟨0, 0, by omega, rfl, rfl, rfl⟩
          case round =>
            obtain ⟨m, nq, hm, rfl, rfl, hw⟩ := hrel
            have hup : Up Nul w2 wr := by rw [hw]; exact HV.out.up.drewN nq
            have HW := hid hw
            clear hw
            have ha := HX.out.1.up hup id
            have hb := HX.out.2.1.up hup id
            have q1 := ha.c1
            have q2 := ha.c2
            have q3 := hb.c1
            have q4 := hb.c2
            have hx := hx8 m
            by_cases hlt3 : m < k
            · have ei : (i : Int) * (k : Int) = ((i * k : Nat) : Int) := by simp
              have em : (m : Int) * (c : Int) = ((m * c : Nat) : Int) := by simp
              have bi : i * k + m < na := by
                have := Nat.mul_le_mul_right k (show i + 1 ≤ r from hlt)
                rw [Nat.add_mul] at this
                have := HL.out.2.2.1
                omega
              have bm : m * c + j < nb := by
                have := Nat.mul_le_mul_right c (show m + 1 ≤ k from hlt3)
                rw [Nat.add_mul] at this
                have := HL.out.2.2.2.1
                omega
              have b1024 : na ≤ 1024 ∧ nb ≤ 1024 := ⟨by rw [HL.out.2.2.1]; exact prod_most hr hk, by rw [HL.out.2.2.2.1]; exact prod_most hk hc⟩
              have lg : ga < w2.heap.size ∧ gb < w2.heap.size := by have := HL.out.1; have := HL.out.2.1; have := hS2.out; omega
              have r1 := ((HX.out.2.2.2.1.up hup lg.1 id).cells (i * k + m) (by rw [HL.out.2.2.2.2.1]; exact bi))
              have r2 := ((HX.out.2.2.2.2.up hup lg.2 id).cells (m * c + j) (by rw [HL.out.2.2.2.2.2]; exact bm))
              rw [Nat.zero_add] at r1 r2
              have g1 := HX.out.2.2.2.1.small (i * k + m)
              have g2 := HX.out.2.2.2.2.small (m * c + j)
              have HN : Hid (f m = GfM.mul (z.getD (i * k + m) 0) (z2.getD (m * c + j) 0)) := by show _ = _; rw [HFF.out]
              obtain ⟨x1, X1⟩ : ∃ x, Hid (z.getD (i * k + m) 0 = x) := ⟨_, rfl⟩
              obtain ⟨x2, X2⟩ : ∃ x, Hid (z2.getD (m * c + j) 0 = x) := ⟨_, rfl⟩
              rw [X1.out] at r1 g1 HN
              rw [X2.out] at r2 g2 HN
              obtain ⟨ik, IK⟩ : ∃ x, Hid (i * k = x) := ⟨_, rfl⟩
              obtain ⟨mc, MC⟩ : ∃ x, Hid (m * c = x) := ⟨_, rfl⟩
              rw [IK.out] at ei bi r1
              rw [MC.out] at em bm r2
              obtain ⟨t1, T1⟩ : ∃ x, Hid (GfM.xs m f = x) := ⟨_, rfl⟩
              rw [T1.out] at hx ⊢
              have hxx := u8_xor_nat t1 (GfM.mul x1 x2) hx (GfM.mul_lt _ _)
              have HXS : Hid (GfM.xs (m + 1) f = t1 ^^^ GfM.mul x1 x2) := xs_next HN.out T1.out
              obtain ⟨d1, d2⟩ := b1024
              clear hup ha hb lg HN hx8 hG8
              go_wp2_with fail
              go_quiet ((go_at_call 38; exact Calls.quiet_of_same (refMul_same x1 x2 _ g1 g2)))
              go_wp2
              go_roundw
              case rel => exact ⟨m + 1, _, by omega, by go_num, by rw [HXS.out], by rw [HW.out]; exact drewN_add _ _ _⟩
              case measure => simp [intOf]; omega
            · obtain rfl : k = m := by omega
              have hv : Filling w2 P M r c (tab (i * c + j) G) wr v := by rw [HW.out]; exact HV.out.drewN nq
              have c2 := hv.st.c2
              have f2 := hv.st.fr 2
              have HV2 := hid hv
              obtain ⟨y, Y⟩ : ∃ x, Hid (GfM.xs k f = x) := ⟨_, rfl⟩
              have y8 : y < 256 := by rw [← Y.out]; exact hx
              have HGY : Hid (G (i * c + j) = y) := by show _ = _; rw [HG1.out, Y.out]
              have HLn : Hid ((tab (i * c + j) G).length ≤ 1000000) := by
                show _ ≤ _
                rw [tab_length]
                have : i * c ≤ 32 * 32 := Nat.mul_le_mul (by omega) hc
                omega
              rw [Y.out]
              clear hv hup ha hb hx HW HV hx8 hG8
              go_wp2_with (first
                | (at_builtin; refine wpList_append_byte rfl (.tmp 57) (.tmp 59) rfl (M + 1) v (tab (i * c + j) G) rfl (HV2.out.own.alloc _) ⟨wr.heap.size, 0, none⟩ 1 y rfl (World.cell?_alloc_new wr _ _ 0) y8 HLn.out (by have := HV2.out.st.lt; simp; omega) ?_; intro v2 w5 H1 H2; obtain ⟨g2, cap2, e2, _⟩ := H1.out.row (by simp); rw [List.length_append, tab_length] at e2; subst e2; have hg : (wr.alloc (.cells #[.int .u8 y] 5)).grownBy w5 v.ownBlock := H2.out; have s1 := HV2.out.after hg; have c3 := s1.c2; have f3 := s1.fr 2; have HG := hid hg; clear hg s1)
                | go_in)
              go_roundw
              case rel => exact ⟨j + 1, by omega, by go_num, _, by
                have hn := HV2.out.next H1.out HG.out
                rw [← HGY.out, ← tab_succ, Nat.add_assoc] at hn
                exact hn⟩
              case measure => simp [intOf]; omega
        · obtain rfl : c = j := by omega
          go_wp2
          go_roundw
          case rel => exact ⟨i + 1, by omega, by go_num, _, by rw [Nat.add_mul, Nat.one_mul]; exact HV.out⟩
          case measure => simp [intOf]; omega
    · obtain rfl : r = i := by omega
      have hv := HV.out
      obtain ⟨va, vn, vc, rfl⟩ := hv.own.shape
      have b0 := hv.st.c0
      have b1 := hv.st.c1
      have b2 := hv.st.c2
      have x0 : wr.cell? ⟨P, 0, none⟩ = some (.int .i64 0) := by simp only [World.cell?, hv.st0]; rfl
      have x1 : wr.cell? ⟨P, 1, none⟩ = some (.int .i64 0) := by simp only [World.cell?, hv.st0]; rfl
      have x2 : wr.cell? ⟨P, 2, none⟩ = some (.slice none 0 0) := by simp only [World.cell?, hv.st0]; rfl
      have x3 : ∀ j, wr.frozen? ⟨P, j, none⟩ = false := fun j => by simp [World.frozen?, hv.st0]
      have hMP : P ≠ M := by have := hv.PM; omega
      clear hv hG8
      go_wp2
      refine bodyPost_ret (results_cell_row (P := Try.prog) (ty := 35) rfl _ _ P _ _ _ _ rfl (heap3 HV.out.st0 _ _ _) Try.underlying35 rfl info_m3) rfl ?_
      have hu : Up Nul w2 (((wr.setCell ⟨P, 0, none⟩ (.int .i64 r)).setCell ⟨P, 1, none⟩ (.int .i64 c)).setCell ⟨P, 2, none⟩ (.slice va vn vc)) :=
        ((HV.out.up.setCell (p := ⟨P, 0, none⟩) (.inl HV.out.Pw) _).setCell (p := ⟨P, 1, none⟩) (.inl HV.out.Pw) _).setCell (p := ⟨P, 2, none⟩) (.inl HV.out.Pw) _
      have hp := HV.out.PM
      have hpw := HV.out.Pw
      have hsz := hS2.out
      refine ⟨_, rfl, ?_, HX.out.2.2.1.trans hu⟩
      have ho := HV.out.own.up (S := One P) ((((Up.refl _ wr).setCell (p := ⟨P, 0, none⟩) (.inr (show One P P from rfl)) (.int .i64 r)).setCell (p := ⟨P, 1, none⟩) (.inr (show One P P from rfl)) (.int .i64 c)).setCell (p := ⟨P, 2, none⟩) (.inr (show One P P from rfl)) (.slice va vn vc)) fun k hk e => by unfold One at e; omega
      have eG : tab (r * c) G = prodZ r k c z z2 := by rw [HGG.out]; rfl
      rw [eG] at ho
      refine ⟨⟨ho.own.1, ?_⟩, ho.small⟩
      rcases ho.own.2 with h | ⟨g, cap, cur, h1, h2, h3⟩
      · exact .inl h
      · exact .inr ⟨g, cap, cur, h1, by omega, h3⟩
end Go.Proofs.Ytoibfpcobhopeaa
