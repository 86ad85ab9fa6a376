/- The document's own elimination, walked. -/
import Derived.Test.YtkenfabnbmkhbaaGreatCB
import Derived.BigRegion
import Derived.StillTailTactics
import Derived.Deep.CutBlock
import Derived.Deep.RegionHeld3
import Derived.Deep.DeepCutAuto
namespace Go.Proofs.YtkenfabnbmkhbaaGreat
open Go.RowKit
set_option linter.unusedVariables false

/-- What is asked of the rows at the beginning. -/
theorem RI.start {w wr : World} {P ga gb n cap : Nat} {z : List Nat} (ha : OwnB w.heap.size wr (.slice (some ⟨ga, 0, none⟩) (n * n) cap) z) (hb : Blk wr gb (unitZ n)) (hl : z.length = n * n) (n1 : 1 ≤ n) (ne : ga ≠ gb) (hu : Up Nul w wr) (oa : w.heap.size ≤ ga) (ob : w.heap.size ≤ gb) (oP : w.heap.size ≤ P) (Pa : P ≠ ga) (Pb : P ≠ gb)
    (st0 : wr.heap[P]? = some (.cells #[.int .i64 0, .int .i64 0, .slice none 0 0] 100 (0, 0))) : RI w P ga gb n (GfM.beside n (cz n z)) wr := by
  obtain ⟨g, c, e, g1, g2, g3, g4, _⟩ := ha.row (by rw [hl]; exact Nat.mul_pos n1 n1)
  have eg : g = ga := by
    have := congrArg (fun v => match v with | Value.slice (some a) _ _ => a.block | _ => 0) e
    exact this.symm
  subst eg
  refine ⟨fun i j hi hj => ?_, fun i j hi hj => ?_, g4, fun i => hb.froz i, GfM.beside_small (cz_small ha.small), ne, hu, oa, ob, oP, Pa, Pb, hb.lt, st0⟩
  · have := g3.cells (i * n + j) (by rw [hl]; exact idx_lt hi hj)
    rw [Nat.zero_add] at this
    rw [this]
    unfold GfM.beside cz
    rw [if_pos hj]
  · have := hb.cell (i * n + j) (by unfold unitZ; rw [tab_length]; exact idx_lt hi hj)
    rw [this]
    unfold GfM.beside unitZ
    rw [tab_at _ _ _ (idx_lt hi hj), Nat.mul_comm i n, Nat.mul_add_mod, Nat.mod_eq_of_lt hj, Nat.mul_add_div (by omega), Nat.div_eq_of_lt hj, Nat.add_zero, if_neg (show ¬ n + j < n by omega)]
    by_cases e : i = j
    · rw [if_pos e, if_pos (by omega)]
    · rw [if_neg e, if_neg (by omega)]

/-- The bounds of a place. -/
structure At (n nn i j x : Nat) : Prop where
  mul : (i : Int) * (n : Int) = ((i * n : Nat) : Int)
  eq : i * n = x
  lt : x + j < nn
theorem At.of {n i j : Nat} (hi : i < n) (hj : j < n) : At n (n * n) i j (i * n) := ⟨by simp, rfl, idx_lt hi hj⟩

set_option maxRecDepth 100000 in
set_option maxHeartbeats 20000000 in
theorem refInvert_any (n ga na ca : Nat) (z : List Nat) (w : World) (n1 : 1 ≤ n) (n2 : n ≤ 32) (h1 : Row w ga 0 z) (l1 : ga < w.heap.size) (hna : na = n * n) (hz : z.length = na) (hzs : ∀ x ∈ z, x < 256) :
    Calls Tryz.prog 37 #[.agg #[.int .i64 n, .int .i64 n, .slice (some ⟨ga, 0, none⟩) na ca]] w
      fun e w' => Up Nul w w' ∧ ((GfM.run n (GfM.beside n (cz n z)) n = none ∧ e = .returned (.tuple #[.agg #[.int .i64 0, .int .i64 0, .slice none 0 0], .bool false])) ∨
        ∃ M gb, GfM.run n (GfM.beside n (cz n z)) n = some M ∧ e = .returned (.tuple #[.agg #[.int .i64 n, .int .i64 n, .slice (some ⟨gb, 0, none⟩) (n * n) (n * n)], .bool true]) ∧ w.heap.size ≤ gb ∧ gb < w'.heap.size ∧
          Row w' gb 0 (tab (n * n) fun t => GfM.half n M (t / n) (t % n))) := by
  have hnot : ∀ (x : Bool) (w : World), (Op.unary .not (.bool x)).run Tryz.prog w = .ok (.bool (!x)) w := fun _ _ => rfl
  obtain ⟨nn, NN⟩ : ∃ x, Hid (n * n = x) := ⟨_, rfl⟩
  rw [NN.out] at hna
  subst hna
  have hn1024 : na ≤ 1024 := by rw [← NN.out]; exact prod_most n2 n2
  have e2 : ((w.alloc (.cells #[.int .i64 n, .int .i64 n, .slice (some ⟨ga, 0, none⟩) na ca] 100)).alloc (.cells #[.int .i64 0, .int .i64 0, .slice none 0 0] 100)).heap.size = w.heap.size + 1 + 1 := by simp
  have hO : OwnB w.heap.size (((w.alloc (.cells #[.int .i64 n, .int .i64 n, .slice (some ⟨ga, 0, none⟩) na ca] 100)).alloc (.cells #[.int .i64 0, .int .i64 0, .slice none 0 0] 100)).alloc (.cells #[] 5)) (.slice (some ⟨w.heap.size + 1 + 1, 0, none⟩) 0 0) [] := by
    have := OwnB.fresh w.heap.size ((w.alloc (.cells #[.int .i64 n, .int .i64 n, .slice (some ⟨ga, 0, none⟩) na ca] 100)).alloc (.cells #[.int .i64 0, .int .i64 0, .slice none 0 0] 100)) (by rw [e2]; omega)
    rw [e2] at this
    exact this
  have hu3 : Up Nul w (((w.alloc (.cells #[.int .i64 n, .int .i64 n, .slice (some ⟨ga, 0, none⟩) na ca] 100)).alloc (.cells #[.int .i64 0, .int .i64 0, .slice none 0 0] 100)).alloc (.cells #[] 5)) := (((Up.refl _ _).alloc _).alloc _).alloc _
  have hP : (((w.alloc (.cells #[.int .i64 n, .int .i64 n, .slice (some ⟨ga, 0, none⟩) na ca] 100)).alloc (.cells #[.int .i64 0, .int .i64 0, .slice none 0 0] 100)).alloc (.cells #[] 5)).heap[w.heap.size + 1]? = some (.cells #[.int .i64 0, .int .i64 0, .slice none 0 0] 100 (0, 0)) := by
    have e1 : (w.alloc (.cells #[.int .i64 n, .int .i64 n, .slice (some ⟨ga, 0, none⟩) na ca] 100)).heap.size = w.heap.size + 1 := by simp
    have := heap_alloc_new (w.alloc (.cells #[.int .i64 n, .int .i64 n, .slice (some ⟨ga, 0, none⟩) na ca] 100)) (.cells #[.int .i64 0, .int .i64 0, .slice none 0 0] 100)
    rw [e1] at this
    exact (Below.heap_alloc _ _ _ (by rw [e2]; omega)).trans this
  have HO := hid hO
  have HU := hid hu3
  have HP := hid hP
  have HR := hid (h1.up hu3 l1 id)
  have HZ := hid (And.intro hz hzs)
  have HS3 : Hid ((((w.alloc (.cells #[.int .i64 n, .int .i64 n, .slice (some ⟨ga, 0, none⟩) na ca] 100)).alloc (.cells #[.int .i64 0, .int .i64 0, .slice none 0 0] 100)).alloc (.cells #[] 5)).heap.size = w.heap.size + 1 + 1 + 1) := by show _ = _; simp
  clear h1 l1 hz hzs hO hu3 hP e2
  have hfld : ∀ (x y g b c : Nat) (w : World), (Instr.field 100 (.agg #[.int .i64 x, .int .i64 y, .slice (some ⟨g, 0, none⟩) b c]) 2).run Tryz.prog w = .ok (.slice (some ⟨g, 0, none⟩) b c) w := fun _ _ _ _ _ _ => by kernel_rfl
  go_enter Tryz.func37, Tryz.ntmps37
  go_wp2_with (first
    | (at_builtin; refine wpList_append_bytes rfl (.tmp 17) (.tmp 19) rfl w.heap.size _ [] rfl HO.out ga 0 na ca z rfl HR.out HZ.out.1 (by simp; omega) (by have := HS3.out; omega) ?_; intro v4 w4 H1 H2)
    | (go_at_call 58; (with_reducible refine (refUnit_any n _ n1 n2).mono ?_); rintro e w5 ⟨gb, rfl, kb, hgb, uu5⟩))
  rw [List.nil_append] at H1
  have hv := H1.out
  obtain ⟨g5, cap5, rfl, g51, g52, _, _, _⟩ := hv.row (by rw [HZ.out.1]; rw [← NN.out]; exact Nat.mul_pos n1 n1)
  have hown : ∀ k, (Value.slice (some ⟨w.heap.size + 1 + 1, 0, none⟩) 0 0).ownBlock = some k → k = w.heap.size + 1 + 1 := fun k hk => by
    have : w.heap.size + 1 + 1 = k := by simpa [Value.ownBlock] using hk
    omega
  have hu4 : Up Nul w w4 := HU.out.grown H2.out fun k hk => by have := hown k hk; omega
  have hst : w4.heap[w.heap.size + 1]? = _ := (H2.out.block (w.heap.size + 1) (by have := HS3.out; omega) (fun e => by have := hown _ e.symm; omega)).trans HP.out
  have hst5 := (uu5.block (w.heap.size + 1) (by have := H2.out.size; have := HS3.out; omega) id).trans hst
  rw [HZ.out.1] at hv
  rw [HZ.out.1]
  have hP5 : w.heap.size + 1 ≠ g5 := fun e => by
    have h3 := hv.own.2
    rcases h3 with ⟨h, _⟩ | ⟨g, c, cur, h, h4, h5, _⟩
    · cases h
    · have eg : g5 = g := by
        have := congrArg (fun v => match v with | Value.slice (some a) _ _ => a.block | _ => 0) h
        exact this
      rw [← eg, ← e, hst] at h5
      cases h5
  have hri : RI w (w.heap.size + 1) g5 gb n (GfM.beside n (cz n z)) w5 := by
    have ho := hv.up uu5 fun _ _ => id
    rw [← NN.out] at ho
    exact RI.start ho kb (by rw [HZ.out.1, NN.out]) n1 (by omega) (hu4.trans uu5) g51 (by have := hu4.size; omega) (by omega) hP5 (by have := hu4.size; have := H2.out.size; have := HS3.out; omega) hst5
  have HRI := hid hri
  obtain ⟨P, PP⟩ : ∃ x, Hid (x = w.heap.size + 1) := ⟨_, rfl⟩
  rw [← PP.out] at HRI ⊢
  rw [NN.out]
  clear hri hP5 hst5 hst hu4 hown hv H1 H2 kb hgb uu5 HO HU HP HR HS3 g51 g52
  have HSB : Hid (GfM.Small (GfM.beside n (cz n z))) := GfM.beside_small (cz_small HZ.out.2)
  go_loopw [7] (fun i wr => ∃ c : Nat, c ≤ n ∧ i = .int .i64 c ∧ ∃ M, GfM.run n (GfM.beside n (cz n z)) c = some M ∧ RI w P g5 gb n M wr) (fun i _ => n - (intOf i).toNat)
  case atStart => exact ⟨0, by omega, rfl, _, rfl, HRI.out⟩
  case round =>
    clear HRI
    obtain ⟨c, hc, rfl, M, hrun, hri⟩ := hrel
    by_cases hlt : c < n
    · have HRUN := hid hrun
      have HSM : Hid (GfM.Small M) := (GfM.run_some (m := n) HSB.out hc hrun).1
      have HRI := hid hri
      clear hrun hri
      go_upto_block 2 with fail
      go_cut [8] (fun s8 wx => ∃ q : Nat, c ≤ q ∧ q ≤ n ∧ s8 = .int .i64 q ∧ RI w P g5 gb n M wx ∧ (∀ i, c ≤ i → i < q → M i c = 0) ∧ (q < n → M q c ≠ 0))
      case first =>
        as_aux_lemma =>
        go_wp2_with fail
        go_loopw [8] (fun p wx => ∃ q : Nat, c ≤ q ∧ q ≤ n ∧ p = .int .i64 q ∧ RI w P g5 gb n M wx ∧ ∀ i, c ≤ i → i < q → M i c = 0) (fun p _ => n - (intOf p).toNat)
        case atStart => exact ⟨c, by omega, by omega, rfl, HRI.out, fun i h1 h2 => by omega⟩
        case round =>
          clear HRI
          obtain ⟨q, hcq, hqn, rfl, hri, hz0⟩ := hrel
          have HRI := hid hri
          have HZ0 := hid hz0
          by_cases hq : q < n
          · have eq1 : (q : Int) * (n : Int) = ((q * n : Nat) : Int) := by simp
            have lq : q * n + c < na := by have := idx_lt hq hlt; have := NN.out; omega
            have cq := hri.ca q c hq hlt
            clear hri hz0
            by_cases hx : M q c = 0
            · have HX := hid hx
              rw [hx] at cq
              have cq : wr.cell? ⟨g5, q * n + c, none⟩ = some (.int .u8 0) := cq
              obtain ⟨qn, QN⟩ : ∃ x, Hid (q * n = x) := ⟨_, rfl⟩
              rw [QN.out] at eq1 lq cq
              clear hx
              go_wp2_with fail
              go_roundw
              case rel => exact ⟨q + 1, by omega, by omega, by go_num, HRI.out, fun i h1 h2 => by
                by_cases e : i = q
                · rw [e]; exact HX.out
                · exact HZ0.out i h1 (by omega)⟩
              case measure => simp [intOf]; omega
            · have HX := hid hx
              obtain ⟨x, X⟩ : ∃ x, Hid (M q c = x) := ⟨_, rfl⟩
              rw [X.out] at cq hx
              have hd : ((x : Int) == 0) = false := by simp; omega
              obtain ⟨qn, QN⟩ : ∃ x, Hid (q * n = x) := ⟨_, rfl⟩
              rw [QN.out] at eq1 lq cq
              clear hx
              go_wp2_with fail
              go_meet
              case rel => exact ⟨q, hcq, by omega, rfl, HRI.out, fun i h1 h2 => HZ0.out i h1 h2, fun _ => HX.out⟩
          · obtain rfl : n = q := by omega
            clear hri hz0
            go_wp2_with fail
            go_meet
            case rel => exact ⟨n, hcq, by omega, rfl, HRI.out, HZ0.out, fun h => absurd h (by omega)⟩
      case rest =>
        clear HRI
        obtain ⟨q, hcq, hqn, rfl, hri, hz0, hxq⟩ := hcut
        have HRI := hid hri
        have HZ0 := hid hz0
        by_cases hq : q < n
        · have HX := hid (hxq hq)
          obtain ⟨x, X⟩ : ∃ x, Hid (M q c = x) := ⟨_, rfl⟩
          have hd2 : ((q : Int) == (n : Int)) = false := by simp; omega
          have HPV : Hid (GfM.pivot n c M = some q) := by
            show _ = _
            unfold GfM.pivot
            rw [List.find?_range_eq_some]
            refine ⟨by simp; exact ⟨hcq, HX.out⟩, List.mem_range.2 hq, fun j hj => ?_⟩
            by_cases e : c ≤ j
            · simp [HZ0.out j e hj]
            · simp; omega
          clear HZ0 hri hz0 hxq
          go_upto_block 4 with fail
          go_cut [9] (fun s9 wx => RI w P g5 gb n (GfM.swp c q M) wx)
          case first =>
            as_aux_lemma =>
            go_wp2_with fail
            go_loopw [9] (fun k wx => ∃ m : Nat, m ≤ n ∧ k = .int .i64 m ∧ ∃ N, Mix n m (GfM.swp c q M) M N ∧ RI w P g5 gb n N wx) (fun k _ => n - (intOf k).toNat)
            case atStart => exact ⟨0, by omega, rfl, M, Mix.start fun _ _ _ _ => rfl, HRI.out⟩
            case round =>
              clear HRI
              obtain ⟨m, hm, rfl, N, hmix, hri⟩ := hrel
              have HMX := hid hmix
              have HRI := hid hri
              clear hmix
              by_cases hlm : m < n
              · have e1 : (q : Int) * (n : Int) = ((q * n : Nat) : Int) := by simp
                have e2 : (c : Int) * (n : Int) = ((c * n : Nat) : Int) := by simp
                have b1 : q * n + m < na := by have := idx_lt hq hlm; have := NN.out; omega
                have b2 : c * n + m < na := by have := idx_lt hlt hlm; have := NN.out; omega
                have c1 := hri.ca q m hq hlm
                have c2 := hri.ca c m hlt hlm
                have f1 := hri.fa (q * n + m)
                have f2 := hri.fa (c * n + m)
                have h2 : RI w P g5 gb n (updM N q m (N c m)) (wr.setCell ⟨g5, q * n + m, none⟩ (.int .u8 (N c m))) := hri.setA hq hlm (hri.sm c m)
                have c3 := h2.ca c m hlt hlm
                have h3 : RI w P g5 gb n (updM (updM N q m (N c m)) c m (N q m)) ((wr.setCell ⟨g5, q * n + m, none⟩ (.int .u8 (N c m))).setCell ⟨g5, c * n + m, none⟩ (.int .u8 (N q m))) := h2.setA hlt hlm (hri.sm q m)
                have H3 := hid h3
                generalize updM N q m (N c m) c m = v3 at c3
                clear hri h2 h3
                obtain ⟨x1, X1⟩ : ∃ x, Hid (N q m = x) := ⟨_, rfl⟩
                obtain ⟨x2, X2⟩ : ∃ x, Hid (N c m = x) := ⟨_, rfl⟩
                rw [X1.out] at c1 H3
                rw [X2.out] at c2 c3 H3
                obtain ⟨qn, QN⟩ : ∃ x, Hid (q * n = x) := ⟨_, rfl⟩
                obtain ⟨cn, CN⟩ : ∃ x, Hid (c * n = x) := ⟨_, rfl⟩
                rw [QN.out] at e1 b1 c1 f1 c3 H3
                rw [CN.out] at e2 b2 c2 f2 c3 H3
                go_wp2_with fail
                go_region
                go_wp2_with fail
                have h8 : RI w P g5 gb n (updM (updM N q m x2) c m x1) ((wr.setCell ⟨g5, qn + m, none⟩ (.int .u8 x2)).setCell ⟨g5, cn + m, none⟩ (.int .u8 x1)).drew := H3.out.drewN 1
                obtain ⟨N2, E2⟩ : ∃ N2, N2 = updM (updM N q m x2) c m x1 := ⟨_, rfl⟩
                have k1 : N2 c (n + m) = N c (n + m) := by rw [E2]; unfold updM; rw [if_neg (by omega), if_neg (by omega)]
                have k2 : N2 q (n + m) = N q (n + m) := by rw [E2]; unfold updM; rw [if_neg (by omega), if_neg (by omega)]
                have HE2 := hid E2
                rw [← E2] at h8
                generalize ((wr.setCell ⟨g5, qn + m, none⟩ (.int .u8 x2)).setCell ⟨g5, cn + m, none⟩ (.int .u8 x1)).drew = w8 at *
                clear c1 c2 c3 f1 f2 H3 HRI E2
                have c1 := h8.cb q m hq hlm
                have c2 := h8.cb c m hlt hlm
                have f1 := h8.fb (q * n + m)
                have f2 := h8.fb (c * n + m)
                have h2 : RI w P g5 gb n (updM N2 q (n + m) (N2 c (n + m))) (w8.setCell ⟨gb, q * n + m, none⟩ (.int .u8 (N2 c (n + m)))) := h8.setB hq hlm (h8.sm c (n + m))
                have c3 := h2.cb c m hlt hlm
                have h3 : RI w P g5 gb n (updM (updM N2 q (n + m) (N2 c (n + m))) c (n + m) (N2 q (n + m))) ((w8.setCell ⟨gb, q * n + m, none⟩ (.int .u8 (N2 c (n + m)))).setCell ⟨gb, c * n + m, none⟩ (.int .u8 (N2 q (n + m)))) := h2.setB hlt hlm (h8.sm q (n + m))
                have hmix2 := swap_mix HMX.out hlm hlt hq
                rw [← X1.out, ← X2.out] at HE2
                rw [← HE2.out, ← k1, ← k2] at hmix2
                have H3 := hid h3
                have HM2 := hid hmix2
                generalize updM N2 q (n + m) (N2 c (n + m)) c (n + m) = v4 at c3
                clear h8 h2 h3 hmix2 k1 k2
                obtain ⟨y1, Y1⟩ : ∃ x, Hid (N2 q (n + m) = x) := ⟨_, rfl⟩
                obtain ⟨y2, Y2⟩ : ∃ x, Hid (N2 c (n + m) = x) := ⟨_, rfl⟩
                rw [Y1.out] at c1 H3 HM2
                rw [Y2.out] at c2 c3 H3 HM2
                rw [QN.out] at c1 f1 c3 H3
                rw [CN.out] at c2 f2 c3 H3
                go_region
                go_wp2
                go_roundw
                case rel => exact ⟨m + 1, by omega, by go_num, _, HM2.out, H3.out.drewN 1⟩
                case measure => simp [intOf]; omega
              · obtain rfl : n = m := by omega
                have HRS : Hid (RI w P g5 gb n (GfM.swp c q M) wr) := hri.congr (GfM.swp_small HSM.out) HMX.out.done
                clear hri HMX HRI
                go_wp2_with fail
                go_meet
                case rel => exact HRS.out
          case rest =>
            clear HRI
            have hS : RI w P g5 gb n (GfM.swp c q M) wc := hcut
            clear hcut
            have HSS : Hid (GfM.Small (GfM.swp c q M)) := GfM.swp_small HSM.out
            have hcc : GfM.swp c q M c c = x := by unfold GfM.swp; rw [if_pos rfl]; exact X.out
            have e2 : (c : Int) * (n : Int) = ((c * n : Nat) : Int) := by simp
            have b2 : c * n + c < na := by have := idx_lt hlt hlt; have := NN.out; omega
            have c2 := hS.ca c c hlt hlt
            have x8 := hS.sm c c
            rw [hcc] at c2 x8
            obtain ⟨S, ES⟩ : ∃ S, Hid (S = GfM.swp c q M) := ⟨_, rfl⟩
            rw [← ES.out] at hS HSS
            have HRS := hid hS
            obtain ⟨cn, CN⟩ : ∃ x, Hid (c * n = x) := ⟨_, rfl⟩
            rw [CN.out] at e2 b2 c2
            have hne := hS.ne
            have hne2 : gb ≠ g5 := fun e => hne e.symm
            clear hS hcc
            go_wp2_with fail
            refine (refInv_any x _ x8).mono ?_
            rintro e w9 ⟨rfl, rfl⟩
            obtain ⟨vv, VV⟩ : ∃ v, Hid (GfM.inv x = v) := ⟨_, rfl⟩
            have v8 : vv < 256 := by rw [← VV.out]; exact GfM.inv_lt _
            rw [VV.out]
            clear c2
            go_upto_block 6 with fail
            go_cut [11] (fun s11 wx => ∃ N, Done n 0 c q M N ∧ RI w P g5 gb n N wx)
            case first =>
              as_aux_lemma =>
              go_wp2_with fail
              go_loopw [11] (fun k wx => ∃ m : Nat, m ≤ n ∧ k = .int .i64 m ∧ ∃ N, Mix n m (scl c vv S) S N ∧ RI w P g5 gb n N wx) (fun k _ => n - (intOf k).toNat)
              case atStart => exact ⟨0, by omega, rfl, S, Mix.start fun _ _ _ _ => rfl, HRS.out⟩
              case round =>
                clear HRS
                obtain ⟨m, hm, rfl, N, hmix, hri⟩ := hrel
                have HMX := hid hmix
                have HRI := hid hri
                clear hmix
                by_cases hlm : m < n
                · have b3 : c * n + m < na := by have := idx_lt hlt hlm; have := NN.out; omega
                  have c1 := hri.ca c m hlt hlm
                  have c2 := hri.cb c m hlt hlm
                  have f1 := hri.fa (c * n + m)
                  have f2 := hri.fb (c * n + m)
                  have g1 := hri.sm c m
                  have g2 := hri.sm c (n + m)
                  have h3 := (hri.setA hlt hlm (GfM.mul_lt (N c m) vv)).setB hlt hlm (GfM.mul_lt (N c (n + m)) vv)
                  have hmix2 := scale_mix HMX.out hlm hlt
                  have H3 := hid h3
                  have HM2 := hid hmix2
                  clear hri h3 hmix2 HRI HMX
                  obtain ⟨x1, X1⟩ : ∃ x, Hid (N c m = x) := ⟨_, rfl⟩
                  obtain ⟨x2, X2⟩ : ∃ x, Hid (N c (n + m) = x) := ⟨_, rfl⟩
                  rw [X1.out] at c1 H3 HM2 g1
                  rw [X2.out] at c2 H3 HM2 g2
                  rw [CN.out] at b3 c1 c2 f1 f2 H3
                  have i1 : (0 : Int) ≤ (cn : Int) + (m : Int) := by omega
                  have i2 : (cn : Int) + (m : Int) < (na : Int) := by omega
                  have i3 : ((cn : Int) + (m : Int)).toNat = cn + m := by omega
                  have i4 : IntKind.i64.wrap ((cn : Int) + (m : Int)) = (cn : Int) + (m : Int) := IntWalk.i64_in _ (by omega)
                  have i5 : IntKind.i64.wrap (cn : Int) = (cn : Int) := IntWalk.i64_in _ (by omega)
                  go_wp2_with fail
                  refine wp_region_held_drew (S := (fun _ => True)) (by kernel_rfl) (by exact trivial) (fun hHeld => ?_)
                  refine wpAnyH_take (i := 0) (oi := ⟨some 129, _, _, _, _, _⟩) (v := ?vs1) rfl (by kernel_rfl) (by kernel_rfl) (by kernel_rfl) (fun _ _ _ h => h) (Or.inl ⟨by rfl, ?ys1⟩) (by assumption) ?rs1
                  case ys1 => (intro w hSw; (try dsimp only at hSw); go_simp; try with_reducible rfl)
                  try simp only [Act.put, List.setIfInBounds_toArray, List.set_cons_zero, List.set_cons_succ]
                  refine wpAnyH_take (i := 1) (oi := ⟨some 130, _, _, _, _, _⟩) (v := ?vs2) rfl (by kernel_rfl) (by kernel_rfl) (by kernel_rfl) (fun _ _ _ h => h) (Or.inl ⟨by rfl, ?ys2⟩) (by assumption) ?rs2
                  case ys2 => (intro w hSw; (try dsimp only at hSw); go_simp; try with_reducible rfl)
                  try simp only [Act.put, List.setIfInBounds_toArray, List.set_cons_zero, List.set_cons_succ]
                  refine wpAnyH_take (i := 2) (oi := ⟨some 131, _, _, _, _, _⟩) (v := ?vs3) rfl (by kernel_rfl) (by kernel_rfl) (by kernel_rfl) (fun _ _ _ h => h) (Or.inl ⟨by rfl, ?ys3⟩) (by assumption) ?rs3
                  case ys3 => (intro w hSw; (try dsimp only at hSw); go_simp; try with_reducible rfl)
                  try simp only [Act.put, List.setIfInBounds_toArray, List.set_cons_zero, List.set_cons_succ]
                  refine wpAnyH_take (i := 3) (oi := ⟨some 132, _, _, _, _, _⟩) (v := ?vs4) rfl (by kernel_rfl) (by kernel_rfl) (by kernel_rfl) (fun _ _ _ h => h) (Or.inl ⟨by rfl, ?ys4⟩) (by assumption) ?rs4
                  case ys4 => (intro w hSw; (try dsimp only at hSw); go_simp; try with_reducible rfl)
                  try simp only [Act.put, List.setIfInBounds_toArray, List.set_cons_zero, List.set_cons_succ]
                  refine wpAnyH_take (i := 4) (oi := ⟨some 133, _, _, _, _, _⟩) (v := ?vs5) rfl (by kernel_rfl) (by kernel_rfl) (by kernel_rfl) (fun _ _ _ h => h) (Or.inl ⟨by rfl, ?ys5⟩) (by assumption) ?rs5
                  case ys5 => (intro w hSw; (try dsimp only at hSw); go_simp; try with_reducible rfl)
                  try simp only [Act.put, List.setIfInBounds_toArray, List.set_cons_zero, List.set_cons_succ]
                  refine wpAnyH_take (i := 5) (oi := ⟨some 134, _, _, _, _, _⟩) (v := ?vs6) rfl (by kernel_rfl) (by kernel_rfl) (by kernel_rfl) (fun _ _ _ h => h) (Or.inl ⟨by rfl, ?ys6⟩) (by assumption) ?rs6
                  case ys6 => (intro w hSw; (try dsimp only at hSw); go_simp; try with_reducible rfl)
                  try simp only [Act.put, List.setIfInBounds_toArray, List.set_cons_zero, List.set_cons_succ]
                  refine wpAnyH_take (i := 6) (oi := ⟨some 135, _, _, _, _, _⟩) (v := ?vs7) rfl (by kernel_rfl) (by kernel_rfl) (by kernel_rfl) (fun _ _ _ h => h) (Or.inl ⟨by rfl, ?ys7⟩) (by assumption) ?rs7
                  case ys7 => (intro w hSw; (try dsimp only at hSw); go_simp; try with_reducible rfl)
                  try simp only [Act.put, List.setIfInBounds_toArray, List.set_cons_zero, List.set_cons_succ]
                  refine wpAnyH_take (i := 7) (oi := ⟨some 136, _, _, _, _, _⟩) (v := ?vs8) rfl (by kernel_rfl) (by kernel_rfl) (by kernel_rfl) (fun _ _ _ h => h) (Or.inl ⟨by rfl, ?ys8⟩) (by assumption) ?rs8
                  case ys8 => (intro w hSw; (try dsimp only at hSw); go_simp; try with_reducible rfl)
                  try simp only [Act.put, List.setIfInBounds_toArray, List.set_cons_zero, List.set_cons_succ]
                  refine wpAnyH_take (i := 8) (oi := ⟨some 137, _, _, _, _, _⟩) (v := ?vs9) rfl (by kernel_rfl) (by kernel_rfl) (by kernel_rfl) (fun _ _ _ h => h) (Or.inl ⟨by rfl, ?ys9⟩) (by assumption) ?rs9
                  case ys9 => (intro w hSw; (try dsimp only at hSw); go_simp; try with_reducible rfl)
                  try simp only [Act.put, List.setIfInBounds_toArray, List.set_cons_zero, List.set_cons_succ]
                  refine wpAnyH_take (i := 9) (oi := ⟨some 138, _, _, _, _, _⟩) (v := ?vs10) rfl (by kernel_rfl) (by kernel_rfl) (by kernel_rfl) (fun _ _ _ h => h) (Or.inl ⟨by rfl, ?ys10⟩) (by assumption) ?rs10
                  case ys10 => (intro w hSw; (try dsimp only at hSw); go_simp; try with_reducible rfl)
                  try simp only [Act.put, List.setIfInBounds_toArray, List.set_cons_zero, List.set_cons_succ]
                  refine wpAnyH_take (i := 10) (oi := ⟨some 139, _, _, _, _, _⟩) (v := ?vs11) rfl (by kernel_rfl) (by kernel_rfl) (by kernel_rfl) (fun _ _ _ h => h) (Or.inl ⟨by rfl, ?ys11⟩) (by assumption) ?rs11
                  case ys11 => (intro w hSw; (try dsimp only at hSw); go_simp; try with_reducible rfl)
                  try simp only [Act.put, List.setIfInBounds_toArray, List.set_cons_zero, List.set_cons_succ]
                  refine wpAnyH_take (i := 11) (oi := ⟨some 140, _, _, _, _, _⟩) (v := ?vs12) rfl (by kernel_rfl) (by kernel_rfl) (by kernel_rfl) (fun _ _ _ h => h) (Or.inl ⟨by rfl, ?ys12⟩) (by assumption) ?rs12
                  case ys12 => (intro w hSw; (try dsimp only at hSw); go_simp; try with_reducible rfl)
                  try simp only [Act.put, List.setIfInBounds_toArray, List.set_cons_zero, List.set_cons_succ]
                  refine wpAnyH_take (i := 12) (oi := ⟨some 141, _, _, _, _, _⟩) (v := ?vs13) rfl (by kernel_rfl) (by kernel_rfl) (by kernel_rfl) (fun _ _ _ h => h) (Or.inl ⟨by rfl, ?ys13⟩) (by assumption) ?rs13
                  case ys13 => (intro w hSw; (try dsimp only at hSw); go_simp; try with_reducible rfl)
                  try simp only [Act.put, List.setIfInBounds_toArray, List.set_cons_zero, List.set_cons_succ]
                  refine wpAnyH_take (i := 13) (oi := ⟨some 142, _, _, _, _, _⟩) (v := ?vs14) rfl (by kernel_rfl) (by kernel_rfl) (by kernel_rfl) (fun _ _ _ h => h) (Or.inl ⟨by rfl, ?ys14⟩) (by assumption) ?rs14
                  case ys14 => (intro w hSw; (try dsimp only at hSw); go_simp; try with_reducible rfl)
                  try simp only [Act.put, List.setIfInBounds_toArray, List.set_cons_zero, List.set_cons_succ]
                  refine wpAnyH_take (i := 14) (oi := ⟨some 143, _, _, _, _, _⟩) (v := ?vs15) rfl (by kernel_rfl) (by kernel_rfl) (by kernel_rfl) (fun _ _ _ h => h) (Or.inl ⟨by rfl, ?ys15⟩) (by assumption) ?rs15
                  case ys15 => (intro w hSw; (try dsimp only at hSw); go_simp; try with_reducible rfl)
                  try simp only [Act.put, List.setIfInBounds_toArray, List.set_cons_zero, List.set_cons_succ]
                  refine wpAnyH_take (i := 15) (oi := ⟨some 144, _, _, _, _, _⟩) (v := ?vs16) rfl (by kernel_rfl) (by kernel_rfl) (by kernel_rfl) (fun _ _ _ h => h) (Or.inl ⟨by rfl, ?ys16⟩) (by assumption) ?rs16
                  case ys16 => (intro w hSw; (try dsimp only at hSw); go_simp; try with_reducible rfl)
                  try simp only [Act.put, List.setIfInBounds_toArray, List.set_cons_zero, List.set_cons_succ]
                  refine wpAnyH_take (i := 16) (oi := ⟨some 145, _, _, _, _, _⟩) (v := ?vs17) rfl (by kernel_rfl) (by kernel_rfl) (by kernel_rfl) (fun _ _ _ h => h) (Or.inl ⟨by rfl, ?ys17⟩) (by assumption) ?rs17
                  case ys17 => (intro w hSw; (try dsimp only at hSw); go_simp; try with_reducible rfl)
                  try simp only [Act.put, List.setIfInBounds_toArray, List.set_cons_zero, List.set_cons_succ]
                  refine wpAnyH_take (i := 17) (oi := ⟨some 146, _, _, _, _, _⟩) (v := ?vs18) rfl (by kernel_rfl) (by kernel_rfl) (by kernel_rfl) (fun _ _ _ h => h) (Or.inl ⟨by rfl, ?ys18⟩) (by assumption) ?rs18
                  case ys18 => (intro w hSw; (try dsimp only at hSw); go_simp; try with_reducible rfl)
                  try simp only [Act.put, List.setIfInBounds_toArray, List.set_cons_zero, List.set_cons_succ]
                  refine wpAnyH_take (i := 18) (oi := ⟨some 147, _, _, _, _, _⟩) (v := ?vs19) rfl (by kernel_rfl) (by kernel_rfl) (by kernel_rfl) (fun _ _ _ h => h) (Or.inl ⟨by rfl, ?ys19⟩) (by assumption) ?rs19
                  case ys19 => (intro w hSw; (try dsimp only at hSw); go_simp; try with_reducible rfl)
                  try simp only [Act.put, List.setIfInBounds_toArray, List.set_cons_zero, List.set_cons_succ]
                  refine wpAnyH_take (i := 20) (oi := ⟨some 149, _, _, _, _, _⟩) (v := ?vs20) rfl (by kernel_rfl) (by kernel_rfl) (by kernel_rfl) (fun _ _ _ h => h) (Or.inl ⟨by rfl, ?ys20⟩) (by assumption) ?rs20
                  case ys20 => (intro w hSw; (try dsimp only at hSw); go_simp; try with_reducible rfl)
                  try simp only [Act.put, List.setIfInBounds_toArray, List.set_cons_zero, List.set_cons_succ]
                  refine wpAnyH_take (i := 22) (oi := ⟨some 151, _, _, _, _, _⟩) (v := ?vs21) rfl (by kernel_rfl) (by kernel_rfl) (by kernel_rfl) (fun _ _ _ h => h) (Or.inl ⟨by rfl, ?ys21⟩) (by assumption) ?rs21
                  case ys21 => (intro w hSw; (try dsimp only at hSw); go_simp; try with_reducible rfl)
                  try simp only [Act.put, List.setIfInBounds_toArray, List.set_cons_zero, List.set_cons_succ]
                  refine wpAnyH_take (i := 23) (oi := ⟨some 152, _, _, _, _, _⟩) (v := ?vs22) rfl (by kernel_rfl) (by kernel_rfl) (by kernel_rfl) (fun _ _ _ h => h) (Or.inl ⟨by rfl, ?ys22⟩) (by assumption) ?rs22
                  case ys22 => (intro w hSw; (try dsimp only at hSw); go_simp; try with_reducible rfl)
                  try simp only [Act.put, List.setIfInBounds_toArray, List.set_cons_zero, List.set_cons_succ]
                  refine wpAnyH_take (i := 24) (oi := ⟨some 153, _, _, _, _, _⟩) (v := ?vs23) rfl (by kernel_rfl) (by kernel_rfl) (by kernel_rfl) (fun _ _ _ h => h) (Or.inl ⟨by rfl, ?ys23⟩) (by assumption) ?rs23
                  case ys23 => (intro w hSw; (try dsimp only at hSw); go_simp; try with_reducible rfl)
                  try simp only [Act.put, List.setIfInBounds_toArray, List.set_cons_zero, List.set_cons_succ]
                  refine wpAnyH_take (i := 25) (oi := ⟨some 154, _, _, _, _, _⟩) (v := ?vs24) rfl (by kernel_rfl) (by kernel_rfl) (by kernel_rfl) (fun _ _ _ h => h) (Or.inl ⟨by rfl, ?ys24⟩) (by assumption) ?rs24
                  case ys24 => (intro w hSw; (try dsimp only at hSw); go_simp; try with_reducible rfl)
                  try simp only [Act.put, List.setIfInBounds_toArray, List.set_cons_zero, List.set_cons_succ]
                  refine wpAnyH_take (i := 26) (oi := ⟨some 155, _, _, _, _, _⟩) (v := ?vs25) rfl (by kernel_rfl) (by kernel_rfl) (by kernel_rfl) (fun _ _ _ h => h) (Or.inl ⟨by rfl, ?ys25⟩) (by assumption) ?rs25
                  case ys25 => (intro w hSw; (try dsimp only at hSw); go_simp; try with_reducible rfl)
                  try simp only [Act.put, List.setIfInBounds_toArray, List.set_cons_zero, List.set_cons_succ]
                  refine wpAnyH_take (i := 27) (oi := ⟨some 156, _, _, _, _, _⟩) (v := ?vs26) rfl (by kernel_rfl) (by kernel_rfl) (by kernel_rfl) (fun _ _ _ h => h) (Or.inl ⟨by rfl, ?ys26⟩) (by assumption) ?rs26
                  case ys26 => (intro w hSw; (try dsimp only at hSw); go_simp; try with_reducible rfl)
                  try simp only [Act.put, List.setIfInBounds_toArray, List.set_cons_zero, List.set_cons_succ]
                  refine wpAnyH_take (i := 28) (oi := ⟨some 157, _, _, _, _, _⟩) (v := ?vs27) rfl (by kernel_rfl) (by kernel_rfl) (by kernel_rfl) (fun _ _ _ h => h) (Or.inl ⟨by rfl, ?ys27⟩) (by assumption) ?rs27
                  case ys27 => (intro w hSw; (try dsimp only at hSw); go_simp; try with_reducible rfl)
                  try simp only [Act.put, List.setIfInBounds_toArray, List.set_cons_zero, List.set_cons_succ]
                  refine wpAnyH_take (i := 30) (oi := ⟨some 159, _, _, _, _, _⟩) (v := ?vs28) rfl (by kernel_rfl) (by kernel_rfl) (by kernel_rfl) (fun _ _ _ h => h) (Or.inl ⟨by rfl, ?ys28⟩) (by assumption) ?rs28
                  case ys28 => (intro w hSw; (try dsimp only at hSw); go_simp; try with_reducible rfl)
                  try simp only [Act.put, List.setIfInBounds_toArray, List.set_cons_zero, List.set_cons_succ]
                  refine wpAnyH_ready (rs := [19, 29]) (by kernel_rfl) (by simp) ?_
                  refine AllReadyH.cons (o := ⟨some 148, _, _, _, _, _⟩) rfl (fun K hK => ?_) (AllReadyH.cons (o := ⟨some 158, _, _, _, _, _⟩) rfl (fun K hK => ?_) AllReadyH.nil)
                  · skip
                    go_simp
                    refine hK.out _ _ trivial (fun hHeld => ?_)
                    clear hK K
                    try simp only [Act.put, List.setIfInBounds_toArray, List.set_cons_zero, List.set_cons_succ]
                    refine wpAnyH_ready (rs := [21, 29]) (by kernel_rfl) (by simp) ?_
                    refine AllReadyH.cons (o := ⟨some 150, _, _, _, _, _⟩) rfl (fun K hK => ?_) (AllReadyH.cons (o := ⟨some 158, _, _, _, _, _⟩) rfl (fun K hK => ?_) AllReadyH.nil)
                    · skip
                      go_simp
                      go_wp2_with (go_at_call 30; (with_reducible refine (refMul_any x1 vv _ g1 v8).mono ?_); rintro e w' ⟨rfl, rfl⟩)
                      refine hK.out _ _ trivial (fun hHeld => ?_)
                      clear hK K
                      try simp only [Act.put, List.setIfInBounds_toArray, List.set_cons_zero, List.set_cons_succ]
                      refine wpAnyH_ready (rs := [29]) (by kernel_rfl) (by simp) ?_
                      refine AllReadyH.cons (o := ⟨some 158, _, _, _, _, _⟩) rfl (fun K hK => ?_) AllReadyH.nil
                      go_simp
                      refine hK.out _ _ trivial (fun hHeld => ?_)
                      clear hK K
                      try simp only [Act.put, List.setIfInBounds_toArray, List.set_cons_zero, List.set_cons_succ]
                      refine wpAnyH_ready (rs := [31]) (by kernel_rfl) (by simp) ?_
                      refine AllReadyH.cons (o := ⟨some 160, _, _, _, _, _⟩) rfl (fun K hK => ?_) AllReadyH.nil
                      go_simp
                      go_wp2_with (go_at_call 30; (with_reducible refine (refMul_any x2 vv _ g2 v8).mono ?_); rintro e w' ⟨rfl, rfl⟩)
                      refine hK.out _ _ trivial (fun hHeld => ?_)
                      clear hK K
                      try simp only [Act.put, List.setIfInBounds_toArray, List.set_cons_zero, List.set_cons_succ]
                      refine wpAnyH_take (i := 32) (oi := ⟨some 161, _, _, _, _, _⟩) (v := ?vs29) rfl (by kernel_rfl) (by kernel_rfl) (by kernel_rfl) (fun _ _ _ h => h) (Or.inl ⟨by rfl, ?ys29⟩) (by assumption) ?rs29
                      case ys29 => (intro w hSw; (try dsimp only at hSw); go_simp; try with_reducible rfl)
                      try simp only [Act.put, List.setIfInBounds_toArray, List.set_cons_zero, List.set_cons_succ]
                      refine wpAnyH_ready (rs := [33]) (by kernel_rfl) (by simp) ?_
                      refine AllReadyH.cons (o := ⟨none, _, _, _, _, _⟩) rfl (fun K hK => ?_) AllReadyH.nil
                      go_simp
                      refine hK.out _ _ trivial (fun hHeld => ?_)
                      clear hK K
                      try simp only [Act.put, List.setIfInBounds_toArray, List.set_cons_zero, List.set_cons_succ]
                      refine wpAnyH_take (i := 34) (oi := ⟨some 162, _, _, _, _, _⟩) (v := ?vs30) rfl (by kernel_rfl) (by kernel_rfl) (by kernel_rfl) (fun _ _ _ h => h) (Or.inl ⟨by rfl, ?ys30⟩) (by assumption) ?rs30
                      case ys30 => (intro w hSw; (try dsimp only at hSw); go_simp; try with_reducible rfl)
                      try simp only [Act.put, List.setIfInBounds_toArray, List.set_cons_zero, List.set_cons_succ]
                      refine wpAnyH_ready (rs := [35]) (by kernel_rfl) (by simp) ?_
                      refine AllReadyH.cons (o := ⟨none, _, _, _, _, _⟩) rfl (fun K hK => ?_) AllReadyH.nil
                      go_simp
                      refine hK.out _ _ trivial (fun hHeld => ?_)
                      clear hK K
                      try simp only [Act.put, List.setIfInBounds_toArray, List.set_cons_zero, List.set_cons_succ]
                      refine wpAnyH_done (by kernel_rfl) ?_ _
                      go_wp2
                      go_roundw
                      case rel => exact ⟨m + 1, by omega, by go_num, _, HM2.out, H3.out.drewN 1⟩
                      case measure => simp [intOf]; omega
                    · skip
                      go_simp
                      refine hK.out _ _ trivial (fun hHeld => ?_)
                      clear hK K
                      try simp only [Act.put, List.setIfInBounds_toArray, List.set_cons_zero, List.set_cons_succ]
                      refine wpAnyH_ready (rs := [21]) (by kernel_rfl) (by simp) ?_
                      refine AllReadyH.cons (o := ⟨some 150, _, _, _, _, _⟩) rfl (fun K hK => ?_) AllReadyH.nil
                      go_simp
                      go_wp2_with (go_at_call 30; (with_reducible refine (refMul_any x1 vv _ g1 v8).mono ?_); rintro e w' ⟨rfl, rfl⟩)
                      refine hK.out _ _ trivial (fun hHeld => ?_)
                      clear hK K
                      try simp only [Act.put, List.setIfInBounds_toArray, List.set_cons_zero, List.set_cons_succ]
                      refine wpAnyH_ready (rs := [31]) (by kernel_rfl) (by simp) ?_
                      refine AllReadyH.cons (o := ⟨some 160, _, _, _, _, _⟩) rfl (fun K hK => ?_) AllReadyH.nil
                      go_simp
                      go_wp2_with (go_at_call 30; (with_reducible refine (refMul_any x2 vv _ g2 v8).mono ?_); rintro e w' ⟨rfl, rfl⟩)
                      refine hK.out _ _ trivial (fun hHeld => ?_)
                      clear hK K
                      try simp only [Act.put, List.setIfInBounds_toArray, List.set_cons_zero, List.set_cons_succ]
                      refine wpAnyH_take (i := 32) (oi := ⟨some 161, _, _, _, _, _⟩) (v := ?vs31) rfl (by kernel_rfl) (by kernel_rfl) (by kernel_rfl) (fun _ _ _ h => h) (Or.inl ⟨by rfl, ?ys31⟩) (by assumption) ?rs31
                      case ys31 => (intro w hSw; (try dsimp only at hSw); go_simp; try with_reducible rfl)
                      try simp only [Act.put, List.setIfInBounds_toArray, List.set_cons_zero, List.set_cons_succ]
                      refine wpAnyH_ready (rs := [33]) (by kernel_rfl) (by simp) ?_
                      refine AllReadyH.cons (o := ⟨none, _, _, _, _, _⟩) rfl (fun K hK => ?_) AllReadyH.nil
                      go_simp
                      refine hK.out _ _ trivial (fun hHeld => ?_)
                      clear hK K
                      try simp only [Act.put, List.setIfInBounds_toArray, List.set_cons_zero, List.set_cons_succ]
                      refine wpAnyH_take (i := 34) (oi := ⟨some 162, _, _, _, _, _⟩) (v := ?vs32) rfl (by kernel_rfl) (by kernel_rfl) (by kernel_rfl) (fun _ _ _ h => h) (Or.inl ⟨by rfl, ?ys32⟩) (by assumption) ?rs32
                      case ys32 => (intro w hSw; (try dsimp only at hSw); go_simp; try with_reducible rfl)
                      try simp only [Act.put, List.setIfInBounds_toArray, List.set_cons_zero, List.set_cons_succ]
                      refine wpAnyH_ready (rs := [35]) (by kernel_rfl) (by simp) ?_
                      refine AllReadyH.cons (o := ⟨none, _, _, _, _, _⟩) rfl (fun K hK => ?_) AllReadyH.nil
                      go_simp
                      refine hK.out _ _ trivial (fun hHeld => ?_)
                      clear hK K
                      try simp only [Act.put, List.setIfInBounds_toArray, List.set_cons_zero, List.set_cons_succ]
                      refine wpAnyH_done (by kernel_rfl) ?_ _
                      go_wp2
                      go_roundw
                      case rel => exact ⟨m + 1, by omega, by go_num, _, HM2.out, H3.out.drewN 1⟩
                      case measure => simp [intOf]; omega
                  · skip
                    go_simp
                    refine hK.out _ _ trivial (fun hHeld => ?_)
                    clear hK K
                    try simp only [Act.put, List.setIfInBounds_toArray, List.set_cons_zero, List.set_cons_succ]
                    refine wpAnyH_ready (rs := [19]) (by kernel_rfl) (by simp) ?_
                    refine AllReadyH.cons (o := ⟨some 148, _, _, _, _, _⟩) rfl (fun K hK => ?_) AllReadyH.nil
                    go_simp
                    refine hK.out _ _ trivial (fun hHeld => ?_)
                    clear hK K
                    try simp only [Act.put, List.setIfInBounds_toArray, List.set_cons_zero, List.set_cons_succ]
                    refine wpAnyH_ready (rs := [21]) (by kernel_rfl) (by simp) ?_
                    refine AllReadyH.cons (o := ⟨some 150, _, _, _, _, _⟩) rfl (fun K hK => ?_) AllReadyH.nil
                    go_simp
                    go_wp2_with (go_at_call 30; (with_reducible refine (refMul_any x1 vv _ g1 v8).mono ?_); rintro e w' ⟨rfl, rfl⟩)
                    refine hK.out _ _ trivial (fun hHeld => ?_)
                    clear hK K
                    try simp only [Act.put, List.setIfInBounds_toArray, List.set_cons_zero, List.set_cons_succ]
                    refine wpAnyH_ready (rs := [31]) (by kernel_rfl) (by simp) ?_
                    refine AllReadyH.cons (o := ⟨some 160, _, _, _, _, _⟩) rfl (fun K hK => ?_) AllReadyH.nil
                    go_simp
                    go_wp2_with (go_at_call 30; (with_reducible refine (refMul_any x2 vv _ g2 v8).mono ?_); rintro e w' ⟨rfl, rfl⟩)
                    refine hK.out _ _ trivial (fun hHeld => ?_)
                    clear hK K
                    try simp only [Act.put, List.setIfInBounds_toArray, List.set_cons_zero, List.set_cons_succ]
                    refine wpAnyH_take (i := 32) (oi := ⟨some 161, _, _, _, _, _⟩) (v := ?vs33) rfl (by kernel_rfl) (by kernel_rfl) (by kernel_rfl) (fun _ _ _ h => h) (Or.inl ⟨by rfl, ?ys33⟩) (by assumption) ?rs33
                    case ys33 => (intro w hSw; (try dsimp only at hSw); go_simp; try with_reducible rfl)
                    try simp only [Act.put, List.setIfInBounds_toArray, List.set_cons_zero, List.set_cons_succ]
                    refine wpAnyH_ready (rs := [33]) (by kernel_rfl) (by simp) ?_
                    refine AllReadyH.cons (o := ⟨none, _, _, _, _, _⟩) rfl (fun K hK => ?_) AllReadyH.nil
                    go_simp
                    refine hK.out _ _ trivial (fun hHeld => ?_)
                    clear hK K
                    try simp only [Act.put, List.setIfInBounds_toArray, List.set_cons_zero, List.set_cons_succ]
                    refine wpAnyH_take (i := 34) (oi := ⟨some 162, _, _, _, _, _⟩) (v := ?vs34) rfl (by kernel_rfl) (by kernel_rfl) (by kernel_rfl) (fun _ _ _ h => h) (Or.inl ⟨by rfl, ?ys34⟩) (by assumption) ?rs34
                    case ys34 => (intro w hSw; (try dsimp only at hSw); go_simp; try with_reducible rfl)
                    try simp only [Act.put, List.setIfInBounds_toArray, List.set_cons_zero, List.set_cons_succ]
                    refine wpAnyH_ready (rs := [35]) (by kernel_rfl) (by simp) ?_
                    refine AllReadyH.cons (o := ⟨none, _, _, _, _, _⟩) rfl (fun K hK => ?_) AllReadyH.nil
                    go_simp
                    refine hK.out _ _ trivial (fun hHeld => ?_)
                    clear hK K
                    try simp only [Act.put, List.setIfInBounds_toArray, List.set_cons_zero, List.set_cons_succ]
                    refine wpAnyH_done (by kernel_rfl) ?_ _
                    go_wp2
                    go_roundw
                    case rel => exact ⟨m + 1, by omega, by go_num, _, HM2.out, H3.out.drewN 1⟩
                    case measure => simp [intOf]; omega
                · obtain rfl : n = m := by omega
                  have hD : Done n 0 c q M N := fun i j hi hj => by
                    rw [if_neg (by omega), HMX.out.done i j hi hj, ES.out, X.out, VV.out]
                  have HD := hid hD
                  have HRI := hid hri
                  clear hri hD HMX e2 b2
                  go_wp2_with fail
                  go_meet
                  case rel => exact ⟨N, HD.out, HRI.out⟩
            case rest =>
              clear HRS
              obtain ⟨N, hD, hri⟩ := hcut
              have HD := hid hD
              have HRI := hid hri
              clear hri hD e2 b2
              go_wp2_with fail
              go_loopw [12] (fun i wx => ∃ r : Nat, r ≤ n ∧ i = .int .i64 r ∧ ∃ N, Done n r c q M N ∧ RI w P g5 gb n N wx) (fun i _ => n - (intOf i).toNat)
              case atStart => exact ⟨0, by omega, rfl, N, HD.out, HRI.out⟩
              case round =>
                as_aux_lemma =>
                clear HRI HD
                obtain ⟨r, hr, rfl, N, hD, hri⟩ := hrel
                have HD := hid hD
                have HRI := hid hri
                clear hD
                by_cases hlr : r < n
                · have er : (r : Int) * (n : Int) = ((r * n : Nat) : Int) := by simp
                  have br : r * n + c < na := by have := idx_lt hlr hlt; have := NN.out; omega
                  have cr := hri.ca r c hlr hlt
                  have uu8 := hri.sm r c
                  obtain ⟨u, U⟩ : ∃ x, Hid (N r c = x) := ⟨_, rfl⟩
                  rw [U.out] at cr uu8
                  obtain ⟨rn, RN⟩ : ∃ x, Hid (r * n = x) := ⟨_, rfl⟩
                  rw [RN.out] at er br cr
                  clear hri
                  by_cases hrc : r = c
                  · have HRC := hid hrc
                    have hd4 : ((r : Int) == (c : Int)) = true := by simp; omega
                    clear hrc
                    go_wp2_with fail
                    go_roundw
                    case rel => exact ⟨r + 1, by omega, by go_num, N, by have h1 := HD.out; rw [HRC.out] at h1 ⊢; exact h1.skip_c hlt, HRI.out⟩
                    case measure => simp [intOf]; omega
                  · have HRC := hid hrc
                    have hd4 : ((r : Int) == (c : Int)) = false := by simp; omega
                    clear hrc
                    by_cases hu : u = 0
                    · have hd5 : ((u : Int) == 0) = true := by simp; omega
                      have HU0 := hid hu
                      clear hu
                      go_wp2_with fail
                      go_roundw
                      case rel => exact ⟨r + 1, by omega, by go_num, N, HD.out.skip_0 hlr hlt HRC.out (by rw [U.out]; exact HU0.out), HRI.out⟩
                      case measure => simp [intOf]; omega
                    · have hd5 : ((u : Int) == 0) = false := by simp; omega
                      clear hu
                      go_wp2_with fail
                      go_loopw [14] (fun k wx => ∃ m : Nat, m ≤ n ∧ k = .int .i64 m ∧ ∃ N', Mix n m (elm r c u N) N N' ∧ RI w P g5 gb n N' wx) (fun k _ => n - (intOf k).toNat)
                      case atStart => exact ⟨0, by omega, rfl, N, Mix.start fun _ _ _ _ => rfl, HRI.out⟩
                      case round =>
                        as_aux_lemma =>
                        clear HRI cr
                        obtain ⟨m, hm, rfl, N', hmix, hri⟩ := hrel
                        have HMX := hid hmix
                        have HRI := hid hri
                        clear hmix
                        by_cases hlm : m < n
                        · have ec : (c : Int) * (n : Int) = ((c * n : Nat) : Int) := by simp
                          have b3 : c * n + m < na := by have := idx_lt hlt hlm; have := NN.out; omega
                          have b4 : r * n + m < na := by have := idx_lt hlr hlm; have := NN.out; omega
                          have c1 := hri.ca r m hlr hlm
                          have c2 := hri.ca c m hlt hlm
                          have f1 := hri.fa (r * n + m)
                          have g1 := hri.sm r m
                          have g2 := hri.sm c m
                          have h3 := (hri.drewN 1).setA hlr hlm (GfM.xor_lt (hri.sm r m) (GfM.mul_lt u (N' c m)))
                          have hmix2 := elim_mix HMX.out hlm hlr hlt HRC.out
                          have H3 := hid h3
                          have HM2 := hid hmix2
                          clear hri h3 hmix2 HRI HMX
                          obtain ⟨x1, X1⟩ : ∃ x, Hid (N' r m = x) := ⟨_, rfl⟩
                          obtain ⟨x2, X2⟩ : ∃ x, Hid (N' c m = x) := ⟨_, rfl⟩
                          rw [X1.out] at c1 H3 HM2 g1
                          rw [X2.out] at c2 H3 HM2 g2
                          rw [CN.out] at ec b3 c2
                          rw [RN.out] at b4 c1 f1 H3
                          have hx := u8_xor_nat x1 (GfM.mul u x2) g1 (GfM.mul_lt _ _)
                          have w1r : (0 : Int) ≤ (rn : Int) + (m : Int) := by omega
                          have w2r : (rn : Int) + (m : Int) < (na : Int) := by omega
                          have w3r : ((rn : Int) + (m : Int)).toNat = rn + m := by omega
                          have w1c : (0 : Int) ≤ (cn : Int) + (m : Int) := by omega
                          have w2c : (cn : Int) + (m : Int) < (na : Int) := by omega
                          have w3c : ((cn : Int) + (m : Int)).toNat = cn + m := by omega
                          have w4r : IntKind.i64.wrap ((rn : Int) + (m : Int)) = (rn : Int) + (m : Int) := IntWalk.i64_in _ (by omega)
                          have w5r : IntKind.i64.wrap (rn : Int) = (rn : Int) := IntWalk.i64_in _ (by omega)
                          have w4c : IntKind.i64.wrap ((cn : Int) + (m : Int)) = (cn : Int) + (m : Int) := IntWalk.i64_in _ (by omega)
                          have w5c : IntKind.i64.wrap (cn : Int) = (cn : Int) := IntWalk.i64_in _ (by omega)
                          go_wp2_with fail
                          go_still_tail 26, (by kernel_rfl)
                          still_call (refMul_same u x2 _ uu8 g2)
                          repeat still_step
                          refine wpStill_nil ?_
                          change wpList _ _ _ _ _ (wr.drewN 1)
                          clear w4r w5r w4c w5c
                          go_wp2_with fail
                          obtain ⟨N2, E2⟩ : ∃ N2, N2 = updM N' r m (x1 ^^^ GfM.mul u x2) := ⟨_, rfl⟩
                          have k1 : N2 c (n + m) = N' c (n + m) := by rw [E2]; unfold updM; rw [if_neg (by omega)]
                          have k2 : N2 r (n + m) = N' r (n + m) := by rw [E2]; unfold updM; rw [if_neg (by omega)]
                          have h8 := H3.out
                          have hmix2 := HM2.out
                          rw [← E2] at h8 hmix2
                          rw [← k1, ← k2] at hmix2
                          generalize (wr.drewN 1).setCell ⟨g5, rn + m, none⟩ (.int .u8 ((x1 ^^^ GfM.mul u x2 : Nat) : Int)) = w8 at *
                          clear c1 c2 f1 g1 g2 hx H3 HM2 E2 k1 k2
                          have c1 := h8.cb r m hlr hlm
                          have c2 := h8.cb c m hlt hlm
                          have f1 := h8.fb (r * n + m)
                          have g1 := h8.sm r (n + m)
                          have g2 := h8.sm c (n + m)
                          have h3 := (h8.drewN 1).setB hlr hlm (GfM.xor_lt (h8.sm r (n + m)) (GfM.mul_lt u (N2 c (n + m))))
                          have H3 := hid h3
                          have HM2 := hid hmix2
                          clear h8 h3 hmix2
                          obtain ⟨y1, Y1⟩ : ∃ x, Hid (N2 r (n + m) = x) := ⟨_, rfl⟩
                          obtain ⟨y2, Y2⟩ : ∃ x, Hid (N2 c (n + m) = x) := ⟨_, rfl⟩
                          rw [Y1.out] at c1 H3 HM2 g1
                          rw [Y2.out] at c2 H3 HM2 g2
                          rw [CN.out] at c2
                          rw [RN.out] at c1 f1 H3
                          have hx := u8_xor_nat y1 (GfM.mul u y2) g1 (GfM.mul_lt _ _)
                          have w4r : IntKind.i64.wrap ((rn : Int) + (m : Int)) = (rn : Int) + (m : Int) := IntWalk.i64_in _ (by omega)
                          have w5r : IntKind.i64.wrap (rn : Int) = (rn : Int) := IntWalk.i64_in _ (by omega)
                          have w4c : IntKind.i64.wrap ((cn : Int) + (m : Int)) = (cn : Int) + (m : Int) := IntWalk.i64_in _ (by omega)
                          have w5c : IntKind.i64.wrap (cn : Int) = (cn : Int) := IntWalk.i64_in _ (by omega)
                          go_still_tail 26, (by kernel_rfl)
                          still_call (refMul_same u y2 _ uu8 g2)
                          repeat still_step
                          refine wpStill_nil ?_
                          change wpList _ _ _ _ _ (w8.drewN 1)
                          clear w4r w5r w4c w5c
                          go_wp2
                          go_roundw
                          case rel => exact ⟨m + 1, by omega, by go_num, _, HM2.out, H3.out⟩
                          case measure => simp [intOf]; omega
                        · obtain rfl : n = m := by omega
                          have HD2 : Hid (Done n (r + 1) c q M N') := HD.out.next hlr hlt HRC.out U.out HMX.out.done
                          clear hri HMX
                          go_wp2_with fail
                          go_roundw
                          case rel => exact ⟨r + 1, by omega, by go_num, N', HD2.out, HRI.out⟩
                          case measure => simp [intOf]; omega
                · obtain rfl : n = r := by omega
                  have HFIN : Hid (RI w P g5 gb n (GfM.stl c q M) wr) := hri.congr (GfM.stl_small HSM.out) fun i j hi hj => by rw [HD.out i j hi hj, if_pos hi]
                  have HRN := hid (run_next HRUN.out HPV.out)
                  clear hri HD HRI
                  go_wp2_with fail
                  go_roundw
                  case rel => exact ⟨c + 1, by omega, by go_num, _, HRN.out, HFIN.out⟩
                  case measure => simp [intOf]; omega
        · obtain rfl : n = q := by omega
          have hd2 : ((n : Int) == (n : Int)) = true := by simp
          have HP0 : Hid (GfM.run n (GfM.beside n (cz n z)) n = none) := by
            have hp : GfM.pivot n c M = none := by
              unfold GfM.pivot
              rw [List.find?_range_eq_none]
              intro i hi
              by_cases e : c ≤ i
              · simp [HZ0.out i e hi]
              · simp; omega
            have := run_stuck HRUN.out hp (n - (c + 1))
            rwa [show c + 1 + (n - (c + 1)) = n by omega] at this
          have x0 : wc.cell? ⟨P, 0, none⟩ = some (.int .i64 0) := by simp only [World.cell?, hri.st0]; rfl
          have x1 : wc.cell? ⟨P, 1, none⟩ = some (.int .i64 0) := by simp only [World.cell?, hri.st0]; rfl
          have x2 : wc.cell? ⟨P, 2, none⟩ = some (.slice none 0 0) := by simp only [World.cell?, hri.st0]; rfl
          have x3 : ∀ j, wc.frozen? ⟨P, j, none⟩ = false := fun j => by simp [World.frozen?, hri.st0]
          clear hri hz0 hxq
          go_wp2
          have hld := run_loadVar_row (P := Tryz.prog) _ P _ 100 _ _ _ (heap3 HRI.out.st0 (.int .i64 0) (.int .i64 0) (.slice none 0 0)) Tryz.underlying100 rfl info_m3
          refine bodyPost_ret (v := .tuple #[.agg #[.int .i64 0, .int .i64 0, .slice none 0 0], .bool false]) ?_ rfl ⟨((HRI.out.up.setCell (p := ⟨P, 0, none⟩) (.inl HRI.out.oP) _).setCell (p := ⟨P, 1, none⟩) (.inl HRI.out.oP) _).setCell (p := ⟨P, 2, none⟩) (.inl HRI.out.oP) _, .inl ⟨HP0.out, rfl⟩⟩
          rw [results_cell_tmp rfl]
          simp [asAddr, Result.andThen, hld]
    · obtain rfl : n = c := by omega
      have HRUN := hid hrun
      have HRI := hid hri
      have x0 : wr.cell? ⟨P, 0, none⟩ = some (.int .i64 0) := by simp only [World.cell?, hri.st0]; rfl
      have x1 : wr.cell? ⟨P, 1, none⟩ = some (.int .i64 0) := by simp only [World.cell?, hri.st0]; rfl
      have x2 : wr.cell? ⟨P, 2, none⟩ = some (.slice none 0 0) := by simp only [World.cell?, hri.st0]; rfl
      have x3 : ∀ j, wr.frozen? ⟨P, j, none⟩ = false := fun j => by simp [World.frozen?, hri.st0]
      clear hrun hri
      go_wp2
      have hld := run_loadVar_row (P := Tryz.prog) _ P _ 100 _ _ _ (heap3 HRI.out.st0 (.int .i64 n) (.int .i64 n) (.slice (some ⟨gb, 0, none⟩) na na)) Tryz.underlying100 rfl info_m3
      have hpb := HRI.out.Pb
      have hlb := HRI.out.lb
      refine bodyPost_ret (v := .tuple #[.agg #[.int .i64 n, .int .i64 n, .slice (some ⟨gb, 0, none⟩) na na], .bool true]) ?_ rfl ⟨((HRI.out.up.setCell (p := ⟨P, 0, none⟩) (.inl HRI.out.oP) _).setCell (p := ⟨P, 1, none⟩) (.inl HRI.out.oP) _).setCell (p := ⟨P, 2, none⟩) (.inl HRI.out.oP) _, .inr ⟨M, gb, HRUN.out, by rw [NN.out], HRI.out.ob, by simpa using hlb, ⟨fun i hi => ?_, fun i => small_getD (tab_small fun t => HRI.out.sm _ _) i⟩⟩⟩
      · rw [results_cell_tmp rfl]
        simp [asAddr, Result.andThen, hld]
      · rw [tab_length] at hi
        rw [tab_at _ _ _ hi, Nat.zero_add, far_cell _ _ (fun e => hpb e.symm), far_cell _ _ (fun e => hpb e.symm), far_cell _ _ (fun e => hpb e.symm)]
        have hin : i / n < n := (Nat.div_lt_iff_lt_mul n1).2 hi
        have := HRI.out.cb (i / n) (i % n) hin (Nat.mod_lt _ n1)
        rw [Nat.mul_comm, Nat.div_add_mod] at this
        exact this
end Go.Proofs.YtkenfabnbmkhbaaGreat
