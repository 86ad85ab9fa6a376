/- The law DiskSynced, walked. -/
import Derived.Test.YtcehphnpffedhaaDiskInts
import Derived.Test.YtcehphnpffedhaaDiskCrash
namespace Go.Proofs.Ytcehphnpffedhaa
open Go.RowKit
set_option linter.unusedVariables false

theorem u8_wrap (v : Int) : IntKind.u8.wrap v = v % 256 := by
  first | exact IntKind.wrap_u8 v | simp [IntKind.wrap] | rfl
/-- Where the law stands: its Disk, an array, and what is to lie there. -/
structure SY (w wr : World) (b g i keep : Nat) (G : Nat → Nat) : Prop where
  ex : ∃ R ps, H w wr b 8 none none true R ps ∧ ps.length = i ∧ ∀ s, s < 8 → fst (ps.drop keep) s (R s) = cont (G s)
  ar : Ar wr g G
  gw : w.heap.size ≤ g
  sm : ∀ s, G s < 256
  up : Up Nul w wr
theorem SY.nxt {w wr w' : World} {b g i keep : Nat} {G : Nat → Nat} (h : SY w wr b g i keep G) (u : Up Nul wr w') : SY w w' b g i keep G := by
  obtain ⟨R, ps, h1, h2⟩ := h.ex
  exact ⟨⟨R, ps, h1.nxt u, h2⟩, h.ar.nxt u, h.gw, h.sm, h.up.trans u⟩
/-- A write. -/
theorem SY.write {w wr : World} {b g i keep : Nat} {G : Nat → Nat} (h : SY w wr b g i keep G) (hi : i < 900) {s v q c : Nat} (hs : s < 8) (hv : 0 < v) (k1 : Blk wr q (ful v)) :
    Calls Try.prog 10 #[.pointer (some ⟨b, 0, none⟩), .int .i64 s, .slice (some ⟨q, 0, none⟩) 96 c] wr fun e w' => e = .returned (.int .i64 0) ∧ Up Nul w w' ∧ Ar w' g G ∧ ∃ R ps, H w w' b 8 none none true R ps ∧ ps.length = i + 1 ∧ ∀ t, t < 8 → fst (ps.drop keep) t (R t) = cont (if i < keep then (if t = s then v else G t) else G t) := by
  obtain ⟨R, ps, h1, h2, h3⟩ := h.ex
  refine (writeH h1 h.up hs (by decide) (by omega) k1 (ful_length v)).mono ?_
  rintro e w' ⟨rfl, g1, g2, g3⟩
  exact ⟨rfl, g2, h.ar.ks g3 dd_ar, _, _, g1, by simp [h2], fst_write h2 h3 s hs hv⟩
set_option maxRecDepth 100000 in
set_option maxHeartbeats 6400000 in
theorem synced_any (a1 : Option Addr) (n1 c1 : Nat) (f1 : Nat → Int) (a2 : Option Addr) (n2 c2 : Nat) (f2 : Nat → Int) (x : Int) (w : World) (hz1 : SlI w a1 n1 f1) (hz2 : SlI w a2 n2 f2) :
    Calls Try.prog 5 #[.slice a1 n1 c1, .slice a2 n2 c2, .int .i64 x] w fun e w' => e = .returned (.bool true) ∧ Below w.heap.size w w' := by
  have HZ1 := hid hz1
  have HZ2 := hid hz2
  have l1 : (n1 : Int) ≤ 9223372036854775807 := by have := hz1.le; omega
  have l2 : (n2 : Int) ≤ 9223372036854775807 := by have := hz2.le; omega
  clear hz1 hz2
  obtain ⟨k0, hk0, _⟩ := i64_mask8 x
  obtain ⟨n, hn⟩ : ∃ n, n = min n2 30 := ⟨_, rfl⟩
  have hmin : min (n2 : Int) 30 = (n : Int) := by rw [hn]; omega
  have HN : Hid (n ≤ n2 ∧ n ≤ 30) := by constructor <;> omega
  have hn30 : (n : Int) ≤ 30 := by have := HN.out; omega
  obtain ⟨kp, hkp, hkl⟩ := rem_nat k0 n
  have HKP : Hid (kp ≤ n) := hkl
  clear hn hkl
  go_enter Try.func5, Try.ntmps5
  go_wp2_with fail
  refine (newH_nil (Up.refl Nul w) 8 8 rfl).mono ?_
  rintro e w1 ⟨b, rfl, h1, h2⟩
  have H1 := hid h1
  have U1 := hid h2
  clear h1 h2
  obtain ⟨M, HM⟩ : ∃ M : Nat, Hid (M = 1000) := ⟨1000, rfl⟩
  have HA0 : Hid (SY w (w1.alloc (.cells (arC fun _ => 0).toArray 58)) b w1.heap.size 0 M (fun _ => 0)) :=
    ⟨⟨_, _, H1.out.nxt ((Up.refl Nul w1).alloc _), rfl, fun s _ => by rw [List.drop_nil]; rfl⟩, ⟨heap_alloc_new _ _⟩, U1.out.size, fun _ => by decide, U1.out.alloc _⟩
  obtain ⟨g1, G1⟩ : ∃ g, Hid (w1.heap.size = g) := ⟨_, rfl⟩
  go_wp2_with fail
  rw [G1.out] at HA0 ⊢
  clear H1 U1
  go_loopw [9] (fun i wr => ∃ k, k ≤ 30 ∧ k ≤ n1 ∧ i = .int .i64 (k : Nat) ∧ ∃ G, SY w wr b g1 k M G) (fun i _ => 30 - (intOf i).toNat)
  case atStart => exact ⟨0, by omega, by omega, rfl, _, HA0.out⟩
  case round =>
    obtain ⟨k, hk, hkn, rfl, G, hy⟩ := hrel
    have HY := hid hy
    clear hy HA0
    have i0 : (0 : Int) ≤ (k : Int) := by omega
    by_cases hlt : k < n1
    · have i1 : (k : Int) < (n1 : Int) := by omega
      by_cases h30 : k < 30
      · have i2 : (k : Int) < 30 := by omega
        have hkm : k < 1000 := by omega
        obtain ⟨bb, o, ha, hbl, hcell⟩ : ∃ bb o, a1 = some ⟨bb, o, none⟩ ∧ bb < w.heap.size ∧ ∀ i, i < n1 → w.cell? ⟨bb, o + i, none⟩ = some (.int .i64 (f1 i)) := by
          rcases HZ1.out.row with e | e
          · omega
          · exact e
        subst ha
        obtain ⟨s, hs, hs8⟩ := i64_mask3 (f1 k)
        have HS8 : Hid (s < 8) := hs8
        have hs9 : (s : Int) < 8 := by omega
        have HSX : Hid (∀ W, Up Nul w W → W.cell? ⟨bb, o + k, none⟩ = some (.int .i64 (f1 k))) := fun W u => (u.cell (p := ⟨bb, o + k, none⟩) hbl id).trans (hcell k hlt)
        obtain ⟨v, hv⟩ : ∃ v : Nat, v = k + 1 := ⟨_, rfl⟩
        have HV : Hid (0 < v ∧ v < 256) := by constructor <;> omega
        have i5 : ((k : Int) + 1) % 256 = (v : Int) := by omega
        have i8 : (v : Int) % 256 = (v : Int) := by omega
        have h900 : k < 900 := by omega
        have i9 : (k : Int) + 1 = (v : Int) := by omega
        have i6 : IntKind.i64.wrap ((k : Int) + 1) = (v : Int) := by rw [i9]; exact IntWalk.i64_in _ (by omega)
        have i7 : wrap64 ((k : Int) + 1) = (v : Int) := by rw [← IntWalk.i64_left]; exact i6
        have i10 : IntKind.u8.wrap (v : Int) = (v : Int) := by rw [u8_wrap]; exact i8
        clear i9
        have HVE : Hid (v = k + 1) := hv
        have HB : Hid (∀ W, Calls Try.prog 11 #[.int .u8 (v : Int)] W fun e w' => ∃ q, e = .returned (.slice (some ⟨q, 0, none⟩) 96 96) ∧ Blk w' q (ful v) ∧ Up Nul W w') := fun W => fullH v W HV.out.2
        have HW : Hid (∀ W, Up Nul wr W → ∀ q, Blk W q (ful v) → Calls Try.prog 10 #[.pointer (some ⟨b, 0, none⟩), .int .i64 s, .slice (some ⟨q, 0, none⟩) 96 96] W fun e w' => e = .returned (.int .i64 0) ∧ Up Nul w w' ∧ Hid (Ar w' g1 G ∧ ∃ R ps, H w w' b 8 none none true R ps ∧ ps.length = k + 1 ∧ ∀ t, t < 8 → fst (ps.drop M) t (R t) = cont (if k < M then (if t = s then v else G t) else G t))) := fun W u q kb =>
          ((HY.out.nxt u).write h900 HS8.out HV.out.1 kb).mono fun e w' ⟨h1, h2, h3⟩ => ⟨h1, h2, h3⟩
        clear hcell hbl hv hs8
        go_wp2_with fail
        have HR0 : Hid (Up Nul w wr) := HY.out.up
        go_region_held3 (fun W => W.cell? ⟨bb, o + k, none⟩ = some (.int .i64 (f1 k)))
          (first | exact HSX.out _ (by assumption) | exact HSX.out _ HR0.out.drew | exact HSX.out _ ob1.out)
          (first
            | (go_at_call 11; (with_reducible refine (HB.out _).mono ?_); rintro e wb ⟨q, rfl, kb1, kb2⟩; have ob0 : Hid (Up Nul wr wb) := (Up.refl Nul wr).drew.trans kb2; have ob1 : Hid (Up Nul w wb) := HR0.out.trans ob0.out; clear kb2)
            | (go_at_call 10; (with_reducible refine (HW.out _ ob0.out _ kb1).mono ?_); rintro e wc ⟨rfl, oc1, hc2⟩))
        have UC : Hid (Up Nul w wc) := oc1
        clear oc1 kb1 HB HW
        obtain ⟨ha, R, ps, hh, hl, hf⟩ := hc2.out
        have HA := hid ha
        have x1 := HSX.out wc UC.out
        have x2 := HA.out.cell HS8.out
        have x3 := HA.out.froz s
        have HN2 : Hid (SY w (wc.setCell ⟨g1, s, none⟩ (.int .i64 (v : Int))) b g1 (k + 1) M (fun t => if t = s then v else G t)) := by
          refine ⟨⟨R, ps, hh.ks (ar_ks HA.out s _) ar_dd, hl, fun t ht => ?_⟩, HA.out.set s v HS8.out, HY.out.gw, fun t => ?_, UC.out.setCell (.inl HY.out.gw) _⟩
          · rw [hf t ht, if_pos (by rw [HM.out]; exact hkm)]
          · show (if t = s then v else G t) < 256
            split
            · exact HV.out.2
            · exact HY.out.sm t
        clear ha hh hl hf hc2 HY ob0 ob1 HR0 hkm
        go_wp2
        clear i6 i7 i8 i10 i5 hs
        have hvk := HVE.out
        go_roundw
        case rel => exact ⟨k + 1, by omega, by omega, by rw [hvk], _, HN2.out⟩
        case measure => simp only [intOf]; omega
      · have i2 : ¬ (k : Int) < 30 := by omega
        have hkm : k < 1000 := by omega
        obtain ⟨R, ps, hh, hl, hf⟩ := HY.out.ex
        have HC : Hid (∀ s, s < 8 → R s = cont (G s)) := fun s hs => by
          have := hf s hs
          rwa [List.drop_eq_nil_of_le (by rw [HM.out]; omega)] at this
        clear hkm hf
        go_wp2_with fail
        refine (syncH hh HY.out.up (by decide)).mono ?_
        rintro e w2 ⟨rfl, h1, h2, h3⟩
        have HA2 : Hid (Ar w2 g1 G) := HY.out.ar.ks h3 dd_ar
        have HSM : Hid (∀ s, G s < 256) := HY.out.sm
        have H2 := hid h1
        have U2 := hid h2
        clear h1 h2 h3 hh hl HY
        obtain ⟨cs, CS⟩ : ∃ cs, Hid (arC G = cs) := ⟨_, rfl⟩
        have HRG : Hid (w2.rangeAt g1 0 cs) := fun j v hv => by
          rw [← CS.out] at hv
          have hj : j < 8 := by
            rcases Nat.lt_or_ge j 8 with h | h
            · exact h
            · rw [List.getElem?_eq_none (by rw [arC_length]; omega)] at hv; cases hv
          rw [arC_at _ _ hj] at hv
          rw [Nat.zero_add, HA2.out.cell hj]
          exact hv
        have HCL : Hid (cs.length = 8) := by show _ = _; rw [← CS.out]; exact arC_length G
        have HI : Hid ((Try.prog.info? 58).map (·.size) = some cs.length) := by show _ = _; rw [HCL.out]; exact info_ar
        have HI2 : Hid ((Try.prog.info? 58).map (·.size) = some cs.toArray.size) := by show _ = _; rw [HI.out]; simp
        have HON : Hid (cs.toArray.all (·.oneCell') = true) := Array.all_eq_true_iff_forall_mem.2 fun v hv => arC_one G v (by rw [CS.out]; simpa using hv)
        have HCS : Hid (8 = cs.toArray.size) := by show _ = _; simp [HCL.out]
        have HA3 : Hid (SY w (w2.alloc (.cells cs.toArray 58)) b w2.heap.size 0 kp G) :=
          ⟨⟨R, [], H2.out.nxt ((Up.refl Nul w2).alloc _), rfl, fun s hs => by rw [List.drop_nil]; exact HC.out s hs⟩, ⟨by rw [CS.out]; exact heap_alloc_new _ _⟩, U2.out.size, HSM.out, U2.out.alloc _⟩
        obtain ⟨g2, G2⟩ : ∃ g, Hid (w2.heap.size = g) := ⟨_, rfl⟩
        clear hk hkn
        go_wp2_with (first
          | (refine wpList_load_mid rfl 58 (.tmp 8) rfl g1 0 rfl cs _ HRG.out Try.underlying58 rfl HI.out ?_)
          | (refine wpList_store_new rfl 58 (.tmp 11) (.tmp 61) rfl _ cs.toArray rfl rfl HI2.out HCS.out HON.out ?_))
        generalize w2.alloc (.cells cs.toArray 58) = w3 at HA3 ⊢
        rw [G2.out] at HA3 ⊢
        clear H2 U2 HA2 HRG HC HCS HON HI HI2 HCL CS HSM
        go_loopw [12] (fun i wr => ∃ k, k ≤ n ∧ i = .int .i64 (k : Nat) ∧ ∃ G, SY w wr b g2 k kp G) (fun i _ => n - (intOf i).toNat)
        case atStart => exact ⟨0, by omega, rfl, _, HA3.out⟩
        case round =>
          obtain ⟨k, hk, rfl, G, hy⟩ := hrel
          have HY := hid hy
          clear hy HA3
          have i0 : (0 : Int) ≤ (k : Int) := by omega
          by_cases hltn : k < n
          · have i1 : (k : Int) < (n : Int) := by omega
            have hlt : k < n2 := by have := HN.out; omega
            have i1' : (k : Int) < (n2 : Int) := by omega
            have h30 : k < 30 := by have := HN.out; omega
            obtain ⟨bb, o, ha, hbl, hcell⟩ : ∃ bb o, a2 = some ⟨bb, o, none⟩ ∧ bb < w.heap.size ∧ ∀ i, i < n2 → w.cell? ⟨bb, o + i, none⟩ = some (.int .i64 (f2 i)) := by
              rcases HZ2.out.row with e | e
              · omega
              · exact e
            subst ha
            obtain ⟨s, hs, hs8⟩ := i64_mask3 (f2 k)
            have HS8 : Hid (s < 8) := hs8
            have hs9 : (s : Int) < 8 := by omega
            have HSX : Hid (∀ W, Up Nul w W → W.cell? ⟨bb, o + k, none⟩ = some (.int .i64 (f2 k))) := fun W u => (u.cell (p := ⟨bb, o + k, none⟩) hbl id).trans (hcell k hlt)
            obtain ⟨v, hv⟩ : ∃ v : Nat, v = 100 + k := ⟨_, rfl⟩
            have HV : Hid (0 < v ∧ v < 256) := by constructor <;> omega
            have i5 : (100 + (k : Int)) % 256 = (v : Int) := by omega
            have i8 : (v : Int) % 256 = (v : Int) := by omega
            have h900 : k < 900 := by omega
            have i9 : 100 + (k : Int) = (v : Int) := by omega
            have i6 : IntKind.i64.wrap (100 + (k : Int)) = (v : Int) := by rw [i9]; exact IntWalk.i64_in _ (by omega)
            have i7 : wrap64 (100 + (k : Int)) = (v : Int) := by rw [← IntWalk.i64_left]; exact i6
            have i10 : IntKind.u8.wrap (v : Int) = (v : Int) := by rw [u8_wrap]; exact i8
            clear i9
            have HVE : Hid (v = 100 + k) := hv
            have HB : Hid (∀ W, Calls Try.prog 11 #[.int .u8 (v : Int)] W fun e w' => ∃ q, e = .returned (.slice (some ⟨q, 0, none⟩) 96 96) ∧ Blk w' q (ful v) ∧ Up Nul W w') := fun W => fullH v W HV.out.2
            have HW : Hid (∀ W, Up Nul wr W → ∀ q, Blk W q (ful v) → Calls Try.prog 10 #[.pointer (some ⟨b, 0, none⟩), .int .i64 s, .slice (some ⟨q, 0, none⟩) 96 96] W fun e w' => e = .returned (.int .i64 0) ∧ Up Nul w w' ∧ Hid (Ar w' g2 G ∧ ∃ R ps, H w w' b 8 none none true R ps ∧ ps.length = k + 1 ∧ ∀ t, t < 8 → fst (ps.drop kp) t (R t) = cont (if k < kp then (if t = s then v else G t) else G t))) := fun W u q kb =>
              ((HY.out.nxt u).write h900 HS8.out HV.out.1 kb).mono fun e w' ⟨h1, h2, h3⟩ => ⟨h1, h2, h3⟩
            clear hcell hbl hv hs8
            go_wp2_with fail
            have HR0 : Hid (Up Nul w wr) := HY.out.up
            go_region_held3 (fun W => W.cell? ⟨bb, o + k, none⟩ = some (.int .i64 (f2 k)))
              (first | exact HSX.out _ (by assumption) | exact HSX.out _ HR0.out.drew | exact HSX.out _ ob1.out)
              (first
                | (go_at_call 11; (with_reducible refine (HB.out _).mono ?_); rintro e wb ⟨q, rfl, kb1, kb2⟩; have ob0 : Hid (Up Nul wr wb) := (Up.refl Nul wr).drew.trans kb2; have ob1 : Hid (Up Nul w wb) := HR0.out.trans ob0.out; clear kb2)
                | (go_at_call 10; (with_reducible refine (HW.out _ ob0.out _ kb1).mono ?_); rintro e wc ⟨rfl, oc1, hc2⟩))
            have UC : Hid (Up Nul w wc) := oc1
            clear oc1 kb1 HB HW
            obtain ⟨ha, R, ps, hh, hl, hf⟩ := hc2.out
            have HA := hid ha
            clear i6 i7 i8 i10 i5
            by_cases hkk : k < kp
            · have j1 : (k : Int) < (kp : Int) := by omega
              have x1 := HSX.out wc UC.out
              have x2 := HA.out.cell HS8.out
              have x3 := HA.out.froz s
              have HN2 : Hid (SY w (wc.setCell ⟨g2, s, none⟩ (.int .i64 (v : Int))) b g2 (k + 1) kp (fun t => if t = s then v else G t)) := by
                refine ⟨⟨R, ps, hh.ks (ar_ks HA.out s _) ar_dd, hl, fun t ht => ?_⟩, HA.out.set s v HS8.out, HY.out.gw, fun t => ?_, UC.out.setCell (.inl HY.out.gw) _⟩
                · rw [hf t ht, if_pos hkk]
                · show (if t = s then v else G t) < 256
                  split
                  · exact HV.out.2
                  · exact HY.out.sm t
              have hvk : (100 : Int) + (k : Int) = (v : Int) := by rw [HVE.out]; omega
              have HN3 : Hid (SY w (wc.setCell ⟨g2, s, none⟩ (.int .i64 (100 + (k : Int)))) b g2 (k + 1) kp (fun t => if t = s then v else G t)) := by
                rw [hvk]
                exact HN2.out
              clear ha hh hl hf hc2 HY ob0 ob1 HR0 hvk HN2
              go_wp2
              clear hs
              go_roundw
              case rel => exact ⟨k + 1, by omega, by go_num, _, HN3.out⟩
              case measure => simp only [intOf]; omega
            · have j1 : ¬ (k : Int) < (kp : Int) := by omega
              have HN2 : Hid (SY w wc b g2 (k + 1) kp G) := ⟨⟨R, ps, hh, hl, fun t ht => by rw [hf t ht, if_neg hkk]⟩, HA.out, HY.out.gw, HY.out.sm, UC.out⟩
              clear ha hh hl hf hc2 HY ob0 ob1 HR0
              go_wp2
              clear hs
              go_roundw
              case rel => exact ⟨k + 1, by omega, by go_num, _, HN2.out⟩
              case measure => simp only [intOf]; omega
          · obtain rfl : k = n := by omega
            obtain ⟨R, ps, hh, hl, hf⟩ := HY.out.ex
            have HPE := hid (pendingH hh)
            rw [hl] at HPE
            have HCC : Hid (∀ s, s < 8 → crashR ps (kp : Int).toNat (min (0 : Int).toNat 96) R s = cont (G s)) := fun s hs => by
              have e : min (0 : Int).toNat 96 = 0 := by decide
              rw [e, crashR_zero, Int.toNat_natCast]
              exact hf s hs
            have HCR := hid (crashH hh HY.out.up (kp : Int) 0)
            have HSM : Hid (∀ s, G s < 256) := HY.out.sm
            have HAR := hid HY.out.ar
            clear hh hl hf HY hk
            go_wp2_with fail
            refine HPE.out.mono ?_
            rintro e w4 ⟨rfl, rfl⟩
            go_wp2_with fail
            refine HCR.out.mono ?_
            rintro e w5 ⟨rfl, h1, h2, h3⟩
            have HA5 : Hid (Ar w5 g2 G) := HAR.out.ks h3 dd_ar
            have H5 := hid h1
            have U5 := hid h2
            clear h1 h2 h3 HAR HCR HPE
            generalize crashR ps (kp : Int).toNat (min (0 : Int).toNat 96) R = R5 at HCC H5
            go_wp2_with fail
            go_loopw [13, 14, 15, 16] (fun i _ _ _ wr => ∃ t : Nat, t ≤ 8 ∧ i = .int .i64 (t : Nat) ∧ H w wr b 8 none none true R5 [] ∧ Ar wr g2 G ∧ Up Nul w wr) (fun i _ _ _ _ => 8 - (intOf i).toNat)
            case atStart => exact ⟨0, by omega, rfl, H5.out, HA5.out, U5.out⟩
            case round =>
              obtain ⟨t, ht, rfl, hh, ha, hu⟩ := hrel
              have H6 := hid hh
              have A6 := hid ha
              have U6 := hid hu
              clear hh ha hu H5 HA5 U5
              have m0 : (0 : Int) ≤ (t : Int) := by omega
              by_cases htl : t < 8
              · have m1 : (t : Int) < 8 := by omega
                have HCT : Hid (R5 t = cont (G t)) := HCC.out t htl
                go_wp2_with fail
                refine (blank_any _).mono ?_
                rintro e w7 ⟨rfl, kb⟩
                have H7 := hid (H6.out.nxt kb)
                have A7 := hid (A6.out.nxt kb)
                have U7 := hid (U6.out.trans kb)
                have x1 := A7.out.cell htl
                clear kb H6 A6 U6
                by_cases hg : G t = 0
                · rw [hg] at x1
                  have x1 : w7.cell? ⟨g2, t, none⟩ = some (.int .i64 0) := x1
                  have HCT : Hid (R5 t = zer 96) := by show _ = _; rw [HCT.out, cont, if_pos hg]
                  go_wp2_with fail
                  refine (readH (s := t) H7.out htl).mono ?_
                  rintro e w8 ⟨a9, c9, rfl, k1⟩
                  rw [HCT.out] at k1
                  have c1 := k1.sl.conv c9
                  have H8 := hid (H7.out.nxt k1.up)
                  have A8 := hid (A7.out.nxt k1.up)
                  have U8 := hid (U7.out.trans k1.up)
                  have q0 : ((strOf (zer 96)).toList == (strOf (zer 96)).toList) = true := by simp
                  generalize strOf (zer 96) = sz at c1 q0 ⊢
                  clear k1 H7 A7 U7
                  go_wp2
                  go_roundw
                  case rel => exact ⟨t + 1, by omega, by go_num, H8.out, A8.out, U8.out⟩
                  case measure => simp only [intOf]; omega
                · have HCT : Hid (R5 t = ful (G t)) := by show _ = _; rw [HCT.out, cont, if_neg hg]
                  have hv8 := HSM.out t
                  generalize G t = v at x1 HCT hg hv8
                  have m2 : (0 : Int) < (v : Int) := by omega
                  have i8 : (v : Int) % 256 = (v : Int) := by omega
                  have i10 : IntKind.u8.wrap (v : Int) = (v : Int) := by rw [u8_wrap]; exact i8
                  go_wp2_with fail
                  refine (fullH v _ hv8).mono ?_
                  rintro e w8 ⟨q, rfl, kb1, kb2⟩
                  have H8 := hid (H7.out.nxt kb2)
                  have A8 := hid (A7.out.nxt kb2)
                  have U8 := hid (U7.out.trans kb2)
                  have c2 : (convert 26 9 (.slice (some ⟨q, 0, none⟩) 96 96)).run Try.prog w8 = .ok (.string (strOf (ful v))) w8 := conv_row kb1.whole (ful_length v)
                  have HT2 : Hid (∀ W a c, SlN W a 96 (ful v) → (convert 26 9 (.slice a 96 c)).run Try.prog W = .ok (.string (strOf (ful v))) W) := fun W a c h => h.conv c
                  have q0 : ((strOf (ful v)).toList == (strOf (ful v)).toList) = true := by simp
                  generalize strOf (ful v) = sz at c2 q0 HT2
                  clear kb1 kb2 H7 A7 U7
                  go_wp2_with fail
                  refine (readH (s := t) H8.out htl).mono ?_
                  rintro e w9 ⟨a9, c9, rfl, k1⟩
                  rw [HCT.out] at k1
                  have c1 := HT2.out w9 a9 c9 k1.sl
                  have H9 := hid (H8.out.nxt k1.up)
                  have A9 := hid (A8.out.nxt k1.up)
                  have U9 := hid (U8.out.trans k1.up)
                  clear k1 H8 A8 U8
                  go_wp2
                  go_roundw
                  case rel => exact ⟨t + 1, by omega, by go_num, H9.out, A9.out, U9.out⟩
                  case measure => simp only [intOf]; omega
              · obtain rfl : t = 8 := by omega
                go_wp2_with fail
                refine (pendingH H6.out).mono ?_
                rintro e w7 ⟨rfl, rfl⟩
                go_wp2_with fail
                refine (awake_any _).mono ?_
                rintro e w8 ⟨rfl, kb⟩
                have U8 := hid (U6.out.trans kb)
                clear kb
                go_wp2
                go_ret
                exact ⟨rfl, U8.out.below (Nat.le_refl _) fun _ _ => id⟩
    · have i1 : ¬ (k : Int) < (n1 : Int) := by omega
      have hkm : k < 1000 := by omega
      obtain ⟨R, ps, hh, hl, hf⟩ := HY.out.ex
      have HC : Hid (∀ s, s < 8 → R s = cont (G s)) := fun s hs => by
        have := hf s hs
        rwa [List.drop_eq_nil_of_le (by rw [HM.out]; omega)] at this
      clear hkm hf
      go_wp2_with fail
      refine (syncH hh HY.out.up (by decide)).mono ?_
      rintro e w2 ⟨rfl, h1, h2, h3⟩
      have HA2 : Hid (Ar w2 g1 G) := HY.out.ar.ks h3 dd_ar
      have HSM : Hid (∀ s, G s < 256) := HY.out.sm
      have H2 := hid h1
      have U2 := hid h2
      clear h1 h2 h3 hh hl HY
      obtain ⟨cs, CS⟩ : ∃ cs, Hid (arC G = cs) := ⟨_, rfl⟩
      have HRG : Hid (w2.rangeAt g1 0 cs) := fun j v hv => by
        rw [← CS.out] at hv
        have hj : j < 8 := by
          rcases Nat.lt_or_ge j 8 with h | h
          · exact h
          · rw [List.getElem?_eq_none (by rw [arC_length]; omega)] at hv; cases hv
        rw [arC_at _ _ hj] at hv
        rw [Nat.zero_add, HA2.out.cell hj]
        exact hv
      have HCL : Hid (cs.length = 8) := by show _ = _; rw [← CS.out]; exact arC_length G
      have HI : Hid ((Try.prog.info? 58).map (·.size) = some cs.length) := by show _ = _; rw [HCL.out]; exact info_ar
      have HI2 : Hid ((Try.prog.info? 58).map (·.size) = some cs.toArray.size) := by show _ = _; rw [HI.out]; simp
      have HON : Hid (cs.toArray.all (·.oneCell') = true) := Array.all_eq_true_iff_forall_mem.2 fun v hv => arC_one G v (by rw [CS.out]; simpa using hv)
      have HCS : Hid (8 = cs.toArray.size) := by show _ = _; simp [HCL.out]
      have HA3 : Hid (SY w (w2.alloc (.cells cs.toArray 58)) b w2.heap.size 0 kp G) :=
        ⟨⟨R, [], H2.out.nxt ((Up.refl Nul w2).alloc _), rfl, fun s hs => by rw [List.drop_nil]; exact HC.out s hs⟩, ⟨by rw [CS.out]; exact heap_alloc_new _ _⟩, U2.out.size, HSM.out, U2.out.alloc _⟩
      obtain ⟨g2, G2⟩ : ∃ g, Hid (w2.heap.size = g) := ⟨_, rfl⟩
      clear hk hkn
      go_wp2_with (first
        | (refine wpList_load_mid rfl 58 (.tmp 8) rfl g1 0 rfl cs _ HRG.out Try.underlying58 rfl HI.out ?_)
        | (refine wpList_store_new rfl 58 (.tmp 11) (.tmp 61) rfl _ cs.toArray rfl rfl HI2.out HCS.out HON.out ?_))
      generalize w2.alloc (.cells cs.toArray 58) = w3 at HA3 ⊢
      rw [G2.out] at HA3 ⊢
      clear H2 U2 HA2 HRG HC HCS HON HI HI2 HCL CS HSM
      go_loopw [12] (fun i wr => ∃ k, k ≤ n ∧ i = .int .i64 (k : Nat) ∧ ∃ G, SY w wr b g2 k kp G) (fun i _ => n - (intOf i).toNat)
      case atStart => exact ⟨0, by omega, rfl, _, HA3.out⟩
      case round =>
        obtain ⟨k, hk, rfl, G, hy⟩ := hrel
        have HY := hid hy
        clear hy HA3
        have i0 : (0 : Int) ≤ (k : Int) := by omega
        by_cases hltn : k < n
        · have i1 : (k : Int) < (n : Int) := by omega
          have hlt : k < n2 := by have := HN.out; omega
          have i1' : (k : Int) < (n2 : Int) := by omega
          have h30 : k < 30 := by have := HN.out; omega
          obtain ⟨bb, o, ha, hbl, hcell⟩ : ∃ bb o, a2 = some ⟨bb, o, none⟩ ∧ bb < w.heap.size ∧ ∀ i, i < n2 → w.cell? ⟨bb, o + i, none⟩ = some (.int .i64 (f2 i)) := by
            rcases HZ2.out.row with e | e
            · omega
            · exact e
          subst ha
          obtain ⟨s, hs, hs8⟩ := i64_mask3 (f2 k)
          have HS8 : Hid (s < 8) := hs8
          have hs9 : (s : Int) < 8 := by omega
          have HSX : Hid (∀ W, Up Nul w W → W.cell? ⟨bb, o + k, none⟩ = some (.int .i64 (f2 k))) := fun W u => (u.cell (p := ⟨bb, o + k, none⟩) hbl id).trans (hcell k hlt)
          obtain ⟨v, hv⟩ : ∃ v : Nat, v = 100 + k := ⟨_, rfl⟩
          have HV : Hid (0 < v ∧ v < 256) := by constructor <;> omega
          have i5 : (100 + (k : Int)) % 256 = (v : Int) := by omega
          have i8 : (v : Int) % 256 = (v : Int) := by omega
          have h900 : k < 900 := by omega
          have i9 : 100 + (k : Int) = (v : Int) := by omega
          have i6 : IntKind.i64.wrap (100 + (k : Int)) = (v : Int) := by rw [i9]; exact IntWalk.i64_in _ (by omega)
          have i7 : wrap64 (100 + (k : Int)) = (v : Int) := by rw [← IntWalk.i64_left]; exact i6
          have i10 : IntKind.u8.wrap (v : Int) = (v : Int) := by rw [u8_wrap]; exact i8
          clear i9
          have HVE : Hid (v = 100 + k) := hv
          have HB : Hid (∀ W, Calls Try.prog 11 #[.int .u8 (v : Int)] W fun e w' => ∃ q, e = .returned (.slice (some ⟨q, 0, none⟩) 96 96) ∧ Blk w' q (ful v) ∧ Up Nul W w') := fun W => fullH v W HV.out.2
          have HW : Hid (∀ W, Up Nul wr W → ∀ q, Blk W q (ful v) → Calls Try.prog 10 #[.pointer (some ⟨b, 0, none⟩), .int .i64 s, .slice (some ⟨q, 0, none⟩) 96 96] W fun e w' => e = .returned (.int .i64 0) ∧ Up Nul w w' ∧ Hid (Ar w' g2 G ∧ ∃ R ps, H w w' b 8 none none true R ps ∧ ps.length = k + 1 ∧ ∀ t, t < 8 → fst (ps.drop kp) t (R t) = cont (if k < kp then (if t = s then v else G t) else G t))) := fun W u q kb =>
            ((HY.out.nxt u).write h900 HS8.out HV.out.1 kb).mono fun e w' ⟨h1, h2, h3⟩ => ⟨h1, h2, h3⟩
          clear hcell hbl hv hs8
          go_wp2_with fail
          have HR0 : Hid (Up Nul w wr) := HY.out.up
          go_region_held3 (fun W => W.cell? ⟨bb, o + k, none⟩ = some (.int .i64 (f2 k)))
            (first | exact HSX.out _ (by assumption) | exact HSX.out _ HR0.out.drew | exact HSX.out _ ob1.out)
            (first
              | (go_at_call 11; (with_reducible refine (HB.out _).mono ?_); rintro e wb ⟨q, rfl, kb1, kb2⟩; have ob0 : Hid (Up Nul wr wb) := (Up.refl Nul wr).drew.trans kb2; have ob1 : Hid (Up Nul w wb) := HR0.out.trans ob0.out; clear kb2)
              | (go_at_call 10; (with_reducible refine (HW.out _ ob0.out _ kb1).mono ?_); rintro e wc ⟨rfl, oc1, hc2⟩))
          have UC : Hid (Up Nul w wc) := oc1
          clear oc1 kb1 HB HW
          obtain ⟨ha, R, ps, hh, hl, hf⟩ := hc2.out
          have HA := hid ha
          clear i6 i7 i8 i10 i5
          by_cases hkk : k < kp
          · have j1 : (k : Int) < (kp : Int) := by omega
            have x1 := HSX.out wc UC.out
            have x2 := HA.out.cell HS8.out
            have x3 := HA.out.froz s
            have HN2 : Hid (SY w (wc.setCell ⟨g2, s, none⟩ (.int .i64 (v : Int))) b g2 (k + 1) kp (fun t => if t = s then v else G t)) := by
              refine ⟨⟨R, ps, hh.ks (ar_ks HA.out s _) ar_dd, hl, fun t ht => ?_⟩, HA.out.set s v HS8.out, HY.out.gw, fun t => ?_, UC.out.setCell (.inl HY.out.gw) _⟩
              · rw [hf t ht, if_pos hkk]
              · show (if t = s then v else G t) < 256
                split
                · exact HV.out.2
                · exact HY.out.sm t
            have hvk : (100 : Int) + (k : Int) = (v : Int) := by rw [HVE.out]; omega
            have HN3 : Hid (SY w (wc.setCell ⟨g2, s, none⟩ (.int .i64 (100 + (k : Int)))) b g2 (k + 1) kp (fun t => if t = s then v else G t)) := by
              rw [hvk]
              exact HN2.out
            clear ha hh hl hf hc2 HY ob0 ob1 HR0 hvk HN2
            go_wp2
            clear hs
            go_roundw
            case rel => exact ⟨k + 1, by omega, by go_num, _, HN3.out⟩
            case measure => simp only [intOf]; omega
          · have j1 : ¬ (k : Int) < (kp : Int) := by omega
            have HN2 : Hid (SY w wc b g2 (k + 1) kp G) := ⟨⟨R, ps, hh, hl, fun t ht => by rw [hf t ht, if_neg hkk]⟩, HA.out, HY.out.gw, HY.out.sm, UC.out⟩
            clear ha hh hl hf hc2 HY ob0 ob1 HR0
            go_wp2
            clear hs
            go_roundw
            case rel => exact ⟨k + 1, by omega, by go_num, _, HN2.out⟩
            case measure => simp only [intOf]; omega
        · obtain rfl : k = n := by omega
          obtain ⟨R, ps, hh, hl, hf⟩ := HY.out.ex
          have HPE := hid (pendingH hh)
          rw [hl] at HPE
          have HCC : Hid (∀ s, s < 8 → crashR ps (kp : Int).toNat (min (0 : Int).toNat 96) R s = cont (G s)) := fun s hs => by
            have e : min (0 : Int).toNat 96 = 0 := by decide
            rw [e, crashR_zero, Int.toNat_natCast]
            exact hf s hs
          have HCR := hid (crashH hh HY.out.up (kp : Int) 0)
          have HSM : Hid (∀ s, G s < 256) := HY.out.sm
          have HAR := hid HY.out.ar
          clear hh hl hf HY hk
          go_wp2_with fail
          refine HPE.out.mono ?_
          rintro e w4 ⟨rfl, rfl⟩
          go_wp2_with fail
          refine HCR.out.mono ?_
          rintro e w5 ⟨rfl, h1, h2, h3⟩
          have HA5 : Hid (Ar w5 g2 G) := HAR.out.ks h3 dd_ar
          have H5 := hid h1
          have U5 := hid h2
          clear h1 h2 h3 HAR HCR HPE
          generalize crashR ps (kp : Int).toNat (min (0 : Int).toNat 96) R = R5 at HCC H5
          go_wp2_with fail
          go_loopw [13, 14, 15, 16] (fun i _ _ _ wr => ∃ t : Nat, t ≤ 8 ∧ i = .int .i64 (t : Nat) ∧ H w wr b 8 none none true R5 [] ∧ Ar wr g2 G ∧ Up Nul w wr) (fun i _ _ _ _ => 8 - (intOf i).toNat)
          case atStart => exact ⟨0, by omega, rfl, H5.out, HA5.out, U5.out⟩
          case round =>
            obtain ⟨t, ht, rfl, hh, ha, hu⟩ := hrel
            have H6 := hid hh
            have A6 := hid ha
            have U6 := hid hu
            clear hh ha hu H5 HA5 U5
            have m0 : (0 : Int) ≤ (t : Int) := by omega
            by_cases htl : t < 8
            · have m1 : (t : Int) < 8 := by omega
              have HCT : Hid (R5 t = cont (G t)) := HCC.out t htl
              go_wp2_with fail
              refine (blank_any _).mono ?_
              rintro e w7 ⟨rfl, kb⟩
              have H7 := hid (H6.out.nxt kb)
              have A7 := hid (A6.out.nxt kb)
              have U7 := hid (U6.out.trans kb)
              have x1 := A7.out.cell htl
              clear kb H6 A6 U6
              by_cases hg : G t = 0
              · rw [hg] at x1
                have x1 : w7.cell? ⟨g2, t, none⟩ = some (.int .i64 0) := x1
                have HCT : Hid (R5 t = zer 96) := by show _ = _; rw [HCT.out, cont, if_pos hg]
                go_wp2_with fail
                refine (readH (s := t) H7.out htl).mono ?_
                rintro e w8 ⟨a9, c9, rfl, k1⟩
                rw [HCT.out] at k1
                have c1 := k1.sl.conv c9
                have H8 := hid (H7.out.nxt k1.up)
                have A8 := hid (A7.out.nxt k1.up)
                have U8 := hid (U7.out.trans k1.up)
                have q0 : ((strOf (zer 96)).toList == (strOf (zer 96)).toList) = true := by simp
                generalize strOf (zer 96) = sz at c1 q0 ⊢
                clear k1 H7 A7 U7
                go_wp2
                go_roundw
                case rel => exact ⟨t + 1, by omega, by go_num, H8.out, A8.out, U8.out⟩
                case measure => simp only [intOf]; omega
              · have HCT : Hid (R5 t = ful (G t)) := by show _ = _; rw [HCT.out, cont, if_neg hg]
                have hv8 := HSM.out t
                generalize G t = v at x1 HCT hg hv8
                have m2 : (0 : Int) < (v : Int) := by omega
                have i8 : (v : Int) % 256 = (v : Int) := by omega
                have i10 : IntKind.u8.wrap (v : Int) = (v : Int) := by rw [u8_wrap]; exact i8
                go_wp2_with fail
                refine (fullH v _ hv8).mono ?_
                rintro e w8 ⟨q, rfl, kb1, kb2⟩
                have H8 := hid (H7.out.nxt kb2)
                have A8 := hid (A7.out.nxt kb2)
                have U8 := hid (U7.out.trans kb2)
                have c2 : (convert 26 9 (.slice (some ⟨q, 0, none⟩) 96 96)).run Try.prog w8 = .ok (.string (strOf (ful v))) w8 := conv_row kb1.whole (ful_length v)
                have HT2 : Hid (∀ W a c, SlN W a 96 (ful v) → (convert 26 9 (.slice a 96 c)).run Try.prog W = .ok (.string (strOf (ful v))) W) := fun W a c h => h.conv c
                have q0 : ((strOf (ful v)).toList == (strOf (ful v)).toList) = true := by simp
                generalize strOf (ful v) = sz at c2 q0 HT2
                clear kb1 kb2 H7 A7 U7
                go_wp2_with fail
                refine (readH (s := t) H8.out htl).mono ?_
                rintro e w9 ⟨a9, c9, rfl, k1⟩
                rw [HCT.out] at k1
                have c1 := HT2.out w9 a9 c9 k1.sl
                have H9 := hid (H8.out.nxt k1.up)
                have A9 := hid (A8.out.nxt k1.up)
                have U9 := hid (U8.out.trans k1.up)
                clear k1 H8 A8 U8
                go_wp2
                go_roundw
                case rel => exact ⟨t + 1, by omega, by go_num, H9.out, A9.out, U9.out⟩
                case measure => simp only [intOf]; omega
            · obtain rfl : t = 8 := by omega
              go_wp2_with fail
              refine (pendingH H6.out).mono ?_
              rintro e w7 ⟨rfl, rfl⟩
              go_wp2_with fail
              refine (awake_any _).mono ?_
              rintro e w8 ⟨rfl, kb⟩
              have U8 := hid (U6.out.trans kb)
              clear kb
              go_wp2
              go_ret
              exact ⟨rfl, U8.out.below (Nat.le_refl _) fun _ _ => id⟩
theorem synced_walk (a1 : Option Addr) (n1 c1 : Nat) (z1 : List Int) (a2 : Option Addr) (n2 c2 : Nat) (z2 : List Int) (x : Int) (w : World) (h1 : CameI w a1 n1 c1 z1) (h2 : CameI w a2 n2 c2 z2) :
    Calls Try.prog 5 #[.slice a1 n1 c1, .slice a2 n2 c2, .int .i64 x] w fun e w' => e = .returned (.bool true) ∧ Below w.heap.size w w' := by
  obtain ⟨f1, hf1⟩ := SlI.of h1
  obtain ⟨f2, hf2⟩ := SlI.of h2
  exact synced_any a1 n1 c1 f1 a2 n2 c2 f2 x w hf1 hf2
end Go.Proofs.Ytcehphnpffedhaa
