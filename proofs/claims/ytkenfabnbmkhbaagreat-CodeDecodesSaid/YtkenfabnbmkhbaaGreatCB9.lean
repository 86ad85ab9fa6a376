/- Part 9 of what the walks rest on: CodeData, CodeXor, CodeTurn, CodeStr, CodeCoef, CodeRefEnc, CodeMakesParts, CodeShards. -/
import Derived.Test.YtkenfabnbmkhbaaGreatCB8
namespace Go.Proofs.YtkenfabnbmkhbaaGreat
open Go.RowKit
set_option linter.unusedVariables false

theorem Dat.step {S : Nat → Prop} {w wr w2 : World} {L i : Nat} {z : List Nat} {v : Value} {b : Nat → Nat} (h : Dat w L i z v b wr) (u : Up S wr w2) (h1 : ∀ g, v.ownBlock = some g → ¬ S g) (h2 : ∀ t, t < i → ¬ S (b t)) (h3 : ∀ k, k < w.heap.size → ¬ S k) : Dat w L i z v b w2 :=
  ⟨h.own.apart u h1, fun t ht => (h.rows t ht).up u (h2 t ht), h.base, h.inj, ⟨u.os.trans h.up.os, u.tape.trans h.up.tape, u.output.trans h.up.output, Nat.le_trans h.up.size u.size, fun k hk hs => (u.block k (Nat.lt_of_lt_of_le hk h.up.size) (h3 k hk)).trans (h.up.block k hk hs)⟩⟩
theorem Dat.elim {w wr : World} {F L k : Nat} {z : List Nat} {v : Value} {b : Nat → Nat} (h : Dat w L k z v b wr) (k1 : 1 ≤ k) : ∃ g cap, v = .slice (some ⟨g, 0, none⟩) k cap ∧ Elim w F g k L b (dat L z) wr ∧ k ≤ cap := by
  have hl := lnV_length k L b
  obtain ⟨g, cap, e, e1, e2, e3, e4, e5⟩ := OwnV.row h.own (by omega)
  rw [hl] at e e5
  exact ⟨g, cap, e, ⟨fun i hi => e3 i _ (lnV_at hi), e4, e2, e1, h.rows, fun i _ => dat_length _ _ _, fun i hi => ⟨h.base i hi, fun eq => own_ne h.own (h.rows i hi) (by rw [e, eq]; rfl)⟩, h.inj, h.up.nul⟩, e5⟩
set_option maxRecDepth 100000 in
set_option maxHeartbeats 1600000 in
theorem data_any (F k L n cap : Nat) (a : Option Addr) (z : List Nat) (w : World) (hz : SlN w a n z) (k1 : 1 ≤ k) (k14 : k ≤ 14) (L70 : L ≤ 70) :
    Calls Tryz.prog 8 #[.int .i64 k, .int .i64 L, .slice a n cap] w
      fun e w' => (∃ g capg b, e = .returned (.slice (some ⟨g, 0, none⟩) k capg) ∧ Elim w F g k L b (dat L z) w' ∧ k ≤ capg) ∧ Up Nul w w' := by
  have HZ := hid hz
  have hle := hz.le
  clear hz
  go_enter Tryz.func8, Tryz.ntmps8
  go_wp2_with fail
  go_loopw [7, 8] (fun v i wr => ∃ t : Nat, t ≤ k ∧ i = .int .i64 t ∧ ∃ b, Dat w L t z v b wr) (fun _ i _ => k - (intOf i).toNat)
  case atStart => exact ⟨0, by omega, rfl, fun _ => 0, OwnV.nil _ _ _, fun _ h => absurd h (Nat.not_lt_zero _), fun _ h => absurd h (Nat.not_lt_zero _), fun _ _ h => absurd h (Nat.not_lt_zero _), Up.refl _ _⟩
  case round =>
    obtain ⟨i, hi, rfl, b, hd⟩ := hrel
    have HD := hid hd
    clear hd
    by_cases hlt : i < k
    · have hmk := make_bytes wr L (by omega)
      have ha := HD.out.step ((Up.refl Nul wr).alloc (.cells (bys (zer L)) 5)) (fun _ _ => id) (fun _ _ => id) fun _ _ => id
      have HB := hid (And.intro ha (Blk.new wr _ (zer_small L)))
      have HNB : Hid (∀ t, t < i → b t ≠ wr.heap.size) := fun t ht => by have := (HD.out.rows t ht).lt; omega
      have HWQ : Hid (w.heap.size ≤ wr.heap.size) := HD.out.up.size
      have HNV : Hid (u7.ownBlock ≠ some wr.heap.size) := fun e => by have := World.ownsRow.lt HD.out.own _ e; omega
      clear ha HD
      go_wp2_with fail
      generalize wr.alloc (.cells (bys (zer L)) 5) = wa at *
      generalize wr.heap.size = q at *
      clear hmk
      go_loopw [10] (fun j wr => ∃ t : Nat, t ≤ L ∧ j = .int .i64 t ∧ Dat w L i z u7 b wr ∧ ∃ y, Blk wr q y ∧ y.length = L ∧ ∀ u, u < t → y.getD u 0 = (dat L z i).getD u 0) (fun j _ => L - (intOf j).toNat)
      case atStart => exact ⟨0, by omega, rfl, HB.out.1, _, HB.out.2, zer_length _, fun _ h => absurd h (Nat.not_lt_zero _)⟩
      case round =>
        clear HB
        obtain ⟨j, hj, rfl, hd, y, hb, hl, hy⟩ := hrel
        have HD := hid hd
        have HB := hid (And.intro hb (And.intro hl hy))
        clear hd hb hl hy
        by_cases hlt2 : j < L
        · have x0 := HB.out.1.cell j (by rw [HB.out.2.1]; exact hlt2)
          have f0 := HB.out.1.froz j
          generalize y.getD j 0 = y0 at x0
          obtain ⟨cc, HCC⟩ : ∃ x, Hid ((31 * i + 17 * j) % 256 = x) := ⟨_, rfl⟩
          have c8 : cc < 256 := by rw [← HCC.out]; omega
          have hv : (31 * (i : Int) + 17 * (j : Int)) % 256 = (cc : Int) := by rw [← HCC.out]; omega
          have e1 : (i : Int) * (L : Int) = ((i * L : Nat) : Int) := by simp
          have hil : i * L ≤ 14 * 70 := Nat.mul_le_mul (by omega) L70
          obtain ⟨iL, HIL⟩ : ∃ x, Hid (i * L = x) := ⟨_, rfl⟩
          rw [HIL.out] at e1 hil
          have i1 : (0 : Int) ≤ (j : Int) := by omega
          have i2 : (j : Int) < (L : Int) := by omega
          have hsu : Up (One q) wr (wr.setCell ⟨q, j, none⟩ (.int .u8 cc)) := (Up.refl _ _).setCell (p := ⟨q, j, none⟩) (.inr (show One q q from rfl)) _
          have HS1 := hid hsu
          have x1 : (wr.setCell ⟨q, j, none⟩ (.int .u8 cc)).cell? ⟨q, j, none⟩ = some (.int .u8 cc) := World.cell?_setCell_same _ _ _ x0
          clear hsu
          by_cases hlt3 : iL + j < n
          · obtain ⟨bb, oo, rfl, hbb, hrow⟩ : ∃ b o, a = some ⟨b, o, none⟩ ∧ b < w.heap.size ∧ Row w b o z := by
              rcases HZ.out.row with e | h
              · omega
              · exact h
            have hne : bb ≠ q := by have := HWQ.out; omega
            have xb := ((hrow.up HD.out.up hbb id).cells (iL + j) (by rw [HZ.out.len]; exact hlt3))
            have xs := hrow.small (iL + j)
            obtain ⟨x, X⟩ : ∃ x, Hid (z.getD (iL + j) 0 = x) := ⟨_, rfl⟩
            rw [X.out] at xb xs
            have xb2 : (wr.setCell ⟨q, j, none⟩ (.int .u8 cc)).cell? ⟨bb, oo + (iL + j), none⟩ = some (.int .u8 x) := (HS1.out.cell (p := ⟨bb, oo + (iL + j), none⟩) (lt_of_cell xb) hne).trans xb
            have HV : Hid ((dat L z i).getD j 0 = x) := by
              show _ = _
              unfold dat
              rw [tab_at _ _ _ hlt2, HIL.out, if_pos (by rw [HZ.out.len]; exact hlt3), X.out]
            have hu2 : Up (One q) wr ((wr.setCell ⟨q, j, none⟩ (.int .u8 cc)).setCell ⟨q, j, none⟩ (.int .u8 x)) := HS1.out.setCell (p := ⟨q, j, none⟩) (.inr (show One q q from rfl)) _
            have HU2 := hid hu2
            have i3 : (0 : Int) ≤ (iL : Int) + (j : Int) := by omega
            have i4 : (iL : Int) + (j : Int) < (n : Int) := by omega
            clear hu2 hrow hne xb
            go_wp2
            go_roundw
            case rel => exact ⟨j + 1, by omega, by go_num, HD.out.step HU2.out (fun g hg e => HNV.out (by unfold One at e; rw [hg, e])) (fun t ht e => HNB.out t ht e) (fun q2 hq2 e => by have := HWQ.out; unfold One at e; omega), _, (HB.out.1.set j cc c8).set j x xs, by rw [List.length_set, List.length_set]; exact HB.out.2.1, fun u hu => by
              rw [getD_set _ _ _ _ (by rw [List.length_set, HB.out.2.1]; exact hlt2)]
              split
              · next e => rw [e, HV.out]
              · rw [getD_set _ _ _ _ (by rw [HB.out.2.1]; exact hlt2), if_neg (by assumption)]
                exact HB.out.2.2 u (by omega)⟩
            case measure => simp [intOf]; omega
          · have HV : Hid ((dat L z i).getD j 0 = cc) := by
              show _ = _
              unfold dat
              rw [tab_at _ _ _ hlt2, HIL.out, if_neg (by rw [HZ.out.len]; exact hlt3), HCC.out]
            have i4 : ¬ (iL : Int) + (j : Int) < (n : Int) := by omega
            go_wp2
            go_roundw
            case rel => exact ⟨j + 1, by omega, by go_num, HD.out.step HS1.out (fun g hg e => HNV.out (by unfold One at e; rw [hg, e])) (fun t ht e => HNB.out t ht e) (fun q2 hq2 e => by have := HWQ.out; unfold One at e; omega), _, HB.out.1.set j cc c8, by rw [List.length_set]; exact HB.out.2.1, fun u hu => by
              rw [getD_set _ _ _ _ (by rw [HB.out.2.1]; exact hlt2)]
              split
              · next e => rw [e, HV.out]
              · exact HB.out.2.2 u (by omega)⟩
            case measure => simp [intOf]; omega
        · obtain rfl : L = j := by omega
          have hyd : y = dat L z i := ext_getD (by rw [HB.out.2.1, dat_length]) fun u hu => HB.out.2.2 u (by rw [HB.out.2.1] at hu; exact hu)
          have HBL : Hid (Blk wr q (dat L z i)) := by show Blk wr q _; rw [← hyd]; exact HB.out.1
          have HLL : Hid ((lnV i L b).length + 1 ≤ 1000000) := by show _ ≤ _; rw [lnV_length]; omega
          clear hyd HB
          go_wp2_with (first
            | (at_builtin; refine wpList_append_vals Tryz.underlying34 info_sl rfl (by omega) rfl (.tmp 49) (.tmp 51) rfl w.heap.size u7 (lnV i L b) rfl (OwnV.alloc HD.out.own _) ⟨wr.heap.size, 0, none⟩ 1 1 [.slice (some ⟨q, 0, none⟩) L L] rfl (fun j u hj => by
                match j, hj with
                | 0, hj => cases hj; exact World.cell?_alloc_new wr _ _ 0) (fun u hu => by cases hu with | head => rfl | tail _ h => cases h) rfl HLL.out (by have := HD.out.up.size; simp; omega) ?_; intro v2 w2 G1 G2)
            | go_in)
          go_roundw
          case rel => exact ⟨i + 1, by omega, by go_num, fun t => if t = i then q else b t, by
            have hu : Up (fun x => some x = u7.ownBlock) (wr.alloc (.cells #[.slice (some ⟨q, 0, none⟩) L L] 22)) w2 := Up.ofg G2.out
            have ha := (Up.refl Nul wr).alloc (.cells #[.slice (some ⟨q, 0, none⟩) L L] 22)
            have hln : lnV (i + 1) L (fun t => if t = i then q else b t) = lnV i L b ++ [.slice (some ⟨q, 0, none⟩) L L] := by
              unfold lnV
              rw [List.range_succ, List.map_append]
              congr 1
              · exact List.map_congr_left fun t ht => by
                  have := List.mem_range.1 ht
                  simp only [if_neg (show ¬ t = i by omega)]
              · simp
            refine ⟨by rw [hln]; exact G1.out, fun t ht => ?_, fun t ht => ?_, fun s t hs ht e => ?_, ?_⟩
            · by_cases e : t = i
              · subst e
                simp only [if_true]
                exact (HBL.out.up ha id).up hu fun e => HNV.out e.symm
              · simp only [if_neg e]
                exact ((HD.out.rows t (by omega)).up ha id).up hu fun e2 => own_ne HD.out.own (HD.out.rows t (by omega)) e2.symm
            · by_cases e : t = i
              · subst e
                simp only [if_true]
                exact HWQ.out
              · simp only [if_neg e]
                exact HD.out.base t (by omega)
            · by_cases e1 : s = i
              · by_cases e2 : t = i
                · omega
                · simp only [if_pos e1, if_neg e2] at e
                  exact absurd e.symm (HNB.out t (by omega))
              · by_cases e2 : t = i
                · simp only [if_neg e1, if_pos e2] at e
                  exact absurd e (HNB.out s (by omega))
                · simp only [if_neg e1, if_neg e2] at e
                  exact HD.out.inj s t (by omega) (by omega) e
            · exact (HD.out.up.alloc _).grown G2.out fun x hx => OwnV.base HD.out.own x hx⟩
          case measure => simp [intOf]; omega
    · obtain rfl : k = i := by omega
      obtain ⟨g, capg, rfl, hel, hcg⟩ := HD.out.elim (F := F) k1
      have HE := hid (And.intro hel hcg)
      clear hel hcg
      go_wp2
      go_ret
      exact ⟨⟨g, capg, b, rfl, HE.out⟩, HD.out.up⟩

theorem bytes_below (w : World) (e : TypeId) (s : ByteArray) : Up Nul w (Lib.bytesWorld w e s) :=
  ⟨rfl, rfl, rfl, by rw [Lib.bytesWorld_size]; omega, fun k hk _ => Lib.bytesWorld_at_old w e s k hk⟩
theorem bytes_frozen (w : World) (e : TypeId) (s : ByteArray) (j : Nat) (hj : j < s.size) : (Lib.bytesWorld w e s).frozen? ⟨w.heap.size, j, none⟩ = false := by
  have hsz : s.size ≤ (Lib.bytesCells w e s).size := by
    unfold Lib.bytesCells
    rw [Array.size_append, Array.size_map]
    have : s.data.size = s.size := rfl
    omega
  simp only [World.frozen?, Lib.bytesWorld_at_new]
  simp
  omega
/-- A row that is turned byte by byte. -/
structure Trn (w : World) (q n : Nat) (y : List Nat) (wr : World) : Prop where
  row : Row wr q 0 y
  len : y.length = n
  frz : ∀ j, j < n → wr.frozen? ⟨q, j, none⟩ = false
  qw : w.heap.size ≤ q
  up : Up Nul w wr
theorem Trn.set {w wr : World} {q n : Nat} {y : List Nat} (h : Trn w q n y wr) {j v : Nat} (hj : j < n) (hv : v < 256) : Trn w q n (y.set j v) (wr.setCell ⟨q, j, none⟩ (.int .u8 v)) := by
  have hc := h.row.cells j (by rw [h.len]; exact hj)
  rw [Nat.zero_add] at hc
  refine ⟨⟨fun i hi => ?_, fun i => ?_⟩, by rw [List.length_set]; exact h.len, fun i hi => by rw [World.frozen?_setCell]; exact h.frz i hi, h.qw, h.up.setCell (p := ⟨q, j, none⟩) (.inl h.qw) _⟩
  · rw [List.length_set] at hi
    rw [Nat.zero_add, getD_set _ _ _ _ (by rw [h.len]; exact hj)]
    by_cases e : i = j
    · subst e
      rw [if_pos rfl]
      exact World.cell?_setCell_same _ _ _ hc
    · rw [if_neg e, World.cell?_setCell_other _ _ _ _ (by intro e2; have := congrArg Addr.off e2; simp at this; omega)]
      have := h.row.cells i hi
      rw [Nat.zero_add] at this
      exact this
  · rw [getD_set _ _ _ _ (by rw [h.len]; exact hj)]
    split
    · exact hv
    · exact h.row.small i
theorem Trn.drew {w wr : World} {q n : Nat} {y : List Nat} (h : Trn w q n y wr) : Trn w q n y wr.drew := ⟨⟨h.row.cells, h.row.small⟩, h.len, h.frz, h.qw, h.up.drew⟩
theorem Trn.start (w : World) (s : ByteArray) : Trn w w.heap.size s.size (nums s) (Lib.bytesWorld w 5 s) :=
  ⟨⟨fun i hi => by
    rw [nums_length] at hi
    rw [Nat.zero_add, Lib.bytesWorld_cell w _ s i hi]
    have hd : i < s.data.toList.length := by simpa using hi
    simp [nums, List.getD_eq_getElem?_getD, List.getElem?_map, List.getElem?_eq_getElem hd], nums_small s⟩, nums_length s, fun j hj => bytes_frozen w _ s j hj, Nat.le_refl _, bytes_below w _ s⟩

theorem acr_xor {k L j : Nat} {Z : List Nat} {D E : Nat → List Nat} (sD : ∀ i u, (D i).getD u 0 < 256) (sE : ∀ i u, (E i).getD u 0 < 256) :
    acrZ k L Z (fun i => tab L fun u => (D i).getD u 0 ^^^ (E i).getD u 0) j = tab L fun u => (acrZ k L Z D j).getD u 0 ^^^ (acrZ k L Z E j).getD u 0 := by
  refine tab_congr fun u hu => ?_
  rw [acrZ_at hu, acrZ_at hu, ← GfM.xs_xor]
  exact GfM.xs_congr fun s _ => by rw [tab_at _ _ _ hu, GfM.mul_xor _ (sD s u) (sE s u)]
theorem acr_turn {k L j q u : Nat} {Z : List Nat} {D D2 : Nat → List Nat} (hq : q < k) (hu : u < L) (h : ∀ s, s < k → s ≠ q → (D2 s).getD u 0 = (D s).getD u 0) (hne : (D2 q).getD u 0 ≠ (D q).getD u 0) (sD : ∀ i u, (D i).getD u 0 < 256) (s2 : ∀ i u, (D2 i).getD u 0 < 256)
    (hz : Z.getD (j * k + q) 0 ≠ 0) : acrZ k L Z D2 j ≠ acrZ k L Z D j := by
  intro e
  have e1 : (acrZ k L Z D2 j).getD u 0 = (acrZ k L Z D j).getD u 0 := by rw [e]
  rw [acrZ_at hu, acrZ_at hu] at e1
  have e2 : (GfM.xs k fun s => GfM.mul (Z.getD (j * k + s) 0) ((D2 s).getD u 0) ^^^ GfM.mul (Z.getD (j * k + s) 0) ((D s).getD u 0)) = 0 := by rw [GfM.xs_xor, e1, Nat.xor_self]
  rw [GfM.xs_one hq fun s hs hne2 => by rw [h s hs hne2, Nat.xor_self], ← GfM.mul_xor _ (s2 q u) (sD q u)] at e2
  exact hne (GfM.xor_eq_zero (GfM.mul_eq_zero hz e2))
theorem coef_pos {k r i j : Nat} {X Y : List Nat} (hi : i < k) (hj : j < r) (h : X.getD i 0 ≠ Y.getD j 0) : (coefZ k r X Y).getD (j * k + i) 0 ≠ 0 := by
  rw [coefZ_at hj hi]
  exact GfM.inv_pos (GfM.xor_ne fun e => h e.symm)
theorem md_pos {k r i j : Nat} {at_ : Int} (hi : i < k) (hj : j < r) (h : k + r ≤ 18) : (coefZ k r (mdX at_ k) (mdY at_ k r)).getD (j * k + i) 0 ≠ 0 :=
  coef_pos hi hj ((md_dst h).xy (mdX_length _ _) (mdY_length _ _ _) i j hi hj)
theorem Elim.fld {W w w' : World} {F gl n m : Nat} {b : Nat → Nat} {L : Nat → List Nat} (h : Elim W F gl n m b L w) (hF : F < W.heap.size) (u : Up (One F) w w') : Elim W F gl n m b L w' :=
  h.step u (fun e => by have := h.glo; unfold One at e; omega) (fun i hi e => by have := (h.own i hi).1; unfold One at e; omega) fun k _ e => e
theorem dataL {w0 w : World} {FS : List Nat} {F k L n cap : Nat} {a : Option Addr} {z : List Nat} (h : LS w0 FS w) (hF : F ∈ FS) (hz : SlN w0 a n z) (k1 : 1 ≤ k) (k14 : k ≤ 14) (L70 : L ≤ 70) :
    Calls Tryz.prog 8 #[.int .i64 k, .int .i64 L, .slice a n cap] w
      fun e w' => ∃ g capg b, e = .returned (.slice (some ⟨g, 0, none⟩) k capg) ∧ Elim w F g k L b (dat L z) w' ∧ k ≤ capg ∧ Up Nul w w' := by
  refine (data_any F k L n cap a z w (hz.up h.up fun _ _ => id) k1 k14 L70).mono ?_
  rintro e w' ⟨⟨g, capg, b, h1, h2, h3⟩, h4⟩
  exact ⟨g, capg, b, h1, h2, h3, h4⟩
theorem dataL8 {w0 w : World} {FS : List Nat} {F k n cap : Nat} {a : Option Addr} {z : List Nat} (h : LS w0 FS w) (hF : F ∈ FS) (hz : SlN w0 a n z) (k1 : 1 ≤ k) (k14 : k ≤ 14) :
    Calls Tryz.prog 8 #[.int .i64 k, .int .i64 8, .slice a n cap] w
      fun e w' => ∃ g capg b, e = .returned (.slice (some ⟨g, 0, none⟩) k capg) ∧ Elim w F g k 8 b (dat 8 z) w' ∧ k ≤ capg ∧ Up Nul w w' := dataL (L := 8) h hF hz k1 k14 (by omega)
theorem dataL9 {w0 w : World} {FS : List Nat} {F k n cap : Nat} {a : Option Addr} {z : List Nat} (h : LS w0 FS w) (hF : F ∈ FS) (hz : SlN w0 a n z) (k1 : 1 ≤ k) (k14 : k ≤ 14) :
    Calls Tryz.prog 8 #[.int .i64 k, .int .i64 9, .slice a n cap] w
      fun e w' => ∃ g capg b, e = .returned (.slice (some ⟨g, 0, none⟩) k capg) ∧ Elim w F g k 9 b (dat 9 z) w' ∧ k ≤ capg ∧ Up Nul w w' := dataL (L := 9) h hF hz k1 k14 (by omega)
/-- 'Encode' as the laws use it. -/
theorem encL {w0 w : World} {FS : List Nat} {c F k r pp pq sp sq g o cap L : Nat} {Z : List Nat} {R : Nat → List Nat} (h : LS w0 FS w) (hc : CD FS w c F k r pp pq sp sq Z) (hR : LL FS w g o k fun i => some (R i)) (hl : ∀ i, i < k → (R i).length = L) (hL : L ≤ 64) :
    Calls Tryz.prog 19 #[.pointer (some ⟨c, 0, none⟩), .slice (some ⟨g, o, none⟩) k cap] w
      fun e w' => ∃ gl b, e = .returned (.tuple #[.slice (some ⟨gl, 0, none⟩) r r, .int .i64 0]) ∧ Elim w F gl r L b (acrZ k L Z R) w' ∧ Nxt FS w w' ∧ Up (One F) w w' := by
  refine (enc_good FS w0 w c F k r pp pq sp sq Z g o cap L R h hc hR hl hL).mono ?_
  rintro e w' ⟨gl, b, h1, h2, h3⟩
  exact ⟨gl, b, h1, h2, h.one hc.par.F h2.up h3, h2.up⟩
theorem Elim.put {W w : World} {F gl n m : Nat} {b : Nat → Nat} {L : Nat → List Nat} (h : Elim W F gl n m b L w) {i : Nat} (hi : i < n) (j v : Nat) (hv : v < 256) : Elim W F gl n m b (updL L i ((L i).set j v)) (w.setCell ⟨b i, j, none⟩ (.int .u8 v)) :=
  h.turn hi ((h.rows i hi).set j v hv) (by rw [List.length_set]; exact h.lens i hi) ((Up.refl _ _).setCell (p := ⟨b i, j, none⟩) (.inr (show One (b i) (b i) from rfl)) _)
theorem blk_row {w : World} {q : Nat} {z : List Nat} (h : Blk w q z) : Row w q 0 z := by
  have hr := h.row 0 z.length (by omega)
  rwa [List.drop_zero, List.take_of_length_le (Nat.le_refl _)] at hr
theorem nums_row {z : List Nat} (h : ∀ i, z.getD i 0 < 256) : nums (strOf z) = z := nums_strOf h
theorem str_eq {y z : List Nat} (h : y = z) : (strOf y).toList == (strOf z).toList := by rw [h]; simp
theorem str_ne {y z : List Nat} (hy : ∀ i, y.getD i 0 < 256) (hz : ∀ i, z.getD i 0 < 256) (h : y ≠ z) : ((strOf y).toList == (strOf z).toList) = false := by
  rw [beq_eq_false_iff_ne]
  exact fun e => h (strOf_inj hy hz (bytes_inj e))

theorem info_str : (Tryz.prog.info? 9).map (fun i => (i.zero, i.size, i.bytes)) = some (some (.string ByteArray.empty), 1, 16) := by kernel_rfl
/-- Rows as strings. -/
def strV (n : Nat) (R : Nat → List Nat) : List Value := (List.range n).map fun i => Value.string (strOf (R i))
theorem strV_length (n : Nat) (R : Nat → List Nat) : (strV n R).length = n := by simp [strV]
theorem strV_at {n i : Nat} {R : Nat → List Nat} (h : i < n) : (strV n R)[i]? = some (.string (strOf (R i))) := by simp [strV, h]
theorem strV_next (n : Nat) (R : Nat → List Nat) : strV (n + 1) R = strV n R ++ [.string (strOf (R n))] := by simp [strV, List.range_succ]
set_option maxRecDepth 100000 in
set_option maxHeartbeats 800000 in
theorem strings_any (FS : List Nat) (w0 w : World) (g o n cap : Nat) (R : Nat → List Nat) (hs : LS w0 FS w) (hR : LL FS w g o n fun i => some (R i)) (hn : n ≤ 100) :
    Calls Tryz.prog 9 #[.slice (some ⟨g, o, none⟩) n cap] w fun e w' => ∃ v, e = .returned v ∧ OwnV 9 w.heap.size w' v (strV n R) ∧ Up Nul w w' := by
  have HS := hid (And.intro hs hR)
  clear hs hR
  go_enter Tryz.func9, Tryz.ntmps9
  go_wp2_with fail
  go_loopw [3, 4] (fun v i wr => ∃ t : Nat, t ≤ n ∧ i = .int .i64 t ∧ OwnV 9 w.heap.size wr v (strV t R) ∧ Up Nul w wr) (fun _ i _ => n - (intOf i).toNat)
  case atStart => exact ⟨0, by omega, rfl, OwnV.nil _ _ _, Up.refl _ _⟩
  case round =>
    obtain ⟨t, ht, rfl, ho, hu⟩ := hrel
    have HO := hid (And.intro ho hu)
    clear ho hu
    by_cases hlt : t < n
    · obtain ⟨b, so, cp, x1, r1⟩ := (HS.out.2.nxt (HS.out.1.nul HO.out.2)).at hlt rfl
      have z1 := conv_row (cap := cp) r1.row rfl
      have HL : Hid ((strV t R).length + 1 ≤ 1000000) := by show _ ≤ _; rw [strV_length]; omega
      generalize HLR : (R t).length = lr at x1 z1
      generalize HSR : strOf (R t) = sr at z1
      have i1 : (0 : Int) ≤ (t : Int) := by omega
      have i2 : (t : Int) < (n : Int) := by omega
      clear r1
      go_wp2_with (first
        | (at_builtin; refine wpList_append_vals Tryz.underlying36 info_str rfl (by omega) rfl (.tmp 11) (.tmp 17) rfl w.heap.size u3 (strV t R) rfl (OwnV.alloc HO.out.1 _) ⟨wr.heap.size, 0, none⟩ 1 1 [.string sr] rfl (fun j u hj => by
            match j, hj with
            | 0, hj => cases hj; exact World.cell?_alloc_new wr _ _ 0) (fun u hu => by cases hu with | head => rfl | tail _ h => cases h) rfl HL.out (by have := HO.out.2.size; simp; omega) ?_; intro v2 w2 G1 G2)
        | go_in)
      go_roundw
      case rel => exact ⟨t + 1, by omega, by go_num, by rw [strV_next, HSR]; exact G1.out, (HO.out.2.alloc _).grown G2.out fun q hq => OwnV.base HO.out.1 q hq⟩
      case measure => simp [intOf]; omega
    · obtain rfl : n = t := by omega
      go_wp2
      go_ret
      exact ⟨_, rfl, HO.out⟩
/-- Two rows of the same strings. -/
structure St2 (w : World) (g n : Nat) (R : Nat → List Nat) : Prop where
  cells : ∀ i, i < n → w.cell? ⟨g, i, none⟩ = some (.string (strOf (R i)))
  lt : g < w.heap.size
theorem St2.up {w w' : World} {g n : Nat} {R : Nat → List Nat} (h : St2 w g n R) (u : Up Nul w w') : St2 w' g n R :=
  ⟨fun i hi => (u.cell (p := ⟨g, i, none⟩) h.lt id).trans (h.cells i hi), Nat.lt_of_lt_of_le h.lt u.size⟩
theorem stringsL {w0 w : World} {FS : List Nat} {g o n cap : Nat} {R : Nat → List Nat} (hs : LS w0 FS w) (hR : LL FS w g o n fun i => some (R i)) (h1 : 1 ≤ n) (hn : n ≤ 100) :
    Calls Tryz.prog 9 #[.slice (some ⟨g, o, none⟩) n cap] w fun e w' => ∃ h c, e = .returned (.slice (some ⟨h, 0, none⟩) n c) ∧ St2 w' h n R ∧ Up Nul w w' := by
  refine (strings_any FS w0 w g o n cap R hs hR hn).mono ?_
  rintro e w' ⟨v, rfl, ho, u⟩
  obtain ⟨h, c, e, e1, e2, e3, _, _⟩ := OwnV.row ho (by rw [strV_length]; omega)
  rw [strV_length] at e
  exact ⟨h, c, by rw [e], ⟨fun i hi => e3 i _ (strV_at hi), e2⟩, u⟩
set_option maxHeartbeats 800000 in
theorem same_yes (g1 g2 n c1 c2 : Nat) (R : Nat → List Nat) (w : World) (h1 : St2 w g1 n R) (h2 : St2 w g2 n R) (hn : n ≤ 100) :
    Calls Tryz.prog 15 #[.slice (some ⟨g1, 0, none⟩) n c1, .slice (some ⟨g2, 0, none⟩) n c2] w fun e w' => e = .returned (.bool true) ∧ Up Nul w w' := by
  have HS := hid (And.intro h1 h2)
  clear h1 h2
  go_enter Tryz.func15, Tryz.ntmps15
  go_wp2_with fail
  go_loopw [5] (fun i wr => ∃ t : Nat, t ≤ n ∧ i = .int .i64 t ∧ Up Nul w wr) (fun i _ => n - (intOf i).toNat)
  case atStart => exact ⟨0, by omega, rfl, Up.refl _ _⟩
  case round =>
    obtain ⟨t, ht, rfl, hu⟩ := hrel
    have HU := hid hu
    clear hu
    by_cases hlt : t < n
    · have x1 := (HS.out.1.up HU.out).cells t hlt
      have x2 := (HS.out.2.up HU.out).cells t hlt
      have hqq : ((strOf (R t)).toList == (strOf (R t)).toList) = true := by simp
      generalize strOf (R t) = sr at x1 x2 hqq
      have i1 : (0 : Int) ≤ (t : Int) := by omega
      have i2 : (t : Int) < (n : Int) := by omega
      go_wp2_with fail
      go_region
      go_wp2
      go_roundw
      case rel => exact ⟨t + 1, by omega, by go_num, HU.out.drewN _⟩
      case measure => simp [intOf]; omega
    · obtain rfl : n = t := by omega
      go_wp2
      go_ret
      exact ⟨rfl, HU.out⟩
theorem whole_made2 {w w2 w3 w4 : World} {F gd gp k r L base : Nat} {bd bp : Nat → Nat} {D P : Nat → List Nat} {v : Value} (h1 : Elim w F gd k L bd D w3) (h2 : Elim w2 F gp r L bp P w3) (hlt : ∀ i, i < k → bd i < w2.heap.size) (u2 : Up (One F) w w2)
    (ho : OwnV 22 base w4 v (lnV k L bd ++ lnV r L bp)) (hb : w3.heap.size ≤ base) (u : Up Nul w3 w4) (hk : 1 ≤ k) :
    ∃ h cap, v = .slice (some ⟨h, 0, none⟩) (k + r) cap ∧ Elim w F h (k + r) L (two k bd bp) (two k D P) w4 ∧ k + r ≤ cap := by
  have hl : (lnV k L bd ++ lnV r L bp).length = k + r := by rw [List.length_append, lnV_length, lnV_length]
  obtain ⟨h, cap, e, hel⟩ := whole_made h1 h2 hlt u2 ho hb u hk
  obtain ⟨g, cap2, e2, _, _, _, _, e5⟩ := OwnV.row ho (by omega)
  rw [e, hl] at e2
  injection e2 with _ _ e3
  exact ⟨h, cap, e, hel, by omega⟩
theorem Tl_out1 {S : Nat → Option (List Nat)} {i : Nat} (hS : ∀ t, (S t).isSome = true) : ∀ n, (Tl (out1 S i) n).length = if i < n then n - 1 else n
  | 0 => by simp [Tl]
  | n + 1 => by
    have ih := Tl_out1 (i := i) hS n
    by_cases e : n = i
    · have h : out1 S i n = none := by unfold out1; rw [if_pos e]
      rw [Tl_none h, ih, if_neg (by omega), if_pos (by omega)]
      omega
    · obtain ⟨z, hz⟩ := Option.isSome_iff_exists.1 (hS n)
      have h : out1 S i n = some z := by unfold out1; rw [if_neg e, hz]
      rw [Tl_some h, List.length_append, ih]
      simp only [List.length_singleton]
      by_cases hi : i < n
      · rw [if_pos hi, if_pos (by omega)]; omega
      · rw [if_neg hi, if_neg (by omega)]
/-- The coefficient that a document's code names; nought outside. -/
def cfo (k r : Nat) (X Y : List Nat) (j i : Int) : Nat := if 0 ≤ j ∧ j < r ∧ 0 ≤ i ∧ i < k then GfM.inv (Y.getD j.toNat 0 ^^^ X.getD i.toNat 0) else 0
set_option maxRecDepth 100000 in
set_option maxHeartbeats 800000 in
theorem refCoef_raw (FS : List Nat) (gx ox cx gy oy cy k r : Nat) (X Y : List Nat) (w : World) (rX : LR FS w gx ox X) (rY : LR FS w gy oy Y) (lX : X.length = k) (lY : Y.length = r) (j i : Int) :
    Calls Tryz.prog 29 #[.agg #[.slice (some ⟨gx, ox, none⟩) k cx, .slice (some ⟨gy, oy, none⟩) r cy], .int .i64 j, .int .i64 i] w
      fun e w' => e = .returned (.int .u8 (cfo k r X Y j i : Nat)) ∧ Up Nul w w' := by
  have c0 : (w.alloc (.cells #[.slice (some ⟨gx, ox, none⟩) k cx, .slice (some ⟨gy, oy, none⟩) r cy] 26)).cell? ⟨w.heap.size, 0, none⟩ = some (.slice (some ⟨gx, ox, none⟩) k cx) := World.cell?_alloc_new w _ _ 0
  have c1 : (w.alloc (.cells #[.slice (some ⟨gx, ox, none⟩) k cx, .slice (some ⟨gy, oy, none⟩) r cy] 26)).cell? ⟨w.heap.size, 1, none⟩ = some (.slice (some ⟨gy, oy, none⟩) r cy) := World.cell?_alloc_new w _ _ 1
  have U := hid ((Up.refl Nul w).alloc (.cells #[.slice (some ⟨gx, ox, none⟩) k cx, .slice (some ⟨gy, oy, none⟩) r cy] 26))
  by_cases h1 : j < 0
  · have HE : Hid (cfo k r X Y j i = 0) := by show _ = _; unfold cfo; rw [if_neg (by omega)]
    rw [HE.out]
    go_enter Tryz.func29, Tryz.ntmps29
    go_wp2
    go_ret
    exact ⟨rfl, U.out⟩
  by_cases h2 : (r : Int) ≤ j
  · have HE : Hid (cfo k r X Y j i = 0) := by show _ = _; unfold cfo; rw [if_neg (by omega)]
    rw [HE.out]
    go_enter Tryz.func29, Tryz.ntmps29
    go_wp2
    go_ret
    exact ⟨rfl, U.out⟩
  by_cases h3 : i < 0
  · have HE : Hid (cfo k r X Y j i = 0) := by show _ = _; unfold cfo; rw [if_neg (by omega)]
    rw [HE.out]
    go_enter Tryz.func29, Tryz.ntmps29
    go_wp2
    go_ret
    exact ⟨rfl, U.out⟩
  by_cases h4 : (k : Int) ≤ i
  · have HE : Hid (cfo k r X Y j i = 0) := by show _ = _; unfold cfo; rw [if_neg (by omega)]
    rw [HE.out]
    go_enter Tryz.func29, Tryz.ntmps29
    go_wp2
    go_ret
    exact ⟨rfl, U.out⟩
  obtain ⟨J, rfl⟩ := Int.eq_ofNat_of_zero_le (show 0 ≤ j by omega)
  obtain ⟨I, rfl⟩ := Int.eq_ofNat_of_zero_le (show 0 ≤ i by omega)
  have HE : Hid (cfo k r X Y J I = GfM.inv (Y.getD J 0 ^^^ X.getD I 0)) := by show _ = _; unfold cfo; rw [if_pos (by omega)]; simp
  have x1 := (rX.row.up U.out rX.lt id).cells I (by omega)
  have y1 := (rY.row.up U.out rY.lt id).cells J (by omega)
  have sx := rX.row.small I
  have sy := rY.row.small J
  rw [HE.out]
  generalize X.getD I 0 = xi at *
  generalize Y.getD J 0 = yj at *
  have hxx := u8_xor_nat yj xi sy sx
  have HLT : Hid (yj ^^^ xi < 256) := GfM.xor_lt sy sx
  generalize yj ^^^ xi = v at *
  clear rX rY HE sx sy
  go_enter Tryz.func29, Tryz.ntmps29
  go_wp2_with fail
  generalize w.alloc (.cells #[.slice (some ⟨gx, ox, none⟩) k cx, .slice (some ⟨gy, oy, none⟩) r cy] 26) = wa at *
  generalize w.heap.size = q at *
  have d0 : wa.drew.cell? ⟨q, 0, none⟩ = some (.slice (some ⟨gx, ox, none⟩) k cx) := c0
  have d1 : wa.drew.cell? ⟨q, 1, none⟩ = some (.slice (some ⟨gy, oy, none⟩) r cy) := c1
  have d2 : wa.drew.cell? ⟨gx, ox + I, none⟩ = some (.int .u8 xi) := x1
  have d3 : wa.drew.cell? ⟨gy, oy + J, none⟩ = some (.int .u8 yj) := y1
  go_region_held3 (fun w' => w'.cell? ⟨q, 0, none⟩ = some (.slice (some ⟨gx, ox, none⟩) k cx) ∧ w'.cell? ⟨q, 1, none⟩ = some (.slice (some ⟨gy, oy, none⟩) r cy) ∧ w'.cell? ⟨gx, ox + I, none⟩ = some (.int .u8 xi) ∧ w'.cell? ⟨gy, oy + J, none⟩ = some (.int .u8 yj))
    (first | exact ⟨by assumption, by assumption, by assumption, by assumption⟩ | go_keep)
    ((go_at_call 51; (with_reducible refine (refInv_any _ _ HLT.out).mono ?_); rintro e w1 ⟨rfl, rfl⟩))
  go_wp2
  go_ret
  exact ⟨rfl, U.out.drew⟩

theorem OwnV.weak {T : TypeId} {b b' : Nat} {w : World} {v : Value} {xs : List Value} (h : OwnV T b w v xs) (hb : b' ≤ b) : OwnV T b' w v xs :=
  ⟨h.1, h.2.imp id fun ⟨g, cap, cur, h1, h2, h3⟩ => ⟨g, cap, cur, h1, Nat.le_trans hb h2, h3⟩⟩
theorem own_ne2 {T : TypeId} {base : Nat} {w : World} {v : Value} {xs : List Value} {q : Nat} {z : List Nat} (hT : T ≠ 5) (h : OwnV T base w v xs) (hb : Blk w q z) : v.ownBlock ≠ some q := by
  intro e
  rcases h.2 with ⟨e2, _⟩ | ⟨g, cap, cur, e2, _, h3, _⟩
  · subst e2; cases e
  · subst e2
    have : g = q := by simpa [Value.ownBlock] using e
    subst this
    rw [hb.heap] at h3
    injection h3 with h3
    injection h3 with _ h4
    exact hT h4.symm
/-- A parity under way, s data reckoned in. -/
def encP (k L : Nat) (Z : List Nat) (D : Nat → List Nat) (j s u : Nat) : Nat := GfM.xs s fun v => GfM.mul (Z.getD (j * k + v) 0) ((D v).getD u 0)
set_option maxRecDepth 100000 in
set_option maxHeartbeats 3200000 in
theorem refEnc_any (FS : List Nat) (w0 w : World) (gx cx gy cy g cap k r L : Nat) (X Y : List Nat) (D : Nat → List Nat) (hs : LS w0 FS w) (rX : LR FS w gx 0 X) (rY : LR FS w gy 0 Y) (lX : X.length = k) (lY : Y.length = r) (k1 : 1 ≤ k) (k14 : k ≤ 14) (r4 : r ≤ 4)
    (hD : St2 w g k D) (lD : ∀ i, i < k → (D i).length = L) (sD : ∀ i u, (D i).getD u 0 < 256) (hL : L ≤ 70) :
    Calls Tryz.prog 10 #[.agg #[.slice (some ⟨gx, 0, none⟩) k cx, .slice (some ⟨gy, 0, none⟩) r cy], .slice (some ⟨g, 0, none⟩) k cap] w
      fun e w' => ∃ v, e = .returned v ∧ OwnV 9 w.heap.size w' v (strV r (acrZ k L (coefZ k r X Y) D)) ∧ Up Nul w w' := by
  have c0 : (w.alloc (.cells #[.slice (some ⟨gx, 0, none⟩) k cx, .slice (some ⟨gy, 0, none⟩) r cy] 26)).cell? ⟨w.heap.size, 0, none⟩ = some (.slice (some ⟨gx, 0, none⟩) k cx) := World.cell?_alloc_new w _ _ 0
  have c1 : (w.alloc (.cells #[.slice (some ⟨gx, 0, none⟩) k cx, .slice (some ⟨gy, 0, none⟩) r cy] 26)).cell? ⟨w.heap.size, 1, none⟩ = some (.slice (some ⟨gy, 0, none⟩) r cy) := World.cell?_alloc_new w _ _ 1
  have U := (Up.refl Nul w).alloc (.cells #[.slice (some ⟨gx, 0, none⟩) k cx, .slice (some ⟨gy, 0, none⟩) r cy] 26)
  have HW := hid (And.intro (And.intro c0 c1) (And.intro U (show w.heap.size < _ by simp : w.heap.size < (w.alloc (.cells #[.slice (some ⟨gx, 0, none⟩) k cx, .slice (some ⟨gy, 0, none⟩) r cy] 26)).heap.size)))
  have HS := hid (And.intro hs (And.intro (And.intro rX rY) (And.intro (And.intro lX lY) (And.intro hD (And.intro lD sD)))))
  clear hs rX rY lX lY hD lD sD U
  go_enter Tryz.func10, Tryz.ntmps10
  go_wp2_with fail
  generalize w.alloc (.cells #[.slice (some ⟨gx, 0, none⟩) k cx, .slice (some ⟨gy, 0, none⟩) r cy] 26) = W0 at *
  obtain ⟨V, HV⟩ : ∃ q, Hid (w.heap.size = q) := ⟨_, rfl⟩
  clear c0 c1
  rw [HV.out] at HW
  try rw [HV.out]
  go_loopw [5, 6] (fun v i wr => ∃ t : Nat, t ≤ r ∧ i = .int .i64 t ∧ OwnV 9 W0.heap.size wr v (strV t (acrZ k L (coefZ k r X Y) D)) ∧ Up Nul W0 wr) (fun _ i _ => r - (intOf i).toNat)
  case atStart => exact ⟨0, by omega, rfl, OwnV.nil _ _ _, Up.refl _ _⟩
  case round =>
    obtain ⟨j, hj, rfl, ho, hu⟩ := hrel
    have HO := hid (And.intro ho hu)
    clear ho hu
    have d1 := (HO.out.2.cell (p := ⟨V, 1, none⟩) HW.out.2.2 id).trans HW.out.1.2
    by_cases hlt : j < r
    · have HU1 := hid (HW.out.2.1.trans HO.out.2)
      have s0 := (HS.out.2.2.2.1.up HU1.out).cells 0 (by omega)
      have z0 : (strOf (D 0)).size = L := by rw [strOf_size]; exact HS.out.2.2.2.2.1 0 (by omega)
      generalize strOf (D 0) = str0 at s0 z0
      have hmk := make_bytes wr L (by omega)
      have i1 : (j : Int) < (r : Int) := by omega
      have i0 : (0 : Int) < (k : Int) := by omega
      go_wp2_with fail
      have HB := hid (And.intro (HO.out.1.alloc (.cells (bys (zer L)) 5)) (And.intro (HO.out.2.alloc (.cells (bys (zer L)) 5)) (Blk.new wr _ (zer_small L))))
      have HQW : Hid (W0.heap.size ≤ wr.heap.size) := HO.out.2.size
      clear hmk HU1 s0 z0 d1 HO
      generalize wr.alloc (.cells (bys (zer L)) 5) = wa at *
      generalize wr.heap.size = q at *
      clear wr
      go_loopw [8] (fun i wx => ∃ s : Nat, s ≤ k ∧ i = .int .i64 s ∧ OwnV 9 W0.heap.size wx u5 (strV j (acrZ k L (coefZ k r X Y) D)) ∧ Up Nul W0 wx ∧ ∃ y, Blk wx q y ∧ y.length = L ∧ ∀ u, u < L → y.getD u 0 = encP k L (coefZ k r X Y) D j s u) (fun i _ => k - (intOf i).toNat)
      case atStart => exact ⟨0, by omega, rfl, HB.out.1, HB.out.2.1, _, HB.out.2.2, zer_length _, fun u hu => by
        show (zer L).getD u 0 = 0
        simp [zer, List.getD_eq_getElem?_getD, hu]⟩
      case round =>
        clear HB
        obtain ⟨s, hsk, rfl, ho, hu, y, hb, hl, hy⟩ := hrel
        have HB := hid (And.intro (And.intro ho hu) (And.intro hb (And.intro hl hy)))
        clear ho hu hb hl hy
        have d0 := (HB.out.1.2.cell (p := ⟨V, 0, none⟩) HW.out.2.2 id).trans HW.out.1.1
        have d1 := (HB.out.1.2.cell (p := ⟨V, 1, none⟩) HW.out.2.2 id).trans HW.out.1.2
        by_cases hlt2 : s < k
        · have HU1 := hid (HW.out.2.1.trans HB.out.1.2)
          have i2 : (s : Int) < (k : Int) := by omega
          go_wp2_with fail
          refine (refCoef_raw FS gx 0 cx gy 0 cy k r X Y _ (HS.out.2.1.1.nxt (HS.out.1.nul HU1.out)) (HS.out.2.1.2.nxt (HS.out.1.nul HU1.out)) HS.out.2.2.1.1 HS.out.2.2.1.2 j s).mono ?_
          rintro e w1 ⟨rfl, u1⟩
          have HC : Hid (cfo k r X Y j s = (coefZ k r X Y).getD (j * k + s) 0) := by
            show _ = _
            unfold cfo
            rw [if_pos (by omega), coefZ_at hlt hlt2]
            simp
          rw [HC.out]
          obtain ⟨v, VV⟩ : ∃ v, Hid ((coefZ k r X Y).getD (j * k + s) 0 = v) := ⟨_, rfl⟩
          have v8 : v < 256 := by rw [← VV.out, coefZ_at hlt hlt2]; exact GfM.inv_lt _
          rw [VV.out]
          have HB1 := hid (And.intro (And.intro (OwnV.up HB.out.1.1 u1 fun _ _ _ => id) (HB.out.1.2.trans u1)) (And.intro (HB.out.2.1.up u1 id) HB.out.2.2))
          have s1 := fun (W : World) (h : Up Nul W0 W) => hid ((HS.out.2.2.2.1.up (HW.out.2.1.trans h)).cells s hlt2)
          have z1 : (strOf (D s)).size = L := by rw [strOf_size]; exact HS.out.2.2.2.2.1 s hlt2
          have HNA : Hid (∀ u (h : u < (strOf (D s)).size), (strOf (D s))[u].toNat = (D s).getD u 0) := fun u h => by rw [← nums_at, nums_strOf (HS.out.2.2.2.2.2 s)]
          generalize strOf (D s) = str at s1 z1 HNA
          have HS1 := hid s1
          clear s1 d0 d1 HB HU1 u1 HC
          go_wp2_with fail
          go_loopw [10] (fun i wx => ∃ t : Nat, t ≤ L ∧ i = .int .i64 t ∧ OwnV 9 W0.heap.size wx u5 (strV j (acrZ k L (coefZ k r X Y) D)) ∧ Up Nul W0 wx ∧ ∃ y2, Blk wx q y2 ∧ y2.length = L ∧ ∀ u, u < L → y2.getD u 0 = if u < t then encP k L (coefZ k r X Y) D j (s + 1) u else encP k L (coefZ k r X Y) D j s u) (fun i _ => L - (intOf i).toNat)
          case atStart => exact ⟨0, by omega, rfl, HB1.out.1.1, HB1.out.1.2, y, HB1.out.2.1, HB1.out.2.2.1, fun u hu => by rw [if_neg (Nat.not_lt_zero _)]; exact HB1.out.2.2.2 u hu⟩
          case round =>
            clear HB1
            obtain ⟨t, ht, rfl, ho, hu, y2, hb, hl, hy⟩ := hrel
            have HB := hid (And.intro (And.intro ho hu) (And.intro hb (And.intro hl hy)))
            clear ho hu hb hl hy
            by_cases hlt3 : t < L
            · have x0 := HB.out.2.1.cell t (by rw [HB.out.2.2.1]; exact hlt3)
              have f0 := HB.out.2.1.froz t
              have s1 := (HS1.out _ HB.out.1.2).out
              have HV := hid (HB.out.2.2.2 t hlt3)
              rw [if_neg (Nat.lt_irrefl _)] at HV
              have x8 : y2.getD t 0 < 256 := by rw [HV.out]; exact GfM.xs_lt fun _ _ => GfM.mul_lt _ _
              obtain ⟨xx, XX⟩ : ∃ x, Hid (y2.getD t 0 = x) := ⟨_, rfl⟩
              rw [XX.out] at x0 x8
              have hlt4 : t < str.size := by omega
              have q2 := HNA.out t hlt4
              have p8 := HS.out.2.2.2.2.2 s t
              obtain ⟨p, PP⟩ : ∃ x, Hid ((D s).getD t 0 = x) := ⟨_, rfl⟩
              rw [PP.out] at q2 p8
              obtain ⟨mv, MV⟩ : ∃ x, Hid (GfM.mul v p = x) := ⟨_, rfl⟩
              have m8 : mv < 256 := by rw [← MV.out]; exact GfM.mul_lt _ _
              have hxx := u8_xor_nat xx mv x8 m8
              have HST : Hid (xx ^^^ mv = encP k L (coefZ k r X Y) D j (s + 1) t) := by
                show _ = _
                have e1 : encP k L (coefZ k r X Y) D j (s + 1) t = encP k L (coefZ k r X Y) D j s t ^^^ GfM.mul ((coefZ k r X Y).getD (j * k + s) 0) ((D s).getD t 0) := rfl
                rw [e1, VV.out, PP.out, MV.out, ← HV.out, XX.out]
              have j1 : (0 : Int) ≤ (t : Int) := by omega
              have j2 : (t : Int) < (L : Int) := by omega
              have j3 : (t : Int) < (str.size : Int) := by omega
              have k0 : (0 : Int) ≤ (s : Int) := by omega
              have k2 : (s : Int) < (k : Int) := by omega
              have v9 := v8
              have hu2 : Up (One q) wr (wr.setCell ⟨q, t, none⟩ (.int .u8 (xx ^^^ mv : Nat))).drew := ((Up.refl _ _).setCell (p := ⟨q, t, none⟩) (.inr (show One q q from rfl)) _).drew
              have HN : Hid (OwnV 9 W0.heap.size (wr.setCell ⟨q, t, none⟩ (.int .u8 (xx ^^^ mv : Nat))).drew u5 (strV j (acrZ k L (coefZ k r X Y) D)) ∧ Up Nul W0 (wr.setCell ⟨q, t, none⟩ (.int .u8 (xx ^^^ mv : Nat))).drew ∧ Blk (wr.setCell ⟨q, t, none⟩ (.int .u8 (xx ^^^ mv : Nat))).drew q (y2.set t (xx ^^^ mv))) :=
                ⟨OwnV.apart HB.out.1.1 hu2 (fun g hg e => own_ne2 (by decide) HB.out.1.1 HB.out.2.1 (by rw [hg]; exact congrArg some e)), (HB.out.1.2.setCell (p := ⟨q, t, none⟩) (.inl HQW.out) _).drew, (HB.out.2.1.set t _ (GfM.xor_lt x8 m8)).drew⟩
              clear hu2
              go_wp2_with fail
              go_region_with ((go_at_call 30; (with_reducible refine (refMul_any v p _ v9 p8).mono ?_); rintro e w5 ⟨rfl, rfl⟩; rw [MV.out]))
              all_goals
                go_wp2
                go_roundw
                case rel => exact ⟨t + 1, by omega, by go_num, HN.out.1, HN.out.2.1, y2.set t (xx ^^^ mv), HN.out.2.2, by rw [List.length_set]; exact HB.out.2.2.1, fun u hu => by
                  rw [getD_set _ _ _ _ (by rw [HB.out.2.2.1]; exact hlt3)]
                  by_cases e : u = t
                  · rw [if_pos e, if_pos (by omega), e]; exact HST.out
                  · rw [if_neg e, HB.out.2.2.2 u hu]
                    by_cases e2 : u < t
                    · rw [if_pos e2, if_pos (by omega)]
                    · rw [if_neg e2, if_neg (by omega)]⟩
                case measure => simp [intOf]; omega
            · obtain rfl : L = t := by omega
              go_wp2
              go_roundw
              case rel => exact ⟨s + 1, by omega, by go_num, HB.out.1.1, HB.out.1.2, y2, HB.out.2.1, HB.out.2.2.1, fun u hu => by rw [HB.out.2.2.2 u hu, if_pos hu]⟩
              case measure => simp [intOf]; omega
        · obtain rfl : k = s := by omega
          have hyd : y = acrZ k L (coefZ k r X Y) D j := by
            refine eq_tab HB.out.2.2.1 fun u hu => ?_
            rw [HB.out.2.2.2 u hu]
            rfl
          have z1 := conv_row (cap := L) (blk_row HB.out.2.1) HB.out.2.2.1
          have HL : Hid ((strV j (acrZ k L (coefZ k r X Y) D)).length + 1 ≤ 1000000) := by show _ ≤ _; rw [strV_length]; omega
          have HNV : Hid (strV (j + 1) (acrZ k L (coefZ k r X Y) D) = strV j (acrZ k L (coefZ k r X Y) D) ++ [.string (strOf y)]) := by show _ = _; rw [strV_next, hyd]
          generalize strOf y = sr at z1 HNV
          have HU1 := hid HB.out.1
          clear HB hyd
          go_wp2_with (first
            | (at_builtin; refine wpList_append_vals Tryz.underlying36 info_str rfl (by omega) rfl (.tmp 56) (.tmp 59) rfl W0.heap.size u5 _ rfl (OwnV.alloc HU1.out.1 _) ⟨wr.heap.size, 0, none⟩ 1 1 [.string sr] rfl (fun j u hj => by
                match j, hj with
                | 0, hj => cases hj; exact World.cell?_alloc_new wr _ _ 0) (fun u hu => by cases hu with | head => rfl | tail _ h => cases h) rfl HL.out (by have := HU1.out.2.size; simp; omega) ?_; intro v2 w2 G1 G2)
            | go_in)
          go_roundw
          case rel => exact ⟨j + 1, by omega, by go_num, by rw [HNV.out]; exact G1.out, (HU1.out.2.alloc _).grown G2.out fun q hq => OwnV.base HU1.out.1 q hq⟩
          case measure => simp [intOf]; omega
    · obtain rfl : r = j := by omega
      go_wp2
      go_ret
      exact ⟨_, rfl, HO.out.1.weak HW.out.2.1.size, HW.out.2.1.trans HO.out.2⟩

theorem SlN.lr {w0 w : World} {FS : List Nat} {a : Option Addr} {n : Nat} {z : List Nat} (h : SlN w0 a n z) (hs : LS w0 FS w) (hn : 1 ≤ n) : ∃ b o, a = some ⟨b, o, none⟩ ∧ LR FS w b o z := by
  rcases h.row with e | ⟨b, o, e, hb, r⟩
  · omega
  · exact ⟨b, o, e, r.up hs.up hb id, Nat.lt_of_lt_of_le hb hs.up.size, fun hm => by have := hs.own b hm; omega⟩
/-- Which codes may be. -/
def May (X Y : List Nat) : Prop := (1 ≤ X.length ∧ X.length ≤ 14) ∧ (1 ≤ Y.length ∧ Y.length ≤ 4) ∧ Dst (X ++ Y)
theorem cnew_raw {w0 w : World} {FS : List Nat} {F : Nat} {a1 a2 : Option Addr} {n1 c1 n2 c2 : Nat} {X Y : List Nat} (hs : LS w0 FS w) (hF : F ∈ FS) (hX : SlN w0 a1 n1 X) (hY : SlN w0 a2 n2 Y) :
    Calls Tryz.prog 6 #[.pointer (some ⟨F, 0, none⟩), .slice a1 n1 c1, .slice a2 n2 c2] w
      fun e w' => ((May X Y ∧ ∃ c, e = .returned (.tuple #[.pointer (some ⟨c, 0, none⟩), .int .i64 0])) ∨ (¬ May X Y ∧ e = .returned (.tuple #[.pointer none, .int .i64 1]))) ∧ Nxt FS w w' := by
  by_cases h : (n1 < 1 ∨ 14 < n1) ∨ (n2 < 1 ∨ 4 < n2)
  · refine (new_long F n1 c1 n2 c2 a1 a2 w h).mono ?_
    rintro e w' ⟨rfl, rfl⟩
    refine ⟨.inr ⟨fun hm => ?_, rfl⟩, hs.refl⟩
    have h1 := hm.1
    have h2 := hm.2.1
    rw [hX.len] at h1
    rw [hY.len] at h2
    omega
  · obtain ⟨b1, o1, rfl, r1⟩ := hX.lr hs (by omega)
    obtain ⟨b2, o2, rfl, r2⟩ := hY.lr hs (by omega)
    by_cases hd : Dst (X ++ Y)
    · refine (new_code FS w0 w F b1 o1 b2 o2 n1 n2 c1 c2 X Y hs hF r1 r2 hX.len hY.len (by omega) (by omega) (by omega) (by omega) hd).mono ?_
      rintro e w' ⟨c, pp, pq, sp, sq, rfl, _, n⟩
      exact ⟨.inl ⟨⟨by rw [hX.len]; omega, by rw [hY.len]; omega, hd⟩, c, rfl⟩, n⟩
    · refine (new_twice FS w0 w F b1 o1 b2 o2 n1 n2 c1 c2 X Y hs hF r1 r2 hX.len hY.len (by omega) (by omega) (by omega) (by omega) hd).mono ?_
      rintro e w' ⟨rfl, u⟩
      exact ⟨.inr ⟨fun hm => hd hm.2.2, rfl⟩, hs.nul u⟩
theorem tail_s (g n cap : Nat) (h1 : 1 ≤ n) : ∃ a : Option Addr, ∀ w : World, (Instr.slice 34 (.slice (some ⟨g, 0, none⟩) n cap) (some (.int .i64 1)) none none).run Tryz.prog w = .ok (.slice a (n - 1) (cap - 1)) w := by
  have h : (Tryz.prog.info? (Tryz.prog.elem 34)).map (·.size) = some 1 := by kernel_rfl
  obtain ⟨i, hi, hs⟩ := Option.map_eq_some_iff.1 h
  refine ⟨if cap = 1 then some ⟨g, 0, none⟩ else (some (⟨g, 0, none⟩ : Addr)).map (·.add (1 * 1)), fun w => ?_⟩
  rw [run_slice_l (P := Tryz.prog) (w := w) 34 (some ⟨g, 0, none⟩) n cap (by kernel_rfl) .i64 1 (by omega) (by omega)]
  simp [sizeOf, typeInfo, hi, hs, Result.andThen, sliced]
/-- The document's 'Encode' as the laws use it. -/
theorem refEncL {w0 w : World} {FS : List Nat} {gx cx gy cy g cap k r L : Nat} {X Y : List Nat} {D : Nat → List Nat} (hs : LS w0 FS w) (rX : LR FS w gx 0 X) (rY : LR FS w gy 0 Y) (lX : X.length = k) (lY : Y.length = r) (k1 : 1 ≤ k) (k14 : k ≤ 14) (r1 : 1 ≤ r) (r4 : r ≤ 4)
    (hD : St2 w g k D) (lD : ∀ i, i < k → (D i).length = L) (sD : ∀ i u, (D i).getD u 0 < 256) (hL : L ≤ 70) :
    Calls Tryz.prog 10 #[.agg #[.slice (some ⟨gx, 0, none⟩) k cx, .slice (some ⟨gy, 0, none⟩) r cy], .slice (some ⟨g, 0, none⟩) k cap] w
      fun e w' => ∃ h c, e = .returned (.slice (some ⟨h, 0, none⟩) r c) ∧ St2 w' h r (acrZ k L (coefZ k r X Y) D) ∧ Up Nul w w' := by
  refine (refEnc_any FS w0 w gx cx gy cy g cap k r L X Y D hs rX rY lX lY k1 k14 r4 hD lD sD hL).mono ?_
  rintro e w' ⟨v, rfl, ho, u⟩
  obtain ⟨h, c, e, e1, e2, e3, _, _⟩ := OwnV.row ho (by rw [strV_length]; omega)
  rw [strV_length] at e
  exact ⟨h, c, by rw [e], ⟨fun i hi => e3 i _ (strV_at hi), e2⟩, u⟩

/-- A row of its own, of one shard each two cells. -/
def OwnS (base : Nat) (w : World) (v : Value) (n : Nat) (ys : List Value) : Prop := w.ownsRow base 56 2 v n ys
theorem OwnS.nil (base : Nat) (w : World) : OwnS base w (.slice none 0 0) 0 [] := World.ownsRow_nil _ _ _ _
theorem OwnS.alloc {base n : Nat} {w : World} {v : Value} {ys : List Value} (h : OwnS base w v n ys) (o : Obj) : OwnS base (w.alloc o) v n ys := World.ownsRow.alloc h o
theorem OwnS.apart {S : Nat → Prop} {base n : Nat} {w w' : World} {v : Value} {xs : List Value} (h : OwnS base w v n xs) (u : Up S w w') (hs : ∀ g, v.ownBlock = some g → ¬ S g) : OwnS base w' v n xs := by
  refine ⟨h.1, ?_⟩
  rcases h.2 with hn | ⟨g, cap, cur, h1, h2, h3, h4⟩
  · exact .inl hn
  · exact .inr ⟨g, cap, cur, h1, h2, (u.block g (Array.getElem?_eq_some_iff.1 h3).1 (hs g (by rw [h1]; rfl))).trans h3, h4⟩
theorem OwnS.base {base n : Nat} {w : World} {v : Value} {xs : List Value} (h : OwnS base w v n xs) : ∀ k, v.ownBlock = some k → base ≤ k := fun k hk => (World.ownsRow.lt h k hk).1
theorem info_shard : ∃ i z, Tryz.prog.info? 56 = some i ∧ i.zero = some z ∧ i.size = 2 ∧ i.bytes ≤ 24 ∧ z.cells.size = 2 := by
  have h : (Tryz.prog.info? 56).map (fun i => (i.size, Nat.ble i.bytes 24, i.zero.map fun z => z.cells.size)) = some (2, true, some 2) := by kernel_rfl
  cases e : Tryz.prog.info? 56 with
  | none => rw [e] at h; cases h
  | some i =>
    rw [e] at h
    simp only [Option.map_some, Option.some.injEq, Prod.mk.injEq, Option.map_eq_some_iff] at h
    obtain ⟨h1, h2, z, h3, h4⟩ := h
    exact ⟨i, z, rfl, h3, h1, Nat.le_of_ble_eq_true h2, h4⟩
theorem two_cells {w : World} {ad : Addr} {x0 x1 : Value} (h0 : w.cell? ad = some x0) (h1 : w.cell? (ad.add 1) = some x1) : ∀ j u, [x0, x1][j]? = some u → w.cell? (ad.add j) = some u := fun j u hj => by
  match j, hj with
  | 0, hj => simp at hj; subst hj; simpa [Addr.add] using h0
  | 1, hj => simp at hj; subst hj; exact h1
theorem wp_append_shard {w : World} {o : Oper} {a : Act} {K : Act → World → Prop} {Q : Exit → Act → World → Prop} (s x : Operand)
    (ho : o.op = .call { callee := .builtin .append, args := #[s, x], argTypes := #[41, 41] }) (base n : Nat) (v : Value) (ys : List Value) (hs : a.eval s = v) (hown : OwnS base w v n ys)
    (bk : Nat) (cap : Nat) (x0 x1 : Value) (hx : a.eval x = .slice (some ⟨bk, 0, none⟩) 1 cap) (h0 : w.cell? ⟨bk, 0, none⟩ = some x0) (h1 : w.cell? ⟨bk, 1, none⟩ = some x1) (o0 : x0.oneCell' = true) (o1 : x1.oneCell' = true) (hl : n ≤ 1000000) (hbase : base ≤ w.heap.size)
    (h : ∀ v' w', Hid (OwnS base w' v' (n + 1) (ys ++ [x0, x1])) → Hid (w.grownBy w' v.ownBlock) → K (a.put o.dst v') w') : Oper.wp Tryz.prog o a w K Q := by
  obtain ⟨i0, z0, hi, hz, hz1, hz2, hz3⟩ := info_shard
  obtain ⟨v', w', hrun, g1, g2, _⟩ := run_append_own (P := Tryz.prog) w base 41 o.type 56 i0 z0 2 i0.bytes Tryz.underlying41 hi hz hz1 rfl hz3 (by decide) v n ys hown ⟨bk, 0, none⟩ 1 cap [x0, x1] rfl (two_cells h0 h1)
    (fun u hu => by
      cases hu with
      | head => exact o0
      | tail _ hu => cases hu with
        | head => exact o1
        | tail _ hu => cases hu) (by unfold maxLen; omega) (by
      have := Nat.mul_le_mul (show n + 1 ≤ 1000001 by omega) hz2
      omega) hbase
  unfold Oper.wp
  simp [execOp, ho, resolve, invoke, builtin, hs, hx, hrun, Result.andThen]
  exact h v' w' g1 g2
theorem wpList_append_shard {w : World} {ops : Array Oper} {rest : List Oper} {o : Oper} {a : Act} {Q : Exit → Act → World → Prop} (hgd : o.guard = none) (s x : Operand)
    (ho : o.op = .call { callee := .builtin .append, args := #[s, x], argTypes := #[41, 41] }) (base n : Nat) (v : Value) (ys : List Value) (hs : a.eval s = v) (hown : OwnS base w v n ys)
    (bk : Nat) (cap : Nat) (x0 x1 : Value) (hx : a.eval x = .slice (some ⟨bk, 0, none⟩) 1 cap) (h0 : w.cell? ⟨bk, 0, none⟩ = some x0) (h1 : w.cell? ⟨bk, 1, none⟩ = some x1) (o0 : x0.oneCell' = true) (o1 : x1.oneCell' = true) (hl : n ≤ 1000000) (hbase : base ≤ w.heap.size)
    (h : ∀ v' w', Hid (OwnS base w' v' (n + 1) (ys ++ [x0, x1])) → Hid (w.grownBy w' v.ownBlock) → wpList Tryz.prog ops Q rest (a.put o.dst v') w') : wpList Tryz.prog ops Q (o :: rest) a w :=
  wpList_plain hgd fun _ hK => wp_append_shard s x ho base n v ys hs hown bk cap x0 x1 hx h0 h1 o0 o1 hl hbase fun v' w' g1 g2 => hK _ _ (h v' w' g1 g2)
theorem step_append_shard {w : World} {ops : Array Oper} {o : Oper} {a : Act} {K : Act → World → Prop} {Q : Exit → Act → World → Prop} {E : Prop} (hgd : o.guard = none) (s x : Operand)
    (ho : o.op = .call { callee := .builtin .append, args := #[s, x], argTypes := #[41, 41] }) (base n : Nat) (v : Value) (ys : List Value) (hs : a.eval s = v) (hown : OwnS base w v n ys)
    (bk : Nat) (cap : Nat) (x0 x1 : Value) (hx : a.eval x = .slice (some ⟨bk, 0, none⟩) 1 cap) (h0 : w.cell? ⟨bk, 0, none⟩ = some x0) (h1 : w.cell? ⟨bk, 1, none⟩ = some x1) (o0 : x0.oneCell' = true) (o1 : x1.oneCell' = true) (hl : n ≤ 1000000) (hbase : base ≤ w.heap.size)
    (h : ∀ v' w', Hid (OwnS base w' v' (n + 1) (ys ++ [x0, x1])) → Hid (w.grownBy w' v.ownBlock) → K (a.put o.dst v') w') : if Region.wanted o (yielded ops a.tmps) = true then Oper.wp Tryz.prog o a w K Q else E := by
  have hw : Region.wanted o (yielded ops a.tmps) = true := by simp [Region.wanted, hgd]
  rw [if_pos hw]
  exact wp_append_shard s x ho base n v ys hs hown bk cap x0 x1 hx h0 h1 o0 o1 hl hbase h
/-- append(a, one slice), at a step of a region that draws. -/
theorem step_append_one {w : World} {ops : Array Oper} {o : Oper} {a : Act} {K : Act → World → Prop} {Q : Exit → Act → World → Prop} {E : Prop} (hgd : o.guard = none) (s x : Operand)
    (ho : o.op = .call { callee := .builtin .append, args := #[s, x], argTypes := #[34, 34] }) (base : Nat) (v : Value) (xs : List Value) (hs : a.eval s = v) (hown : OwnV 22 base w v xs)
    (ad : Addr) (cap : Nat) (y : Value) (hx : a.eval x = .slice (some ad) 1 cap) (hc : w.cell? ad = some y) (h1 : y.oneCell' = true) (hl : xs.length + 1 ≤ 1000000) (hbase : base ≤ w.heap.size)
    (h : ∀ v' w', Hid (OwnV 22 base w' v' (xs ++ [y])) → Hid (w.grownBy w' v.ownBlock) → K (a.put o.dst v') w') : if Region.wanted o (yielded ops a.tmps) = true then Oper.wp Tryz.prog o a w K Q else E := by
  have hw : Region.wanted o (yielded ops a.tmps) = true := by simp [Region.wanted, hgd]
  rw [if_pos hw]
  obtain ⟨i0, hi, hz0, hz2, hz3⟩ := info_parts info_sl
  obtain ⟨v', w', hrun, g1, g2, _⟩ := run_append_own (P := Tryz.prog) w base 34 o.type 22 i0 _ 1 24 Tryz.underlying34 hi hz0 hz2 hz3 rfl (by decide) v xs.length xs hown ad 1 cap [y] rfl
    (fun j u hj => by
      match j, hj with
      | 0, hj => simp at hj; subst hj; simpa [Addr.add] using hc)
    (fun u hu => by
      cases hu with
      | head => exact h1
      | tail _ hu => cases hu) (by unfold maxLen; omega) (by omega) hbase
  unfold Oper.wp
  simp [execOp, ho, resolve, invoke, builtin, hs, hx, hrun, Result.andThen]
  refine h v' w' ?_ g2
  show w'.ownsRow base _ 1 v' (xs ++ [y]).length (xs ++ [y])
  rw [List.length_append]
  exact g1
/-- append(s, y...) of bytes onto a slice that is there, at a step of a region that draws. -/
theorem step_append_there {w : World} {ops : Array Oper} {o : Oper} {a : Act} {K : Act → World → Prop} {Q : Exit → Act → World → Prop} {E : Prop} (hgd : o.guard = none) (s x : Operand)
    (ho : o.op = .call { callee := .builtin .append, args := #[s, x], argTypes := #[22, 22] }) (base : Nat) (v : Value) (z : List Nat) (hs : a.eval s = v) (hown : OwnB base w v z) (hv : v ≠ .slice none 0 0)
    (b so n cap : Nat) (y : List Nat) (hx : a.eval x = .slice (some ⟨b, so, none⟩) n cap) (hr : Row w b so y) (hy : y.length = n) (hl : z.length + n ≤ 1000000) (hbase : base ≤ w.heap.size)
    (h : ∀ v' w', Hid (OwnB base w' v' (z ++ y) ∧ v' ≠ .slice none 0 0) → Hid (w.grownBy w' v.ownBlock) → K (a.put o.dst v') w') : if Region.wanted o (yielded ops a.tmps) = true then Oper.wp Tryz.prog o a w K Q else E := by
  have hw : Region.wanted o (yielded ops a.tmps) = true := by simp [Region.wanted, hgd]
  rw [if_pos hw]
  obtain ⟨i0, hi, hz0, hz1, hz2⟩ := info_parts info_u8
  obtain ⟨v', w', hrun, h1, h2, h3⟩ := run_append_own (P := Tryz.prog) w base 22 o.type 5 i0 (.int .u8 0) 1 1 Tryz.underlying22 hi hz0 hz1 hz2 rfl (by decide) v z.length _ hown.own ⟨b, so, none⟩ n cap (y.map fun (n : Nat) => Value.int .u8 (n : Int)) (by simp [hy])
    (by
      intro j u hu
      rw [List.getElem?_map] at hu
      have hj : j < y.length := by
        rcases Nat.lt_or_ge j y.length with h | h
        · exact h
        · rw [List.getElem?_eq_none h] at hu; cases hu
      rw [List.getElem?_eq_getElem hj] at hu
      have hc := hr.cells j hj
      rw [List.getD_eq_getElem?_getD, List.getElem?_eq_getElem hj] at hc
      have ea : Addr.add ⟨b, so, none⟩ j = ⟨b, so + j, none⟩ := by
        by_cases h0 : j = 0
        · subst h0; simp [Addr.add]
        · simp [Addr.add, h0]
      rw [ea, hc]
      exact hu)
    (by
      intro u hu
      obtain ⟨k, _, rfl⟩ := List.mem_map.1 hu
      rfl) (by unfold maxLen; omega) (by omega) hbase
  unfold Oper.wp
  simp [execOp, ho, resolve, invoke, builtin, hs, hx, hrun, Result.andThen]
  refine h v' w' ⟨⟨by rw [List.length_append, List.map_append, hy]; exact h1, fun x hx => ?_⟩, fun e => hv (h3.1 e).1⟩ h2
  rcases List.mem_append.1 hx with hx | hx
  · exact hown.small x hx
  · obtain ⟨i, hi, rfl⟩ := List.mem_iff_getElem.1 hx
    have := hr.small i
    rwa [List.getD_eq_getElem?_getD, List.getElem?_eq_getElem hi] at this
/-- A shard's own block of bytes, its row at the beginning. -/
structure Pc (w : World) (b : Nat) (z : List Nat) : Prop where
  heap : ∃ cur, w.heap[b]? = some (.cells cur 5 (0, 0))
  row : Row w b 0 z
theorem Pc.lt {w : World} {b : Nat} {z : List Nat} (h : Pc w b z) : b < w.heap.size := by
  obtain ⟨cur, h⟩ := h.heap
  exact (Array.getElem?_eq_some_iff.1 h).1
theorem Pc.up {S : Nat → Prop} {w w' : World} {b : Nat} {z : List Nat} (h : Pc w b z) (u : Up S w w') (hs : ¬ S b) : Pc w' b z := by
  refine ⟨?_, h.row.up u h.lt hs⟩
  obtain ⟨cur, e⟩ := h.heap
  exact ⟨cur, (u.block b h.lt hs).trans e⟩
theorem OwnB.pc {base : Nat} {w : World} {v : Value} {z : List Nat} (h : OwnB base w v z) (hv : v ≠ .slice none 0 0) : ∃ g cap, v = .slice (some ⟨g, 0, none⟩) z.length cap ∧ base ≤ g ∧ Pc w g z := by
  rcases h.own.2 with ⟨e, _⟩ | ⟨g, cap, cur, h1, h2, h3, h4, h5, h6, h7⟩
  · exact absurd e hv
  · refine ⟨g, cap, h1, h2, ⟨cur, h3⟩, ⟨fun i hi => ?_, fun i => small_getD h.small i⟩⟩
    have hc : cur[i]? = some (.int .u8 (z.getD i 0)) := by
      have e : (cur.toList.take (z.length * 1))[i]? = some (.int .u8 (z.getD i 0)) := by
        rw [h7, List.getElem?_map, List.getElem?_eq_getElem hi]
        simp [List.getD_eq_getElem?_getD, List.getElem?_eq_getElem hi]
      rw [List.getElem?_take, if_pos (by omega)] at e
      simpa using e
    simp only [World.cell?, h3, Nat.zero_add]
    exact hc
theorem OwnV.ne_pc {base : Nat} {w : World} {v : Value} {xs : List Value} {b : Nat} {z : List Nat} (h : OwnV 22 base w v xs) (hb : Pc w b z) : v.ownBlock ≠ some b := by
  intro e
  obtain ⟨cur2, hc⟩ := hb.heap
  rcases h.2 with ⟨e2, _⟩ | ⟨g, cap, cur, e2, _, h3, _⟩
  · subst e2; cases e
  · subst e2
    have : g = b := by simpa [Value.ownBlock] using e
    subst this
    rw [hc] at h3
    cases h3
end Go.Proofs.YtkenfabnbmkhbaaGreat
