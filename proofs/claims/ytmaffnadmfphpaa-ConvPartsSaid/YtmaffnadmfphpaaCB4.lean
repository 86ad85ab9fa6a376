/- Part 4 of what the walks rest on: CodeNew, CodeMake, CodeMade, CodeCoef, CodeMakesParts. -/
import Derived.Test.YtmaffnadmfphpaaCB3
namespace Go.Proofs.Ytmaffnadmfphpaa
open Go.RowKit
set_option linter.unusedVariables false

set_option maxRecDepth 1000000 in
set_option maxHeartbeats 2000000 in
theorem count_any (b n c b2 d x : Nat) (z : List Nat) (w : World) (r : Row w b 0 z) (hl : z.length = n) (hz : ∀ y ∈ z, y < 256) (hx : x < 256) (hc2 : w.cell? ⟨b2, 0, none⟩ = some (.int .u8 x)) :
    Calls Try.prog 17 #[.slice (some ⟨b, 0, none⟩) n c, .slice (some ⟨b2, 0, none⟩) 1 d] w fun e w' => e = .returned (.int .i64 (z.count x : Nat)) ∧ w' = w := by
  have hc : ∀ i, i < n → w.cell? ⟨b, 0 + i, none⟩ = some (.int .u8 ((z.map fun (n : Nat) => (n : Int)).getD i 0)) := fun i hi => by
    have := r.cells i (by omega)
    rw [this]
    simp [List.getD_eq_getElem?_getD, List.getElem?_eq_getElem (show i < z.length by omega)]
  go_enter Try.func17, Try.ntmps17
  go_wp2
  rw [run_callFunc_extern Try.func26 (by kernel_rfl) (by kernel_rfl) (by kernel_rfl) (e := Extern.BytealgCount.count) (by kernel_rfl), Lib.run_countSlice w b 0 n c _ (by simp [hl]) hc x, count_bytes hz hx]
  simp only [Result.andThen]
  rw [Oper.upon_value]
  go_wp2
  go_ret
  exact ⟨rfl, rfl⟩
theorem out_no (n cap m : Nat) (a : Option Addr) (w : World) (h1 : 1 ≤ n) (h2 : n ≤ m) :
    Calls Try.prog 14 #[.slice a n cap, .int .i64 m] w fun e w' => e = .returned (.bool false) ∧ w' = w := by
  have e1 : ¬ (n : Int) < 1 := by omega
  have e2 : ¬ (m : Int) < (n : Int) := by omega
  go_enter Try.func14, Try.ntmps14
  go_wp2
  go_ret
  exact ⟨rfl, rfl⟩
theorem new_nil2 (xs ys : Value) (w : World) :
    Calls Try.prog 10 #[.pointer none, xs, ys] w fun e w' => e = .returned (.tuple #[.pointer none, .int .i64 1]) ∧ w' = w := by
  go_enter Try.func10, Try.ntmps10
  go_wp2
  go_ret2
  exact ⟨rfl, rfl⟩
theorem twice_any (A g n cap x : Nat) (z : List Nat) (w : World) (hA : w.cell? ⟨A, 0, none⟩ = some (.slice (some ⟨g, 0, none⟩) n cap)) (r : Row w g 0 z) (hg : g < w.heap.size) (hl : z.length = n) (hz : ∀ y ∈ z, y < 256) (hx : x < 256) :
    Calls Try.prog 16 #[.int .u8 x, .pointer (some ⟨A, 0, none⟩)] w fun e w' => e = .returned (.bool (decide (1 < z.count x))) ∧ Up Nul w w' := by
  have HU := hid ((Up.refl Nul w).alloc (.cells #[.int .u8 x] 5))
  have HC := hid (count_any g n cap w.heap.size 1 x z _ (r.up HU.out hg id) hl hz hx (World.cell?_alloc_new w #[.int .u8 x] 5 0))
  clear r hl hz hg
  go_enter Try.func16, Try.ntmps16
  go_wp2_with fail
  refine HC.out.mono ?_
  rintro e w1 ⟨rfl, rfl⟩
  clear HC
  obtain ⟨m, HM⟩ : ∃ m, Hid (z.count x = m) := ⟨_, rfl⟩
  rw [HM.out]
  go_wp2
  go_ret
  exact ⟨by rw [HM.out]; simp; omega, HU.out⟩
set_option maxHeartbeats 400000 in
theorem indexT_any (A g n cap : Nat) (z : List Nat) (w : World) (hA : w.cell? ⟨A, 0, none⟩ = some (.slice (some ⟨g, 0, none⟩) n cap)) (hAl : A < w.heap.size) (r : Row w g 0 z) (hg : g < w.heap.size) (hl : z.length = n) (hz : ∀ y ∈ z, y < 256) (hn : n ≤ 1000) :
    Calls Try.prog 28 #[.slice (some ⟨g, 0, none⟩) n cap, .func (.func 16) #[] #[.pointer (some ⟨A, 0, none⟩)]] w
      fun e w' => (∃ x : Int, e = .returned (.int .i64 x) ∧ ((0 ≤ x ∧ ∃ i, i < n ∧ 1 < z.count (z.getD i 0)) ∨ (x < 0 ∧ ∀ i, i < n → ¬ 1 < z.count (z.getD i 0)))) ∧ Up Nul w w' := by
  have HR := hid (And.intro r (And.intro hg (And.intro hl (And.intro hz (And.intro hA hAl)))))
  clear r hg hl hz hA hAl
  go_enter Try.func28, Try.ntmps28
  go_wp2
  go_loopw [8] (fun i wr => ∃ k : Nat, k ≤ n ∧ i = .int .i64 k ∧ Up Nul w wr ∧ ∀ i, i < k → ¬ 1 < z.count (z.getD i 0)) (fun i _ => n - (intOf i).toNat)
  case atStart => exact ⟨0, by omega, rfl, Up.refl _ _, fun _ h => absurd h (Nat.not_lt_zero _)⟩
  case round =>
    obtain ⟨k, hk, rfl, hu, hg⟩ := hrel
    have HG := hid (And.intro hu hg)
    clear hu hg
    by_cases hlt : k < n
    · have hrow := HR.out.1.up HG.out.1 HR.out.2.1 id
      have hc := hrow.cells k (by rw [HR.out.2.2.1]; exact hlt)
      rw [Nat.zero_add] at hc
      have x8 := hrow.small k
      obtain ⟨x, X⟩ : ∃ x, Hid (z.getD k 0 = x) := ⟨_, rfl⟩
      rw [X.out] at hc x8
      have HT := hid (twice_any A g n cap x z wr ((HG.out.1.cell (p := ⟨A, 0, none⟩) HR.out.2.2.2.2.2 id).trans HR.out.2.2.2.2.1) hrow (Nat.lt_of_lt_of_le HR.out.2.1 HG.out.1.size) HR.out.2.2.1 HR.out.2.2.2.1 x8)
      have i1 : (0 : Int) ≤ (k : Int) := by omega
      have i2 : (k : Int) < (n : Int) := by omega
      clear hrow
      by_cases hb : 1 < z.count x
      · have HB := hid hb
        have ed : decide (1 < z.count x) = true := by simpa using hb
        rw [ed] at HT
        clear hb ed
        go_wp2_with fail
        refine HT.out.mono ?_
        rintro e w1 ⟨rfl, u1⟩
        have HU := hid (HG.out.1.trans u1)
        clear u1 HT
        go_wp2
        go_ret
        exact ⟨⟨_, rfl, .inl ⟨by omega, k, hlt, by rw [X.out]; exact HB.out⟩⟩, HU.out⟩
      · have HB := hid hb
        have ed : decide (1 < z.count x) = false := by simpa using hb
        rw [ed] at HT
        clear hb ed
        go_wp2_with fail
        refine HT.out.mono ?_
        rintro e w1 ⟨rfl, u1⟩
        have HU := hid (HG.out.1.trans u1)
        clear u1 HT
        go_wp2
        go_roundw
        case rel => exact ⟨k + 1, by omega, by go_num, HU.out, fun i hi => by
          by_cases e : i = k
          · rw [e, X.out]; exact HB.out
          · exact HG.out.2 i (by omega)⟩
        case measure => simp [intOf]; omega
    · obtain rfl : n = k := by omega
      go_wp2
      go_ret
      exact ⟨⟨_, rfl, .inr ⟨by omega, HG.out.2⟩⟩, HG.out.1⟩
theorem containsT_any (A g n cap : Nat) (z : List Nat) (w : World) (hA : w.cell? ⟨A, 0, none⟩ = some (.slice (some ⟨g, 0, none⟩) n cap)) (hAl : A < w.heap.size) (r : Row w g 0 z) (hg : g < w.heap.size) (hl : z.length = n) (hz : ∀ y ∈ z, y < 256) (hn : n ≤ 1000) :
    Calls Try.prog 18 #[.slice (some ⟨g, 0, none⟩) n cap, .func (.func 16) #[] #[.pointer (some ⟨A, 0, none⟩)]] w
      fun e w' => ((e = .returned (.bool true) ∧ ∃ i, i < n ∧ 1 < z.count (z.getD i 0)) ∨ (e = .returned (.bool false) ∧ ∀ i, i < n → ¬ 1 < z.count (z.getD i 0))) ∧ Up Nul w w' := by
  have H := hid (indexT_any A g n cap z w hA hAl r hg hl hz hn)
  clear hA hAl r hg hl hz hn
  go_enter Try.func18, Try.ntmps18
  go_wp2_with fail
  refine H.out.mono ?_
  rintro e w1 ⟨⟨x, rfl, ⟨h0, hb⟩ | ⟨h0, hb⟩⟩, hu⟩
  · have HB := hid (And.intro hb hu)
    clear hb hu
    go_wp2
    go_ret
    exact ⟨.inl ⟨by simp, HB.out.1⟩, HB.out.2⟩
  · have HB := hid (And.intro hb hu)
    have h1 : ¬ 0 ≤ x := by omega
    clear hb hu
    go_wp2
    go_ret
    exact ⟨.inr ⟨by simp [h1], HB.out.1⟩, HB.out.2⟩
/-- Inverses of the sums of Y and X, a row for each of Y. -/
def coefZ (k r : Nat) (X Y : List Nat) : List Nat := tab (r * k) fun t => GfM.inv (Y.getD (t / k) 0 ^^^ X.getD (t % k) 0)
theorem coefZ_at {k r i j : Nat} {X Y : List Nat} (hj : j < r) (hi : i < k) : (coefZ k r X Y).getD (j * k + i) 0 = GfM.inv (Y.getD j 0 ^^^ X.getD i 0) := by
  have hlt : j * k + i < r * k := by
    have := Nat.mul_le_mul_right k (show j + 1 ≤ r from hj)
    rw [Nat.add_mul] at this
    omega
  unfold coefZ
  rw [tab_at _ _ _ hlt, Nat.mul_comm j k, Nat.mul_add_mod, Nat.mod_eq_of_lt hi, Nat.mul_add_div (by omega), Nat.div_eq_of_lt hi, Nat.add_zero]
theorem Up.ofg {w w' : World} {row : Option Nat} (g : w.grownBy w' row) : Up (fun q => some q = row) w w' := ⟨g.os, g.tape, g.output, g.size, fun q hq hs => g.block q hq hs⟩
theorem tab_next (k : Nat) (f : Nat → Nat) : tab (k + 1) f = tab k f ++ [f k] := by simp [tab, List.range_succ]
set_option maxRecDepth 100000 in
set_option maxHeartbeats 800000 in
theorem inverses_any (FS : List Nat) (w0 w : World) (F bx ox by_ oy k r cx cy : Nat) (X Y : List Nat) (hs : LS w0 FS w) (hF : F ∈ FS) (hX : LR FS w bx ox X) (hY : LR FS w by_ oy Y) (lX : X.length = k) (lY : Y.length = r) (k14 : k ≤ 14) (r4 : r ≤ 4)
    (hne : ∀ i j, i < k → j < r → X.getD i 0 ≠ Y.getD j 0) :
    Calls Try.prog 20 #[.pointer (some ⟨F, 0, none⟩), .slice (some ⟨bx, ox, none⟩) k cx, .slice (some ⟨by_, oy, none⟩) r cy] w
      fun e w' => ∃ v, e = .returned v ∧ OwnB w.heap.size w' v (coefZ k r X Y) ∧ Up (One F) w w' ∧ Fld F w' := by
  have HS := hid (And.intro hs (And.intro hX hY))
  have HL := hid (And.intro lX (And.intro lY hne))
  have HFM := hid hF
  have HFW : Hid (F < w.heap.size) := (hs.fld F hF).lt
  have HF := hid (hs.fld F hF)
  clear hs hF hX hY lX lY hne
  go_enter Try.func20, Try.ntmps20
  go_wp2_with fail
  obtain ⟨G, HG⟩ : ∃ G : Nat → Nat, Hid (G = fun t => GfM.inv (Y.getD (t / k) 0 ^^^ X.getD (t % k) 0)) := ⟨_, rfl⟩
  go_loopw [7, 16] (fun v i wr => ∃ j : Nat, j ≤ r ∧ i = .int .i64 j ∧ OwnB w.heap.size wr v (tab (j * k) G) ∧ Up (One F) w wr ∧ Fld F wr) (fun _ i _ => r - (intOf i).toNat)
  case atStart => exact ⟨0, by omega, rfl, by rw [Nat.zero_mul]; exact OwnB.nil _ _, Up.refl _ _, HF.out⟩
  case round =>
    obtain ⟨j, hj, rfl, ho, hu, hf⟩ := hrel
    have HO := hid (And.intro ho (And.intro hu hf))
    clear ho hu hf
    by_cases hlt : j < r
    · have hrow := HS.out.2.2.row.up HO.out.2.1 HS.out.2.2.lt (fun e => HS.out.2.2.b (by unfold One at e; rw [e]; exact HFM.out))
      have hc := hrow.cells j (by rw [HL.out.2.1]; exact hlt)
      have y8 := hrow.small j
      obtain ⟨y, Y1⟩ : ∃ x, Hid (Y.getD j 0 = x) := ⟨_, rfl⟩
      rw [Y1.out] at hc y8
      have i1 : (0 : Int) ≤ (j : Int) := by omega
      have i2 : (j : Int) < (r : Int) := by omega
      clear hrow
      go_wp2_with fail
      clear hc
      go_loopw [7, 22] (fun v i wr => ∃ s : Nat, s ≤ k ∧ i = .int .i64 s ∧ OwnB w.heap.size wr v (tab (j * k + s) G) ∧ Up (One F) w wr ∧ Fld F wr) (fun _ i _ => k - (intOf i).toNat)
      case atStart => exact ⟨0, by omega, rfl, HO.out⟩
      case round =>
        clear HO
        obtain ⟨s, hs, rfl, ho, hu, hf⟩ := hrel
        have HO := hid (And.intro ho (And.intro hu hf))
        clear ho hu hf
        by_cases hlt2 : s < k
        · have hrow := HS.out.2.1.row.up HO.out.2.1 HS.out.2.1.lt (fun e => HS.out.2.1.b (by unfold One at e; rw [e]; exact HFM.out))
          have hc := hrow.cells s (by rw [HL.out.1]; exact hlt2)
          have x8 := hrow.small s
          have HNE := HL.out.2.2 s j hlt2 hlt
          rw [Y1.out] at HNE
          obtain ⟨x, X1⟩ : ∃ x, Hid (X.getD s 0 = x) := ⟨_, rfl⟩
          rw [X1.out] at hc x8 HNE
          have hxx := u8_xor_nat y x y8 x8
          have h0 : y ^^^ x ≠ 0 := fun e => HNE (GfM.xor_eq_zero e).symm
          have h8 : y ^^^ x < 256 := GfM.xor_lt y8 x8
          have HGV : Hid (G (j * k + s) = GfM.inv (y ^^^ x)) := by
            show _ = _
            rw [HG.out]
            show GfM.inv (Y.getD ((j * k + s) / k) 0 ^^^ X.getD ((j * k + s) % k) 0) = _
            rw [Nat.mul_comm j k, Nat.mul_add_mod, Nat.mod_eq_of_lt hlt2, Nat.mul_add_div (by omega), Nat.div_eq_of_lt hlt2, Nat.add_zero, Y1.out, X1.out]
          have HI := hid (inv_any F (y ^^^ x) wr HO.out.2.2 h0 h8)
          have v8 := GfM.inv_lt (y ^^^ x)
          generalize y ^^^ x = yx at *
          generalize GfM.inv yx = v at *
          have i3 : (0 : Int) ≤ (s : Int) := by omega
          have i4 : (s : Int) < (k : Int) := by omega
          clear hrow h0 h8 HNE
          go_wp2_with fail
          refine HI.out.mono ?_
          rintro e w1 ⟨rfl, k1⟩
          have HO1 : Hid (OwnB w.heap.size w1 u7 (tab (j * k + s) G) ∧ Up (One F) w w1 ∧ Fld F w1) := ⟨HO.out.1.up (Up.of_out k1.1) (fun q hq e => by have := HFW.out; unfold One at e; omega), HO.out.2.1.trans (Up.of_out k1.1), k1.2⟩
          clear k1 HI
          have HLN : Hid ((tab (j * k + s) G).length ≤ 1000000) := by
            show _ ≤ _
            rw [tab_length]
            have : j * k ≤ 4 * 14 := Nat.mul_le_mul (by omega) k14
            omega
          go_wp2_with (first
            | (at_builtin; refine wpList_append_byte rfl (.tmp 34) (.tmp 36) rfl w.heap.size _ (tab (j * k + s) G) rfl (HO1.out.1.alloc _) ⟨w1.heap.size, 0, none⟩ 1 v rfl (World.cell?_alloc_new w1 _ _ 0) v8 HLN.out (by have := HO1.out.2.1.size; simp; omega) ?_; intro v2 w2 H1 H2)
            | go_in)
          go_roundw
          case rel => exact ⟨s + 1, by omega, by go_num, by rw [← Nat.add_assoc, tab_next, HGV.out]; exact H1.out, (HO1.out.2.1.alloc _).grown H2.out (fun q hq => HO1.out.1.base q hq), (HO1.out.2.2.alloc _).up (Up.ofg H2.out) (fun e => by have := HO1.out.1.base F e.symm; have := HFW.out; omega)⟩
          case measure => simp [intOf]; omega
        · obtain rfl : k = s := by omega
          go_wp2
          go_roundw
          case rel => exact ⟨j + 1, by omega, by go_num, by rw [Nat.add_mul, Nat.one_mul]; exact HO.out.1, HO.out.2⟩
          case measure => simp [intOf]; omega
    · obtain rfl : r = j := by omega
      go_wp2
      go_ret
      have hg := HG.out
      subst hg
      exact ⟨_, rfl, HO.out.1, HO.out.2⟩

/-- Behind the rows laid one behind the other, in a cell of their own. -/
structure Boxd (FS : List Nat) (w : World) (A g n cap : Nat) (z : List Nat) : Prop where
  box : w.cell? ⟨A, 0, none⟩ = some (.slice (some ⟨g, 0, none⟩) n cap)
  lt : A < w.heap.size
  b : A ∉ FS
  row : Row w g 0 z
  gl : g < w.heap.size
  gb : g ∉ FS
theorem Boxd.nxt {FS : List Nat} {w w' : World} {A g n cap : Nat} {z : List Nat} (h : Boxd FS w A g n cap z) (m : Nxt FS w w') : Boxd FS w' A g n cap z :=
  ⟨(m.up.cell (p := ⟨A, 0, none⟩) h.lt h.b).trans h.box, Nat.lt_of_lt_of_le h.lt m.up.size, h.b, h.row.up m.up h.gl h.gb, Nat.lt_of_lt_of_le h.gl m.up.size, h.gb⟩
theorem cellsL2 {w0 w : World} {FS : List Nat} {p q F r c : Nat} {z : List Nat} (h : LS w0 FS w) (hm : LM FS w p q F r c z) :
    Calls Try.prog 22 #[.pointer (some ⟨p, 0, none⟩)] w fun e w' => ∃ g cap, e = .returned (.slice (some ⟨g, 0, none⟩) (r * c) cap) ∧ LR FS w' g 0 z ∧ Nxt FS w w' := by
  refine (cells_any p q F r c z w hm.mat).mono ?_
  rintro e w' ⟨g, cap, h1, h2, h3, h4, h5⟩
  exact ⟨g, cap, h1, ⟨h2, h4, h.lt h3⟩, h.nul h5⟩
theorem catL {w0 w : World} {FS : List Nat} {b1 b2 o1 o2 n1 n2 c1 c2 : Nat} {z1 z2 : List Nat} (h : LS w0 FS w) (h1 : LR FS w b1 o1 z1) (h2 : LR FS w b2 o2 z2) (l1 : z1.length = n1) (l2 : z2.length = n2) (n11 : 1 ≤ n1) (n12 : n1 ≤ 1024) (n22 : n2 ≤ 512) :
    Calls Try.prog 15 #[.slice (some ⟨w.heap.size, 0, none⟩) 2 2] (w.alloc (.cells #[.slice (some ⟨b1, o1, none⟩) n1 c1, .slice (some ⟨b2, o2, none⟩) n2 c2] 52))
      fun e w' => ∃ g cap, e = .returned (.slice (some ⟨g, 0, none⟩) (n1 + n2) cap) ∧ LR FS w' g 0 (z1 ++ z2) ∧ Nxt FS w w' := by
  have u := (Up.refl Nul w).alloc (.cells #[.slice (some ⟨b1, o1, none⟩) n1 c1, .slice (some ⟨b2, o2, none⟩) n2 c2] 52)
  refine (cat_b w.heap.size b1 b2 o1 o2 n1 n2 c1 c2 z1 z2 _ (World.cell?_alloc_new w _ _ 0) (World.cell?_alloc_new w _ _ 1) (h1.row.up u h1.lt id) (h2.row.up u h2.lt id) l1 l2 (Nat.lt_of_lt_of_le h1.lt u.size) (Nat.lt_of_lt_of_le h2.lt u.size) n11 n12 n22).mono ?_
  rintro e w' ⟨v, rfl, hown, u2⟩
  obtain ⟨g, cap, rfl, g1, g2, g3, _, _⟩ := hown.row (by rw [List.length_append]; omega)
  have hl : (z1 ++ z2).length = n1 + n2 := by rw [List.length_append, l1, l2]
  rw [hl]
  exact ⟨g, cap, rfl, ⟨g3, g2, h.lt (Nat.le_trans u.size g1)⟩, h.nul (u.trans u2)⟩
theorem inversesL (FS : List Nat) (w0 w : World) (F bx ox by_ oy k r cx cy : Nat) (X Y : List Nat) (hs : LS w0 FS w) (hF : F ∈ FS) (hX : LR FS w bx ox X) (hY : LR FS w by_ oy Y) (lX : X.length = k) (lY : Y.length = r) (k1 : 1 ≤ k) (r1 : 1 ≤ r) (k14 : k ≤ 14) (r4 : r ≤ 4)
    (hne : ∀ i j, i < k → j < r → X.getD i 0 ≠ Y.getD j 0) :
    Calls Try.prog 20 #[.pointer (some ⟨F, 0, none⟩), .slice (some ⟨bx, ox, none⟩) k cx, .slice (some ⟨by_, oy, none⟩) r cy] w
      fun e w' => ∃ g cap, e = .returned (.slice (some ⟨g, 0, none⟩) (r * k) cap) ∧ LR FS w' g 0 (coefZ k r X Y) ∧ Nxt FS w w' := by
  refine (inverses_any FS w0 w F bx ox by_ oy k r cx cy X Y hs hF hX hY lX lY k14 r4 hne).mono ?_
  rintro e w' ⟨v, rfl, hown, u, f⟩
  have hp := Nat.mul_le_mul r1 k1
  have hl : (coefZ k r X Y).length = r * k := tab_length _ _
  obtain ⟨g, cap, rfl, g1, g2, g3, _, _⟩ := hown.row (by omega)
  rw [hl]
  exact ⟨g, cap, rfl, ⟨g3, g2, hs.lt g1⟩, hs.one hF u f⟩
theorem newL2 {w0 w : World} {FS : List Nat} {F k r n b o cap : Nat} {z : List Nat} (h : LS w0 FS w) (hF : F ∈ FS) (r1 : 1 ≤ k + r) (r2 : k + r ≤ 32) (c1 : 1 ≤ k) (c2 : k ≤ 32) (hz : LR FS w b o z) (hl : z.length = n) (hn : n = (k + r) * k) :
    Calls Try.prog 21 #[.pointer (some ⟨F, 0, none⟩), .int .i64 ((k : Int) + (r : Int)), .int .i64 k, .slice (some ⟨b, o, none⟩) n cap] w
      fun e w' => ∃ p q, e = .returned (.tuple #[.pointer (some ⟨p, 0, none⟩), .int .i64 0]) ∧ LM FS w' p q F (k + r) k z ∧ Nxt FS w w' := by
  have H := newL (cap := cap) h hF r1 r2 c1 c2 hz hl hn
  have e : (((k + r : Nat)) : Int) = (k : Int) + (r : Int) := by simp
  rw [e] at H
  exact H
/-- Where New stands. -/
structure NS (w0 : World) (FS : List Nat) (w : World) (A g n cap bx ox by_ oy : Nat) (X Y z : List Nat) : Prop where
  ls : LS w0 FS w
  x : LR FS w bx ox X
  y : LR FS w by_ oy Y
  box : Boxd FS w A g n cap z
theorem NS.nxt {w0 : World} {FS : List Nat} {w w' : World} {A g n cap bx ox by_ oy : Nat} {X Y z : List Nat} (h : NS w0 FS w A g n cap bx ox by_ oy X Y z) (m : Nxt FS w w') : NS w0 FS w' A g n cap bx ox by_ oy X Y z :=
  ⟨h.ls.nxt m, h.x.nxt m, h.y.nxt m, h.box.nxt m⟩
theorem Dst.xy {X Y : List Nat} {k r : Nat} (h : Dst (X ++ Y)) (lX : X.length = k) (lY : Y.length = r) : ∀ i j, i < k → j < r → X.getD i 0 ≠ Y.getD j 0 := fun i j hi hj e => by
  have := h i (k + j) (by rw [List.length_append]; omega) (by rw [List.length_append]; omega) (by
    simp only [List.getD_eq_getElem?_getD] at e ⊢
    rw [List.getElem?_append_left (by omega), List.getElem?_append_right (by omega), lX, show k + j - k = j by omega]
    exact e)
  omega
set_option maxRecDepth 100000 in
set_option maxHeartbeats 3200000 in
theorem new_code (FS : List Nat) (w0 w : World) (F bx ox by_ oy k r cx cy : Nat) (X Y : List Nat) (hs : LS w0 FS w) (hF : F ∈ FS) (hX : LR FS w bx ox X) (hY : LR FS w by_ oy Y) (lX : X.length = k) (lY : Y.length = r) (k1 : 1 ≤ k) (k14 : k ≤ 14) (r1 : 1 ≤ r) (r4 : r ≤ 4) (hd : Dst (X ++ Y)) :
    Calls Try.prog 10 #[.pointer (some ⟨F, 0, none⟩), .slice (some ⟨bx, ox, none⟩) k cx, .slice (some ⟨by_, oy, none⟩) r cy] w
      fun e w' => ∃ c pp pq sp sq, e = .returned (.tuple #[.pointer (some ⟨c, 0, none⟩), .int .i64 0]) ∧ CD FS w' c F k r pp pq sp sq (coefZ k r X Y) ∧ Nxt FS w w' := by
  have HO1 := hid (out_no k cx 14 (some ⟨bx, ox, none⟩) w (by omega) (by omega))
  have HO2 := hid (out_no r cy 4 (some ⟨by_, oy, none⟩) w (by omega) (by omega))
  have HFM := hid hF
  have HL := hid (And.intro lX (And.intro lY hd))
  have hmf : ∀ (fn : Fn) (first cap : Array Value) (w : World), (Instr.makeFunc fn first cap).run Try.prog w = .ok (.func fn first cap) w := fun _ _ _ _ => rfl
  have HCT := hid (catL (c1 := cx) (c2 := cy) hs hX hY lX lY k1 (by omega) (by omega))
  have HS := hid (And.intro hs (And.intro hX hY))
  have HSM : Hid (∀ y ∈ X ++ Y, y < 256) := fun y hy => by
    obtain ⟨i, hi, rfl⟩ := List.mem_iff_getElem.1 hy
    have hx := hX.row.small
    have hyy := hY.row.small
    rcases Nat.lt_or_ge i X.length with h | h
    · have := hx i
      rw [List.getElem_append_left h]
      simpa [List.getD_eq_getElem?_getD, List.getElem?_eq_getElem h] using this
    · have hl : i - X.length < Y.length := by rw [List.length_append] at hi; omega
      have := hyy (i - X.length)
      rw [List.getElem_append_right h]
      simpa [List.getD_eq_getElem?_getD, List.getElem?_eq_getElem hl] using this
  clear hs hF hX hY lX lY hd
  go_enter Try.func10, Try.ntmps10
  go_wp2_with fail
  refine HO1.out.mono ?_
  rintro e w1 ⟨rfl, rfl⟩
  go_wp2_with fail
  refine HO2.out.mono ?_
  rintro e w1 ⟨rfl, rfl⟩
  go_wp2_with fail
  refine HCT.out.mono ?_
  rintro e w2 ⟨ga, capa, rfl, ra, n2⟩
  have HN2 := hid n2
  have HRA := hid ra
  have hl3 := (HS.out.1.nxt n2).alloc (.cells #[.slice (some ⟨ga, 0, none⟩) (k + r) capa] 52)
  have hns : NS w0 FS (w2.alloc (.cells #[.slice (some ⟨ga, 0, none⟩) (k + r) capa] 52)) w2.heap.size ga (k + r) capa bx ox by_ oy X Y (X ++ Y) :=
    ⟨(HS.out.1.nxt n2).nxt hl3, (HS.out.2.1.nxt n2).nxt hl3, (HS.out.2.2.nxt n2).nxt hl3, World.cell?_alloc_new w2 _ _ 0, by simp, (HS.out.1.nxt n2).lt (Nat.le_refl _), (ra.nxt hl3).row, (ra.nxt hl3).lt, ra.b⟩
  have HNS := hid hns
  have HNX := hid (n2.trans hl3)
  clear n2 ra hl3 hns HCT HO1 HO2
  go_wp2_with fail
  generalize (w2.alloc (.cells #[.slice (some ⟨ga, 0, none⟩) (k + r) capa] 52)) = w3 at *
  generalize w2.heap.size = A at *
  have HCO := hid (containsT_any A ga (k + r) capa (X ++ Y) w3 HNS.out.box.box HNS.out.box.lt HNS.out.box.row HNS.out.box.gl (by rw [List.length_append, HL.out.1, HL.out.2.1]) HSM.out (by omega))
  refine HCO.out.mono ?_
  rintro e w4 ⟨⟨rfl, i, hi, hc⟩ | ⟨rfl, _⟩, u4⟩
  · exact absurd hc (HL.out.2.2.count _)
  have H4 := hid (And.intro (HNS.out.nxt (HNS.out.ls.nul u4)) (HNX.out.trans (HNS.out.ls.nul u4)))
  clear u4 HCO HNS HNX HN2 HRA HS
  go_wp2_with fail
  refine (unitL H4.out.1.ls HFM.out k1 (by omega)).mono ?_
  rintro e w5 ⟨up, uq, rfl, m5, n5⟩
  have H5 := hid (And.intro (H4.out.1.nxt n5) (And.intro m5 (H4.out.2.trans n5)))
  clear m5 n5 H4
  go_wp2_with fail
  refine (inversesL FS w0 w5 F bx ox by_ oy k r cx cy X Y H5.out.1.ls HFM.out H5.out.1.x H5.out.1.y HL.out.1 HL.out.2.1 k1 r1 k14 r4 (HL.out.2.2.xy HL.out.1 HL.out.2.1)).mono ?_
  rintro e w6 ⟨gc, cc, rfl, rc, n6⟩
  have H6 := hid (And.intro (H5.out.1.nxt n6) (And.intro (H5.out.2.1.nxt n6) (And.intro rc (H5.out.2.2.trans n6))))
  clear rc n6 H5
  go_wp2_with fail
  refine (newL H6.out.1.ls HFM.out r1 (by omega) k1 (by omega) H6.out.2.2.1 (tab_length _ _) rfl).mono ?_
  rintro e w7 ⟨pp, pq, rfl, m7, n7⟩
  have H7 := hid (And.intro (H6.out.1.nxt n7) (And.intro (H6.out.2.1.nxt n7) (And.intro (H6.out.2.2.1.nxt n7) (And.intro m7 (H6.out.2.2.2.trans n7)))))
  clear m7 n7 H6
  go_wp2_with fail
  have s7 := H7.out.1.box.box
  have nd := H7.out.1.ls.drew
  have HD := hid (And.intro (H7.out.1.nxt nd) (And.intro (H7.out.2.1.nxt nd) (And.intro (H7.out.2.2.1.nxt nd) (And.intro (H7.out.2.2.2.1.nxt nd) (H7.out.2.2.2.2.trans nd)))))
  have hkk := Nat.mul_le_mul k1 k1
  have hkk2 : k * k ≤ 14 * 14 := Nat.mul_le_mul k14 k14
  have hrk2 : r * k ≤ 4 * 14 := Nat.mul_le_mul r4 k14
  have HLU : Hid ((unitZ k).length = k * k) := tab_length _ _
  have HLC : Hid ((coefZ k r X Y).length = r * k) := tab_length _ _
  have HLA : Hid ((unitZ k ++ coefZ k r X Y).length = k * k + r * k) := by show _ = _; rw [List.length_append, HLU.out, HLC.out]
  have HLM : Hid (k * k + r * k = (k + r) * k) := (Nat.add_mul _ _ _).symm
  have hk1 : 1 ≤ k + r := by omega
  have hk2 : k + r ≤ 32 := by omega
  have hk3 : k ≤ 32 := by omega
  have hkk3 : k * k ≤ 1024 := by omega
  have hrk3 : r * k ≤ 512 := by omega
  clear nd H7
  go_region_held3 (fun w' => w'.cell? ⟨A, 0, none⟩ = some (.slice (some ⟨ga, 0, none⟩) (k + r) capa)) (first | assumption | exact (World.cell?_alloc_past _ _ _ (by assumption)).trans (by assumption) | go_keep)
    ((first
      | (go_at_call 22; (with_reducible refine (cellsL2 HD.out.1.ls HD.out.2.1).mono ?_); rintro e w8 ⟨gu, cu, rfl, ru, n8⟩; have H8 := hid (And.intro (HD.out.1.nxt n8) (And.intro (HD.out.2.2.1.nxt n8) (And.intro (HD.out.2.2.2.1.nxt n8) (And.intro ru (HD.out.2.2.2.2.trans n8))))); have s8 := H8.out.1.box.box; have l8 := H8.out.1.box.lt; clear n8 ru)
      | (go_at_call 15; (with_reducible refine (catL H8.out.1.ls H8.out.2.2.2.1 H8.out.2.1 HLU.out HLC.out hkk hkk3 hrk3).mono ?_); rintro e w9 ⟨gk, ck, rfl, rk, n9⟩; have H9 := hid (And.intro (H8.out.1.nxt n9) (And.intro (H8.out.2.2.1.nxt n9) (And.intro rk (H8.out.2.2.2.2.trans n9)))); have s9 := H9.out.1.box.box; clear n9 rk)
      | (go_at_call 21; (with_reducible refine (newL2 H9.out.1.ls HFM.out hk1 hk2 k1 hk3 H9.out.2.2.1 HLA.out HLM.out).mono ?_); rintro e w10 ⟨sp, sq, rfl, m10, n10⟩; have H10 := hid (And.intro (H9.out.1.nxt n10) (And.intro (H9.out.2.1.nxt n10) (And.intro m10 (H9.out.2.2.2.trans n10)))); have s10 := H10.out.1.box.box; clear n10 m10)))
  clear s7 s8 s9 s10 l8 HD H8 H9
  go_wp2
  go_ret2
  have hc := fun j => World.cell?_alloc_new w10 #[.int .i64 k, .int .i64 r, .pointer (some ⟨pp, 0, none⟩), .pointer (some ⟨sp, 0, none⟩)] 56 j
  have nn := H10.out.1.ls.alloc (.cells #[.int .i64 k, .int .i64 r, .pointer (some ⟨pp, 0, none⟩), .pointer (some ⟨sp, 0, none⟩)] 56)
  exact ⟨w10.heap.size, pp, pq, sp, sq, rfl, ⟨hc 0, hc 1, hc 2, hc 3, by simp, H10.out.1.ls.lt (Nat.le_refl _), H10.out.2.1.nxt nn, H10.out.2.2.1.nxt nn, k14, r4⟩, H10.out.2.2.2.trans nn⟩

theorem i64_mask (k : Nat) (hk : k < 63) (n m : Int) (hm : (BitVec.ofInt 64 m).toNat = 2 ^ k - 1) : bits .and .i64 n m = n % (2 ^ k : Nat) := by
  have key : (BitVec.ofInt 64 n &&& BitVec.ofInt 64 m).toNat = (n % ((2 ^ 64 : Nat) : Int)).toNat % 2 ^ k := by
    rw [BitVec.toNat_and, BitVec.toNat_ofInt, hm, Nat.and_two_pow_sub_one_eq_mod]
  show IntKind.i64.wrap ((BitVec.ofInt 64 n &&& BitVec.ofInt 64 m).toNat : Nat) = n % (2 ^ k : Nat)
  rw [key, IntKind.wrap_i64]
  have h1 : (2 : Nat) ^ 64 = 2 ^ k * 2 ^ (64 - k) := by rw [← Nat.pow_add]; congr 1; omega
  have h2 : (0 : Int) ≤ n % ((2 ^ 64 : Nat) : Int) := Int.emod_nonneg _ (by decide)
  have h3 : (((n % ((2 ^ 64 : Nat) : Int)).toNat % 2 ^ k : Nat) : Int) = n % ((2 ^ k : Nat) : Int) := by
    rw [Int.natCast_emod, Int.toNat_of_nonneg h2, h1, Int.natCast_mul]
    exact Int.emod_emod_of_dvd n ⟨_, rfl⟩
  rw [h3]
  have h4 : (0 : Int) < ((2 ^ k : Nat) : Int) := by have := Nat.two_pow_pos k; omega
  have h5 := Int.emod_nonneg n (Int.ne_of_gt h4)
  have h6 := Int.emod_lt_of_pos n h4
  have h7 : (2 : Nat) ^ k ≤ 2 ^ 62 := Nat.pow_le_pow_right (by omega) (by omega)
  have h8 : (2 : Nat) ^ 62 = 4611686018427387904 := by decide
  omega
theorem i64_and255 (n : Int) : ∃ k : Nat, bits .and .i64 n 255 = (k : Int) ∧ k < 256 := by
  rw [i64_mask 8 (by omega) n 255 (by decide)]
  exact ⟨(n % 256).toNat, by show n % 256 = _; omega, by omega⟩
/-- A document's code in block V. -/
structure LC (FS : List Nat) (w : World) (V gx cx gy cy k r : Nat) (X Y : List Nat) : Prop where
  c0 : w.cell? ⟨V, 0, none⟩ = some (.slice (some ⟨gx, 0, none⟩) k cx)
  c1 : w.cell? ⟨V, 1, none⟩ = some (.slice (some ⟨gy, 0, none⟩) r cy)
  lt : V < w.heap.size
  b : V ∉ FS
  x : LR FS w gx 0 X
  y : LR FS w gy 0 Y
theorem LC.nxt {FS : List Nat} {w w' : World} {V gx cx gy cy k r : Nat} {X Y : List Nat} (h : LC FS w V gx cx gy cy k r X Y) (n : Nxt FS w w') : LC FS w' V gx cx gy cy k r X Y :=
  have e : ∀ j, w'.cell? ⟨V, j, none⟩ = w.cell? ⟨V, j, none⟩ := fun j => n.up.cell (p := ⟨V, j, none⟩) h.lt h.b
  ⟨(e 0).trans h.c0, (e 1).trans h.c1, Nat.lt_of_lt_of_le h.lt n.up.size, h.b, h.x.nxt n, h.y.nxt n⟩
theorem LC.newF {FS : List Nat} {w w' : World} {V gx cx gy cy k r G : Nat} {X Y : List Nat} (h : LC FS w V gx cx gy cy k r X Y) (n : NewF w w' G) : LC (G :: FS) w' V gx cx gy cy k r X Y :=
  have e : ∀ j, w'.cell? ⟨V, j, none⟩ = w.cell? ⟨V, j, none⟩ := fun j => n.n.up.cell (p := ⟨V, j, none⟩) h.lt id
  ⟨(e 0).trans h.c0, (e 1).trans h.c1, Nat.lt_of_lt_of_le h.lt n.n.up.size, fun hm => by
    rcases List.mem_cons.1 hm with e | hm
    · have := h.lt
      have := n.eq
      omega
    · exact h.b hm, h.x.newF n, h.y.newF n⟩
theorem LC.new {w0 w : World} {FS : List Nat} {gx cx gy cy k r : Nat} {X Y : List Nat} (h : LS w0 FS w) (hx : LR FS w gx 0 X) (hy : LR FS w gy 0 Y) (t : TypeId) :
    LC FS (w.alloc (.cells #[.slice (some ⟨gx, 0, none⟩) k cx, .slice (some ⟨gy, 0, none⟩) r cy] t)) w.heap.size gx cx gy cy k r X Y :=
  have n := h.alloc (.cells #[.slice (some ⟨gx, 0, none⟩) k cx, .slice (some ⟨gy, 0, none⟩) r cy] t)
  ⟨World.cell?_alloc_new w _ _ 0, World.cell?_alloc_new w _ _ 1, by simp, h.lt (Nat.le_refl _), hx.nxt n, hy.nxt n⟩

theorem csize_any {FS : List Nat} {w : World} {c F k r pp pq sp sq : Nat} {Z : List Nat} (hc : CD FS w c F k r pp pq sp sq Z) :
    Calls Try.prog 13 #[.pointer (some ⟨c, 0, none⟩)] w fun e w' => e = .returned (.tuple #[.int .i64 k, .int .i64 r]) ∧ ∃ n, w' = w.drewN n := by
  have h1 := hc.k0
  have h2 := hc.r0
  clear hc
  go_enter Try.func13, Try.ntmps13
  go_wp2_with fail
  go_region
  go_wp2
  go_ret2
  exact ⟨rfl, 1, rfl⟩
/-- The coefficient that a document's code names; nought outside. -/
def cfo (k r : Nat) (X Y : List Nat) (j i : Int) : Nat := if 0 ≤ j ∧ j < r ∧ 0 ≤ i ∧ i < k then GfM.inv (Y.getD j.toNat 0 ^^^ X.getD i.toNat 0) else 0
theorem coef_raw {FS : List Nat} {w : World} {c F k r pp pq sp sq : Nat} {X Y : List Nat} (hc : CD FS w c F k r pp pq sp sq (coefZ k r X Y)) (j i : Int) :
    Calls Try.prog 7 #[.pointer (some ⟨c, 0, none⟩), .int .i64 j, .int .i64 i] w fun e w' => e = .returned (.int .u8 (cfo k r X Y j i : Nat)) ∧ ∃ n, w' = w.drewN n := by
  have h1 := hc.p0
  have HM := hid hc.par.mat
  clear hc
  by_cases h : 0 ≤ j ∧ j < r ∧ 0 ≤ i ∧ i < k
  · obtain ⟨hj0, hj, hi0, hi⟩ := h
    obtain ⟨J, rfl⟩ := Int.eq_ofNat_of_zero_le hj0
    obtain ⟨I, rfl⟩ := Int.eq_ofNat_of_zero_le hi0
    have HE : Hid ((coefZ k r X Y).getD (J * k + I) 0 = cfo k r X Y J I) := by
      show _ = _
      unfold cfo
      rw [coefZ_at (by omega) (by omega), if_pos ⟨hj0, hj, hi0, hi⟩]
      simp
    go_enter Try.func7, Try.ntmps7
    go_wp2_with fail
    refine (at_some pp pq F r k J I _ w HM.out (by omega) (by omega)).mono ?_
    rintro e w1 ⟨rfl, n, rfl⟩
    rw [HE.out]
    go_wp2
    go_ret
    exact ⟨rfl, n, rfl⟩
  · have HE : Hid (cfo k r X Y j i = 0) := by show _ = _; unfold cfo; rw [if_neg h]
    have H := hid (at_none pp pq F r k j i _ w HM.out (by omega))
    rw [HE.out]
    clear h
    go_enter Try.func7, Try.ntmps7
    go_wp2_with fail
    refine H.out.mono ?_
    rintro e w1 ⟨rfl, rfl⟩
    clear H
    go_wp2
    go_ret
    exact ⟨rfl, 0, rfl⟩
theorem coefL {FS : List Nat} {w : World} {c F k r pp pq sp sq : Nat} {X Y : List Nat} (hc : CD FS w c F k r pp pq sp sq (coefZ k r X Y)) (j i : Int) :
    Calls Try.prog 7 #[.pointer (some ⟨c, 0, none⟩), .int .i64 j, .int .i64 i] w fun e w' => e = .returned (.int .u8 (cfo k r X Y j i : Nat)) ∧ Up Nul w w' := by
  refine (coef_raw hc j i).mono ?_
  rintro e w' ⟨h, n, rfl⟩
  exact ⟨h, (Up.refl _ _).drewN n⟩
end Go.Proofs.Ytmaffnadmfphpaa
