/- 'code.New': what may not be, the inverses. -/
import Derived.Test.YtebglmfdchfplaaCodeConcat
import Derived.Shelf.Bytes.SlCountOne
namespace Go.Proofs.Ytebglmfdchfplaa
open Go.RowKit
set_option linter.unusedVariables false

/-- No two are the same. -/
def Dst (z : List Nat) : Prop := ∀ i j, i < z.length → j < z.length → z.getD i 0 = z.getD j 0 → i = j
theorem count_nodup : ∀ {l : List Nat}, l.Nodup → ∀ x, l.count x ≤ 1
  | [], _, x => by simp
  | a :: l, h, x => by
    obtain ⟨h1, h2⟩ := List.nodup_cons.1 h
    by_cases e : x = a
    · subst e
      rw [List.count_cons_self, List.count_eq_zero.2 h1]
      exact Nat.le_refl _
    · rw [List.count_cons_of_ne (fun h => e h.symm)]
      exact count_nodup h2 x
theorem Dst.nodup {z : List Nat} (h : Dst z) : z.Nodup := by
  unfold List.Nodup
  rw [List.pairwise_iff_getElem]
  intro i j hi hj hij e
  have := h i j hi hj (by simp only [List.getD_eq_getElem?_getD, List.getElem?_eq_getElem hi, List.getElem?_eq_getElem hj, Option.getD_some]; exact e)
  omega
theorem Dst.count {z : List Nat} (h : Dst z) (x : Nat) : ¬ 1 < z.count x := by
  have := count_nodup h.nodup x
  omega
theorem count_twice {z : List Nat} {i j : Nat} (hj : j < z.length) (hij : i < j) (e : z.getD i 0 = z.getD j 0) : 1 < z.count (z.getD i 0) := by
  have h := List.take_append_drop (i + 1) z
  have h1 : z.getD i 0 ∈ z.take (i + 1) := by
    have : (z.take (i + 1)).getD i 0 = z.getD i 0 := by simp [List.getD_eq_getElem?_getD]
    rw [← this]
    exact GfM.getD_mem (by simp; omega)
  have h2 : z.getD i 0 ∈ z.drop (i + 1) := by
    have : (z.drop (i + 1)).getD (j - (i + 1)) 0 = z.getD j 0 := by
      simp only [List.getD_eq_getElem?_getD, List.getElem?_drop]
      rw [show i + 1 + (j - (i + 1)) = j by omega]
    rw [e, ← this]
    exact GfM.getD_mem (by simp; omega)
  have c1 := List.count_pos_iff.2 h1
  have c2 := List.count_pos_iff.2 h2
  have : z.count (z.getD i 0) = (z.take (i + 1)).count (z.getD i 0) + (z.drop (i + 1)).count (z.getD i 0) := by
    rw [← List.count_append, h]
  omega
theorem not_dst {z : List Nat} (h : ¬ Dst z) : ∃ i, i < z.length ∧ 1 < z.count (z.getD i 0) := by
  refine Classical.byContradiction fun hno => h fun i j hi hj e => ?_
  refine Classical.byContradiction fun hne => ?_
  rcases Nat.lt_or_gt_of_ne hne with hlt | hlt
  · exact hno ⟨i, hi, count_twice hj hlt e⟩
  · exact hno ⟨j, hj, count_twice hi hlt e.symm⟩
theorem count_bytes {z : List Nat} {x : Nat} (hz : ∀ y ∈ z, y < 256) (hx : x < 256) : Lib.countByte (Lib.bytesOf (z.map fun (n : Nat) => (n : Int))) (x : Int).toNat.toUInt8 = z.count x := by
  unfold Lib.countByte Lib.bytesOf
  induction z with
  | nil => simp
  | cons a z ih =>
    have ha := hz a (List.mem_cons_self ..)
    have hi := ih fun y hy => hz y (List.mem_cons_of_mem _ hy)
    simp only [List.map_cons, List.count_cons, hi]
    congr 1
    have : (UInt8.ofNat ((a : Int)).toNat == (x : Int).toNat.toUInt8) = (a == x) := by
      rw [Bool.eq_iff_iff, beq_iff_eq, beq_iff_eq]
      constructor
      · intro h
        have := congrArg UInt8.toNat h
        simp at this
        omega
      · rintro rfl
        rfl
    rw [this]

set_option maxRecDepth 1000000 in
set_option maxHeartbeats 2000000 in
theorem count_any (b n c b2 d x : Nat) (z : List Nat) (w : World) (r : Row w b 0 z) (hl : z.length = n) (hz : ∀ y ∈ z, y < 256) (hx : x < 256) (hc2 : w.cell? ⟨b2, 0, none⟩ = some (.int .u8 x)) :
    Calls Try.prog 29 #[.slice (some ⟨b, 0, none⟩) n c, .slice (some ⟨b2, 0, none⟩) 1 d] w fun e w' => e = .returned (.int .i64 (z.count x : Nat)) ∧ w' = w := by
  have hc : ∀ i, i < n → w.cell? ⟨b, 0 + i, none⟩ = some (.int .u8 ((z.map fun (n : Nat) => (n : Int)).getD i 0)) := fun i hi => by
    have := r.cells i (by omega)
    rw [this]
    simp [List.getD_eq_getElem?_getD, List.getElem?_eq_getElem (show i < z.length by omega)]
  go_enter Try.func29, Try.ntmps29
  go_wp2
  rw [run_callFunc_extern Try.func48 (by kernel_rfl) (by kernel_rfl) (by kernel_rfl) (e := Extern.BytealgCount.count) (by kernel_rfl), Lib.run_countSlice w b 0 n c _ (by simp [hl]) hc x, count_bytes hz hx]
  simp only [Result.andThen]
  rw [Oper.upon_value]
  go_wp2
  go_ret
  exact ⟨rfl, rfl⟩

/-! ### What may not be -/
theorem out_yes (n cap m : Nat) (a : Option Addr) (w : World) (h : n < 1 ∨ m < n) :
    Calls Try.prog 26 #[.slice a n cap, .int .i64 m] w fun e w' => e = .returned (.bool true) ∧ w' = w := by
  by_cases h1 : n < 1
  · have e1 : (n : Int) < 1 := by omega
    clear h
    go_enter Try.func26, Try.ntmps26
    go_wp2
    go_ret
    exact ⟨rfl, rfl⟩
  · have e1 : ¬ (n : Int) < 1 := by omega
    have e2 : (m : Int) < (n : Int) := by omega
    clear h
    go_enter Try.func26, Try.ntmps26
    go_wp2
    go_ret
    exact ⟨rfl, rfl⟩
theorem out_no (n cap m : Nat) (a : Option Addr) (w : World) (h1 : 1 ≤ n) (h2 : n ≤ m) :
    Calls Try.prog 26 #[.slice a n cap, .int .i64 m] w fun e w' => e = .returned (.bool false) ∧ w' = w := by
  have e1 : ¬ (n : Int) < 1 := by omega
  have e2 : ¬ (m : Int) < (n : Int) := by omega
  go_enter Try.func26, Try.ntmps26
  go_wp2
  go_ret
  exact ⟨rfl, rfl⟩
theorem new_nil2 (xs ys : Value) (w : World) :
    Calls Try.prog 10 #[.pointer none, xs, ys] w fun e w' => e = .returned (.tuple #[.pointer none, .int .i64 1]) ∧ w' = w := by
  go_enter Try.func10, Try.ntmps10
  go_wp2
  go_ret2
  exact ⟨rfl, rfl⟩
theorem new_long (F n1 c1 n2 c2 : Nat) (a1 a2 : Option Addr) (w : World) (h : (n1 < 1 ∨ 14 < n1) ∨ (n2 < 1 ∨ 4 < n2)) :
    Calls Try.prog 10 #[.pointer (some ⟨F, 0, none⟩), .slice a1 n1 c1, .slice a2 n2 c2] w fun e w' => e = .returned (.tuple #[.pointer none, .int .i64 1]) ∧ w' = w := by
  by_cases h1 : n1 < 1 ∨ 14 < n1
  · have H := hid (out_yes n1 c1 14 a1 w h1)
    clear h h1
    go_enter Try.func10, Try.ntmps10
    go_wp2_with fail
    refine H.out.mono ?_
    rintro e w1 ⟨rfl, rfl⟩
    clear H
    go_wp2
    go_ret2
    exact ⟨rfl, rfl⟩
  · have h2 : n2 < 1 ∨ 4 < n2 := by omega
    have H := hid (out_no n1 c1 14 a1 w (by omega) (by omega))
    have H2 := hid (out_yes n2 c2 4 a2 w h2)
    clear h h1 h2
    go_enter Try.func10, Try.ntmps10
    go_wp2_with fail
    refine H.out.mono ?_
    rintro e w1 ⟨rfl, rfl⟩
    clear H
    go_wp2_with fail
    refine H2.out.mono ?_
    rintro e w1 ⟨rfl, rfl⟩
    clear H2
    go_wp2
    go_ret2
    exact ⟨rfl, rfl⟩

theorem twice_any (A g n cap x : Nat) (z : List Nat) (w : World) (hA : w.cell? ⟨A, 0, none⟩ = some (.slice (some ⟨g, 0, none⟩) n cap)) (r : Row w g 0 z) (hg : g < w.heap.size) (hl : z.length = n) (hz : ∀ y ∈ z, y < 256) (hx : x < 256) :
    Calls Try.prog 28 #[.int .u8 x, .pointer (some ⟨A, 0, none⟩)] w fun e w' => e = .returned (.bool (decide (1 < z.count x))) ∧ Up Nul w w' := by
  have HU := hid ((Up.refl Nul w).alloc (.cells #[.int .u8 x] 5))
  have HC := hid (count_any g n cap w.heap.size 1 x z _ (r.up HU.out hg id) hl hz hx (World.cell?_alloc_new w #[.int .u8 x] 5 0))
  clear r hl hz hg
  go_enter Try.func28, Try.ntmps28
  go_wp2_with fail
  refine HC.out.mono ?_
  rintro e w1 ⟨rfl, rfl⟩
  clear HC
  obtain ⟨m, HM⟩ : ∃ m, Hid (z.count x = m) := ⟨_, rfl⟩
  rw [HM.out]
  go_wp2
  go_ret
  exact ⟨by rw [HM.out]; simp; omega, HU.out⟩
set_option maxHeartbeats 400000 in
theorem indexT_any (A g n cap : Nat) (z : List Nat) (w : World) (hA : w.cell? ⟨A, 0, none⟩ = some (.slice (some ⟨g, 0, none⟩) n cap)) (hAl : A < w.heap.size) (r : Row w g 0 z) (hg : g < w.heap.size) (hl : z.length = n) (hz : ∀ y ∈ z, y < 256) (hn : n ≤ 1000) :
    Calls Try.prog 50 #[.slice (some ⟨g, 0, none⟩) n cap, .func (.func 28) #[] #[.pointer (some ⟨A, 0, none⟩)]] w
      fun e w' => (∃ x : Int, e = .returned (.int .i64 x) ∧ ((0 ≤ x ∧ ∃ i, i < n ∧ 1 < z.count (z.getD i 0)) ∨ (x < 0 ∧ ∀ i, i < n → ¬ 1 < z.count (z.getD i 0)))) ∧ Up Nul w w' := by
  have HR := hid (And.intro r (And.intro hg (And.intro hl (And.intro hz (And.intro hA hAl)))))
  clear r hg hl hz hA hAl
  go_enter Try.func50, Try.ntmps50
  go_wp2
  go_loopw [8] (fun i wr => ∃ k : Nat, k ≤ n ∧ i = .int .i64 k ∧ Up Nul w wr ∧ ∀ i, i < k → ¬ 1 < z.count (z.getD i 0)) (fun i _ => n - (intOf i).toNat)
  case atStart => exact ⟨0, by omega, rfl, Up.refl _ _, fun _ h => absurd h (Nat.not_lt_zero _)⟩
  case round =>
    obtain ⟨k, hk, rfl, hu, hg⟩ := hrel
    have HG := hid (And.intro hu hg)
    clear hu hg
    by_cases hlt : k < n
    · have hrow := HR.out.1.up HG.out.1 HR.out.2.1 id
      have hc := hrow.cells k (by rw [HR.out.2.2.1]; exact hlt)
      rw [Nat.zero_add] at hc
      have x8 := hrow.small k
      obtain ⟨x, X⟩ : ∃ x, Hid (z.getD k 0 = x) := ⟨_, rfl⟩
      rw [X.out] at hc x8
      have HT := hid (twice_any A g n cap x z wr ((HG.out.1.cell (p := ⟨A, 0, none⟩) HR.out.2.2.2.2.2 id).trans HR.out.2.2.2.2.1) hrow (Nat.lt_of_lt_of_le HR.out.2.1 HG.out.1.size) HR.out.2.2.1 HR.out.2.2.2.1 x8)
      have i1 : (0 : Int) ≤ (k : Int) := by omega
      have i2 : (k : Int) < (n : Int) := by omega
      clear hrow
      by_cases hb : 1 < z.count x
      · have HB := hid hb
        have ed : decide (1 < z.count x) = true := by simpa using hb
        rw [ed] at HT
        clear hb ed
        go_wp2_with fail
        refine HT.out.mono ?_
        rintro e w1 ⟨rfl, u1⟩
        have HU := hid (HG.out.1.trans u1)
        clear u1 HT
        go_wp2
        go_ret
        exact ⟨⟨_, rfl, .inl ⟨by omega, k, hlt, by rw [X.out]; exact HB.out⟩⟩, HU.out⟩
      · have HB := hid hb
        have ed : decide (1 < z.count x) = false := by simpa using hb
        rw [ed] at HT
        clear hb ed
        go_wp2_with fail
        refine HT.out.mono ?_
        rintro e w1 ⟨rfl, u1⟩
        have HU := hid (HG.out.1.trans u1)
        clear u1 HT
        go_wp2
        go_roundw
        case rel => exact ⟨k + 1, by omega, by go_num, HU.out, fun i hi => by
          by_cases e : i = k
          · rw [e, X.out]; exact HB.out
          · exact HG.out.2 i (by omega)⟩
        case measure => simp [intOf]; omega
    · obtain rfl : n = k := by omega
      go_wp2
      go_ret
      exact ⟨⟨_, rfl, .inr ⟨by omega, HG.out.2⟩⟩, HG.out.1⟩
theorem containsT_any (A g n cap : Nat) (z : List Nat) (w : World) (hA : w.cell? ⟨A, 0, none⟩ = some (.slice (some ⟨g, 0, none⟩) n cap)) (hAl : A < w.heap.size) (r : Row w g 0 z) (hg : g < w.heap.size) (hl : z.length = n) (hz : ∀ y ∈ z, y < 256) (hn : n ≤ 1000) :
    Calls Try.prog 30 #[.slice (some ⟨g, 0, none⟩) n cap, .func (.func 28) #[] #[.pointer (some ⟨A, 0, none⟩)]] w
      fun e w' => ((e = .returned (.bool true) ∧ ∃ i, i < n ∧ 1 < z.count (z.getD i 0)) ∨ (e = .returned (.bool false) ∧ ∀ i, i < n → ¬ 1 < z.count (z.getD i 0))) ∧ Up Nul w w' := by
  have H := hid (indexT_any A g n cap z w hA hAl r hg hl hz hn)
  clear hA hAl r hg hl hz hn
  go_enter Try.func30, Try.ntmps30
  go_wp2_with fail
  refine H.out.mono ?_
  rintro e w1 ⟨⟨x, rfl, ⟨h0, hb⟩ | ⟨h0, hb⟩⟩, hu⟩
  · have HB := hid (And.intro hb hu)
    clear hb hu
    go_wp2
    go_ret
    exact ⟨.inl ⟨by simp, HB.out.1⟩, HB.out.2⟩
  · have HB := hid (And.intro hb hu)
    have h1 : ¬ 0 ≤ x := by omega
    clear hb hu
    go_wp2
    go_ret
    exact ⟨.inr ⟨by simp [h1], HB.out.1⟩, HB.out.2⟩

/-! ### The coefficients -/
/-- Inverses of the sums of Y and X, a row for each of Y. -/
def coefZ (k r : Nat) (X Y : List Nat) : List Nat := tab (r * k) fun t => GfM.inv (Y.getD (t / k) 0 ^^^ X.getD (t % k) 0)
theorem coefZ_at {k r i j : Nat} {X Y : List Nat} (hj : j < r) (hi : i < k) : (coefZ k r X Y).getD (j * k + i) 0 = GfM.inv (Y.getD j 0 ^^^ X.getD i 0) := by
  have hlt : j * k + i < r * k := by
    have := Nat.mul_le_mul_right k (show j + 1 ≤ r from hj)
    rw [Nat.add_mul] at this
    omega
  unfold coefZ
  rw [tab_at _ _ _ hlt, Nat.mul_comm j k, Nat.mul_add_mod, Nat.mod_eq_of_lt hi, Nat.mul_add_div (by omega), Nat.div_eq_of_lt hi, Nat.add_zero]
theorem Up.ofg {w w' : World} {row : Option Nat} (g : w.grownBy w' row) : Up (fun q => some q = row) w w' := ⟨g.os, g.tape, g.output, g.size, fun q hq hs => g.block q hq hs⟩
theorem tab_next (k : Nat) (f : Nat → Nat) : tab (k + 1) f = tab k f ++ [f k] := by simp [tab, List.range_succ]
set_option maxRecDepth 100000 in
set_option maxHeartbeats 800000 in
theorem inverses_any (FS : List Nat) (w0 w : World) (F bx ox by_ oy k r cx cy : Nat) (X Y : List Nat) (hs : LS w0 FS w) (hF : F ∈ FS) (hX : LR FS w bx ox X) (hY : LR FS w by_ oy Y) (lX : X.length = k) (lY : Y.length = r) (k14 : k ≤ 14) (r4 : r ≤ 4)
    (hne : ∀ i j, i < k → j < r → X.getD i 0 ≠ Y.getD j 0) :
    Calls Try.prog 32 #[.pointer (some ⟨F, 0, none⟩), .slice (some ⟨bx, ox, none⟩) k cx, .slice (some ⟨by_, oy, none⟩) r cy] w
      fun e w' => ∃ v, e = .returned v ∧ OwnB w.heap.size w' v (coefZ k r X Y) ∧ Up (One F) w w' ∧ Fld F w' := by
  have HS := hid (And.intro hs (And.intro hX hY))
  have HL := hid (And.intro lX (And.intro lY hne))
  have HFM := hid hF
  have HFW : Hid (F < w.heap.size) := (hs.fld F hF).lt
  have HF := hid (hs.fld F hF)
  clear hs hF hX hY lX lY hne
  go_enter Try.func32, Try.ntmps32
  go_wp2_with fail
  obtain ⟨G, HG⟩ : ∃ G : Nat → Nat, Hid (G = fun t => GfM.inv (Y.getD (t / k) 0 ^^^ X.getD (t % k) 0)) := ⟨_, rfl⟩
  go_loopw [7, 16] (fun v i wr => ∃ j : Nat, j ≤ r ∧ i = .int .i64 j ∧ OwnB w.heap.size wr v (tab (j * k) G) ∧ Up (One F) w wr ∧ Fld F wr) (fun _ i _ => r - (intOf i).toNat)
  case atStart => exact ⟨0, by omega, rfl, by rw [Nat.zero_mul]; exact OwnB.nil _ _, Up.refl _ _, HF.out⟩
  case round =>
    obtain ⟨j, hj, rfl, ho, hu, hf⟩ := hrel
    have HO := hid (And.intro ho (And.intro hu hf))
    clear ho hu hf
    by_cases hlt : j < r
    · have hrow := HS.out.2.2.row.up HO.out.2.1 HS.out.2.2.lt (fun e => HS.out.2.2.b (by unfold One at e; rw [e]; exact HFM.out))
      have hc := hrow.cells j (by rw [HL.out.2.1]; exact hlt)
      have y8 := hrow.small j
      obtain ⟨y, Y1⟩ : ∃ x, Hid (Y.getD j 0 = x) := ⟨_, rfl⟩
      rw [Y1.out] at hc y8
      have i1 : (0 : Int) ≤ (j : Int) := by omega
      have i2 : (j : Int) < (r : Int) := by omega
      clear hrow
      go_wp2_with fail
      clear hc
      go_loopw [7, 22] (fun v i wr => ∃ s : Nat, s ≤ k ∧ i = .int .i64 s ∧ OwnB w.heap.size wr v (tab (j * k + s) G) ∧ Up (One F) w wr ∧ Fld F wr) (fun _ i _ => k - (intOf i).toNat)
      case atStart => exact ⟨0, by omega, rfl, HO.out⟩
      case round =>
        clear HO
        obtain ⟨s, hs, rfl, ho, hu, hf⟩ := hrel
        have HO := hid (And.intro ho (And.intro hu hf))
        clear ho hu hf
        by_cases hlt2 : s < k
        · have hrow := HS.out.2.1.row.up HO.out.2.1 HS.out.2.1.lt (fun e => HS.out.2.1.b (by unfold One at e; rw [e]; exact HFM.out))
          have hc := hrow.cells s (by rw [HL.out.1]; exact hlt2)
          have x8 := hrow.small s
          have HNE := HL.out.2.2 s j hlt2 hlt
          rw [Y1.out] at HNE
          obtain ⟨x, X1⟩ : ∃ x, Hid (X.getD s 0 = x) := ⟨_, rfl⟩
          rw [X1.out] at hc x8 HNE
          have hxx := u8_xor_nat y x y8 x8
          have h0 : y ^^^ x ≠ 0 := fun e => HNE (GfM.xor_eq_zero e).symm
          have h8 : y ^^^ x < 256 := GfM.xor_lt y8 x8
          have HGV : Hid (G (j * k + s) = GfM.inv (y ^^^ x)) := by
            show _ = _
            rw [HG.out]
            show GfM.inv (Y.getD ((j * k + s) / k) 0 ^^^ X.getD ((j * k + s) % k) 0) = _
            rw [Nat.mul_comm j k, Nat.mul_add_mod, Nat.mod_eq_of_lt hlt2, Nat.mul_add_div (by omega), Nat.div_eq_of_lt hlt2, Nat.add_zero, Y1.out, X1.out]
          have HI := hid (inv_any F (y ^^^ x) wr HO.out.2.2 h0 h8)
          have v8 := GfM.inv_lt (y ^^^ x)
          generalize y ^^^ x = yx at *
          generalize GfM.inv yx = v at *
          have i3 : (0 : Int) ≤ (s : Int) := by omega
          have i4 : (s : Int) < (k : Int) := by omega
          clear hrow h0 h8 HNE
          go_wp2_with fail
          refine HI.out.mono ?_
          rintro e w1 ⟨rfl, k1⟩
          have HO1 : Hid (OwnB w.heap.size w1 u7 (tab (j * k + s) G) ∧ Up (One F) w w1 ∧ Fld F w1) := ⟨HO.out.1.up (Up.of_out k1.1) (fun q hq e => by have := HFW.out; unfold One at e; omega), HO.out.2.1.trans (Up.of_out k1.1), k1.2⟩
          clear k1 HI
          have HLN : Hid ((tab (j * k + s) G).length ≤ 1000000) := by
            show _ ≤ _
            rw [tab_length]
            have : j * k ≤ 4 * 14 := Nat.mul_le_mul (by omega) k14
            omega
          go_wp2_with (first
            | (at_builtin; refine wpList_append_byte rfl (.tmp 34) (.tmp 36) rfl w.heap.size _ (tab (j * k + s) G) rfl (HO1.out.1.alloc _) ⟨w1.heap.size, 0, none⟩ 1 v rfl (World.cell?_alloc_new w1 _ _ 0) v8 HLN.out (by have := HO1.out.2.1.size; simp; omega) ?_; intro v2 w2 H1 H2)
            | go_in)
          go_roundw
          case rel => exact ⟨s + 1, by omega, by go_num, by rw [← Nat.add_assoc, tab_next, HGV.out]; exact H1.out, (HO1.out.2.1.alloc _).grown H2.out (fun q hq => HO1.out.1.base q hq), (HO1.out.2.2.alloc _).up (Up.ofg H2.out) (fun e => by have := HO1.out.1.base F e.symm; have := HFW.out; omega)⟩
          case measure => simp [intOf]; omega
        · obtain rfl : k = s := by omega
          go_wp2
          go_roundw
          case rel => exact ⟨j + 1, by omega, by go_num, by rw [Nat.add_mul, Nat.one_mul]; exact HO.out.1, HO.out.2⟩
          case measure => simp [intOf]; omega
    · obtain rfl : r = j := by omega
      go_wp2
      go_ret
      have hg := HG.out
      subst hg
      exact ⟨_, rfl, HO.out.1, HO.out.2⟩
end Go.Proofs.Ytebglmfdchfplaa
