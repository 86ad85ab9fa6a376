/- Part 7 of what the walks rest on: CodeNew, CodeMake, CodeRight, CodeMade, CodeEmptyWalk, CodeData, CodeXor, CodeTurn. -/
import Derived.Test.YtmaffnadmfphpaaGreatCB6
namespace Go.Proofs.YtmaffnadmfphpaaGreat
open Go.RowKit
set_option linter.unusedVariables false

theorem coefZ_at {k r i j : Nat} {X Y : List Nat} (hj : j < r) (hi : i < k) : (coefZ k r X Y).getD (j * k + i) 0 = GfM.inv (Y.getD j 0 ^^^ X.getD i 0) := by
  have hlt : j * k + i < r * k := by
    have := Nat.mul_le_mul_right k (show j + 1 ≤ r from hj)
    rw [Nat.add_mul] at this
    omega
  unfold coefZ
  rw [tab_at _ _ _ hlt, Nat.mul_comm j k, Nat.mul_add_mod, Nat.mod_eq_of_lt hi, Nat.mul_add_div (by omega), Nat.div_eq_of_lt hi, Nat.add_zero]
theorem Up.ofg {w w' : World} {row : Option Nat} (g : w.grownBy w' row) : Up (fun q => some q = row) w w' := ⟨g.os, g.tape, g.output, g.size, fun q hq hs => g.block q hq hs⟩
theorem tab_next (k : Nat) (f : Nat → Nat) : tab (k + 1) f = tab k f ++ [f k] := by simp [tab, List.range_succ]
set_option maxRecDepth 100000 in
set_option maxHeartbeats 800000 in
theorem inverses_any (FS : List Nat) (w0 w : World) (F bx ox by_ oy k r cx cy : Nat) (X Y : List Nat) (hs : LS w0 FS w) (hF : F ∈ FS) (hX : LR FS w bx ox X) (hY : LR FS w by_ oy Y) (lX : X.length = k) (lY : Y.length = r) (k14 : k ≤ 14) (r4 : r ≤ 4)
    (hne : ∀ i j, i < k → j < r → X.getD i 0 ≠ Y.getD j 0) :
    Calls Tryz.prog 59 #[.pointer (some ⟨F, 0, none⟩), .slice (some ⟨bx, ox, none⟩) k cx, .slice (some ⟨by_, oy, none⟩) r cy] w
      fun e w' => ∃ v, e = .returned v ∧ OwnB w.heap.size w' v (coefZ k r X Y) ∧ Up (One F) w w' ∧ Fld F w' := by
  have HS := hid (And.intro hs (And.intro hX hY))
  have HL := hid (And.intro lX (And.intro lY hne))
  have HFM := hid hF
  have HFW : Hid (F < w.heap.size) := (hs.fld F hF).lt
  have HF := hid (hs.fld F hF)
  clear hs hF hX hY lX lY hne
  go_enter Tryz.func59, Tryz.ntmps59
  go_wp2_with fail
  obtain ⟨G, HG⟩ : ∃ G : Nat → Nat, Hid (G = fun t => GfM.inv (Y.getD (t / k) 0 ^^^ X.getD (t % k) 0)) := ⟨_, rfl⟩
  go_loopw [7, 16] (fun v i wr => ∃ j : Nat, j ≤ r ∧ i = .int .i64 j ∧ OwnB w.heap.size wr v (tab (j * k) G) ∧ Up (One F) w wr ∧ Fld F wr) (fun _ i _ => r - (intOf i).toNat)
  case atStart => exact ⟨0, by omega, rfl, by rw [Nat.zero_mul]; exact OwnB.nil _ _, Up.refl _ _, HF.out⟩
  case round =>
    obtain ⟨j, hj, rfl, ho, hu, hf⟩ := hrel
    have HO := hid (And.intro ho (And.intro hu hf))
    clear ho hu hf
    by_cases hlt : j < r
    · have hrow := HS.out.2.2.row.up HO.out.2.1 HS.out.2.2.lt (fun e => HS.out.2.2.b (by unfold One at e; rw [e]; exact HFM.out))
      have hc := hrow.cells j (by rw [HL.out.2.1]; exact hlt)
      have y8 := hrow.small j
      obtain ⟨y, Y1⟩ : ∃ x, Hid (Y.getD j 0 = x) := ⟨_, rfl⟩
      rw [Y1.out] at hc y8
      have i1 : (0 : Int) ≤ (j : Int) := by omega
      have i2 : (j : Int) < (r : Int) := by omega
      clear hrow
      go_wp2_with fail
      clear hc
      go_loopw [7, 22] (fun v i wr => ∃ s : Nat, s ≤ k ∧ i = .int .i64 s ∧ OwnB w.heap.size wr v (tab (j * k + s) G) ∧ Up (One F) w wr ∧ Fld F wr) (fun _ i _ => k - (intOf i).toNat)
      case atStart => exact ⟨0, by omega, rfl, HO.out⟩
      case round =>
        clear HO
        obtain ⟨s, hs, rfl, ho, hu, hf⟩ := hrel
        have HO := hid (And.intro ho (And.intro hu hf))
        clear ho hu hf
        by_cases hlt2 : s < k
        · have hrow := HS.out.2.1.row.up HO.out.2.1 HS.out.2.1.lt (fun e => HS.out.2.1.b (by unfold One at e; rw [e]; exact HFM.out))
          have hc := hrow.cells s (by rw [HL.out.1]; exact hlt2)
          have x8 := hrow.small s
          have HNE := HL.out.2.2 s j hlt2 hlt
          rw [Y1.out] at HNE
          obtain ⟨x, X1⟩ : ∃ x, Hid (X.getD s 0 = x) := ⟨_, rfl⟩
          rw [X1.out] at hc x8 HNE
          have hxx := u8_xor_nat y x y8 x8
          have h0 : y ^^^ x ≠ 0 := fun e => HNE (GfM.xor_eq_zero e).symm
          have h8 : y ^^^ x < 256 := GfM.xor_lt y8 x8
          have HGV : Hid (G (j * k + s) = GfM.inv (y ^^^ x)) := by
            show _ = _
            rw [HG.out]
            show GfM.inv (Y.getD ((j * k + s) / k) 0 ^^^ X.getD ((j * k + s) % k) 0) = _
            rw [Nat.mul_comm j k, Nat.mul_add_mod, Nat.mod_eq_of_lt hlt2, Nat.mul_add_div (by omega), Nat.div_eq_of_lt hlt2, Nat.add_zero, Y1.out, X1.out]
          have HI := hid (inv_any F (y ^^^ x) wr HO.out.2.2 h0 h8)
          have v8 := GfM.inv_lt (y ^^^ x)
          generalize y ^^^ x = yx at *
          generalize GfM.inv yx = v at *
          have i3 : (0 : Int) ≤ (s : Int) := by omega
          have i4 : (s : Int) < (k : Int) := by omega
          clear hrow h0 h8 HNE
          go_wp2_with fail
          refine HI.out.mono ?_
          rintro e w1 ⟨rfl, k1⟩
          have HO1 : Hid (OwnB w.heap.size w1 u7 (tab (j * k + s) G) ∧ Up (One F) w w1 ∧ Fld F w1) := ⟨HO.out.1.up (Up.of_out k1.1) (fun q hq e => by have := HFW.out; unfold One at e; omega), HO.out.2.1.trans (Up.of_out k1.1), k1.2⟩
          clear k1 HI
          have HLN : Hid ((tab (j * k + s) G).length ≤ 1000000) := by
            show _ ≤ _
            rw [tab_length]
            have : j * k ≤ 4 * 14 := Nat.mul_le_mul (by omega) k14
            omega
          go_wp2_with (first
            | (at_builtin; refine wpList_append_byte rfl (.tmp 34) (.tmp 36) rfl w.heap.size _ (tab (j * k + s) G) rfl (HO1.out.1.alloc _) ⟨w1.heap.size, 0, none⟩ 1 v rfl (World.cell?_alloc_new w1 _ _ 0) v8 HLN.out (by have := HO1.out.2.1.size; simp; omega) ?_; intro v2 w2 H1 H2)
            | go_in)
          go_roundw
          case rel => exact ⟨s + 1, by omega, by go_num, by rw [← Nat.add_assoc, tab_next, HGV.out]; exact H1.out, (HO1.out.2.1.alloc _).grown H2.out (fun q hq => HO1.out.1.base q hq), (HO1.out.2.2.alloc _).up (Up.ofg H2.out) (fun e => by have := HO1.out.1.base F e.symm; have := HFW.out; omega)⟩
          case measure => simp [intOf]; omega
        · obtain rfl : k = s := by omega
          go_wp2
          go_roundw
          case rel => exact ⟨j + 1, by omega, by go_num, by rw [Nat.add_mul, Nat.one_mul]; exact HO.out.1, HO.out.2⟩
          case measure => simp [intOf]; omega
    · obtain rfl : r = j := by omega
      go_wp2
      go_ret
      have hg := HG.out
      subst hg
      exact ⟨_, rfl, HO.out.1, HO.out.2⟩

/-- Behind the rows laid one behind the other, in a cell of their own. -/
structure Boxd (FS : List Nat) (w : World) (A g n cap : Nat) (z : List Nat) : Prop where
  box : w.cell? ⟨A, 0, none⟩ = some (.slice (some ⟨g, 0, none⟩) n cap)
  lt : A < w.heap.size
  b : A ∉ FS
  row : Row w g 0 z
  gl : g < w.heap.size
  gb : g ∉ FS
theorem Boxd.nxt {FS : List Nat} {w w' : World} {A g n cap : Nat} {z : List Nat} (h : Boxd FS w A g n cap z) (m : Nxt FS w w') : Boxd FS w' A g n cap z :=
  ⟨(m.up.cell (p := ⟨A, 0, none⟩) h.lt h.b).trans h.box, Nat.lt_of_lt_of_le h.lt m.up.size, h.b, h.row.up m.up h.gl h.gb, Nat.lt_of_lt_of_le h.gl m.up.size, h.gb⟩
set_option maxRecDepth 100000 in
set_option maxHeartbeats 1600000 in
theorem new_twice (FS : List Nat) (w0 w : World) (F bx ox by_ oy k r cx cy : Nat) (X Y : List Nat) (hs : LS w0 FS w) (hF : F ∈ FS) (hX : LR FS w bx ox X) (hY : LR FS w by_ oy Y) (lX : X.length = k) (lY : Y.length = r) (k1 : 1 ≤ k) (k14 : k ≤ 14) (r1 : 1 ≤ r) (r4 : r ≤ 4) (hd : ¬ Dst (X ++ Y)) :
    Calls Tryz.prog 31 #[.pointer (some ⟨F, 0, none⟩), .slice (some ⟨bx, ox, none⟩) k cx, .slice (some ⟨by_, oy, none⟩) r cy] w
      fun e w' => e = .returned (.tuple #[.pointer none, .int .i64 1]) ∧ Up Nul w w' := by
  have HO1 := hid (out_no k cx 14 (some ⟨bx, ox, none⟩) w (by omega) (by omega))
  have HO2 := hid (out_no r cy 4 (some ⟨by_, oy, none⟩) w (by omega) (by omega))
  have HS := hid (And.intro hs (And.intro hX hY))
  have HL := hid (And.intro lX (And.intro lY hd))
  have hmf : ∀ (fn : Fn) (first cap : Array Value) (w : World), (Instr.makeFunc fn first cap).run Tryz.prog w = .ok (.func fn first cap) w := fun _ _ _ _ => rfl
  have HU1 := hid ((Up.refl Nul w).alloc (.cells #[.slice (some ⟨bx, ox, none⟩) k cx, .slice (some ⟨by_, oy, none⟩) r cy] 22))
  have HCT := hid (cat_b w.heap.size bx by_ ox oy k r cx cy X Y _ (World.cell?_alloc_new w #[.slice (some ⟨bx, ox, none⟩) k cx, .slice (some ⟨by_, oy, none⟩) r cy] 22 0) (World.cell?_alloc_new w #[.slice (some ⟨bx, ox, none⟩) k cx, .slice (some ⟨by_, oy, none⟩) r cy] 22 1)
    (hX.row.up HU1.out hX.lt id) (hY.row.up HU1.out hY.lt id) lX lY (Nat.lt_of_lt_of_le hX.lt HU1.out.size) (Nat.lt_of_lt_of_le hY.lt HU1.out.size) k1 (by omega) (by omega))
  clear hs hF hX hY lX lY hd
  go_enter Tryz.func31, Tryz.ntmps31
  go_wp2_with fail
  refine HO1.out.mono ?_
  rintro e w1 ⟨rfl, rfl⟩
  go_wp2_with fail
  refine HO2.out.mono ?_
  rintro e w1 ⟨rfl, rfl⟩
  go_wp2_with fail
  refine HCT.out.mono ?_
  rintro e w2 ⟨v, rfl, hown, u2⟩
  obtain ⟨ga, capa, rfl, g1, g2, g3, g4, g5⟩ := hown.row (by rw [List.length_append, HL.out.1, HL.out.2.1]; omega)
  have HU2 := hid (HU1.out.trans u2)
  have HSM := hid hown.small
  have hzl : (X ++ Y).length = k + r := by rw [List.length_append, HL.out.1, HL.out.2.1]
  have HZL := hid hzl
  rw [hzl]
  have HGG := hid (And.intro g2 g3)
  clear hown u2 g1 g2 g3 g4 g5 HCT HO1 HO2 hzl
  go_wp2_with fail
  have HU3 := hid (HU2.out.alloc (.cells #[.slice (some ⟨ga, 0, none⟩) (k + r) capa] 22))
  have hu23 := (Up.refl Nul w2).alloc (.cells #[.slice (some ⟨ga, 0, none⟩) (k + r) capa] 22)
  have HCO := hid (containsT_any w2.heap.size ga (k + r) capa (X ++ Y) _ (World.cell?_alloc_new w2 #[.slice (some ⟨ga, 0, none⟩) (k + r) capa] 22 0) (by simp) (HGG.out.2.up hu23 HGG.out.1 id) (Nat.lt_of_lt_of_le HGG.out.1 hu23.size) HZL.out HSM.out (by omega))
  clear hu23
  refine HCO.out.mono ?_
  rintro e w3 ⟨⟨rfl, _⟩ | ⟨rfl, hb⟩, u3⟩
  · have HU4 := hid (HU3.out.trans u3)
    clear u3 HCO
    go_wp2
    go_ret2
    exact ⟨rfl, HU4.out⟩
  · obtain ⟨i, hi, hc⟩ := not_dst HL.out.2.2
    exact absurd hc (hb i (by rw [← HZL.out]; exact hi))
theorem cellsL2 {w0 w : World} {FS : List Nat} {p q F r c : Nat} {z : List Nat} (h : LS w0 FS w) (hm : LM FS w p q F r c z) :
    Calls Tryz.prog 61 #[.pointer (some ⟨p, 0, none⟩)] w fun e w' => ∃ g cap, e = .returned (.slice (some ⟨g, 0, none⟩) (r * c) cap) ∧ LR FS w' g 0 z ∧ Nxt FS w w' := by
  refine (cells_any p q F r c z w hm.mat).mono ?_
  rintro e w' ⟨g, cap, h1, h2, h3, h4, h5⟩
  exact ⟨g, cap, h1, ⟨h2, h4, h.lt h3⟩, h.nul h5⟩
theorem catL {w0 w : World} {FS : List Nat} {b1 b2 o1 o2 n1 n2 c1 c2 : Nat} {z1 z2 : List Nat} (h : LS w0 FS w) (h1 : LR FS w b1 o1 z1) (h2 : LR FS w b2 o2 z2) (l1 : z1.length = n1) (l2 : z2.length = n2) (n11 : 1 ≤ n1) (n12 : n1 ≤ 1024) (n22 : n2 ≤ 512) :
    Calls Tryz.prog 54 #[.slice (some ⟨w.heap.size, 0, none⟩) 2 2] (w.alloc (.cells #[.slice (some ⟨b1, o1, none⟩) n1 c1, .slice (some ⟨b2, o2, none⟩) n2 c2] 22))
      fun e w' => ∃ g cap, e = .returned (.slice (some ⟨g, 0, none⟩) (n1 + n2) cap) ∧ LR FS w' g 0 (z1 ++ z2) ∧ Nxt FS w w' := by
  have u := (Up.refl Nul w).alloc (.cells #[.slice (some ⟨b1, o1, none⟩) n1 c1, .slice (some ⟨b2, o2, none⟩) n2 c2] 22)
  refine (cat_b w.heap.size b1 b2 o1 o2 n1 n2 c1 c2 z1 z2 _ (World.cell?_alloc_new w _ _ 0) (World.cell?_alloc_new w _ _ 1) (h1.row.up u h1.lt id) (h2.row.up u h2.lt id) l1 l2 (Nat.lt_of_lt_of_le h1.lt u.size) (Nat.lt_of_lt_of_le h2.lt u.size) n11 n12 n22).mono ?_
  rintro e w' ⟨v, rfl, hown, u2⟩
  obtain ⟨g, cap, rfl, g1, g2, g3, _, _⟩ := hown.row (by rw [List.length_append]; omega)
  have hl : (z1 ++ z2).length = n1 + n2 := by rw [List.length_append, l1, l2]
  rw [hl]
  exact ⟨g, cap, rfl, ⟨g3, g2, h.lt (Nat.le_trans u.size g1)⟩, h.nul (u.trans u2)⟩
theorem inversesL (FS : List Nat) (w0 w : World) (F bx ox by_ oy k r cx cy : Nat) (X Y : List Nat) (hs : LS w0 FS w) (hF : F ∈ FS) (hX : LR FS w bx ox X) (hY : LR FS w by_ oy Y) (lX : X.length = k) (lY : Y.length = r) (k1 : 1 ≤ k) (r1 : 1 ≤ r) (k14 : k ≤ 14) (r4 : r ≤ 4)
    (hne : ∀ i j, i < k → j < r → X.getD i 0 ≠ Y.getD j 0) :
    Calls Tryz.prog 59 #[.pointer (some ⟨F, 0, none⟩), .slice (some ⟨bx, ox, none⟩) k cx, .slice (some ⟨by_, oy, none⟩) r cy] w
      fun e w' => ∃ g cap, e = .returned (.slice (some ⟨g, 0, none⟩) (r * k) cap) ∧ LR FS w' g 0 (coefZ k r X Y) ∧ Nxt FS w w' := by
  refine (inverses_any FS w0 w F bx ox by_ oy k r cx cy X Y hs hF hX hY lX lY k14 r4 hne).mono ?_
  rintro e w' ⟨v, rfl, hown, u, f⟩
  have hp := Nat.mul_le_mul r1 k1
  have hl : (coefZ k r X Y).length = r * k := tab_length _ _
  obtain ⟨g, cap, rfl, g1, g2, g3, _, _⟩ := hown.row (by omega)
  rw [hl]
  exact ⟨g, cap, rfl, ⟨g3, g2, hs.lt g1⟩, hs.one hF u f⟩
theorem newL2 {w0 w : World} {FS : List Nat} {F k r n b o cap : Nat} {z : List Nat} (h : LS w0 FS w) (hF : F ∈ FS) (r1 : 1 ≤ k + r) (r2 : k + r ≤ 32) (c1 : 1 ≤ k) (c2 : k ≤ 32) (hz : LR FS w b o z) (hl : z.length = n) (hn : n = (k + r) * k) :
    Calls Tryz.prog 60 #[.pointer (some ⟨F, 0, none⟩), .int .i64 ((k : Int) + (r : Int)), .int .i64 k, .slice (some ⟨b, o, none⟩) n cap] w
      fun e w' => ∃ p q, e = .returned (.tuple #[.pointer (some ⟨p, 0, none⟩), .int .i64 0]) ∧ LM FS w' p q F (k + r) k z ∧ Nxt FS w w' := by
  have H := newL (cap := cap) h hF r1 r2 c1 c2 hz hl hn
  have e : (((k + r : Nat)) : Int) = (k : Int) + (r : Int) := by simp
  rw [e] at H
  exact H
/-- Where New stands. -/
structure NS (w0 : World) (FS : List Nat) (w : World) (A g n cap bx ox by_ oy : Nat) (X Y z : List Nat) : Prop where
  ls : LS w0 FS w
  x : LR FS w bx ox X
  y : LR FS w by_ oy Y
  box : Boxd FS w A g n cap z
theorem NS.nxt {w0 : World} {FS : List Nat} {w w' : World} {A g n cap bx ox by_ oy : Nat} {X Y z : List Nat} (h : NS w0 FS w A g n cap bx ox by_ oy X Y z) (m : Nxt FS w w') : NS w0 FS w' A g n cap bx ox by_ oy X Y z :=
  ⟨h.ls.nxt m, h.x.nxt m, h.y.nxt m, h.box.nxt m⟩
theorem Dst.xy {X Y : List Nat} {k r : Nat} (h : Dst (X ++ Y)) (lX : X.length = k) (lY : Y.length = r) : ∀ i j, i < k → j < r → X.getD i 0 ≠ Y.getD j 0 := fun i j hi hj e => by
  have := h i (k + j) (by rw [List.length_append]; omega) (by rw [List.length_append]; omega) (by
    simp only [List.getD_eq_getElem?_getD] at e ⊢
    rw [List.getElem?_append_left (by omega), List.getElem?_append_right (by omega), lX, show k + j - k = j by omega]
    exact e)
  omega
set_option maxRecDepth 100000 in
set_option maxHeartbeats 3200000 in
theorem new_code (FS : List Nat) (w0 w : World) (F bx ox by_ oy k r cx cy : Nat) (X Y : List Nat) (hs : LS w0 FS w) (hF : F ∈ FS) (hX : LR FS w bx ox X) (hY : LR FS w by_ oy Y) (lX : X.length = k) (lY : Y.length = r) (k1 : 1 ≤ k) (k14 : k ≤ 14) (r1 : 1 ≤ r) (r4 : r ≤ 4) (hd : Dst (X ++ Y)) :
    Calls Tryz.prog 31 #[.pointer (some ⟨F, 0, none⟩), .slice (some ⟨bx, ox, none⟩) k cx, .slice (some ⟨by_, oy, none⟩) r cy] w
      fun e w' => ∃ c pp pq sp sq, e = .returned (.tuple #[.pointer (some ⟨c, 0, none⟩), .int .i64 0]) ∧ CD FS w' c F k r pp pq sp sq (coefZ k r X Y) ∧ Nxt FS w w' := by
  have HO1 := hid (out_no k cx 14 (some ⟨bx, ox, none⟩) w (by omega) (by omega))
  have HO2 := hid (out_no r cy 4 (some ⟨by_, oy, none⟩) w (by omega) (by omega))
  have HFM := hid hF
  have HL := hid (And.intro lX (And.intro lY hd))
  have hmf : ∀ (fn : Fn) (first cap : Array Value) (w : World), (Instr.makeFunc fn first cap).run Tryz.prog w = .ok (.func fn first cap) w := fun _ _ _ _ => rfl
  have HCT := hid (catL (c1 := cx) (c2 := cy) hs hX hY lX lY k1 (by omega) (by omega))
  have HS := hid (And.intro hs (And.intro hX hY))
  have HSM : Hid (∀ y ∈ X ++ Y, y < 256) := fun y hy => by
    obtain ⟨i, hi, rfl⟩ := List.mem_iff_getElem.1 hy
    have hx := hX.row.small
    have hyy := hY.row.small
    rcases Nat.lt_or_ge i X.length with h | h
    · have := hx i
      rw [List.getElem_append_left h]
      simpa [List.getD_eq_getElem?_getD, List.getElem?_eq_getElem h] using this
    · have hl : i - X.length < Y.length := by rw [List.length_append] at hi; omega
      have := hyy (i - X.length)
      rw [List.getElem_append_right h]
      simpa [List.getD_eq_getElem?_getD, List.getElem?_eq_getElem hl] using this
  clear hs hF hX hY lX lY hd
  go_enter Tryz.func31, Tryz.ntmps31
  go_wp2_with fail
  refine HO1.out.mono ?_
  rintro e w1 ⟨rfl, rfl⟩
  go_wp2_with fail
  refine HO2.out.mono ?_
  rintro e w1 ⟨rfl, rfl⟩
  go_wp2_with fail
  refine HCT.out.mono ?_
  rintro e w2 ⟨ga, capa, rfl, ra, n2⟩
  have HN2 := hid n2
  have HRA := hid ra
  have hl3 := (HS.out.1.nxt n2).alloc (.cells #[.slice (some ⟨ga, 0, none⟩) (k + r) capa] 22)
  have hns : NS w0 FS (w2.alloc (.cells #[.slice (some ⟨ga, 0, none⟩) (k + r) capa] 22)) w2.heap.size ga (k + r) capa bx ox by_ oy X Y (X ++ Y) :=
    ⟨(HS.out.1.nxt n2).nxt hl3, (HS.out.2.1.nxt n2).nxt hl3, (HS.out.2.2.nxt n2).nxt hl3, World.cell?_alloc_new w2 _ _ 0, by simp, (HS.out.1.nxt n2).lt (Nat.le_refl _), (ra.nxt hl3).row, (ra.nxt hl3).lt, ra.b⟩
  have HNS := hid hns
  have HNX := hid (n2.trans hl3)
  clear n2 ra hl3 hns HCT HO1 HO2
  go_wp2_with fail
  generalize (w2.alloc (.cells #[.slice (some ⟨ga, 0, none⟩) (k + r) capa] 22)) = w3 at *
  generalize w2.heap.size = A at *
  have HCO := hid (containsT_any A ga (k + r) capa (X ++ Y) w3 HNS.out.box.box HNS.out.box.lt HNS.out.box.row HNS.out.box.gl (by rw [List.length_append, HL.out.1, HL.out.2.1]) HSM.out (by omega))
  refine HCO.out.mono ?_
  rintro e w4 ⟨⟨rfl, i, hi, hc⟩ | ⟨rfl, _⟩, u4⟩
  · exact absurd hc (HL.out.2.2.count _)
  have H4 := hid (And.intro (HNS.out.nxt (HNS.out.ls.nul u4)) (HNX.out.trans (HNS.out.ls.nul u4)))
  clear u4 HCO HNS HNX HN2 HRA HS
  go_wp2_with fail
  refine (unitL H4.out.1.ls HFM.out k1 (by omega)).mono ?_
  rintro e w5 ⟨up, uq, rfl, m5, n5⟩
  have H5 := hid (And.intro (H4.out.1.nxt n5) (And.intro m5 (H4.out.2.trans n5)))
  clear m5 n5 H4
  go_wp2_with fail
  refine (inversesL FS w0 w5 F bx ox by_ oy k r cx cy X Y H5.out.1.ls HFM.out H5.out.1.x H5.out.1.y HL.out.1 HL.out.2.1 k1 r1 k14 r4 (HL.out.2.2.xy HL.out.1 HL.out.2.1)).mono ?_
  rintro e w6 ⟨gc, cc, rfl, rc, n6⟩
  have H6 := hid (And.intro (H5.out.1.nxt n6) (And.intro (H5.out.2.1.nxt n6) (And.intro rc (H5.out.2.2.trans n6))))
  clear rc n6 H5
  go_wp2_with fail
  refine (newL H6.out.1.ls HFM.out r1 (by omega) k1 (by omega) H6.out.2.2.1 (tab_length _ _) rfl).mono ?_
  rintro e w7 ⟨pp, pq, rfl, m7, n7⟩
  have H7 := hid (And.intro (H6.out.1.nxt n7) (And.intro (H6.out.2.1.nxt n7) (And.intro (H6.out.2.2.1.nxt n7) (And.intro m7 (H6.out.2.2.2.trans n7)))))
  clear m7 n7 H6
  go_wp2_with fail
  have s7 := H7.out.1.box.box
  have nd := H7.out.1.ls.drew
  have HD := hid (And.intro (H7.out.1.nxt nd) (And.intro (H7.out.2.1.nxt nd) (And.intro (H7.out.2.2.1.nxt nd) (And.intro (H7.out.2.2.2.1.nxt nd) (H7.out.2.2.2.2.trans nd)))))
  have hkk := Nat.mul_le_mul k1 k1
  have hkk2 : k * k ≤ 14 * 14 := Nat.mul_le_mul k14 k14
  have hrk2 : r * k ≤ 4 * 14 := Nat.mul_le_mul r4 k14
  have HLU : Hid ((unitZ k).length = k * k) := tab_length _ _
  have HLC : Hid ((coefZ k r X Y).length = r * k) := tab_length _ _
  have HLA : Hid ((unitZ k ++ coefZ k r X Y).length = k * k + r * k) := by show _ = _; rw [List.length_append, HLU.out, HLC.out]
  have HLM : Hid (k * k + r * k = (k + r) * k) := (Nat.add_mul _ _ _).symm
  have hk1 : 1 ≤ k + r := by omega
  have hk2 : k + r ≤ 32 := by omega
  have hk3 : k ≤ 32 := by omega
  have hkk3 : k * k ≤ 1024 := by omega
  have hrk3 : r * k ≤ 512 := by omega
  clear nd H7
  go_region_held3 (fun w' => w'.cell? ⟨A, 0, none⟩ = some (.slice (some ⟨ga, 0, none⟩) (k + r) capa)) (first | assumption | exact (World.cell?_alloc_past _ _ _ (by assumption)).trans (by assumption) | go_keep)
    ((first
      | (go_at_call 61; (with_reducible refine (cellsL2 HD.out.1.ls HD.out.2.1).mono ?_); rintro e w8 ⟨gu, cu, rfl, ru, n8⟩; have H8 := hid (And.intro (HD.out.1.nxt n8) (And.intro (HD.out.2.2.1.nxt n8) (And.intro (HD.out.2.2.2.1.nxt n8) (And.intro ru (HD.out.2.2.2.2.trans n8))))); have s8 := H8.out.1.box.box; have l8 := H8.out.1.box.lt; clear n8 ru)
      | (go_at_call 54; (with_reducible refine (catL H8.out.1.ls H8.out.2.2.2.1 H8.out.2.1 HLU.out HLC.out hkk hkk3 hrk3).mono ?_); rintro e w9 ⟨gk, ck, rfl, rk, n9⟩; have H9 := hid (And.intro (H8.out.1.nxt n9) (And.intro (H8.out.2.2.1.nxt n9) (And.intro rk (H8.out.2.2.2.2.trans n9)))); have s9 := H9.out.1.box.box; clear n9 rk)
      | (go_at_call 60; (with_reducible refine (newL2 H9.out.1.ls HFM.out hk1 hk2 k1 hk3 H9.out.2.2.1 HLA.out HLM.out).mono ?_); rintro e w10 ⟨sp, sq, rfl, m10, n10⟩; have H10 := hid (And.intro (H9.out.1.nxt n10) (And.intro (H9.out.2.1.nxt n10) (And.intro m10 (H9.out.2.2.2.trans n10)))); have s10 := H10.out.1.box.box; clear n10 m10)))
  clear s7 s8 s9 s10 l8 HD H8 H9
  go_wp2
  go_ret2
  have hc := fun j => World.cell?_alloc_new w10 #[.int .i64 k, .int .i64 r, .pointer (some ⟨pp, 0, none⟩), .pointer (some ⟨sp, 0, none⟩)] 87 j
  have nn := H10.out.1.ls.alloc (.cells #[.int .i64 k, .int .i64 r, .pointer (some ⟨pp, 0, none⟩), .pointer (some ⟨sp, 0, none⟩)] 87)
  exact ⟨w10.heap.size, pp, pq, sp, sq, rfl, ⟨hc 0, hc 1, hc 2, hc 3, by simp, H10.out.1.ls.lt (Nat.le_refl _), H10.out.2.1.nxt nn, H10.out.2.2.1.nxt nn, k14, r4⟩, H10.out.2.2.2.trans nn⟩

theorem cz_pick {k : Nat} {z : List Nat} {f : Nat → Nat} {i j : Nat} (hi : i < k) (hj : j < k) : cz k (pickZ k k z f) i j = z.getD (f i * k + j) 0 := by
  unfold cz pickZ
  have hlt : i * k + j < k * k := by
    have := Nat.mul_le_mul_right k (show i + 1 ≤ k from hi)
    rw [Nat.add_mul] at this
    omega
  rw [tab_at _ _ _ hlt, Nat.mul_comm i k, Nat.mul_add_mod, Nat.mod_eq_of_lt hj, Nat.mul_add_div (by omega), Nat.div_eq_of_lt hj, Nat.add_zero]
theorem stack_low {k t j : Nat} {Z : List Nat} (ht : t < k) (hj : j < k) : (unitZ k ++ Z).getD (t * k + j) 0 = GfM.idm t j := by
  have hlt : t * k + j < k * k := by
    have := Nat.mul_le_mul_right k (show t + 1 ≤ k from ht)
    rw [Nat.add_mul] at this
    omega
  have hl : (unitZ k).length = k * k := tab_length _ _
  have e : (unitZ k ++ Z).getD (t * k + j) 0 = (unitZ k).getD (t * k + j) 0 := by
    simp only [List.getD_eq_getElem?_getD, List.getElem?_append_left (show t * k + j < (unitZ k).length by omega)]
  rw [e]
  unfold unitZ
  rw [tab_at _ _ _ hlt, Nat.mul_comm t k, Nat.mul_add_mod, Nat.mod_eq_of_lt hj, Nat.mul_add_div (by omega), Nat.div_eq_of_lt hj, Nat.add_zero]
  rfl
theorem stack_high {k t j : Nat} {Z : List Nat} (ht : k ≤ t) : (unitZ k ++ Z).getD (t * k + j) 0 = Z.getD ((t - k) * k + j) 0 := by
  have hl : (unitZ k).length = k * k := tab_length _ _
  have hge : k * k ≤ t * k := Nat.mul_le_mul_right k ht
  simp only [List.getD_eq_getElem?_getD]
  rw [List.getElem?_append_right (by omega), hl, Nat.sub_mul]
  congr 2
  omega
theorem pick_small {k : Nat} {z : List Nat} {f : Nat → Nat} (h : ∀ x ∈ z, x < 256) : GfM.Small (cz k (pickZ k k z f)) := by
  refine cz_small fun x hx => ?_
  unfold pickZ at hx
  obtain ⟨i, _, rfl⟩ := List.mem_map.1 hx
  exact small_getD h _
theorem stack_small {k r : Nat} {X Y : List Nat} : ∀ x ∈ unitZ k ++ coefZ k r X Y, x < 256 := by
  intro x hx
  rcases List.mem_append.1 hx with hx | hx
  · exact tab_small (fun i => by split <;> omega) x hx
  · exact tab_small (fun i => GfM.inv_lt _) x hx
/-- Any k places of a Code's have an inverse. -/
theorem code_regular {k r n : Nat} {X Y T : List Nat} (lX : X.length = k) (lY : Y.length = r) (hd : Dst (X ++ Y)) (sX : ∀ i, X.getD i 0 < 256) (sY : ∀ i, Y.getD i 0 < 256) (hT : T.Nodup) (hlt : ∀ i, i < T.length → T.getD i 0 < k + r) (hk : k ≤ T.length) :
    ∃ M, GfM.run k (GfM.beside k (cz k (pickZ k k (unitZ k ++ coefZ k r X Y) fun i => T.getD i 0))) k = some M := by
  have hx : ∀ i, i < k → (X ++ Y).getD i 0 = X.getD i 0 := fun i hi => by
    simp only [List.getD_eq_getElem?_getD, List.getElem?_append_left (show i < X.length by omega)]
  have hy : ∀ t, k ≤ t → t < k + r → (X ++ Y).getD t 0 = Y.getD (t - k) 0 := fun t h1 h2 => by
    simp only [List.getD_eq_getElem?_getD]
    rw [List.getElem?_append_right (by omega), lX]
  have hll : (X ++ Y).length = k + r := by rw [List.length_append, lX, lY]
  have h := GfM.mixed_run (k := k) (π := fun i => T.getD i 0) (a := fun t => Y.getD (t - k) 0) (b := fun i => X.getD i 0) (A := cz k (pickZ k k (unitZ k ++ coefZ k r X Y) fun i => T.getD i 0)) (pick_small stack_small) (fun _ => sY _) (fun _ => sX _)
    (fun i j hi hj e => GfM.nodup_at hT (by omega) (by omega) e)
    (fun i j hi hj pi pj e => GfM.nodup_at hT (by omega) (by omega) (hd _ _ (by rw [hll]; exact hlt i (by omega)) (by rw [hll]; exact hlt j (by omega)) (by rw [hy _ pi (hlt i (by omega)), hy _ pj (hlt j (by omega))]; exact e)))
    (fun i j hi hj e => hd i j (by omega) (by omega) (by rw [hx i hi, hx j hj]; exact e))
    (fun i j hi pi hj e => by
      have := hd (T.getD i 0) j (by rw [hll]; exact hlt i (by omega)) (by omega) (by rw [hy _ pi (hlt i (by omega)), hx j hj]; exact e)
      omega)
    (fun i j hi pi hj => by rw [cz_pick hi hj]; exact stack_low pi hj)
    (fun i j hi pi hj => by
      rw [cz_pick hi hj, stack_high pi, coefZ_at (by have := hlt i (by omega); omega) hj])
  cases e : GfM.run k (GfM.beside k (cz k (pickZ k k (unitZ k ++ coefZ k r X Y) fun i => T.getD i 0))) k with
  | none => exact absurd e h
  | some M => exact ⟨M, rfl⟩
theorem Tl_regular {k r : Nat} {X Y : List Nat} (S : Nat → Option (List Nat)) (lX : X.length = k) (lY : Y.length = r) (hd : Dst (X ++ Y)) (sX : ∀ i, X.getD i 0 < 256) (sY : ∀ i, Y.getD i 0 < 256) (hk : k ≤ (Tl S (k + r)).length) :
    ∃ M, GfM.run k (GfM.beside k (cz k (pickZ k k (unitZ k ++ coefZ k r X Y) fun i => (Tl S (k + r)).getD i 0))) k = some M :=
  code_regular (n := k + r) lX lY hd sX sY (Tl_nodup _ _) (fun i hi => (Tl_mem hi).1) hk
theorem acrZ_at {k L j u : Nat} {z : List Nat} {R : Nat → List Nat} (hu : u < L) : (acrZ k L z R j).getD u 0 = GfM.xs k fun s => GfM.mul (z.getD (j * k + s) 0) ((R s).getD u 0) := tab_at _ _ _ hu
theorem acrZ_congr {k L j : Nat} {z : List Nat} {R Q : Nat → List Nat} (h : ∀ s, s < k → R s = Q s) : acrZ k L z R j = acrZ k L z Q j := by
  unfold acrZ
  exact tab_congr fun u hu => GfM.xs_congr fun s hs => by rw [h s hs]
theorem acrZ_small (k L : Nat) (z : List Nat) (R : Nat → List Nat) (j : Nat) : ∀ i, (acrZ k L z R j).getD i 0 < 256 := small_getD (tab_small fun _ => GfM.xs_lt fun _ _ => GfM.mul_lt _ _)
/-- All shards, of the data. -/
def full (k L : Nat) (Z : List Nat) (D : Nat → List Nat) : Nat → List Nat := two k D (acrZ k L Z D)
theorem full_low {k L t : Nat} {Z : List Nat} {D : Nat → List Nat} (h : t < k) : full k L Z D t = D t := by unfold full two; rw [if_pos h]
theorem full_high {k L t : Nat} {Z : List Nat} {D : Nat → List Nat} (h : k ≤ t) : full k L Z D t = acrZ k L Z D (t - k) := by unfold full two; rw [if_neg (by omega)]
theorem full_len {k L t : Nat} {Z : List Nat} {D : Nat → List Nat} (h : ∀ i, i < k → (D i).length = L) : (full k L Z D t).length = L := by
  rcases Nat.lt_or_ge t k with ht | ht
  · rw [full_low ht]; exact h t ht
  · rw [full_high ht]; exact acrZ_length _ _ _ _ _
/-- A shard's byte, as the sum of the data's. -/
theorem full_at {k L t u : Nat} {Z : List Nat} {D : Nat → List Nat} (hu : u < L) (sD : ∀ i j, (D i).getD j 0 < 256) : (full k L Z D t).getD u 0 = GfM.xs k fun v => GfM.mul ((unitZ k ++ Z).getD (t * k + v) 0) ((D v).getD u 0) := by
  rcases Nat.lt_or_ge t k with ht | ht
  · rw [full_low ht]
    have : (GfM.xs k fun v => GfM.mul ((unitZ k ++ Z).getD (t * k + v) 0) ((D v).getD u 0)) = GfM.xs k fun v => GfM.mul (GfM.idm t v) ((D v).getD u 0) := GfM.xs_congr fun v hv => by rw [stack_low ht hv]
    rw [this, GfM.xs_one ht fun s _ hne => by unfold GfM.idm; rw [if_neg fun e => hne e.symm, GfM.zero_mul]]
    unfold GfM.idm
    rw [if_pos rfl, GfM.one_mul (sD _ _)]
  · rw [full_high ht, acrZ_at hu]
    exact GfM.xs_congr fun v _ => by rw [stack_high ht]
/-- What is decoded of right shards. -/
theorem data_right {k r L : Nat} {Z : List Nat} {S : Nat → Option (List Nat)} {D : Nat → List Nat} {M : GfM.Mx} (hs : ∀ x ∈ unitZ k ++ Z, x < 256) (lD : ∀ i, i < k → (D i).length = L) (sD : ∀ i j, (D i).getD j 0 < 256) (hk : k ≤ (Tl S (k + r)).length)
    (hS : ∀ t, t < k + r → ∀ z, S t = some z → z = full k L Z D t) (hM : GfM.run k (GfM.beside k (cz k (pickZ k k (unitZ k ++ Z) fun i => (Tl S (k + r)).getD i 0))) k = some M) {i : Nat} (hi : i < k) :
    acrZ k L (invZ k M) (fun s => (S ((Tl S (k + r)).getD s 0)).getD []) i = D i := by
  refine (eq_tab (lD i hi) fun u hu => ?_).symm
  have h := GfM.undo (pick_small (f := fun i => (Tl S (k + r)).getD i 0) hs) hM (d := fun v => (D v).getD u 0) (fun v => sD v u) hi
  rw [← h]
  refine GfM.xs_congr fun s hsk => ?_
  obtain ⟨h1, z, h2⟩ := Tl_mem (S := S) (n := k + r) (i := s) (by omega)
  have e1 : (invZ k M).getD (i * k + s) 0 = GfM.half k M i s := cz_tab (f := fun i j => GfM.half k M i j) hi hsk
  rw [e1]
  show _ = GfM.mul _ (((S ((Tl S (k + r)).getD s 0)).getD []).getD u 0)
  rw [h2]
  show _ = GfM.mul _ (z.getD u 0)
  rw [hS _ h1 z h2, full_at hu sD]
  congr 1
  exact GfM.xs_congr fun v hv => by rw [cz_pick hsk hv]
theorem dec_right {k r L : Nat} {Z : List Nat} {S : Nat → Option (List Nat)} {D : Nat → List Nat} {M : GfM.Mx} (hs : ∀ x ∈ unitZ k ++ Z, x < 256) (lD : ∀ i, i < k → (D i).length = L) (sD : ∀ i j, (D i).getD j 0 < 256) (hk : k ≤ (Tl S (k + r)).length)
    (hS : ∀ t, t < k + r → ∀ z, S t = some z → z = full k L Z D t) (hM : GfM.run k (GfM.beside k (cz k (pickZ k k (unitZ k ++ Z) fun i => (Tl S (k + r)).getD i 0))) k = some M) {t : Nat} (ht : t < k + r) :
    decZ k r L Z S M t = full k L Z D t := by
  unfold decZ cpy
  rw [List.take_of_length_le (Nat.le_refl _)]
  split
  · next hm =>
    obtain ⟨_, h⟩ := Tl_iff.1 hm
    obtain ⟨z, hz⟩ := Option.isSome_iff_exists.1 h
    rw [hz]
    exact hS t ht z hz
  · unfold full two
    split
    · next hlt => exact data_right hs lD sD hk hS hM hlt
    · exact acrZ_congr fun s hsk => data_right hs lD sD hk hS hM hsk
/-- What is there is told as it is. -/
theorem dec_there {k r L : Nat} {Z : List Nat} {S : Nat → Option (List Nat)} {M : GfM.Mx} {t : Nat} {z : List Nat} (ht : t < k + r) (hz : S t = some z) : decZ k r L Z S M t = z := by
  unfold decZ cpy
  rw [List.take_of_length_le (Nat.le_refl _), if_pos (Tl_iff.2 ⟨ht, by rw [hz]; rfl⟩), hz]
  rfl

theorem i64_mask (k : Nat) (hk : k < 63) (n m : Int) (hm : (BitVec.ofInt 64 m).toNat = 2 ^ k - 1) : bits .and .i64 n m = n % (2 ^ k : Nat) := by
  have key : (BitVec.ofInt 64 n &&& BitVec.ofInt 64 m).toNat = (n % ((2 ^ 64 : Nat) : Int)).toNat % 2 ^ k := by
    rw [BitVec.toNat_and, BitVec.toNat_ofInt, hm, Nat.and_two_pow_sub_one_eq_mod]
  show IntKind.i64.wrap ((BitVec.ofInt 64 n &&& BitVec.ofInt 64 m).toNat : Nat) = n % (2 ^ k : Nat)
  rw [key, IntKind.wrap_i64]
  have h1 : (2 : Nat) ^ 64 = 2 ^ k * 2 ^ (64 - k) := by rw [← Nat.pow_add]; congr 1; omega
  have h2 : (0 : Int) ≤ n % ((2 ^ 64 : Nat) : Int) := Int.emod_nonneg _ (by decide)
  have h3 : (((n % ((2 ^ 64 : Nat) : Int)).toNat % 2 ^ k : Nat) : Int) = n % ((2 ^ k : Nat) : Int) := by
    rw [Int.natCast_emod, Int.toNat_of_nonneg h2, h1, Int.natCast_mul]
    exact Int.emod_emod_of_dvd n ⟨_, rfl⟩
  rw [h3]
  have h4 : (0 : Int) < ((2 ^ k : Nat) : Int) := by have := Nat.two_pow_pos k; omega
  have h5 := Int.emod_nonneg n (Int.ne_of_gt h4)
  have h6 := Int.emod_lt_of_pos n h4
  have h7 : (2 : Nat) ^ k ≤ 2 ^ 62 := Nat.pow_le_pow_right (by omega) (by omega)
  have h8 : (2 : Nat) ^ 62 = 4611686018427387904 := by decide
  omega
/-- Byte i of a code made of numbers. -/
def mdB (at_ : Int) (i : Nat) : Nat := ((at_ + 7 * (i : Int)) % 256).toNat
theorem mdB_inj {at_ : Int} {i j : Nat} (hi : i < 18) (hj : j < 18) (h : mdB at_ i = mdB at_ j) : i = j := by unfold mdB at h; omega
def mdX (at_ : Int) (k : Nat) : List Nat := tab k (mdB at_)
def mdY (at_ : Int) (k r : Nat) : List Nat := tab r fun j => mdB at_ (k + j)
theorem mdXY_at {at_ : Int} {k r i : Nat} (h : i < k + r) : (mdX at_ k ++ mdY at_ k r).getD i 0 = mdB at_ i := by
  have lx : (mdX at_ k).length = k := tab_length _ _
  simp only [List.getD_eq_getElem?_getD]
  rcases Nat.lt_or_ge i k with hi | hi
  · rw [List.getElem?_append_left (by omega)]
    have := tab_at k (mdB at_) i hi
    rw [List.getD_eq_getElem?_getD] at this
    exact this
  · rw [List.getElem?_append_right (by omega), lx]
    have := tab_at r (fun j => mdB at_ (k + j)) (i - k) (by omega)
    rw [List.getD_eq_getElem?_getD] at this
    rw [show k + (i - k) = i by omega] at this
    exact this
theorem md_dst {at_ : Int} {k r : Nat} (h : k + r ≤ 18) : Dst (mdX at_ k ++ mdY at_ k r) := by
  intro i j hi hj e
  have l : (mdX at_ k ++ mdY at_ k r).length = k + r := by rw [List.length_append]; unfold mdX mdY; rw [tab_length, tab_length]
  rw [l] at hi hj
  rw [mdXY_at hi, mdXY_at hj] at e
  exact mdB_inj (by omega) (by omega) e
/-- A code that is being filled: block P for the answer, block M for the code. -/
structure Fil (w : World) (P M : Nat) (zx zy : List Nat) (wr : World) (vx vy : Value) (B : Nat) : Prop where
  ox : OwnB (M + 1) wr vx zx
  oy : OwnB B wr vy zy
  mb : M + 1 ≤ B
  bw : B ≤ wr.heap.size
  xb : ∀ q, vx.ownBlock = some q → q < B
  m : wr.heap[M]? = some (.cells #[vx, vy] 79 (0, 0))
  p : wr.heap[P]? = some (.cells #[.slice none 0 0, .slice none 0 0] 79 (0, 0))
  up : Up Nul w wr
  PM : P < M
  Pw : w.heap.size ≤ P
theorem Fil.start (w : World) : Fil w w.heap.size (w.heap.size + 1) [] [] ((w.alloc (.cells #[.slice none 0 0, .slice none 0 0] 79)).alloc (.cells #[.slice none 0 0, .slice none 0 0] 79)) (.slice none 0 0) (.slice none 0 0) (w.heap.size + 2) := by
  have e : (w.alloc (.cells #[.slice none 0 0, .slice none 0 0] 79)).heap.size = w.heap.size + 1 := by simp
  have h2 := heap_alloc_new (w.alloc (.cells #[.slice none 0 0, .slice none 0 0] 79)) (.cells #[.slice none 0 0, .slice none 0 0] 79)
  rw [e] at h2
  exact ⟨OwnB.nil _ _, OwnB.nil _ _, by omega, by simp, (fun q h => by cases h), h2, (Below.heap_alloc _ _ _ (by rw [e]; omega)).trans (heap_alloc_new _ _), ((Up.refl _ _).alloc _).alloc _, by omega, Nat.le_refl _⟩
theorem Fil.c0 {w wr : World} {P M B : Nat} {zx zy : List Nat} {vx vy : Value} (h : Fil w P M zx zy wr vx vy B) : wr.cell? ⟨M, 0, none⟩ = some vx := by simp only [World.cell?, h.m]; rfl
theorem Fil.c1 {w wr : World} {P M B : Nat} {zx zy : List Nat} {vx vy : Value} (h : Fil w P M zx zy wr vx vy B) : wr.cell? ⟨M, 1, none⟩ = some vy := by simp only [World.cell?, h.m]; rfl
theorem Fil.fr {w wr : World} {P M B : Nat} {zx zy : List Nat} {vx vy : Value} (h : Fil w P M zx zy wr vx vy B) (j : Nat) : wr.frozen? ⟨M, j, none⟩ = false := by simp [World.frozen?, h.m]
/-- A document's code in block V. -/
structure LC (FS : List Nat) (w : World) (V gx cx gy cy k r : Nat) (X Y : List Nat) : Prop where
  c0 : w.cell? ⟨V, 0, none⟩ = some (.slice (some ⟨gx, 0, none⟩) k cx)
  c1 : w.cell? ⟨V, 1, none⟩ = some (.slice (some ⟨gy, 0, none⟩) r cy)
  lt : V < w.heap.size
  b : V ∉ FS
  x : LR FS w gx 0 X
  y : LR FS w gy 0 Y
theorem LC.nxt {FS : List Nat} {w w' : World} {V gx cx gy cy k r : Nat} {X Y : List Nat} (h : LC FS w V gx cx gy cy k r X Y) (n : Nxt FS w w') : LC FS w' V gx cx gy cy k r X Y :=
  have e : ∀ j, w'.cell? ⟨V, j, none⟩ = w.cell? ⟨V, j, none⟩ := fun j => n.up.cell (p := ⟨V, j, none⟩) h.lt h.b
  ⟨(e 0).trans h.c0, (e 1).trans h.c1, Nat.lt_of_lt_of_le h.lt n.up.size, h.b, h.x.nxt n, h.y.nxt n⟩
theorem LC.newF {FS : List Nat} {w w' : World} {V gx cx gy cy k r G : Nat} {X Y : List Nat} (h : LC FS w V gx cx gy cy k r X Y) (n : NewF w w' G) : LC (G :: FS) w' V gx cx gy cy k r X Y :=
  have e : ∀ j, w'.cell? ⟨V, j, none⟩ = w.cell? ⟨V, j, none⟩ := fun j => n.n.up.cell (p := ⟨V, j, none⟩) h.lt id
  ⟨(e 0).trans h.c0, (e 1).trans h.c1, Nat.lt_of_lt_of_le h.lt n.n.up.size, fun hm => by
    rcases List.mem_cons.1 hm with e | hm
    · have := h.lt
      have := n.eq
      omega
    · exact h.b hm, h.x.newF n, h.y.newF n⟩
theorem mdX_length (at_ : Int) (k : Nat) : (mdX at_ k).length = k := tab_length _ _
theorem mdY_length (at_ : Int) (k r : Nat) : (mdY at_ k r).length = r := tab_length _ _
theorem LC.new {w0 w : World} {FS : List Nat} {gx cx gy cy k r : Nat} {X Y : List Nat} (h : LS w0 FS w) (hx : LR FS w gx 0 X) (hy : LR FS w gy 0 Y) (t : TypeId) :
    LC FS (w.alloc (.cells #[.slice (some ⟨gx, 0, none⟩) k cx, .slice (some ⟨gy, 0, none⟩) r cy] t)) w.heap.size gx cx gy cy k r X Y :=
  have n := h.alloc (.cells #[.slice (some ⟨gx, 0, none⟩) k cx, .slice (some ⟨gy, 0, none⟩) r cy] t)
  ⟨World.cell?_alloc_new w _ _ 0, World.cell?_alloc_new w _ _ 1, by simp, h.lt (Nat.le_refl _), hx.nxt n, hy.nxt n⟩

/-- Where a law stands behind its Code. -/
structure CS (w0 : World) (FS : List Nat) (w : World) (V gx cx gy cy c F k r pp pq sp sq : Nat) (at_ : Int) : Prop where
  ls : LS w0 FS w
  lc : LC FS w V gx cx gy cy k r (mdX at_ k) (mdY at_ k r)
  cd : CD FS w c F k r pp pq sp sq (coefZ k r (mdX at_ k) (mdY at_ k r))
theorem CS.nxt {w0 : World} {FS : List Nat} {w w' : World} {V gx cx gy cy c F k r pp pq sp sq : Nat} {at_ : Int} (h : CS w0 FS w V gx cx gy cy c F k r pp pq sp sq at_) (n : Nxt FS w w') : CS w0 FS w' V gx cx gy cy c F k r pp pq sp sq at_ :=
  ⟨h.ls.nxt n, h.lc.nxt n, h.cd.nxt n⟩
theorem LS.grown {w0 w wr w2 : World} {FS : List Nat} {row : Option Nat} (h : LS w0 FS w) (n : Nxt FS w wr) (g : wr.grownBy w2 row) (hr : ∀ k, row = some k → w.heap.size ≤ k) : Nxt FS w w2 :=
  ⟨n.up.grown g hr, fun F hF => (n.fld F hF).up (Up.ofg g) fun e => by have := hr F e.symm; have := (h.fld F hF).lt; omega⟩

/-- A slice of bytes that came in, as numbers. -/
structure SlN (w : World) (a : Option Addr) (n : Nat) (z : List Nat) : Prop where
  len : z.length = n
  row : n = 0 ∨ ∃ b o, a = some ⟨b, o, none⟩ ∧ b < w.heap.size ∧ Row w b o z
  le : n ≤ 9223372036854775807
theorem SlN.up {S : Nat → Prop} {w w' : World} {a : Option Addr} {n : Nat} {z : List Nat} (h : SlN w a n z) (u : Up S w w') (hs : ∀ k, k < w.heap.size → ¬ S k) : SlN w' a n z :=
  ⟨h.len, by
    rcases h.row with e | ⟨b, o, e, hb, r⟩
    · exact .inl e
    · exact .inr ⟨b, o, e, Nat.lt_of_lt_of_le hb u.size, r.up u hb (hs b hb)⟩, h.le⟩
theorem SlN.small {w : World} {a : Option Addr} {n : Nat} {z : List Nat} (h : SlN w a n z) (i : Nat) : z.getD i 0 < 256 := by
  rcases h.row with e | ⟨b, o, _, _, r⟩
  · have hl := h.len
    rw [e] at hl
    rw [List.eq_nil_of_length_eq_zero hl]
    simp
  · exact r.small i
/-- Row i of the data. -/
def dat (L : Nat) (z : List Nat) (i : Nat) : List Nat := tab L fun j => if i * L + j < z.length then z.getD (i * L + j) 0 else (31 * i + 17 * j) % 256
theorem dat_length (L : Nat) (z : List Nat) (i : Nat) : (dat L z i).length = L := tab_length _ _
/-- The data, i rows of it made. -/
structure Dat (w : World) (L i : Nat) (z : List Nat) (v : Value) (b : Nat → Nat) (wr : World) : Prop where
  own : OwnV 22 w.heap.size wr v (lnV i L b)
  rows : ∀ t, t < i → Blk wr (b t) (dat L z t)
  base : ∀ t, t < i → w.heap.size ≤ b t
  inj : ∀ s t, s < i → t < i → b s = b t → s = t
  up : Up Nul w wr
theorem own_ne {base : Nat} {w : World} {v : Value} {xs : List Value} {q : Nat} {z : List Nat} (h : OwnV 22 base w v xs) (hb : Blk w q z) : v.ownBlock ≠ some q := by
  intro e
  rcases h.2 with ⟨e2, _⟩ | ⟨g, cap, cur, e2, _, h3, _⟩
  · subst e2; cases e
  · subst e2
    have : g = q := by simpa [Value.ownBlock] using e
    subst this
    rw [hb.heap] at h3
    cases h3
theorem OwnV.apart {T : TypeId} {S : Nat → Prop} {base : Nat} {w w' : World} {v : Value} {xs : List Value} (h : OwnV T base w v xs) (u : Up S w w') (hs : ∀ g, v.ownBlock = some g → ¬ S g) : OwnV T base w' v xs := by
  refine ⟨h.1, ?_⟩
  rcases h.2 with hn | ⟨g, cap, cur, h1, h2, h3, h4⟩
  · exact .inl hn
  · exact .inr ⟨g, cap, cur, h1, h2, (u.block g (Array.getElem?_eq_some_iff.1 h3).1 (hs g (by rw [h1]; rfl))).trans h3, h4⟩
theorem Dat.step {S : Nat → Prop} {w wr w2 : World} {L i : Nat} {z : List Nat} {v : Value} {b : Nat → Nat} (h : Dat w L i z v b wr) (u : Up S wr w2) (h1 : ∀ g, v.ownBlock = some g → ¬ S g) (h2 : ∀ t, t < i → ¬ S (b t)) (h3 : ∀ k, k < w.heap.size → ¬ S k) : Dat w L i z v b w2 :=
  ⟨h.own.apart u h1, fun t ht => (h.rows t ht).up u (h2 t ht), h.base, h.inj, ⟨u.os.trans h.up.os, u.tape.trans h.up.tape, u.output.trans h.up.output, Nat.le_trans h.up.size u.size, fun k hk hs => (u.block k (Nat.lt_of_lt_of_le hk h.up.size) (h3 k hk)).trans (h.up.block k hk hs)⟩⟩
theorem Dat.elim {w wr : World} {F L k : Nat} {z : List Nat} {v : Value} {b : Nat → Nat} (h : Dat w L k z v b wr) (k1 : 1 ≤ k) : ∃ g cap, v = .slice (some ⟨g, 0, none⟩) k cap ∧ Elim w F g k L b (dat L z) wr ∧ k ≤ cap := by
  have hl := lnV_length k L b
  obtain ⟨g, cap, e, e1, e2, e3, e4, e5⟩ := OwnV.row h.own (by omega)
  rw [hl] at e e5
  exact ⟨g, cap, e, ⟨fun i hi => e3 i _ (lnV_at hi), e4, e2, e1, h.rows, fun i _ => dat_length _ _ _, fun i hi => ⟨h.base i hi, fun eq => own_ne h.own (h.rows i hi) (by rw [e, eq]; rfl)⟩, h.inj, h.up.nul⟩, e5⟩
set_option maxRecDepth 100000 in
set_option maxHeartbeats 1600000 in
theorem data_any (F k L n cap : Nat) (a : Option Addr) (z : List Nat) (w : World) (hz : SlN w a n z) (k1 : 1 ≤ k) (k14 : k ≤ 14) (L70 : L ≤ 70) :
    Calls Tryz.prog 25 #[.int .i64 k, .int .i64 L, .slice a n cap] w
      fun e w' => (∃ g capg b, e = .returned (.slice (some ⟨g, 0, none⟩) k capg) ∧ Elim w F g k L b (dat L z) w' ∧ k ≤ capg) ∧ Up Nul w w' := by
  have HZ := hid hz
  have hle := hz.le
  clear hz
  go_enter Tryz.func25, Tryz.ntmps25
  go_wp2_with fail
  go_loopw [7, 8] (fun v i wr => ∃ t : Nat, t ≤ k ∧ i = .int .i64 t ∧ ∃ b, Dat w L t z v b wr) (fun _ i _ => k - (intOf i).toNat)
  case atStart => exact ⟨0, by omega, rfl, fun _ => 0, OwnV.nil _ _ _, fun _ h => absurd h (Nat.not_lt_zero _), fun _ h => absurd h (Nat.not_lt_zero _), fun _ _ h => absurd h (Nat.not_lt_zero _), Up.refl _ _⟩
  case round =>
    obtain ⟨i, hi, rfl, b, hd⟩ := hrel
    have HD := hid hd
    clear hd
    by_cases hlt : i < k
    · have hmk := make_bytes wr L (by omega)
      have ha := HD.out.step ((Up.refl Nul wr).alloc (.cells (bys (zer L)) 5)) (fun _ _ => id) (fun _ _ => id) fun _ _ => id
      have HB := hid (And.intro ha (Blk.new wr _ (zer_small L)))
      have HNB : Hid (∀ t, t < i → b t ≠ wr.heap.size) := fun t ht => by have := (HD.out.rows t ht).lt; omega
      have HWQ : Hid (w.heap.size ≤ wr.heap.size) := HD.out.up.size
      have HNV : Hid (u7.ownBlock ≠ some wr.heap.size) := fun e => by have := World.ownsRow.lt HD.out.own _ e; omega
      clear ha HD
      go_wp2_with fail
      generalize wr.alloc (.cells (bys (zer L)) 5) = wa at *
      generalize wr.heap.size = q at *
      clear hmk
      go_loopw [10] (fun j wr => ∃ t : Nat, t ≤ L ∧ j = .int .i64 t ∧ Dat w L i z u7 b wr ∧ ∃ y, Blk wr q y ∧ y.length = L ∧ ∀ u, u < t → y.getD u 0 = (dat L z i).getD u 0) (fun j _ => L - (intOf j).toNat)
      case atStart => exact ⟨0, by omega, rfl, HB.out.1, _, HB.out.2, zer_length _, fun _ h => absurd h (Nat.not_lt_zero _)⟩
      case round =>
        clear HB
        obtain ⟨j, hj, rfl, hd, y, hb, hl, hy⟩ := hrel
        have HD := hid hd
        have HB := hid (And.intro hb (And.intro hl hy))
        clear hd hb hl hy
        by_cases hlt2 : j < L
        · have x0 := HB.out.1.cell j (by rw [HB.out.2.1]; exact hlt2)
          have f0 := HB.out.1.froz j
          generalize y.getD j 0 = y0 at x0
          obtain ⟨cc, HCC⟩ : ∃ x, Hid ((31 * i + 17 * j) % 256 = x) := ⟨_, rfl⟩
          have c8 : cc < 256 := by rw [← HCC.out]; omega
          have hv : (31 * (i : Int) + 17 * (j : Int)) % 256 = (cc : Int) := by rw [← HCC.out]; omega
          have e1 : (i : Int) * (L : Int) = ((i * L : Nat) : Int) := by simp
          have hil : i * L ≤ 14 * 70 := Nat.mul_le_mul (by omega) L70
          obtain ⟨iL, HIL⟩ : ∃ x, Hid (i * L = x) := ⟨_, rfl⟩
          rw [HIL.out] at e1 hil
          have i1 : (0 : Int) ≤ (j : Int) := by omega
          have i2 : (j : Int) < (L : Int) := by omega
          have hsu : Up (One q) wr (wr.setCell ⟨q, j, none⟩ (.int .u8 cc)) := (Up.refl _ _).setCell (p := ⟨q, j, none⟩) (.inr (show One q q from rfl)) _
          have HS1 := hid hsu
          have x1 : (wr.setCell ⟨q, j, none⟩ (.int .u8 cc)).cell? ⟨q, j, none⟩ = some (.int .u8 cc) := World.cell?_setCell_same _ _ _ x0
          clear hsu
          by_cases hlt3 : iL + j < n
          · obtain ⟨bb, oo, rfl, hbb, hrow⟩ : ∃ b o, a = some ⟨b, o, none⟩ ∧ b < w.heap.size ∧ Row w b o z := by
              rcases HZ.out.row with e | h
              · omega
              · exact h
            have hne : bb ≠ q := by have := HWQ.out; omega
            have xb := ((hrow.up HD.out.up hbb id).cells (iL + j) (by rw [HZ.out.len]; exact hlt3))
            have xs := hrow.small (iL + j)
            obtain ⟨x, X⟩ : ∃ x, Hid (z.getD (iL + j) 0 = x) := ⟨_, rfl⟩
            rw [X.out] at xb xs
            have xb2 : (wr.setCell ⟨q, j, none⟩ (.int .u8 cc)).cell? ⟨bb, oo + (iL + j), none⟩ = some (.int .u8 x) := (HS1.out.cell (p := ⟨bb, oo + (iL + j), none⟩) (lt_of_cell xb) hne).trans xb
            have HV : Hid ((dat L z i).getD j 0 = x) := by
              show _ = _
              unfold dat
              rw [tab_at _ _ _ hlt2, HIL.out, if_pos (by rw [HZ.out.len]; exact hlt3), X.out]
            have hu2 : Up (One q) wr ((wr.setCell ⟨q, j, none⟩ (.int .u8 cc)).setCell ⟨q, j, none⟩ (.int .u8 x)) := HS1.out.setCell (p := ⟨q, j, none⟩) (.inr (show One q q from rfl)) _
            have HU2 := hid hu2
            have i3 : (0 : Int) ≤ (iL : Int) + (j : Int) := by omega
            have i4 : (iL : Int) + (j : Int) < (n : Int) := by omega
            clear hu2 hrow hne xb
            go_wp2
            go_roundw
            case rel => exact ⟨j + 1, by omega, by go_num, HD.out.step HU2.out (fun g hg e => HNV.out (by unfold One at e; rw [hg, e])) (fun t ht e => HNB.out t ht e) (fun q2 hq2 e => by have := HWQ.out; unfold One at e; omega), _, (HB.out.1.set j cc c8).set j x xs, by rw [List.length_set, List.length_set]; exact HB.out.2.1, fun u hu => by
              rw [getD_set _ _ _ _ (by rw [List.length_set, HB.out.2.1]; exact hlt2)]
              split
              · next e => rw [e, HV.out]
              · rw [getD_set _ _ _ _ (by rw [HB.out.2.1]; exact hlt2), if_neg (by assumption)]
                exact HB.out.2.2 u (by omega)⟩
            case measure => simp [intOf]; omega
          · have HV : Hid ((dat L z i).getD j 0 = cc) := by
              show _ = _
              unfold dat
              rw [tab_at _ _ _ hlt2, HIL.out, if_neg (by rw [HZ.out.len]; exact hlt3), HCC.out]
            have i4 : ¬ (iL : Int) + (j : Int) < (n : Int) := by omega
            go_wp2
            go_roundw
            case rel => exact ⟨j + 1, by omega, by go_num, HD.out.step HS1.out (fun g hg e => HNV.out (by unfold One at e; rw [hg, e])) (fun t ht e => HNB.out t ht e) (fun q2 hq2 e => by have := HWQ.out; unfold One at e; omega), _, HB.out.1.set j cc c8, by rw [List.length_set]; exact HB.out.2.1, fun u hu => by
              rw [getD_set _ _ _ _ (by rw [HB.out.2.1]; exact hlt2)]
              split
              · next e => rw [e, HV.out]
              · exact HB.out.2.2 u (by omega)⟩
            case measure => simp [intOf]; omega
        · obtain rfl : L = j := by omega
          have hyd : y = dat L z i := ext_getD (by rw [HB.out.2.1, dat_length]) fun u hu => HB.out.2.2 u (by rw [HB.out.2.1] at hu; exact hu)
          have HBL : Hid (Blk wr q (dat L z i)) := by show Blk wr q _; rw [← hyd]; exact HB.out.1
          have HLL : Hid ((lnV i L b).length + 1 ≤ 1000000) := by show _ ≤ _; rw [lnV_length]; omega
          clear hyd HB
          go_wp2_with (first
            | (at_builtin; refine wpList_append_vals Tryz.underlying30 info_sl rfl (by omega) rfl (.tmp 49) (.tmp 51) rfl w.heap.size u7 (lnV i L b) rfl (OwnV.alloc HD.out.own _) ⟨wr.heap.size, 0, none⟩ 1 1 [.slice (some ⟨q, 0, none⟩) L L] rfl (fun j u hj => by
                match j, hj with
                | 0, hj => cases hj; exact World.cell?_alloc_new wr _ _ 0) (fun u hu => by cases hu with | head => rfl | tail _ h => cases h) rfl HLL.out (by have := HD.out.up.size; simp; omega) ?_; intro v2 w2 G1 G2)
            | go_in)
          go_roundw
          case rel => exact ⟨i + 1, by omega, by go_num, fun t => if t = i then q else b t, by
            have hu : Up (fun x => some x = u7.ownBlock) (wr.alloc (.cells #[.slice (some ⟨q, 0, none⟩) L L] 22)) w2 := Up.ofg G2.out
            have ha := (Up.refl Nul wr).alloc (.cells #[.slice (some ⟨q, 0, none⟩) L L] 22)
            have hln : lnV (i + 1) L (fun t => if t = i then q else b t) = lnV i L b ++ [.slice (some ⟨q, 0, none⟩) L L] := by
              unfold lnV
              rw [List.range_succ, List.map_append]
              congr 1
              · exact List.map_congr_left fun t ht => by
                  have := List.mem_range.1 ht
                  simp only [if_neg (show ¬ t = i by omega)]
              · simp
            refine ⟨by rw [hln]; exact G1.out, fun t ht => ?_, fun t ht => ?_, fun s t hs ht e => ?_, ?_⟩
            · by_cases e : t = i
              · subst e
                simp only [if_true]
                exact (HBL.out.up ha id).up hu fun e => HNV.out e.symm
              · simp only [if_neg e]
                exact ((HD.out.rows t (by omega)).up ha id).up hu fun e2 => own_ne HD.out.own (HD.out.rows t (by omega)) e2.symm
            · by_cases e : t = i
              · subst e
                simp only [if_true]
                exact HWQ.out
              · simp only [if_neg e]
                exact HD.out.base t (by omega)
            · by_cases e1 : s = i
              · by_cases e2 : t = i
                · omega
                · simp only [if_pos e1, if_neg e2] at e
                  exact absurd e.symm (HNB.out t (by omega))
              · by_cases e2 : t = i
                · simp only [if_neg e1, if_pos e2] at e
                  exact absurd e (HNB.out s (by omega))
                · simp only [if_neg e1, if_neg e2] at e
                  exact HD.out.inj s t (by omega) (by omega) e
            · exact (HD.out.up.alloc _).grown G2.out fun x hx => OwnV.base HD.out.own x hx⟩
          case measure => simp [intOf]; omega
    · obtain rfl : k = i := by omega
      obtain ⟨g, capg, rfl, hel, hcg⟩ := HD.out.elim (F := F) k1
      have HE := hid (And.intro hel hcg)
      clear hel hcg
      go_wp2
      go_ret
      exact ⟨⟨g, capg, b, rfl, HE.out⟩, HD.out.up⟩

theorem bytes_below (w : World) (e : TypeId) (s : ByteArray) : Up Nul w (Lib.bytesWorld w e s) :=
  ⟨rfl, rfl, rfl, by rw [Lib.bytesWorld_size]; omega, fun k hk _ => Lib.bytesWorld_at_old w e s k hk⟩
theorem bytes_frozen (w : World) (e : TypeId) (s : ByteArray) (j : Nat) (hj : j < s.size) : (Lib.bytesWorld w e s).frozen? ⟨w.heap.size, j, none⟩ = false := by
  have hsz : s.size ≤ (Lib.bytesCells w e s).size := by
    unfold Lib.bytesCells
    rw [Array.size_append, Array.size_map]
    have : s.data.size = s.size := rfl
    omega
  simp only [World.frozen?, Lib.bytesWorld_at_new]
  simp
  omega
/-- A row that is turned byte by byte. -/
structure Trn (w : World) (q n : Nat) (y : List Nat) (wr : World) : Prop where
  row : Row wr q 0 y
  len : y.length = n
  frz : ∀ j, j < n → wr.frozen? ⟨q, j, none⟩ = false
  qw : w.heap.size ≤ q
  up : Up Nul w wr
theorem Trn.set {w wr : World} {q n : Nat} {y : List Nat} (h : Trn w q n y wr) {j v : Nat} (hj : j < n) (hv : v < 256) : Trn w q n (y.set j v) (wr.setCell ⟨q, j, none⟩ (.int .u8 v)) := by
  have hc := h.row.cells j (by rw [h.len]; exact hj)
  rw [Nat.zero_add] at hc
  refine ⟨⟨fun i hi => ?_, fun i => ?_⟩, by rw [List.length_set]; exact h.len, fun i hi => by rw [World.frozen?_setCell]; exact h.frz i hi, h.qw, h.up.setCell (p := ⟨q, j, none⟩) (.inl h.qw) _⟩
  · rw [List.length_set] at hi
    rw [Nat.zero_add, getD_set _ _ _ _ (by rw [h.len]; exact hj)]
    by_cases e : i = j
    · subst e
      rw [if_pos rfl]
      exact World.cell?_setCell_same _ _ _ hc
    · rw [if_neg e, World.cell?_setCell_other _ _ _ _ (by intro e2; have := congrArg Addr.off e2; simp at this; omega)]
      have := h.row.cells i hi
      rw [Nat.zero_add] at this
      exact this
  · rw [getD_set _ _ _ _ (by rw [h.len]; exact hj)]
    split
    · exact hv
    · exact h.row.small i
theorem Trn.drew {w wr : World} {q n : Nat} {y : List Nat} (h : Trn w q n y wr) : Trn w q n y wr.drew := ⟨⟨h.row.cells, h.row.small⟩, h.len, h.frz, h.qw, h.up.drew⟩
theorem Trn.start (w : World) (s : ByteArray) : Trn w w.heap.size s.size (nums s) (Lib.bytesWorld w 5 s) :=
  ⟨⟨fun i hi => by
    rw [nums_length] at hi
    rw [Nat.zero_add, Lib.bytesWorld_cell w _ s i hi]
    have hd : i < s.data.toList.length := by simpa using hi
    simp [nums, List.getD_eq_getElem?_getD, List.getElem?_map, List.getElem?_eq_getElem hd], nums_small s⟩, nums_length s, fun j hj => bytes_frozen w _ s j hj, Nat.le_refl _, bytes_below w _ s⟩

theorem acr_xor {k L j : Nat} {Z : List Nat} {D E : Nat → List Nat} (sD : ∀ i u, (D i).getD u 0 < 256) (sE : ∀ i u, (E i).getD u 0 < 256) :
    acrZ k L Z (fun i => tab L fun u => (D i).getD u 0 ^^^ (E i).getD u 0) j = tab L fun u => (acrZ k L Z D j).getD u 0 ^^^ (acrZ k L Z E j).getD u 0 := by
  refine tab_congr fun u hu => ?_
  rw [acrZ_at hu, acrZ_at hu, ← GfM.xs_xor]
  exact GfM.xs_congr fun s _ => by rw [tab_at _ _ _ hu, GfM.mul_xor _ (sD s u) (sE s u)]
theorem acr_turn {k L j q u : Nat} {Z : List Nat} {D D2 : Nat → List Nat} (hq : q < k) (hu : u < L) (h : ∀ s, s < k → s ≠ q → (D2 s).getD u 0 = (D s).getD u 0) (hne : (D2 q).getD u 0 ≠ (D q).getD u 0) (sD : ∀ i u, (D i).getD u 0 < 256) (s2 : ∀ i u, (D2 i).getD u 0 < 256)
    (hz : Z.getD (j * k + q) 0 ≠ 0) : acrZ k L Z D2 j ≠ acrZ k L Z D j := by
  intro e
  have e1 : (acrZ k L Z D2 j).getD u 0 = (acrZ k L Z D j).getD u 0 := by rw [e]
  rw [acrZ_at hu, acrZ_at hu] at e1
  have e2 : (GfM.xs k fun s => GfM.mul (Z.getD (j * k + s) 0) ((D2 s).getD u 0) ^^^ GfM.mul (Z.getD (j * k + s) 0) ((D s).getD u 0)) = 0 := by rw [GfM.xs_xor, e1, Nat.xor_self]
  rw [GfM.xs_one hq fun s hs hne2 => by rw [h s hs hne2, Nat.xor_self], ← GfM.mul_xor _ (s2 q u) (sD q u)] at e2
  exact hne (GfM.xor_eq_zero (GfM.mul_eq_zero hz e2))
theorem coef_pos {k r i j : Nat} {X Y : List Nat} (hi : i < k) (hj : j < r) (h : X.getD i 0 ≠ Y.getD j 0) : (coefZ k r X Y).getD (j * k + i) 0 ≠ 0 := by
  rw [coefZ_at hj hi]
  exact GfM.inv_pos (GfM.xor_ne fun e => h e.symm)
theorem md_pos {k r i j : Nat} {at_ : Int} (hi : i < k) (hj : j < r) (h : k + r ≤ 18) : (coefZ k r (mdX at_ k) (mdY at_ k r)).getD (j * k + i) 0 ≠ 0 :=
  coef_pos hi hj ((md_dst h).xy (mdX_length _ _) (mdY_length _ _ _) i j hi hj)
theorem Elim.fld {W w w' : World} {F gl n m : Nat} {b : Nat → Nat} {L : Nat → List Nat} (h : Elim W F gl n m b L w) (hF : F < W.heap.size) (u : Up (One F) w w') : Elim W F gl n m b L w' :=
  h.step u (fun e => by have := h.glo; unfold One at e; omega) (fun i hi e => by have := (h.own i hi).1; unfold One at e; omega) fun k _ e => e
theorem dataL {w0 w : World} {FS : List Nat} {F k L n cap : Nat} {a : Option Addr} {z : List Nat} (h : LS w0 FS w) (hF : F ∈ FS) (hz : SlN w0 a n z) (k1 : 1 ≤ k) (k14 : k ≤ 14) (L70 : L ≤ 70) :
    Calls Tryz.prog 25 #[.int .i64 k, .int .i64 L, .slice a n cap] w
      fun e w' => ∃ g capg b, e = .returned (.slice (some ⟨g, 0, none⟩) k capg) ∧ Elim w F g k L b (dat L z) w' ∧ k ≤ capg ∧ Up Nul w w' := by
  refine (data_any F k L n cap a z w (hz.up h.up fun _ _ => id) k1 k14 L70).mono ?_
  rintro e w' ⟨⟨g, capg, b, h1, h2, h3⟩, h4⟩
  exact ⟨g, capg, b, h1, h2, h3, h4⟩
theorem dataL8 {w0 w : World} {FS : List Nat} {F k n cap : Nat} {a : Option Addr} {z : List Nat} (h : LS w0 FS w) (hF : F ∈ FS) (hz : SlN w0 a n z) (k1 : 1 ≤ k) (k14 : k ≤ 14) :
    Calls Tryz.prog 25 #[.int .i64 k, .int .i64 8, .slice a n cap] w
      fun e w' => ∃ g capg b, e = .returned (.slice (some ⟨g, 0, none⟩) k capg) ∧ Elim w F g k 8 b (dat 8 z) w' ∧ k ≤ capg ∧ Up Nul w w' := dataL (L := 8) h hF hz k1 k14 (by omega)
theorem dataL9 {w0 w : World} {FS : List Nat} {F k n cap : Nat} {a : Option Addr} {z : List Nat} (h : LS w0 FS w) (hF : F ∈ FS) (hz : SlN w0 a n z) (k1 : 1 ≤ k) (k14 : k ≤ 14) :
    Calls Tryz.prog 25 #[.int .i64 k, .int .i64 9, .slice a n cap] w
      fun e w' => ∃ g capg b, e = .returned (.slice (some ⟨g, 0, none⟩) k capg) ∧ Elim w F g k 9 b (dat 9 z) w' ∧ k ≤ capg ∧ Up Nul w w' := dataL (L := 9) h hF hz k1 k14 (by omega)
/-- 'Encode' as the laws use it. -/
theorem encL {w0 w : World} {FS : List Nat} {c F k r pp pq sp sq g o cap L : Nat} {Z : List Nat} {R : Nat → List Nat} (h : LS w0 FS w) (hc : CD FS w c F k r pp pq sp sq Z) (hR : LL FS w g o k fun i => some (R i)) (hl : ∀ i, i < k → (R i).length = L) (hL : L ≤ 64) :
    Calls Tryz.prog 12 #[.pointer (some ⟨c, 0, none⟩), .slice (some ⟨g, o, none⟩) k cap] w
      fun e w' => ∃ gl b, e = .returned (.tuple #[.slice (some ⟨gl, 0, none⟩) r r, .int .i64 0]) ∧ Elim w F gl r L b (acrZ k L Z R) w' ∧ Nxt FS w w' ∧ Up (One F) w w' := by
  refine (enc_good FS w0 w c F k r pp pq sp sq Z g o cap L R h hc hR hl hL).mono ?_
  rintro e w' ⟨gl, b, h1, h2, h3⟩
  exact ⟨gl, b, h1, h2, h.one hc.par.F h2.up h3, h2.up⟩
theorem Elim.put {W w : World} {F gl n m : Nat} {b : Nat → Nat} {L : Nat → List Nat} (h : Elim W F gl n m b L w) {i : Nat} (hi : i < n) (j v : Nat) (hv : v < 256) : Elim W F gl n m b (updL L i ((L i).set j v)) (w.setCell ⟨b i, j, none⟩ (.int .u8 v)) :=
  h.turn hi ((h.rows i hi).set j v hv) (by rw [List.length_set]; exact h.lens i hi) ((Up.refl _ _).setCell (p := ⟨b i, j, none⟩) (.inr (show One (b i) (b i) from rfl)) _)
theorem blk_row {w : World} {q : Nat} {z : List Nat} (h : Blk w q z) : Row w q 0 z := by
  have hr := h.row 0 z.length (by omega)
  rwa [List.drop_zero, List.take_of_length_le (Nat.le_refl _)] at hr
theorem nums_row {z : List Nat} (h : ∀ i, z.getD i 0 < 256) : nums (strOf z) = z := nums_strOf h
theorem str_eq {y z : List Nat} (h : y = z) : (strOf y).toList == (strOf z).toList := by rw [h]; simp
end Go.Proofs.YtmaffnadmfphpaaGreat
