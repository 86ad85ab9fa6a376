/- 'code.New' makes a Code. -/
import Derived.Test.YtebglmfdchfplaaCodeNew
namespace Go.Proofs.Ytebglmfdchfplaa
open Go.RowKit
set_option linter.unusedVariables false

/-- Behind the rows laid one behind the other, in a cell of their own. -/
structure Boxd (FS : List Nat) (w : World) (A g n cap : Nat) (z : List Nat) : Prop where
  box : w.cell? ⟨A, 0, none⟩ = some (.slice (some ⟨g, 0, none⟩) n cap)
  lt : A < w.heap.size
  b : A ∉ FS
  row : Row w g 0 z
  gl : g < w.heap.size
  gb : g ∉ FS
theorem Boxd.nxt {FS : List Nat} {w w' : World} {A g n cap : Nat} {z : List Nat} (h : Boxd FS w A g n cap z) (m : Nxt FS w w') : Boxd FS w' A g n cap z :=
  ⟨(m.up.cell (p := ⟨A, 0, none⟩) h.lt h.b).trans h.box, Nat.lt_of_lt_of_le h.lt m.up.size, h.b, h.row.up m.up h.gl h.gb, Nat.lt_of_lt_of_le h.gl m.up.size, h.gb⟩

set_option maxRecDepth 100000 in
set_option maxHeartbeats 1600000 in
theorem new_twice (FS : List Nat) (w0 w : World) (F bx ox by_ oy k r cx cy : Nat) (X Y : List Nat) (hs : LS w0 FS w) (hF : F ∈ FS) (hX : LR FS w bx ox X) (hY : LR FS w by_ oy Y) (lX : X.length = k) (lY : Y.length = r) (k1 : 1 ≤ k) (k14 : k ≤ 14) (r1 : 1 ≤ r) (r4 : r ≤ 4) (hd : ¬ Dst (X ++ Y)) :
    Calls Try.prog 10 #[.pointer (some ⟨F, 0, none⟩), .slice (some ⟨bx, ox, none⟩) k cx, .slice (some ⟨by_, oy, none⟩) r cy] w
      fun e w' => e = .returned (.tuple #[.pointer none, .int .i64 1]) ∧ Up Nul w w' := by
  have HO1 := hid (out_no k cx 14 (some ⟨bx, ox, none⟩) w (by omega) (by omega))
  have HO2 := hid (out_no r cy 4 (some ⟨by_, oy, none⟩) w (by omega) (by omega))
  have HS := hid (And.intro hs (And.intro hX hY))
  have HL := hid (And.intro lX (And.intro lY hd))
  have hmf : ∀ (fn : Fn) (first cap : Array Value) (w : World), (Instr.makeFunc fn first cap).run Try.prog w = .ok (.func fn first cap) w := fun _ _ _ _ => rfl
  have HU1 := hid ((Up.refl Nul w).alloc (.cells #[.slice (some ⟨bx, ox, none⟩) k cx, .slice (some ⟨by_, oy, none⟩) r cy] 22))
  have HCT := hid (cat_b w.heap.size bx by_ ox oy k r cx cy X Y _ (World.cell?_alloc_new w #[.slice (some ⟨bx, ox, none⟩) k cx, .slice (some ⟨by_, oy, none⟩) r cy] 22 0) (World.cell?_alloc_new w #[.slice (some ⟨bx, ox, none⟩) k cx, .slice (some ⟨by_, oy, none⟩) r cy] 22 1)
    (hX.row.up HU1.out hX.lt id) (hY.row.up HU1.out hY.lt id) lX lY (Nat.lt_of_lt_of_le hX.lt HU1.out.size) (Nat.lt_of_lt_of_le hY.lt HU1.out.size) k1 (by omega) (by omega))
  clear hs hF hX hY lX lY hd
  go_enter Try.func10, Try.ntmps10
  go_wp2_with fail
  refine HO1.out.mono ?_
  rintro e w1 ⟨rfl, rfl⟩
  go_wp2_with fail
  refine HO2.out.mono ?_
  rintro e w1 ⟨rfl, rfl⟩
  go_wp2_with fail
  refine HCT.out.mono ?_
  rintro e w2 ⟨v, rfl, hown, u2⟩
  obtain ⟨ga, capa, rfl, g1, g2, g3, g4, g5⟩ := hown.row (by rw [List.length_append, HL.out.1, HL.out.2.1]; omega)
  have HU2 := hid (HU1.out.trans u2)
  have HSM := hid hown.small
  have hzl : (X ++ Y).length = k + r := by rw [List.length_append, HL.out.1, HL.out.2.1]
  have HZL := hid hzl
  rw [hzl]
  have HGG := hid (And.intro g2 g3)
  clear hown u2 g1 g2 g3 g4 g5 HCT HO1 HO2 hzl
  go_wp2_with fail
  have HU3 := hid (HU2.out.alloc (.cells #[.slice (some ⟨ga, 0, none⟩) (k + r) capa] 22))
  have hu23 := (Up.refl Nul w2).alloc (.cells #[.slice (some ⟨ga, 0, none⟩) (k + r) capa] 22)
  have HCO := hid (containsT_any w2.heap.size ga (k + r) capa (X ++ Y) _ (World.cell?_alloc_new w2 #[.slice (some ⟨ga, 0, none⟩) (k + r) capa] 22 0) (by simp) (HGG.out.2.up hu23 HGG.out.1 id) (Nat.lt_of_lt_of_le HGG.out.1 hu23.size) HZL.out HSM.out (by omega))
  clear hu23
  refine HCO.out.mono ?_
  rintro e w3 ⟨⟨rfl, _⟩ | ⟨rfl, hb⟩, u3⟩
  · have HU4 := hid (HU3.out.trans u3)
    clear u3 HCO
    go_wp2
    go_ret2
    exact ⟨rfl, HU4.out⟩
  · obtain ⟨i, hi, hc⟩ := not_dst HL.out.2.2
    exact absurd hc (hb i (by rw [← HZL.out]; exact hi))

/-! ### What may be -/
theorem cellsL2 {w0 w : World} {FS : List Nat} {p q F r c : Nat} {z : List Nat} (h : LS w0 FS w) (hm : LM FS w p q F r c z) :
    Calls Try.prog 34 #[.pointer (some ⟨p, 0, none⟩)] w fun e w' => ∃ g cap, e = .returned (.slice (some ⟨g, 0, none⟩) (r * c) cap) ∧ LR FS w' g 0 z ∧ Nxt FS w w' := by
  refine (cells_any p q F r c z w hm.mat).mono ?_
  rintro e w' ⟨g, cap, h1, h2, h3, h4, h5⟩
  exact ⟨g, cap, h1, ⟨h2, h4, h.lt h3⟩, h.nul h5⟩
theorem catL {w0 w : World} {FS : List Nat} {b1 b2 o1 o2 n1 n2 c1 c2 : Nat} {z1 z2 : List Nat} (h : LS w0 FS w) (h1 : LR FS w b1 o1 z1) (h2 : LR FS w b2 o2 z2) (l1 : z1.length = n1) (l2 : z2.length = n2) (n11 : 1 ≤ n1) (n12 : n1 ≤ 1024) (n22 : n2 ≤ 512) :
    Calls Try.prog 27 #[.slice (some ⟨w.heap.size, 0, none⟩) 2 2] (w.alloc (.cells #[.slice (some ⟨b1, o1, none⟩) n1 c1, .slice (some ⟨b2, o2, none⟩) n2 c2] 22))
      fun e w' => ∃ g cap, e = .returned (.slice (some ⟨g, 0, none⟩) (n1 + n2) cap) ∧ LR FS w' g 0 (z1 ++ z2) ∧ Nxt FS w w' := by
  have u := (Up.refl Nul w).alloc (.cells #[.slice (some ⟨b1, o1, none⟩) n1 c1, .slice (some ⟨b2, o2, none⟩) n2 c2] 22)
  refine (cat_b w.heap.size b1 b2 o1 o2 n1 n2 c1 c2 z1 z2 _ (World.cell?_alloc_new w _ _ 0) (World.cell?_alloc_new w _ _ 1) (h1.row.up u h1.lt id) (h2.row.up u h2.lt id) l1 l2 (Nat.lt_of_lt_of_le h1.lt u.size) (Nat.lt_of_lt_of_le h2.lt u.size) n11 n12 n22).mono ?_
  rintro e w' ⟨v, rfl, hown, u2⟩
  obtain ⟨g, cap, rfl, g1, g2, g3, _, _⟩ := hown.row (by rw [List.length_append]; omega)
  have hl : (z1 ++ z2).length = n1 + n2 := by rw [List.length_append, l1, l2]
  rw [hl]
  exact ⟨g, cap, rfl, ⟨g3, g2, h.lt (Nat.le_trans u.size g1)⟩, h.nul (u.trans u2)⟩
theorem inversesL (FS : List Nat) (w0 w : World) (F bx ox by_ oy k r cx cy : Nat) (X Y : List Nat) (hs : LS w0 FS w) (hF : F ∈ FS) (hX : LR FS w bx ox X) (hY : LR FS w by_ oy Y) (lX : X.length = k) (lY : Y.length = r) (k1 : 1 ≤ k) (r1 : 1 ≤ r) (k14 : k ≤ 14) (r4 : r ≤ 4)
    (hne : ∀ i j, i < k → j < r → X.getD i 0 ≠ Y.getD j 0) :
    Calls Try.prog 32 #[.pointer (some ⟨F, 0, none⟩), .slice (some ⟨bx, ox, none⟩) k cx, .slice (some ⟨by_, oy, none⟩) r cy] w
      fun e w' => ∃ g cap, e = .returned (.slice (some ⟨g, 0, none⟩) (r * k) cap) ∧ LR FS w' g 0 (coefZ k r X Y) ∧ Nxt FS w w' := by
  refine (inverses_any FS w0 w F bx ox by_ oy k r cx cy X Y hs hF hX hY lX lY k14 r4 hne).mono ?_
  rintro e w' ⟨v, rfl, hown, u, f⟩
  have hp := Nat.mul_le_mul r1 k1
  have hl : (coefZ k r X Y).length = r * k := tab_length _ _
  obtain ⟨g, cap, rfl, g1, g2, g3, _, _⟩ := hown.row (by omega)
  rw [hl]
  exact ⟨g, cap, rfl, ⟨g3, g2, hs.lt g1⟩, hs.one hF u f⟩
theorem newL2 {w0 w : World} {FS : List Nat} {F k r n b o cap : Nat} {z : List Nat} (h : LS w0 FS w) (hF : F ∈ FS) (r1 : 1 ≤ k + r) (r2 : k + r ≤ 32) (c1 : 1 ≤ k) (c2 : k ≤ 32) (hz : LR FS w b o z) (hl : z.length = n) (hn : n = (k + r) * k) :
    Calls Try.prog 33 #[.pointer (some ⟨F, 0, none⟩), .int .i64 ((k : Int) + (r : Int)), .int .i64 k, .slice (some ⟨b, o, none⟩) n cap] w
      fun e w' => ∃ p q, e = .returned (.tuple #[.pointer (some ⟨p, 0, none⟩), .int .i64 0]) ∧ LM FS w' p q F (k + r) k z ∧ Nxt FS w w' := by
  have H := newL (cap := cap) h hF r1 r2 c1 c2 hz hl hn
  have e : (((k + r : Nat)) : Int) = (k : Int) + (r : Int) := by simp
  rw [e] at H
  exact H
/-- Where New stands. -/
structure NS (w0 : World) (FS : List Nat) (w : World) (A g n cap bx ox by_ oy : Nat) (X Y z : List Nat) : Prop where
  ls : LS w0 FS w
  x : LR FS w bx ox X
  y : LR FS w by_ oy Y
  box : Boxd FS w A g n cap z
theorem NS.nxt {w0 : World} {FS : List Nat} {w w' : World} {A g n cap bx ox by_ oy : Nat} {X Y z : List Nat} (h : NS w0 FS w A g n cap bx ox by_ oy X Y z) (m : Nxt FS w w') : NS w0 FS w' A g n cap bx ox by_ oy X Y z :=
  ⟨h.ls.nxt m, h.x.nxt m, h.y.nxt m, h.box.nxt m⟩
theorem Dst.xy {X Y : List Nat} {k r : Nat} (h : Dst (X ++ Y)) (lX : X.length = k) (lY : Y.length = r) : ∀ i j, i < k → j < r → X.getD i 0 ≠ Y.getD j 0 := fun i j hi hj e => by
  have := h i (k + j) (by rw [List.length_append]; omega) (by rw [List.length_append]; omega) (by
    simp only [List.getD_eq_getElem?_getD] at e ⊢
    rw [List.getElem?_append_left (by omega), List.getElem?_append_right (by omega), lX, show k + j - k = j by omega]
    exact e)
  omega

set_option maxRecDepth 100000 in
set_option maxHeartbeats 3200000 in
theorem new_code (FS : List Nat) (w0 w : World) (F bx ox by_ oy k r cx cy : Nat) (X Y : List Nat) (hs : LS w0 FS w) (hF : F ∈ FS) (hX : LR FS w bx ox X) (hY : LR FS w by_ oy Y) (lX : X.length = k) (lY : Y.length = r) (k1 : 1 ≤ k) (k14 : k ≤ 14) (r1 : 1 ≤ r) (r4 : r ≤ 4) (hd : Dst (X ++ Y)) :
    Calls Try.prog 10 #[.pointer (some ⟨F, 0, none⟩), .slice (some ⟨bx, ox, none⟩) k cx, .slice (some ⟨by_, oy, none⟩) r cy] w
      fun e w' => ∃ c pp pq sp sq, e = .returned (.tuple #[.pointer (some ⟨c, 0, none⟩), .int .i64 0]) ∧ CD FS w' c F k r pp pq sp sq (coefZ k r X Y) ∧ Nxt FS w w' := by
  have HO1 := hid (out_no k cx 14 (some ⟨bx, ox, none⟩) w (by omega) (by omega))
  have HO2 := hid (out_no r cy 4 (some ⟨by_, oy, none⟩) w (by omega) (by omega))
  have HFM := hid hF
  have HL := hid (And.intro lX (And.intro lY hd))
  have hmf : ∀ (fn : Fn) (first cap : Array Value) (w : World), (Instr.makeFunc fn first cap).run Try.prog w = .ok (.func fn first cap) w := fun _ _ _ _ => rfl
  have HCT := hid (catL (c1 := cx) (c2 := cy) hs hX hY lX lY k1 (by omega) (by omega))
  have HS := hid (And.intro hs (And.intro hX hY))
  have HSM : Hid (∀ y ∈ X ++ Y, y < 256) := fun y hy => by
    obtain ⟨i, hi, rfl⟩ := List.mem_iff_getElem.1 hy
    have hx := hX.row.small
    have hyy := hY.row.small
    rcases Nat.lt_or_ge i X.length with h | h
    · have := hx i
      rw [List.getElem_append_left h]
      simpa [List.getD_eq_getElem?_getD, List.getElem?_eq_getElem h] using this
    · have hl : i - X.length < Y.length := by rw [List.length_append] at hi; omega
      have := hyy (i - X.length)
      rw [List.getElem_append_right h]
      simpa [List.getD_eq_getElem?_getD, List.getElem?_eq_getElem hl] using this
  clear hs hF hX hY lX lY hd
  go_enter Try.func10, Try.ntmps10
  go_wp2_with fail
  refine HO1.out.mono ?_
  rintro e w1 ⟨rfl, rfl⟩
  go_wp2_with fail
  refine HO2.out.mono ?_
  rintro e w1 ⟨rfl, rfl⟩
  go_wp2_with fail
  refine HCT.out.mono ?_
  rintro e w2 ⟨ga, capa, rfl, ra, n2⟩
  have HN2 := hid n2
  have HRA := hid ra
  have hl3 := (HS.out.1.nxt n2).alloc (.cells #[.slice (some ⟨ga, 0, none⟩) (k + r) capa] 22)
  have hns : NS w0 FS (w2.alloc (.cells #[.slice (some ⟨ga, 0, none⟩) (k + r) capa] 22)) w2.heap.size ga (k + r) capa bx ox by_ oy X Y (X ++ Y) :=
    ⟨(HS.out.1.nxt n2).nxt hl3, (HS.out.2.1.nxt n2).nxt hl3, (HS.out.2.2.nxt n2).nxt hl3, World.cell?_alloc_new w2 _ _ 0, by simp, (HS.out.1.nxt n2).lt (Nat.le_refl _), (ra.nxt hl3).row, (ra.nxt hl3).lt, ra.b⟩
  have HNS := hid hns
  have HNX := hid (n2.trans hl3)
  clear n2 ra hl3 hns HCT HO1 HO2
  go_wp2_with fail
  generalize (w2.alloc (.cells #[.slice (some ⟨ga, 0, none⟩) (k + r) capa] 22)) = w3 at *
  generalize w2.heap.size = A at *
  have HCO := hid (containsT_any A ga (k + r) capa (X ++ Y) w3 HNS.out.box.box HNS.out.box.lt HNS.out.box.row HNS.out.box.gl (by rw [List.length_append, HL.out.1, HL.out.2.1]) HSM.out (by omega))
  refine HCO.out.mono ?_
  rintro e w4 ⟨⟨rfl, i, hi, hc⟩ | ⟨rfl, _⟩, u4⟩
  · exact absurd hc (HL.out.2.2.count _)
  have H4 := hid (And.intro (HNS.out.nxt (HNS.out.ls.nul u4)) (HNX.out.trans (HNS.out.ls.nul u4)))
  clear u4 HCO HNS HNX HN2 HRA HS
  go_wp2_with fail
  refine (unitL H4.out.1.ls HFM.out k1 (by omega)).mono ?_
  rintro e w5 ⟨up, uq, rfl, m5, n5⟩
  have H5 := hid (And.intro (H4.out.1.nxt n5) (And.intro m5 (H4.out.2.trans n5)))
  clear m5 n5 H4
  go_wp2_with fail
  refine (inversesL FS w0 w5 F bx ox by_ oy k r cx cy X Y H5.out.1.ls HFM.out H5.out.1.x H5.out.1.y HL.out.1 HL.out.2.1 k1 r1 k14 r4 (HL.out.2.2.xy HL.out.1 HL.out.2.1)).mono ?_
  rintro e w6 ⟨gc, cc, rfl, rc, n6⟩
  have H6 := hid (And.intro (H5.out.1.nxt n6) (And.intro (H5.out.2.1.nxt n6) (And.intro rc (H5.out.2.2.trans n6))))
  clear rc n6 H5
  go_wp2_with fail
  refine (newL H6.out.1.ls HFM.out r1 (by omega) k1 (by omega) H6.out.2.2.1 (tab_length _ _) rfl).mono ?_
  rintro e w7 ⟨pp, pq, rfl, m7, n7⟩
  have H7 := hid (And.intro (H6.out.1.nxt n7) (And.intro (H6.out.2.1.nxt n7) (And.intro (H6.out.2.2.1.nxt n7) (And.intro m7 (H6.out.2.2.2.trans n7)))))
  clear m7 n7 H6
  go_wp2_with fail
  have s7 := H7.out.1.box.box
  have nd := H7.out.1.ls.drew
  have HD := hid (And.intro (H7.out.1.nxt nd) (And.intro (H7.out.2.1.nxt nd) (And.intro (H7.out.2.2.1.nxt nd) (And.intro (H7.out.2.2.2.1.nxt nd) (H7.out.2.2.2.2.trans nd)))))
  have hkk := Nat.mul_le_mul k1 k1
  have hkk2 : k * k ≤ 14 * 14 := Nat.mul_le_mul k14 k14
  have hrk2 : r * k ≤ 4 * 14 := Nat.mul_le_mul r4 k14
  have HLU : Hid ((unitZ k).length = k * k) := tab_length _ _
  have HLC : Hid ((coefZ k r X Y).length = r * k) := tab_length _ _
  have HLA : Hid ((unitZ k ++ coefZ k r X Y).length = k * k + r * k) := by show _ = _; rw [List.length_append, HLU.out, HLC.out]
  have HLM : Hid (k * k + r * k = (k + r) * k) := (Nat.add_mul _ _ _).symm
  have hk1 : 1 ≤ k + r := by omega
  have hk2 : k + r ≤ 32 := by omega
  have hk3 : k ≤ 32 := by omega
  have hkk3 : k * k ≤ 1024 := by omega
  have hrk3 : r * k ≤ 512 := by omega
  clear nd H7
  go_region_held3 (fun w' => w'.cell? ⟨A, 0, none⟩ = some (.slice (some ⟨ga, 0, none⟩) (k + r) capa)) (first | assumption | exact (World.cell?_alloc_past _ _ _ (by assumption)).trans (by assumption) | go_keep)
    ((first
      | (go_at_call 34; (with_reducible refine (cellsL2 HD.out.1.ls HD.out.2.1).mono ?_); rintro e w8 ⟨gu, cu, rfl, ru, n8⟩; have H8 := hid (And.intro (HD.out.1.nxt n8) (And.intro (HD.out.2.2.1.nxt n8) (And.intro (HD.out.2.2.2.1.nxt n8) (And.intro ru (HD.out.2.2.2.2.trans n8))))); have s8 := H8.out.1.box.box; have l8 := H8.out.1.box.lt; clear n8 ru)
      | (go_at_call 27; (with_reducible refine (catL H8.out.1.ls H8.out.2.2.2.1 H8.out.2.1 HLU.out HLC.out hkk hkk3 hrk3).mono ?_); rintro e w9 ⟨gk, ck, rfl, rk, n9⟩; have H9 := hid (And.intro (H8.out.1.nxt n9) (And.intro (H8.out.2.2.1.nxt n9) (And.intro rk (H8.out.2.2.2.2.trans n9)))); have s9 := H9.out.1.box.box; clear n9 rk)
      | (go_at_call 33; (with_reducible refine (newL2 H9.out.1.ls HFM.out hk1 hk2 k1 hk3 H9.out.2.2.1 HLA.out HLM.out).mono ?_); rintro e w10 ⟨sp, sq, rfl, m10, n10⟩; have H10 := hid (And.intro (H9.out.1.nxt n10) (And.intro (H9.out.2.1.nxt n10) (And.intro m10 (H9.out.2.2.2.trans n10)))); have s10 := H10.out.1.box.box; clear n10 m10)))
  clear s7 s8 s9 s10 l8 HD H8 H9
  go_wp2
  go_ret2
  have hc := fun j => World.cell?_alloc_new w10 #[.int .i64 k, .int .i64 r, .pointer (some ⟨pp, 0, none⟩), .pointer (some ⟨sp, 0, none⟩)] 73 j
  have nn := H10.out.1.ls.alloc (.cells #[.int .i64 k, .int .i64 r, .pointer (some ⟨pp, 0, none⟩), .pointer (some ⟨sp, 0, none⟩)] 73)
  exact ⟨w10.heap.size, pp, pq, sp, sq, rfl, ⟨hc 0, hc 1, hc 2, hc 3, by simp, H10.out.1.ls.lt (Nat.le_refl _), H10.out.2.1.nxt nn, H10.out.2.2.1.nxt nn, k14, r4⟩, H10.out.2.2.2.trans nn⟩
end Go.Proofs.Ytebglmfdchfplaa
