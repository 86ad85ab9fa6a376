/- Part 8 of what the walks rest on: CodeMake, CodeRight, CodeMade, CodeAwake, CodeEmptyWalk, CodeData. -/
import Derived.Test.YtkenfabnbmkhbaaGreatCB7
namespace Go.Proofs.YtkenfabnbmkhbaaGreat
open Go.RowKit
set_option linter.unusedVariables false

set_option maxRecDepth 100000 in
set_option maxHeartbeats 1600000 in
theorem new_twice (FS : List Nat) (w0 w : World) (F bx ox by_ oy k r cx cy : Nat) (X Y : List Nat) (hs : LS w0 FS w) (hF : F ∈ FS) (hX : LR FS w bx ox X) (hY : LR FS w by_ oy Y) (lX : X.length = k) (lY : Y.length = r) (k1 : 1 ≤ k) (k14 : k ≤ 14) (r1 : 1 ≤ r) (r4 : r ≤ 4) (hd : ¬ Dst (X ++ Y)) :
    Calls Tryz.prog 6 #[.pointer (some ⟨F, 0, none⟩), .slice (some ⟨bx, ox, none⟩) k cx, .slice (some ⟨by_, oy, none⟩) r cy] w
      fun e w' => e = .returned (.tuple #[.pointer none, .int .i64 1]) ∧ Up Nul w w' := by
  have HO1 := hid (out_no k cx 14 (some ⟨bx, ox, none⟩) w (by omega) (by omega))
  have HO2 := hid (out_no r cy 4 (some ⟨by_, oy, none⟩) w (by omega) (by omega))
  have HS := hid (And.intro hs (And.intro hX hY))
  have HL := hid (And.intro lX (And.intro lY hd))
  have hmf : ∀ (fn : Fn) (first cap : Array Value) (w : World), (Instr.makeFunc fn first cap).run Tryz.prog w = .ok (.func fn first cap) w := fun _ _ _ _ => rfl
  have HU1 := hid ((Up.refl Nul w).alloc (.cells #[.slice (some ⟨bx, ox, none⟩) k cx, .slice (some ⟨by_, oy, none⟩) r cy] 22))
  have HCT := hid (cat_b w.heap.size bx by_ ox oy k r cx cy X Y _ (World.cell?_alloc_new w #[.slice (some ⟨bx, ox, none⟩) k cx, .slice (some ⟨by_, oy, none⟩) r cy] 22 0) (World.cell?_alloc_new w #[.slice (some ⟨bx, ox, none⟩) k cx, .slice (some ⟨by_, oy, none⟩) r cy] 22 1)
    (hX.row.up HU1.out hX.lt id) (hY.row.up HU1.out hY.lt id) lX lY (Nat.lt_of_lt_of_le hX.lt HU1.out.size) (Nat.lt_of_lt_of_le hY.lt HU1.out.size) k1 (by omega) (by omega))
  clear hs hF hX hY lX lY hd
  go_enter Tryz.func6, Tryz.ntmps6
  go_wp2_with fail
  refine HO1.out.mono ?_
  rintro e w1 ⟨rfl, rfl⟩
  go_wp2_with fail
  refine HO2.out.mono ?_
  rintro e w1 ⟨rfl, rfl⟩
  go_wp2_with fail
  refine HCT.out.mono ?_
  rintro e w2 ⟨v, rfl, hown, u2⟩
  obtain ⟨ga, capa, rfl, g1, g2, g3, g4, g5⟩ := hown.row (by rw [List.length_append, HL.out.1, HL.out.2.1]; omega)
  have HU2 := hid (HU1.out.trans u2)
  have HSM := hid hown.small
  have hzl : (X ++ Y).length = k + r := by rw [List.length_append, HL.out.1, HL.out.2.1]
  have HZL := hid hzl
  rw [hzl]
  have HGG := hid (And.intro g2 g3)
  clear hown u2 g1 g2 g3 g4 g5 HCT HO1 HO2 hzl
  go_wp2_with fail
  have HU3 := hid (HU2.out.alloc (.cells #[.slice (some ⟨ga, 0, none⟩) (k + r) capa] 22))
  have hu23 := (Up.refl Nul w2).alloc (.cells #[.slice (some ⟨ga, 0, none⟩) (k + r) capa] 22)
  have HCO := hid (containsT_any w2.heap.size ga (k + r) capa (X ++ Y) _ (World.cell?_alloc_new w2 #[.slice (some ⟨ga, 0, none⟩) (k + r) capa] 22 0) (by simp) (HGG.out.2.up hu23 HGG.out.1 id) (Nat.lt_of_lt_of_le HGG.out.1 hu23.size) HZL.out HSM.out (by omega))
  clear hu23
  refine HCO.out.mono ?_
  rintro e w3 ⟨⟨rfl, _⟩ | ⟨rfl, hb⟩, u3⟩
  · have HU4 := hid (HU3.out.trans u3)
    clear u3 HCO
    go_wp2
    go_ret2
    exact ⟨rfl, HU4.out⟩
  · obtain ⟨i, hi, hc⟩ := not_dst HL.out.2.2
    exact absurd hc (hb i (by rw [← HZL.out]; exact hi))
theorem cellsL2 {w0 w : World} {FS : List Nat} {p q F r c : Nat} {z : List Nat} (h : LS w0 FS w) (hm : LM FS w p q F r c z) :
    Calls Tryz.prog 28 #[.pointer (some ⟨p, 0, none⟩)] w fun e w' => ∃ g cap, e = .returned (.slice (some ⟨g, 0, none⟩) (r * c) cap) ∧ LR FS w' g 0 z ∧ Nxt FS w w' := by
  refine (cells_any p q F r c z w hm.mat).mono ?_
  rintro e w' ⟨g, cap, h1, h2, h3, h4, h5⟩
  exact ⟨g, cap, h1, ⟨h2, h4, h.lt h3⟩, h.nul h5⟩
theorem catL {w0 w : World} {FS : List Nat} {b1 b2 o1 o2 n1 n2 c1 c2 : Nat} {z1 z2 : List Nat} (h : LS w0 FS w) (h1 : LR FS w b1 o1 z1) (h2 : LR FS w b2 o2 z2) (l1 : z1.length = n1) (l2 : z2.length = n2) (n11 : 1 ≤ n1) (n12 : n1 ≤ 1024) (n22 : n2 ≤ 512) :
    Calls Tryz.prog 21 #[.slice (some ⟨w.heap.size, 0, none⟩) 2 2] (w.alloc (.cells #[.slice (some ⟨b1, o1, none⟩) n1 c1, .slice (some ⟨b2, o2, none⟩) n2 c2] 22))
      fun e w' => ∃ g cap, e = .returned (.slice (some ⟨g, 0, none⟩) (n1 + n2) cap) ∧ LR FS w' g 0 (z1 ++ z2) ∧ Nxt FS w w' := by
  have u := (Up.refl Nul w).alloc (.cells #[.slice (some ⟨b1, o1, none⟩) n1 c1, .slice (some ⟨b2, o2, none⟩) n2 c2] 22)
  refine (cat_b w.heap.size b1 b2 o1 o2 n1 n2 c1 c2 z1 z2 _ (World.cell?_alloc_new w _ _ 0) (World.cell?_alloc_new w _ _ 1) (h1.row.up u h1.lt id) (h2.row.up u h2.lt id) l1 l2 (Nat.lt_of_lt_of_le h1.lt u.size) (Nat.lt_of_lt_of_le h2.lt u.size) n11 n12 n22).mono ?_
  rintro e w' ⟨v, rfl, hown, u2⟩
  obtain ⟨g, cap, rfl, g1, g2, g3, _, _⟩ := hown.row (by rw [List.length_append]; omega)
  have hl : (z1 ++ z2).length = n1 + n2 := by rw [List.length_append, l1, l2]
  rw [hl]
  exact ⟨g, cap, rfl, ⟨g3, g2, h.lt (Nat.le_trans u.size g1)⟩, h.nul (u.trans u2)⟩
theorem inversesL (FS : List Nat) (w0 w : World) (F bx ox by_ oy k r cx cy : Nat) (X Y : List Nat) (hs : LS w0 FS w) (hF : F ∈ FS) (hX : LR FS w bx ox X) (hY : LR FS w by_ oy Y) (lX : X.length = k) (lY : Y.length = r) (k1 : 1 ≤ k) (r1 : 1 ≤ r) (k14 : k ≤ 14) (r4 : r ≤ 4)
    (hne : ∀ i j, i < k → j < r → X.getD i 0 ≠ Y.getD j 0) :
    Calls Tryz.prog 26 #[.pointer (some ⟨F, 0, none⟩), .slice (some ⟨bx, ox, none⟩) k cx, .slice (some ⟨by_, oy, none⟩) r cy] w
      fun e w' => ∃ g cap, e = .returned (.slice (some ⟨g, 0, none⟩) (r * k) cap) ∧ LR FS w' g 0 (coefZ k r X Y) ∧ Nxt FS w w' := by
  refine (inverses_any FS w0 w F bx ox by_ oy k r cx cy X Y hs hF hX hY lX lY k14 r4 hne).mono ?_
  rintro e w' ⟨v, rfl, hown, u, f⟩
  have hp := Nat.mul_le_mul r1 k1
  have hl : (coefZ k r X Y).length = r * k := tab_length _ _
  obtain ⟨g, cap, rfl, g1, g2, g3, _, _⟩ := hown.row (by omega)
  rw [hl]
  exact ⟨g, cap, rfl, ⟨g3, g2, hs.lt g1⟩, hs.one hF u f⟩
theorem newL2 {w0 w : World} {FS : List Nat} {F k r n b o cap : Nat} {z : List Nat} (h : LS w0 FS w) (hF : F ∈ FS) (r1 : 1 ≤ k + r) (r2 : k + r ≤ 32) (c1 : 1 ≤ k) (c2 : k ≤ 32) (hz : LR FS w b o z) (hl : z.length = n) (hn : n = (k + r) * k) :
    Calls Tryz.prog 27 #[.pointer (some ⟨F, 0, none⟩), .int .i64 ((k : Int) + (r : Int)), .int .i64 k, .slice (some ⟨b, o, none⟩) n cap] w
      fun e w' => ∃ p q, e = .returned (.tuple #[.pointer (some ⟨p, 0, none⟩), .int .i64 0]) ∧ LM FS w' p q F (k + r) k z ∧ Nxt FS w w' := by
  have H := newL (cap := cap) h hF r1 r2 c1 c2 hz hl hn
  have e : (((k + r : Nat)) : Int) = (k : Int) + (r : Int) := by simp
  rw [e] at H
  exact H
/-- Where New stands. -/
structure NS (w0 : World) (FS : List Nat) (w : World) (A g n cap bx ox by_ oy : Nat) (X Y z : List Nat) : Prop where
  ls : LS w0 FS w
  x : LR FS w bx ox X
  y : LR FS w by_ oy Y
  box : Boxd FS w A g n cap z
theorem NS.nxt {w0 : World} {FS : List Nat} {w w' : World} {A g n cap bx ox by_ oy : Nat} {X Y z : List Nat} (h : NS w0 FS w A g n cap bx ox by_ oy X Y z) (m : Nxt FS w w') : NS w0 FS w' A g n cap bx ox by_ oy X Y z :=
  ⟨h.ls.nxt m, h.x.nxt m, h.y.nxt m, h.box.nxt m⟩
theorem Dst.xy {X Y : List Nat} {k r : Nat} (h : Dst (X ++ Y)) (lX : X.length = k) (lY : Y.length = r) : ∀ i j, i < k → j < r → X.getD i 0 ≠ Y.getD j 0 := fun i j hi hj e => by
  have := h i (k + j) (by rw [List.length_append]; omega) (by rw [List.length_append]; omega) (by
    simp only [List.getD_eq_getElem?_getD] at e ⊢
    rw [List.getElem?_append_left (by omega), List.getElem?_append_right (by omega), lX, show k + j - k = j by omega]
    exact e)
  omega
set_option maxRecDepth 100000 in
set_option maxHeartbeats 3200000 in
theorem new_code (FS : List Nat) (w0 w : World) (F bx ox by_ oy k r cx cy : Nat) (X Y : List Nat) (hs : LS w0 FS w) (hF : F ∈ FS) (hX : LR FS w bx ox X) (hY : LR FS w by_ oy Y) (lX : X.length = k) (lY : Y.length = r) (k1 : 1 ≤ k) (k14 : k ≤ 14) (r1 : 1 ≤ r) (r4 : r ≤ 4) (hd : Dst (X ++ Y)) :
    Calls Tryz.prog 6 #[.pointer (some ⟨F, 0, none⟩), .slice (some ⟨bx, ox, none⟩) k cx, .slice (some ⟨by_, oy, none⟩) r cy] w
      fun e w' => ∃ c pp pq sp sq, e = .returned (.tuple #[.pointer (some ⟨c, 0, none⟩), .int .i64 0]) ∧ CD FS w' c F k r pp pq sp sq (coefZ k r X Y) ∧ Nxt FS w w' := by
  have HO1 := hid (out_no k cx 14 (some ⟨bx, ox, none⟩) w (by omega) (by omega))
  have HO2 := hid (out_no r cy 4 (some ⟨by_, oy, none⟩) w (by omega) (by omega))
  have HFM := hid hF
  have HL := hid (And.intro lX (And.intro lY hd))
  have hmf : ∀ (fn : Fn) (first cap : Array Value) (w : World), (Instr.makeFunc fn first cap).run Tryz.prog w = .ok (.func fn first cap) w := fun _ _ _ _ => rfl
  have HCT := hid (catL (c1 := cx) (c2 := cy) hs hX hY lX lY k1 (by omega) (by omega))
  have HS := hid (And.intro hs (And.intro hX hY))
  have HSM : Hid (∀ y ∈ X ++ Y, y < 256) := fun y hy => by
    obtain ⟨i, hi, rfl⟩ := List.mem_iff_getElem.1 hy
    have hx := hX.row.small
    have hyy := hY.row.small
    rcases Nat.lt_or_ge i X.length with h | h
    · have := hx i
      rw [List.getElem_append_left h]
      simpa [List.getD_eq_getElem?_getD, List.getElem?_eq_getElem h] using this
    · have hl : i - X.length < Y.length := by rw [List.length_append] at hi; omega
      have := hyy (i - X.length)
      rw [List.getElem_append_right h]
      simpa [List.getD_eq_getElem?_getD, List.getElem?_eq_getElem hl] using this
  clear hs hF hX hY lX lY hd
  go_enter Tryz.func6, Tryz.ntmps6
  go_wp2_with fail
  refine HO1.out.mono ?_
  rintro e w1 ⟨rfl, rfl⟩
  go_wp2_with fail
  refine HO2.out.mono ?_
  rintro e w1 ⟨rfl, rfl⟩
  go_wp2_with fail
  refine HCT.out.mono ?_
  rintro e w2 ⟨ga, capa, rfl, ra, n2⟩
  have HN2 := hid n2
  have HRA := hid ra
  have hl3 := (HS.out.1.nxt n2).alloc (.cells #[.slice (some ⟨ga, 0, none⟩) (k + r) capa] 22)
  have hns : NS w0 FS (w2.alloc (.cells #[.slice (some ⟨ga, 0, none⟩) (k + r) capa] 22)) w2.heap.size ga (k + r) capa bx ox by_ oy X Y (X ++ Y) :=
    ⟨(HS.out.1.nxt n2).nxt hl3, (HS.out.2.1.nxt n2).nxt hl3, (HS.out.2.2.nxt n2).nxt hl3, World.cell?_alloc_new w2 _ _ 0, by simp, (HS.out.1.nxt n2).lt (Nat.le_refl _), (ra.nxt hl3).row, (ra.nxt hl3).lt, ra.b⟩
  have HNS := hid hns
  have HNX := hid (n2.trans hl3)
  clear n2 ra hl3 hns HCT HO1 HO2
  go_wp2_with fail
  generalize (w2.alloc (.cells #[.slice (some ⟨ga, 0, none⟩) (k + r) capa] 22)) = w3 at *
  generalize w2.heap.size = A at *
  have HCO := hid (containsT_any A ga (k + r) capa (X ++ Y) w3 HNS.out.box.box HNS.out.box.lt HNS.out.box.row HNS.out.box.gl (by rw [List.length_append, HL.out.1, HL.out.2.1]) HSM.out (by omega))
  refine HCO.out.mono ?_
  rintro e w4 ⟨⟨rfl, i, hi, hc⟩ | ⟨rfl, _⟩, u4⟩
  · exact absurd hc (HL.out.2.2.count _)
  have H4 := hid (And.intro (HNS.out.nxt (HNS.out.ls.nul u4)) (HNX.out.trans (HNS.out.ls.nul u4)))
  clear u4 HCO HNS HNX HN2 HRA HS
  go_wp2_with fail
  refine (unitL H4.out.1.ls HFM.out k1 (by omega)).mono ?_
  rintro e w5 ⟨up, uq, rfl, m5, n5⟩
  have H5 := hid (And.intro (H4.out.1.nxt n5) (And.intro m5 (H4.out.2.trans n5)))
  clear m5 n5 H4
  go_wp2_with fail
  refine (inversesL FS w0 w5 F bx ox by_ oy k r cx cy X Y H5.out.1.ls HFM.out H5.out.1.x H5.out.1.y HL.out.1 HL.out.2.1 k1 r1 k14 r4 (HL.out.2.2.xy HL.out.1 HL.out.2.1)).mono ?_
  rintro e w6 ⟨gc, cc, rfl, rc, n6⟩
  have H6 := hid (And.intro (H5.out.1.nxt n6) (And.intro (H5.out.2.1.nxt n6) (And.intro rc (H5.out.2.2.trans n6))))
  clear rc n6 H5
  go_wp2_with fail
  refine (newL H6.out.1.ls HFM.out r1 (by omega) k1 (by omega) H6.out.2.2.1 (tab_length _ _) rfl).mono ?_
  rintro e w7 ⟨pp, pq, rfl, m7, n7⟩
  have H7 := hid (And.intro (H6.out.1.nxt n7) (And.intro (H6.out.2.1.nxt n7) (And.intro (H6.out.2.2.1.nxt n7) (And.intro m7 (H6.out.2.2.2.trans n7)))))
  clear m7 n7 H6
  go_wp2_with fail
  have s7 := H7.out.1.box.box
  have nd := H7.out.1.ls.drew
  have HD := hid (And.intro (H7.out.1.nxt nd) (And.intro (H7.out.2.1.nxt nd) (And.intro (H7.out.2.2.1.nxt nd) (And.intro (H7.out.2.2.2.1.nxt nd) (H7.out.2.2.2.2.trans nd)))))
  have hkk := Nat.mul_le_mul k1 k1
  have hkk2 : k * k ≤ 14 * 14 := Nat.mul_le_mul k14 k14
  have hrk2 : r * k ≤ 4 * 14 := Nat.mul_le_mul r4 k14
  have HLU : Hid ((unitZ k).length = k * k) := tab_length _ _
  have HLC : Hid ((coefZ k r X Y).length = r * k) := tab_length _ _
  have HLA : Hid ((unitZ k ++ coefZ k r X Y).length = k * k + r * k) := by show _ = _; rw [List.length_append, HLU.out, HLC.out]
  have HLM : Hid (k * k + r * k = (k + r) * k) := (Nat.add_mul _ _ _).symm
  have hk1 : 1 ≤ k + r := by omega
  have hk2 : k + r ≤ 32 := by omega
  have hk3 : k ≤ 32 := by omega
  have hkk3 : k * k ≤ 1024 := by omega
  have hrk3 : r * k ≤ 512 := by omega
  clear nd H7
  go_region_held3 (fun w' => w'.cell? ⟨A, 0, none⟩ = some (.slice (some ⟨ga, 0, none⟩) (k + r) capa)) (first | assumption | exact (World.cell?_alloc_past _ _ _ (by assumption)).trans (by assumption) | go_keep)
    ((first
      | (go_at_call 28; (with_reducible refine (cellsL2 HD.out.1.ls HD.out.2.1).mono ?_); rintro e w8 ⟨gu, cu, rfl, ru, n8⟩; have H8 := hid (And.intro (HD.out.1.nxt n8) (And.intro (HD.out.2.2.1.nxt n8) (And.intro (HD.out.2.2.2.1.nxt n8) (And.intro ru (HD.out.2.2.2.2.trans n8))))); have s8 := H8.out.1.box.box; have l8 := H8.out.1.box.lt; clear n8 ru)
      | (go_at_call 21; (with_reducible refine (catL H8.out.1.ls H8.out.2.2.2.1 H8.out.2.1 HLU.out HLC.out hkk hkk3 hrk3).mono ?_); rintro e w9 ⟨gk, ck, rfl, rk, n9⟩; have H9 := hid (And.intro (H8.out.1.nxt n9) (And.intro (H8.out.2.2.1.nxt n9) (And.intro rk (H8.out.2.2.2.2.trans n9)))); have s9 := H9.out.1.box.box; clear n9 rk)
      | (go_at_call 27; (with_reducible refine (newL2 H9.out.1.ls HFM.out hk1 hk2 k1 hk3 H9.out.2.2.1 HLA.out HLM.out).mono ?_); rintro e w10 ⟨sp, sq, rfl, m10, n10⟩; have H10 := hid (And.intro (H9.out.1.nxt n10) (And.intro (H9.out.2.1.nxt n10) (And.intro m10 (H9.out.2.2.2.trans n10)))); have s10 := H10.out.1.box.box; clear n10 m10)))
  clear s7 s8 s9 s10 l8 HD H8 H9
  go_wp2
  go_ret2
  have hc := fun j => World.cell?_alloc_new w10 #[.int .i64 k, .int .i64 r, .pointer (some ⟨pp, 0, none⟩), .pointer (some ⟨sp, 0, none⟩)] 70 j
  have nn := H10.out.1.ls.alloc (.cells #[.int .i64 k, .int .i64 r, .pointer (some ⟨pp, 0, none⟩), .pointer (some ⟨sp, 0, none⟩)] 70)
  exact ⟨w10.heap.size, pp, pq, sp, sq, rfl, ⟨hc 0, hc 1, hc 2, hc 3, by simp, H10.out.1.ls.lt (Nat.le_refl _), H10.out.2.1.nxt nn, H10.out.2.2.1.nxt nn, k14, r4⟩, H10.out.2.2.2.trans nn⟩

theorem cz_pick {k : Nat} {z : List Nat} {f : Nat → Nat} {i j : Nat} (hi : i < k) (hj : j < k) : cz k (pickZ k k z f) i j = z.getD (f i * k + j) 0 := by
  unfold cz pickZ
  have hlt : i * k + j < k * k := by
    have := Nat.mul_le_mul_right k (show i + 1 ≤ k from hi)
    rw [Nat.add_mul] at this
    omega
  rw [tab_at _ _ _ hlt, Nat.mul_comm i k, Nat.mul_add_mod, Nat.mod_eq_of_lt hj, Nat.mul_add_div (by omega), Nat.div_eq_of_lt hj, Nat.add_zero]
theorem stack_low {k t j : Nat} {Z : List Nat} (ht : t < k) (hj : j < k) : (unitZ k ++ Z).getD (t * k + j) 0 = GfM.idm t j := by
  have hlt : t * k + j < k * k := by
    have := Nat.mul_le_mul_right k (show t + 1 ≤ k from ht)
    rw [Nat.add_mul] at this
    omega
  have hl : (unitZ k).length = k * k := tab_length _ _
  have e : (unitZ k ++ Z).getD (t * k + j) 0 = (unitZ k).getD (t * k + j) 0 := by
    simp only [List.getD_eq_getElem?_getD, List.getElem?_append_left (show t * k + j < (unitZ k).length by omega)]
  rw [e]
  unfold unitZ
  rw [tab_at _ _ _ hlt, Nat.mul_comm t k, Nat.mul_add_mod, Nat.mod_eq_of_lt hj, Nat.mul_add_div (by omega), Nat.div_eq_of_lt hj, Nat.add_zero]
  rfl
theorem stack_high {k t j : Nat} {Z : List Nat} (ht : k ≤ t) : (unitZ k ++ Z).getD (t * k + j) 0 = Z.getD ((t - k) * k + j) 0 := by
  have hl : (unitZ k).length = k * k := tab_length _ _
  have hge : k * k ≤ t * k := Nat.mul_le_mul_right k ht
  simp only [List.getD_eq_getElem?_getD]
  rw [List.getElem?_append_right (by omega), hl, Nat.sub_mul]
  congr 2
  omega
theorem pick_small {k : Nat} {z : List Nat} {f : Nat → Nat} (h : ∀ x ∈ z, x < 256) : GfM.Small (cz k (pickZ k k z f)) := by
  refine cz_small fun x hx => ?_
  unfold pickZ at hx
  obtain ⟨i, _, rfl⟩ := List.mem_map.1 hx
  exact small_getD h _
theorem stack_small {k r : Nat} {X Y : List Nat} : ∀ x ∈ unitZ k ++ coefZ k r X Y, x < 256 := by
  intro x hx
  rcases List.mem_append.1 hx with hx | hx
  · exact tab_small (fun i => by split <;> omega) x hx
  · exact tab_small (fun i => GfM.inv_lt _) x hx
/-- Any k places of a Code's have an inverse. -/
theorem code_regular {k r n : Nat} {X Y T : List Nat} (lX : X.length = k) (lY : Y.length = r) (hd : Dst (X ++ Y)) (sX : ∀ i, X.getD i 0 < 256) (sY : ∀ i, Y.getD i 0 < 256) (hT : T.Nodup) (hlt : ∀ i, i < T.length → T.getD i 0 < k + r) (hk : k ≤ T.length) :
    ∃ M, GfM.run k (GfM.beside k (cz k (pickZ k k (unitZ k ++ coefZ k r X Y) fun i => T.getD i 0))) k = some M := by
  have hx : ∀ i, i < k → (X ++ Y).getD i 0 = X.getD i 0 := fun i hi => by
    simp only [List.getD_eq_getElem?_getD, List.getElem?_append_left (show i < X.length by omega)]
  have hy : ∀ t, k ≤ t → t < k + r → (X ++ Y).getD t 0 = Y.getD (t - k) 0 := fun t h1 h2 => by
    simp only [List.getD_eq_getElem?_getD]
    rw [List.getElem?_append_right (by omega), lX]
  have hll : (X ++ Y).length = k + r := by rw [List.length_append, lX, lY]
  have h := GfM.mixed_run (k := k) (π := fun i => T.getD i 0) (a := fun t => Y.getD (t - k) 0) (b := fun i => X.getD i 0) (A := cz k (pickZ k k (unitZ k ++ coefZ k r X Y) fun i => T.getD i 0)) (pick_small stack_small) (fun _ => sY _) (fun _ => sX _)
    (fun i j hi hj e => GfM.nodup_at hT (by omega) (by omega) e)
    (fun i j hi hj pi pj e => GfM.nodup_at hT (by omega) (by omega) (hd _ _ (by rw [hll]; exact hlt i (by omega)) (by rw [hll]; exact hlt j (by omega)) (by rw [hy _ pi (hlt i (by omega)), hy _ pj (hlt j (by omega))]; exact e)))
    (fun i j hi hj e => hd i j (by omega) (by omega) (by rw [hx i hi, hx j hj]; exact e))
    (fun i j hi pi hj e => by
      have := hd (T.getD i 0) j (by rw [hll]; exact hlt i (by omega)) (by omega) (by rw [hy _ pi (hlt i (by omega)), hx j hj]; exact e)
      omega)
    (fun i j hi pi hj => by rw [cz_pick hi hj]; exact stack_low pi hj)
    (fun i j hi pi hj => by
      rw [cz_pick hi hj, stack_high pi, coefZ_at (by have := hlt i (by omega); omega) hj])
  cases e : GfM.run k (GfM.beside k (cz k (pickZ k k (unitZ k ++ coefZ k r X Y) fun i => T.getD i 0))) k with
  | none => exact absurd e h
  | some M => exact ⟨M, rfl⟩
theorem Tl_regular {k r : Nat} {X Y : List Nat} (S : Nat → Option (List Nat)) (lX : X.length = k) (lY : Y.length = r) (hd : Dst (X ++ Y)) (sX : ∀ i, X.getD i 0 < 256) (sY : ∀ i, Y.getD i 0 < 256) (hk : k ≤ (Tl S (k + r)).length) :
    ∃ M, GfM.run k (GfM.beside k (cz k (pickZ k k (unitZ k ++ coefZ k r X Y) fun i => (Tl S (k + r)).getD i 0))) k = some M :=
  code_regular (n := k + r) lX lY hd sX sY (Tl_nodup _ _) (fun i hi => (Tl_mem hi).1) hk
theorem acrZ_at {k L j u : Nat} {z : List Nat} {R : Nat → List Nat} (hu : u < L) : (acrZ k L z R j).getD u 0 = GfM.xs k fun s => GfM.mul (z.getD (j * k + s) 0) ((R s).getD u 0) := tab_at _ _ _ hu
theorem acrZ_congr {k L j : Nat} {z : List Nat} {R Q : Nat → List Nat} (h : ∀ s, s < k → R s = Q s) : acrZ k L z R j = acrZ k L z Q j := by
  unfold acrZ
  exact tab_congr fun u hu => GfM.xs_congr fun s hs => by rw [h s hs]
theorem acrZ_small (k L : Nat) (z : List Nat) (R : Nat → List Nat) (j : Nat) : ∀ i, (acrZ k L z R j).getD i 0 < 256 := small_getD (tab_small fun _ => GfM.xs_lt fun _ _ => GfM.mul_lt _ _)
/-- All shards, of the data. -/
def full (k L : Nat) (Z : List Nat) (D : Nat → List Nat) : Nat → List Nat := two k D (acrZ k L Z D)
theorem full_low {k L t : Nat} {Z : List Nat} {D : Nat → List Nat} (h : t < k) : full k L Z D t = D t := by unfold full two; rw [if_pos h]
theorem full_high {k L t : Nat} {Z : List Nat} {D : Nat → List Nat} (h : k ≤ t) : full k L Z D t = acrZ k L Z D (t - k) := by unfold full two; rw [if_neg (by omega)]
theorem full_len {k L t : Nat} {Z : List Nat} {D : Nat → List Nat} (h : ∀ i, i < k → (D i).length = L) : (full k L Z D t).length = L := by
  rcases Nat.lt_or_ge t k with ht | ht
  · rw [full_low ht]; exact h t ht
  · rw [full_high ht]; exact acrZ_length _ _ _ _ _
/-- A shard's byte, as the sum of the data's. -/
theorem full_at {k L t u : Nat} {Z : List Nat} {D : Nat → List Nat} (hu : u < L) (sD : ∀ i j, (D i).getD j 0 < 256) : (full k L Z D t).getD u 0 = GfM.xs k fun v => GfM.mul ((unitZ k ++ Z).getD (t * k + v) 0) ((D v).getD u 0) := by
  rcases Nat.lt_or_ge t k with ht | ht
  · rw [full_low ht]
    have : (GfM.xs k fun v => GfM.mul ((unitZ k ++ Z).getD (t * k + v) 0) ((D v).getD u 0)) = GfM.xs k fun v => GfM.mul (GfM.idm t v) ((D v).getD u 0) := GfM.xs_congr fun v hv => by rw [stack_low ht hv]
    rw [this, GfM.xs_one ht fun s _ hne => by unfold GfM.idm; rw [if_neg fun e => hne e.symm, GfM.zero_mul]]
    unfold GfM.idm
    rw [if_pos rfl, GfM.one_mul (sD _ _)]
  · rw [full_high ht, acrZ_at hu]
    exact GfM.xs_congr fun v _ => by rw [stack_high ht]
/-- What is decoded of right shards. -/
theorem data_right {k r L : Nat} {Z : List Nat} {S : Nat → Option (List Nat)} {D : Nat → List Nat} {M : GfM.Mx} (hs : ∀ x ∈ unitZ k ++ Z, x < 256) (lD : ∀ i, i < k → (D i).length = L) (sD : ∀ i j, (D i).getD j 0 < 256) (hk : k ≤ (Tl S (k + r)).length)
    (hS : ∀ t, t < k + r → ∀ z, S t = some z → z = full k L Z D t) (hM : GfM.run k (GfM.beside k (cz k (pickZ k k (unitZ k ++ Z) fun i => (Tl S (k + r)).getD i 0))) k = some M) {i : Nat} (hi : i < k) :
    acrZ k L (invZ k M) (fun s => (S ((Tl S (k + r)).getD s 0)).getD []) i = D i := by
  refine (eq_tab (lD i hi) fun u hu => ?_).symm
  have h := GfM.undo (pick_small (f := fun i => (Tl S (k + r)).getD i 0) hs) hM (d := fun v => (D v).getD u 0) (fun v => sD v u) hi
  rw [← h]
  refine GfM.xs_congr fun s hsk => ?_
  obtain ⟨h1, z, h2⟩ := Tl_mem (S := S) (n := k + r) (i := s) (by omega)
  have e1 : (invZ k M).getD (i * k + s) 0 = GfM.half k M i s := cz_tab (f := fun i j => GfM.half k M i j) hi hsk
  rw [e1]
  show _ = GfM.mul _ (((S ((Tl S (k + r)).getD s 0)).getD []).getD u 0)
  rw [h2]
  show _ = GfM.mul _ (z.getD u 0)
  rw [hS _ h1 z h2, full_at hu sD]
  congr 1
  exact GfM.xs_congr fun v hv => by rw [cz_pick hsk hv]
theorem dec_right {k r L : Nat} {Z : List Nat} {S : Nat → Option (List Nat)} {D : Nat → List Nat} {M : GfM.Mx} (hs : ∀ x ∈ unitZ k ++ Z, x < 256) (lD : ∀ i, i < k → (D i).length = L) (sD : ∀ i j, (D i).getD j 0 < 256) (hk : k ≤ (Tl S (k + r)).length)
    (hS : ∀ t, t < k + r → ∀ z, S t = some z → z = full k L Z D t) (hM : GfM.run k (GfM.beside k (cz k (pickZ k k (unitZ k ++ Z) fun i => (Tl S (k + r)).getD i 0))) k = some M) {t : Nat} (ht : t < k + r) :
    decZ k r L Z S M t = full k L Z D t := by
  unfold decZ cpy
  rw [List.take_of_length_le (Nat.le_refl _)]
  split
  · next hm =>
    obtain ⟨_, h⟩ := Tl_iff.1 hm
    obtain ⟨z, hz⟩ := Option.isSome_iff_exists.1 h
    rw [hz]
    exact hS t ht z hz
  · unfold full two
    split
    · next hlt => exact data_right hs lD sD hk hS hM hlt
    · exact acrZ_congr fun s hsk => data_right hs lD sD hk hS hM hsk
/-- What is there is told as it is. -/
theorem dec_there {k r L : Nat} {Z : List Nat} {S : Nat → Option (List Nat)} {M : GfM.Mx} {t : Nat} {z : List Nat} (ht : t < k + r) (hz : S t = some z) : decZ k r L Z S M t = z := by
  unfold decZ cpy
  rw [List.take_of_length_le (Nat.le_refl _), if_pos (Tl_iff.2 ⟨ht, by rw [hz]; rfl⟩), hz]
  rfl

theorem i64_mask (k : Nat) (hk : k < 63) (n m : Int) (hm : (BitVec.ofInt 64 m).toNat = 2 ^ k - 1) : bits .and .i64 n m = n % (2 ^ k : Nat) := by
  have key : (BitVec.ofInt 64 n &&& BitVec.ofInt 64 m).toNat = (n % ((2 ^ 64 : Nat) : Int)).toNat % 2 ^ k := by
    rw [BitVec.toNat_and, BitVec.toNat_ofInt, hm, Nat.and_two_pow_sub_one_eq_mod]
  show IntKind.i64.wrap ((BitVec.ofInt 64 n &&& BitVec.ofInt 64 m).toNat : Nat) = n % (2 ^ k : Nat)
  rw [key, IntKind.wrap_i64]
  have h1 : (2 : Nat) ^ 64 = 2 ^ k * 2 ^ (64 - k) := by rw [← Nat.pow_add]; congr 1; omega
  have h2 : (0 : Int) ≤ n % ((2 ^ 64 : Nat) : Int) := Int.emod_nonneg _ (by decide)
  have h3 : (((n % ((2 ^ 64 : Nat) : Int)).toNat % 2 ^ k : Nat) : Int) = n % ((2 ^ k : Nat) : Int) := by
    rw [Int.natCast_emod, Int.toNat_of_nonneg h2, h1, Int.natCast_mul]
    exact Int.emod_emod_of_dvd n ⟨_, rfl⟩
  rw [h3]
  have h4 : (0 : Int) < ((2 ^ k : Nat) : Int) := by have := Nat.two_pow_pos k; omega
  have h5 := Int.emod_nonneg n (Int.ne_of_gt h4)
  have h6 := Int.emod_lt_of_pos n h4
  have h7 : (2 : Nat) ^ k ≤ 2 ^ 62 := Nat.pow_le_pow_right (by omega) (by omega)
  have h8 : (2 : Nat) ^ 62 = 4611686018427387904 := by decide
  omega
theorem i64_and7 (n : Int) : ∃ k : Nat, bits .and .i64 n 7 = (k : Int) - 1 ∧ 1 ≤ k ∧ k ≤ 8 := by
  rw [i64_mask 3 (by omega) n 7 (by decide)]
  exact ⟨(n % 8).toNat + 1, by show n % 8 = _; omega, by omega, by omega⟩
theorem i64_and255 (n : Int) : ∃ k : Nat, bits .and .i64 n 255 = (k : Int) ∧ k < 256 := by
  rw [i64_mask 8 (by omega) n 255 (by decide)]
  exact ⟨(n % 256).toNat, by show n % 256 = _; omega, by omega⟩
theorem i64_and3 (n : Int) : ∃ k : Nat, bits .and .i64 n 3 = (k : Int) - 1 ∧ 1 ≤ k ∧ k ≤ 4 := by
  rw [i64_mask 2 (by omega) n 3 (by decide)]
  exact ⟨(n % 4).toNat + 1, by show n % 4 = _; omega, by omega, by omega⟩
/-- Byte i of a code made of numbers. -/
def mdB (at_ : Int) (i : Nat) : Nat := ((at_ + 7 * (i : Int)) % 256).toNat
theorem mdB_lt (at_ : Int) (i : Nat) : mdB at_ i < 256 := by unfold mdB; omega
theorem mdB_inj {at_ : Int} {i j : Nat} (hi : i < 18) (hj : j < 18) (h : mdB at_ i = mdB at_ j) : i = j := by unfold mdB at h; omega
def mdX (at_ : Int) (k : Nat) : List Nat := tab k (mdB at_)
def mdY (at_ : Int) (k r : Nat) : List Nat := tab r fun j => mdB at_ (k + j)
theorem mdXY_at {at_ : Int} {k r i : Nat} (h : i < k + r) : (mdX at_ k ++ mdY at_ k r).getD i 0 = mdB at_ i := by
  have lx : (mdX at_ k).length = k := tab_length _ _
  simp only [List.getD_eq_getElem?_getD]
  rcases Nat.lt_or_ge i k with hi | hi
  · rw [List.getElem?_append_left (by omega)]
    have := tab_at k (mdB at_) i hi
    rw [List.getD_eq_getElem?_getD] at this
    exact this
  · rw [List.getElem?_append_right (by omega), lx]
    have := tab_at r (fun j => mdB at_ (k + j)) (i - k) (by omega)
    rw [List.getD_eq_getElem?_getD] at this
    rw [show k + (i - k) = i by omega] at this
    exact this
theorem md_dst {at_ : Int} {k r : Nat} (h : k + r ≤ 18) : Dst (mdX at_ k ++ mdY at_ k r) := by
  intro i j hi hj e
  have l : (mdX at_ k ++ mdY at_ k r).length = k + r := by rw [List.length_append]; unfold mdX mdY; rw [tab_length, tab_length]
  rw [l] at hi hj
  rw [mdXY_at hi, mdXY_at hj] at e
  exact mdB_inj (by omega) (by omega) e
theorem md_k (x : Int) : ∃ y k : Nat, bits .and .i64 x 255 = (y : Int) ∧ (y : Int).tmod 14 = (k : Int) - 1 ∧ (y : Int) % 14 = (k : Int) - 1 ∧ 1 ≤ k ∧ k ≤ 14 ∧ y < 256 := by
  obtain ⟨y, hy, h⟩ := i64_and255 x
  refine ⟨y, y % 14 + 1, hy, ?_, by omega, by omega, by omega, h⟩
  rw [Int.tmod_eq_emod_of_nonneg (by omega)]
  omega
/-- A code that is being filled: block P for the answer, block M for the code. -/
structure Fil (w : World) (P M : Nat) (zx zy : List Nat) (wr : World) (vx vy : Value) (B : Nat) : Prop where
  ox : OwnB (M + 1) wr vx zx
  oy : OwnB B wr vy zy
  mb : M + 1 ≤ B
  bw : B ≤ wr.heap.size
  xb : ∀ q, vx.ownBlock = some q → q < B
  m : wr.heap[M]? = some (.cells #[vx, vy] 26 (0, 0))
  p : wr.heap[P]? = some (.cells #[.slice none 0 0, .slice none 0 0] 26 (0, 0))
  up : Up Nul w wr
  PM : P < M
  Pw : w.heap.size ≤ P
theorem heap2 {w : World} {P : Nat} {x0 x1 : Value} {t : TypeId} (h : w.heap[P]? = some (.cells #[x0, x1] t (0, 0))) (y0 y1 : Value) :
    ((w.setCell ⟨P, 0, none⟩ y0).setCell ⟨P, 1, none⟩ y1).heap[P]? = some (.cells #[y0, y1] t (0, 0)) := heap_set_same (heap_set_same h 0 y0) 1 y1
theorem Fil.start (w : World) : Fil w w.heap.size (w.heap.size + 1) [] [] ((w.alloc (.cells #[.slice none 0 0, .slice none 0 0] 26)).alloc (.cells #[.slice none 0 0, .slice none 0 0] 26)) (.slice none 0 0) (.slice none 0 0) (w.heap.size + 2) := by
  have e : (w.alloc (.cells #[.slice none 0 0, .slice none 0 0] 26)).heap.size = w.heap.size + 1 := by simp
  have h2 := heap_alloc_new (w.alloc (.cells #[.slice none 0 0, .slice none 0 0] 26)) (.cells #[.slice none 0 0, .slice none 0 0] 26)
  rw [e] at h2
  exact ⟨OwnB.nil _ _, OwnB.nil _ _, by omega, by simp, (fun q h => by cases h), h2, (Below.heap_alloc _ _ _ (by rw [e]; omega)).trans (heap_alloc_new _ _), ((Up.refl _ _).alloc _).alloc _, by omega, Nat.le_refl _⟩
theorem Fil.c0 {w wr : World} {P M B : Nat} {zx zy : List Nat} {vx vy : Value} (h : Fil w P M zx zy wr vx vy B) : wr.cell? ⟨M, 0, none⟩ = some vx := by simp only [World.cell?, h.m]; rfl
theorem Fil.c1 {w wr : World} {P M B : Nat} {zx zy : List Nat} {vx vy : Value} (h : Fil w P M zx zy wr vx vy B) : wr.cell? ⟨M, 1, none⟩ = some vy := by simp only [World.cell?, h.m]; rfl
theorem Fil.fr {w wr : World} {P M B : Nat} {zx zy : List Nat} {vx vy : Value} (h : Fil w P M zx zy wr vx vy B) (j : Nat) : wr.frozen? ⟨M, j, none⟩ = false := by simp [World.frozen?, h.m]
/-- Behind 'c.X = append(c.X, b)', c.Y being nil. -/
theorem Fil.nextX {w wr w2 : World} {P M B y : Nat} {zx : List Nat} {vx v2 : Value} {o : Obj} (h : Fil w P M zx [] wr vx (.slice none 0 0) B) (hown : OwnB (M + 1) w2 v2 (zx ++ [y])) (hg : (wr.alloc o).grownBy w2 vx.ownBlock) :
    Fil w P M (zx ++ [y]) [] (w2.setCell ⟨M, 0, none⟩ v2) v2 (.slice none 0 0) w2.heap.size := by
  have hb := h.ox.base
  have hM : M < wr.heap.size := (Array.getElem?_eq_some_iff.1 h.m).1
  have hP := h.PM
  have hW := h.Pw
  have m2 : w2.heap[M]? = some (.cells #[vx, .slice none 0 0] 26 (0, 0)) := (hg.block M (by simp; omega) (fun e => by have := hb M e.symm; omega)).trans ((Below.heap_alloc _ _ _ hM).trans h.m)
  have p2 : w2.heap[P]? = _ := (hg.block P (by simp; omega) (fun e => by have := hb P e.symm; omega)).trans ((Below.heap_alloc _ _ _ (by omega)).trans h.p)
  have u1 : Up (One M) w2 (w2.setCell ⟨M, 0, none⟩ v2) := (Up.refl _ _).setCell (p := ⟨M, 0, none⟩) (.inr (show One M M from rfl)) _
  refine ⟨hown.up u1 (fun k hk e => by unfold One at e; omega), OwnB.nil _ _, ?_, by simp, fun q hq => ?_, ?_, (Below.heap_setCell _ _ _ _ (by show P ≠ M; omega)).trans p2, ?_, hP, hW⟩
  · have := (Array.getElem?_eq_some_iff.1 m2).1
    omega
  · rcases hown.own.2 with ⟨e, _⟩ | ⟨g, cap, cur, e, h2, h3, _⟩
    · subst e; cases hq
    · subst e
      have : g = q := by simpa [Value.ownBlock] using hq
      have := (Array.getElem?_eq_some_iff.1 h3).1
      omega
  · have := heap_set_same m2 0 v2
    simpa using this
  · exact ((h.up.alloc o).grown hg fun k hk => by have := hb k hk; omega).setCell (p := ⟨M, 0, none⟩) (.inl (by show _ ≤ M; omega)) _
/-- Behind 'c.Y = append(c.Y, b)'. -/
theorem Fil.nextY {w wr w2 : World} {P M B y : Nat} {zx zy : List Nat} {vx vy v2 : Value} {o : Obj} (h : Fil w P M zx zy wr vx vy B) (hown : OwnB B w2 v2 (zy ++ [y])) (hg : (wr.alloc o).grownBy w2 vy.ownBlock) :
    Fil w P M zx (zy ++ [y]) (w2.setCell ⟨M, 1, none⟩ v2) vx v2 B := by
  have hb := h.oy.base
  have hM : M < wr.heap.size := (Array.getElem?_eq_some_iff.1 h.m).1
  have hP := h.PM
  have hW := h.Pw
  have hmb := h.mb
  have m2 : w2.heap[M]? = some (.cells #[vx, vy] 26 (0, 0)) := (hg.block M (by simp; omega) (fun e => by have := hb M e.symm; omega)).trans ((Below.heap_alloc _ _ _ hM).trans h.m)
  have p2 : w2.heap[P]? = _ := (hg.block P (by simp; omega) (fun e => by have := hb P e.symm; omega)).trans ((Below.heap_alloc _ _ _ (by omega)).trans h.p)
  have u1 : Up (One M) w2 (w2.setCell ⟨M, 1, none⟩ v2) := (Up.refl _ _).setCell (p := ⟨M, 1, none⟩) (.inr (show One M M from rfl)) _
  have ox2 : OwnB (M + 1) w2 vx zx := by
    refine ⟨World.ownsRow.kept (h.ox.alloc o).own hg ?_, h.ox.small⟩
    cases e : vx.ownBlock with
    | none => exact .inl rfl
    | some q => exact .inr fun e2 => by have := h.xb q e; have := hb q e2.symm; omega
  have hs := hg.size
  refine ⟨ox2.up u1 (fun k hk e => by unfold One at e; omega), hown.up u1 (fun k hk e => by unfold One at e; omega), hmb, ?_, h.xb, ?_, (Below.heap_setCell _ _ _ _ (by show P ≠ M; omega)).trans p2, ?_, hP, hW⟩
  · have := h.bw
    simp at hs ⊢
    omega
  · have := heap_set_same m2 1 v2
    simpa using this
  · exact ((h.up.alloc o).grown hg fun k hk => by have := hb k hk; omega).setCell (p := ⟨M, 1, none⟩) (.inl (by show _ ≤ M; omega)) _
theorem Fil.afterX {w wr w2 : World} {P M B : Nat} {zx zy : List Nat} {vx vy : Value} {o : Obj} (h : Fil w P M zx zy wr vx vy B) (hg : (wr.alloc o).grownBy w2 vx.ownBlock) : w2.heap[M]? = some (.cells #[vx, vy] 26 (0, 0)) := by
  have hM : M < wr.heap.size := (Array.getElem?_eq_some_iff.1 h.m).1
  exact (hg.block M (by simp; omega) (fun e => by have := h.ox.base M e.symm; omega)).trans ((Below.heap_alloc _ _ _ hM).trans h.m)
theorem Fil.afterY {w wr w2 : World} {P M B : Nat} {zx zy : List Nat} {vx vy : Value} {o : Obj} (h : Fil w P M zx zy wr vx vy B) (hg : (wr.alloc o).grownBy w2 vy.ownBlock) : w2.heap[M]? = some (.cells #[vx, vy] 26 (0, 0)) := by
  have hM : M < wr.heap.size := (Array.getElem?_eq_some_iff.1 h.m).1
  exact (hg.block M (by simp; omega) (fun e => by have := h.oy.base M e.symm; have := h.mb; omega)).trans ((Below.heap_alloc _ _ _ hM).trans h.m)
theorem cell_of2 {w : World} {M : Nat} {x y : Value} {t : TypeId} (h : w.heap[M]? = some (.cells #[x, y] t (0, 0))) : w.cell? ⟨M, 0, none⟩ = some x ∧ w.cell? ⟨M, 1, none⟩ = some y ∧ ∀ j, w.frozen? ⟨M, j, none⟩ = false := by
  refine ⟨by simp only [World.cell?, h]; rfl, by simp only [World.cell?, h]; rfl, fun j => by simp [World.frozen?, h]⟩
theorem OwnB.shape2 {base : Nat} {w : World} {v : Value} {z : List Nat} (h : OwnB base w v z) : ∃ a n cap, v = .slice a n cap := by
  rcases h.own.2 with ⟨e, _⟩ | ⟨g, cap, cur, e, _⟩
  · exact ⟨_, _, _, e⟩
  · exact ⟨_, _, _, e⟩
theorem info_c2 : (Tryz.prog.info? 26).map (·.size) = some 2 := by kernel_rfl
set_option maxRecDepth 100000 in
set_option maxHeartbeats 1600000 in
theorem made_any (k0 r0 at_ : Int) (k r y : Nat) (w : World) (h1 : bits .and .i64 k0 255 = (y : Int)) (h2 : (y : Int).tmod 14 = (k : Int) - 1) (h3 : (y : Int) % 14 = (k : Int) - 1) (k1 : 1 ≤ k) (k14 : k ≤ 14) (hy : y < 256) (hr : bits .and .i64 r0 3 = (r : Int) - 1) (r1 : 1 ≤ r) (r4 : r ≤ 4) :
    Calls Tryz.prog 5 #[.int .i64 k0, .int .i64 r0, .int .i64 at_] w
      fun e w' => ∃ vx vy, e = .returned (.agg #[vx, vy]) ∧ OwnB w.heap.size w' vx (mdX at_ k) ∧ OwnB w.heap.size w' vy (mdY at_ k r) ∧ Up Nul w w' := by
  have HS := hid (Fil.start w)
  go_enter Tryz.func5, Tryz.ntmps5
  go_wp2_with fail
  generalize ((w.alloc (.cells #[.slice none 0 0, .slice none 0 0] 26)).alloc (.cells #[.slice none 0 0, .slice none 0 0] 26)) = wz at *
  obtain ⟨P, PP⟩ : ∃ x, x = w.heap.size := ⟨_, rfl⟩
  obtain ⟨M, MM⟩ : ∃ x, x = w.heap.size + 1 := ⟨_, rfl⟩
  rw [← MM, ← PP] at HS
  rw [← MM, ← PP]
  have HPW : Hid (P = w.heap.size) := PP
  clear PP MM
  go_loopw [8] (fun i wr => ∃ j : Nat, j ≤ k + r ∧ i = .int .i64 j ∧ ∃ vx vy B, Fil w P M (tab (min j k) (mdB at_)) (tab (j - k) fun t => mdB at_ (k + t)) wr vx vy B ∧ (j ≤ k → vy = .slice none 0 0)) (fun i _ => (k + r) - (intOf i).toNat)
  case atStart => exact ⟨0, by omega, rfl, _, _, _, by rw [Nat.zero_min, Nat.zero_sub]; exact HS.out, fun _ => rfl⟩
  case round =>
    clear HS
    obtain ⟨j, hj, rfl, vx, vy, B, hf, hnil⟩ := hrel
    have HF := hid hf
    have HNL := hid hnil
    have x0 := hf.c0
    have x1 := hf.c1
    have f0 := hf.fr 0
    have f1 := hf.fr 1
    clear hf hnil
    by_cases hlt : j < k + r
    · have hv : wrap64 (at_ + 7 * (j : Int)) % 256 = ((mdB at_ j : Nat) : Int) := by unfold wrap64 mdB; omega
      have y8 := mdB_lt at_ j
      obtain ⟨b, HB⟩ : ∃ x, Hid (mdB at_ j = x) := ⟨_, rfl⟩
      rw [HB.out] at hv y8
      by_cases hx : j < k
      · obtain rfl := HNL.out (by omega)
        have e1 : min j k = j := by omega
        have e2 : (tab (j - k) fun t => mdB at_ (k + t)) = [] := by rw [show j - k = 0 by omega]; rfl
        rw [e1, e2] at HF
        clear e1 e2
        go_wp2_with (first
          | (at_builtin; refine wpList_append_byte rfl (.tmp 33) (.tmp 35) rfl (M + 1) vx (tab j (mdB at_)) rfl (HF.out.ox.alloc _) ⟨wr.heap.size, 0, none⟩ 1 b rfl (World.cell?_alloc_new wr _ _ 0) y8 (by rw [tab_length]; omega) (by have := HF.out.mb; have := HF.out.bw; simp; omega) ?_; intro v2 w2 H1 H2; obtain ⟨g2, cap2, e2, _⟩ := H1.out.row (by simp); rw [List.length_append, tab_length] at e2; subst e2; have hm := cell_of2 (HF.out.afterX H2.out); have c3 := hm.1; have f3 := hm.2.2 0; clear hm)
          | go_in)
        go_roundw
        case rel => exact ⟨j + 1, by omega, by go_num, _, _, _, by
          rw [show min (j + 1) k = j + 1 by omega, show j + 1 - k = 0 by omega, tab_next, HB.out]
          exact HF.out.nextX H1.out H2.out, fun _ => rfl⟩
        case measure => simp [intOf]; omega
      · have e1 : min j k = k := by omega
        obtain ⟨d, rfl⟩ : ∃ d, j = k + d := ⟨j - k, by omega⟩
        have e2 : k + d - k = d := by omega
        rw [e1, e2] at HF
        have hd4 : d < 4 := by omega
        rw [show ((k + d : Nat) : Int) = (k : Int) + (d : Int) by simp] at hv
        clear e1 e2 HNL
        go_wp2_with (first
          | (at_builtin; refine wpList_append_byte rfl (.tmp 39) (.tmp 41) rfl B vy (tab d fun t => mdB at_ (k + t)) rfl (HF.out.oy.alloc _) ⟨wr.heap.size, 0, none⟩ 1 b rfl (World.cell?_alloc_new wr _ _ 0) y8 (by rw [tab_length]; omega) (by have := HF.out.bw; simp; omega) ?_; intro v2 w2 H1 H2; obtain ⟨g2, cap2, e2, _⟩ := H1.out.row (by simp); rw [List.length_append, tab_length] at e2; subst e2; have hm := cell_of2 (HF.out.afterY H2.out); have c3 := hm.2.1; have f3 := hm.2.2 1; clear hm)
          | go_in)
        go_roundw
        case rel => exact ⟨k + d + 1, by omega, by go_num, _, _, _, by
          rw [show min (k + d + 1) k = k by omega, show k + d + 1 - k = d + 1 by omega, tab_next, HB.out]
          exact HF.out.nextY H1.out H2.out, fun h => by omega⟩
        case measure => simp [intOf]; omega
    · obtain rfl : j = k + r := by omega
      have e1 : min (k + r) k = k := by omega
      have e2 : k + r - k = r := by omega
      rw [e1, e2] at HF
      have a0 := (cell_of2 HF.out.p).1
      have a1 := (cell_of2 HF.out.p).2.1
      have a3 := (cell_of2 HF.out.p).2.2
      have hMP : P ≠ M := by have := HF.out.PM; omega
      obtain ⟨xa, xn, xc, rfl⟩ := HF.out.ox.shape2
      obtain ⟨ya, yn, yc, rfl⟩ := HF.out.oy.shape2
      clear e1 e2 HNL
      go_wp2
      refine bodyPost_ret (results_cell_row (P := Tryz.prog) (ty := 26) rfl _ _ P _ _ _ _ rfl (heap2 HF.out.p _ _) Tryz.underlying26 rfl info_c2) rfl ?_
      have hu : Up (One P) wr ((wr.setCell ⟨P, 0, none⟩ (.slice xa xn xc)).setCell ⟨P, 1, none⟩ (.slice ya yn yc)) := ((Up.refl _ wr).setCell (p := ⟨P, 0, none⟩) (.inr (show One P P from rfl)) _).setCell (p := ⟨P, 1, none⟩) (.inr (show One P P from rfl)) _
      have h1 := HF.out.PM
      have h2 := HF.out.Pw
      have h3 := HF.out.mb
      have lift : ∀ {b1 b2 : Nat} {W : World} {v : Value} {z : List Nat}, OwnB b1 W v z → b2 ≤ b1 → OwnB b2 W v z := fun h hb => ⟨⟨h.own.1, by
        rcases h.own.2 with h | ⟨g, cap, cur, q1, q2, q3⟩
        · exact .inl h
        · exact .inr ⟨g, cap, cur, q1, by omega, q3⟩⟩, h.small⟩
      refine ⟨_, _, rfl, lift (HF.out.ox.up hu fun q hq e => by unfold One at e; omega) (by omega), lift (HF.out.oy.up hu fun q hq e => by unfold One at e; omega) (by omega), (HF.out.up.setCell (p := ⟨P, 0, none⟩) (.inl h2) _).setCell (p := ⟨P, 1, none⟩) (.inl h2) _⟩
/-- A document's code in block V. -/
structure LC (FS : List Nat) (w : World) (V gx cx gy cy k r : Nat) (X Y : List Nat) : Prop where
  c0 : w.cell? ⟨V, 0, none⟩ = some (.slice (some ⟨gx, 0, none⟩) k cx)
  c1 : w.cell? ⟨V, 1, none⟩ = some (.slice (some ⟨gy, 0, none⟩) r cy)
  lt : V < w.heap.size
  b : V ∉ FS
  x : LR FS w gx 0 X
  y : LR FS w gy 0 Y
theorem LC.nxt {FS : List Nat} {w w' : World} {V gx cx gy cy k r : Nat} {X Y : List Nat} (h : LC FS w V gx cx gy cy k r X Y) (n : Nxt FS w w') : LC FS w' V gx cx gy cy k r X Y :=
  have e : ∀ j, w'.cell? ⟨V, j, none⟩ = w.cell? ⟨V, j, none⟩ := fun j => n.up.cell (p := ⟨V, j, none⟩) h.lt h.b
  ⟨(e 0).trans h.c0, (e 1).trans h.c1, Nat.lt_of_lt_of_le h.lt n.up.size, h.b, h.x.nxt n, h.y.nxt n⟩
theorem LC.newF {FS : List Nat} {w w' : World} {V gx cx gy cy k r G : Nat} {X Y : List Nat} (h : LC FS w V gx cx gy cy k r X Y) (n : NewF w w' G) : LC (G :: FS) w' V gx cx gy cy k r X Y :=
  have e : ∀ j, w'.cell? ⟨V, j, none⟩ = w.cell? ⟨V, j, none⟩ := fun j => n.n.up.cell (p := ⟨V, j, none⟩) h.lt id
  ⟨(e 0).trans h.c0, (e 1).trans h.c1, Nat.lt_of_lt_of_le h.lt n.n.up.size, fun hm => by
    rcases List.mem_cons.1 hm with e | hm
    · have := h.lt
      have := n.eq
      omega
    · exact h.b hm, h.x.newF n, h.y.newF n⟩
theorem mdX_length (at_ : Int) (k : Nat) : (mdX at_ k).length = k := tab_length _ _
theorem mdY_length (at_ : Int) (k r : Nat) : (mdY at_ k r).length = r := tab_length _ _
theorem madeL {w0 w : World} {FS : List Nat} {k0 r0 at_ : Int} {k r y : Nat} (h : LS w0 FS w) (h1 : bits .and .i64 k0 255 = (y : Int)) (h2 : (y : Int).tmod 14 = (k : Int) - 1) (h3 : (y : Int) % 14 = (k : Int) - 1) (k1 : 1 ≤ k) (k14 : k ≤ 14) (hy : y < 256) (hr : bits .and .i64 r0 3 = (r : Int) - 1) (r1 : 1 ≤ r) (r4 : r ≤ 4) :
    Calls Tryz.prog 5 #[.int .i64 k0, .int .i64 r0, .int .i64 at_] w
      fun e w' => ∃ gx cx gy cy, e = .returned (.agg #[.slice (some ⟨gx, 0, none⟩) k cx, .slice (some ⟨gy, 0, none⟩) r cy]) ∧ LR FS w' gx 0 (mdX at_ k) ∧ LR FS w' gy 0 (mdY at_ k r) ∧ Nxt FS w w' := by
  refine (made_any k0 r0 at_ k r y w h1 h2 h3 k1 k14 hy hr r1 r4).mono ?_
  rintro e w' ⟨vx, vy, rfl, ox, oy, u⟩
  obtain ⟨gx, cx, rfl, x1, x2, x3, _, _⟩ := ox.row (by rw [mdX_length]; omega)
  obtain ⟨gy, cy, rfl, y1, y2, y3, _, _⟩ := oy.row (by rw [mdY_length]; omega)
  rw [mdX_length, mdY_length]
  exact ⟨gx, cx, gy, cy, rfl, ⟨x3, x2, h.lt x1⟩, ⟨y3, y2, h.lt y1⟩, h.nul u⟩
theorem LC.new {w0 w : World} {FS : List Nat} {gx cx gy cy k r : Nat} {X Y : List Nat} (h : LS w0 FS w) (hx : LR FS w gx 0 X) (hy : LR FS w gy 0 Y) (t : TypeId) :
    LC FS (w.alloc (.cells #[.slice (some ⟨gx, 0, none⟩) k cx, .slice (some ⟨gy, 0, none⟩) r cy] t)) w.heap.size gx cx gy cy k r X Y :=
  have n := h.alloc (.cells #[.slice (some ⟨gx, 0, none⟩) k cx, .slice (some ⟨gy, 0, none⟩) r cy] t)
  ⟨World.cell?_alloc_new w _ _ 0, World.cell?_alloc_new w _ _ 1, by simp, h.lt (Nat.le_refl _), hx.nxt n, hy.nxt n⟩

/-- A new row of bytes. -/
theorem LR.mk1 {w0 w : World} {FS : List Nat} (h : LS w0 FS w) (z : List Nat) (hz : ∀ x ∈ z, x < 256) : LR FS (w.alloc (.cells (bys z) 5)) w.heap.size 0 z := by
  have hb := Blk.new w z hz
  have hr := hb.row 0 z.length (by omega)
  rw [List.drop_zero, List.take_of_length_le (Nat.le_refl _)] at hr
  exact ⟨hr, hb.lt, h.lt (Nat.le_refl _)⟩
def awS (t : Nat) : Option (List Nat) := if t = 1 then some [0] else if t = 2 then some [142] else none
def awT (t : Nat) : Option (List Nat) := if t = 2 then some [142] else none
def awD (t : Nat) : List Nat := if t = 0 then [1] else [0]
theorem aw_enc : acrZ 2 1 (coefZ 2 1 [0, 1] [2]) awD 0 = [142] := by decide +kernel
theorem awS_tl : 2 ≤ (Tl awS (2 + 1)).length := by decide
theorem awT_tl : (Tl awT (2 + 1)).length < 2 := by decide
theorem aw_dst : Dst ([0, 1] ++ [2]) := by
  intro i j hi hj e
  have hi : i < 3 := hi
  have hj : j < 3 := hj
  rcases (show i = 0 ∨ i = 1 ∨ i = 2 by omega) with rfl | rfl | rfl <;> rcases (show j = 0 ∨ j = 1 ∨ j = 2 by omega) with rfl | rfl | rfl <;> first | rfl | (revert e; decide)
/-- A new row of shards. -/
theorem LL.mk1 {w0 w : World} {FS : List Nat} {n : Nat} {S : Nat → Option (List Nat)} (h : LS w0 FS w) (vs : Array Value) (t : TypeId) (hv : ∀ i, i < n → ∃ v, vs[i]? = some v ∧ Shd FS w v (S i)) : LL FS (w.alloc (.cells vs t)) w.heap.size 0 n S := by
  have m := h.alloc (.cells vs t)
  refine ⟨fun i hi => ?_, by simp, h.lt (Nat.le_refl _)⟩
  obtain ⟨v, e, hs⟩ := hv i hi
  exact ⟨v, by rw [Nat.zero_add, World.cell?_alloc_new]; exact e, hs.nxt m⟩
theorem aw_right {M : GfM.Mx} (hM : GfM.run 2 (GfM.beside 2 (cz 2 (pickZ 2 2 (unitZ 2 ++ coefZ 2 1 [0, 1] [2]) fun i => (Tl awS (2 + 1)).getD i 0))) 2 = some M) : decZ 2 1 1 (coefZ 2 1 [0, 1] [2]) awS M 0 = [1] := by
  refine (dec_right (D := awD) stack_small (fun i _ => by unfold awD; split <;> rfl) (fun i j => ?_) awS_tl (fun t ht z e => ?_) hM (by omega)).trans rfl
  · unfold awD
    split
    · exact small_getD (by decide) _
    · exact small_getD (by decide) _
  · have ht : t < 3 := ht
    match t, ht with
    | 0, _ => cases e
    | 1, _ => cases e; rfl
    | 2, _ => cases e; exact aw_enc.symm
set_option maxRecDepth 100000 in
set_option maxHeartbeats 3200000 in
theorem awake_any (w : World) : Calls Tryz.prog 4 #[] w fun e w' => e = .returned (.bool true) ∧ Up Nul w w' := by
  go_enter Tryz.func4, Tryz.ntmps4
  go_wp2_with fail
  refine (gfNewF _).mono ?_
  rintro e w1 ⟨F, rfl, n1⟩
  have H1 := hid ((LS.start w).newF n1)
  clear n1
  go_wp2_with fail
  have hs1 := H1.out.alloc (.cells #[.int .u8 0, .int .u8 1] 5)
  have hl1 := H1.out.nxt hs1
  have hs2 := hl1.alloc (.cells #[.int .u8 2] 5)
  have hx : LR [F] (w1.alloc (.cells #[.int .u8 0, .int .u8 1] 5)) w1.heap.size 0 [0, 1] := LR.mk1 H1.out [0, 1] (by decide)
  have hy : LR [F] ((w1.alloc (.cells #[.int .u8 0, .int .u8 1] 5)).alloc (.cells #[.int .u8 2] 5)) (w1.heap.size + 1) 0 [2] := by
    have := LR.mk1 hl1 [2] (by decide)
    have e : (w1.alloc (.cells #[.int .u8 0, .int .u8 1] 5)).heap.size = w1.heap.size + 1 := by simp
    rw [e] at this
    exact this
  refine (new_code [F] w _ F w1.heap.size 0 (w1.heap.size + 1) 0 2 1 2 1 [0, 1] [2] (hl1.nxt hs2) (List.mem_cons_self ..) (hx.nxt hs2) hy rfl rfl (by omega) (by omega) (by omega) (by omega) aw_dst).mono ?_
  rintro e w2 ⟨c, pp, pq, sp, sq, rfl, c2, n2⟩
  have H2 := hid (And.intro ((hl1.nxt hs2).nxt n2) c2)
  clear hs1 hl1 hs2 hx hy n2 c2 H1
  go_wp2_with fail
  have ha1 := H2.out.1.alloc (.cells #[.int .u8 1] 5)
  have hl1 := H2.out.1.nxt ha1
  have ha2 := hl1.alloc (.cells #[.int .u8 0] 5)
  have hl2 := hl1.nxt ha2
  have e1 : (w2.alloc (.cells #[.int .u8 1] 5)).heap.size = w2.heap.size + 1 := by simp
  have e2 : ((w2.alloc (.cells #[.int .u8 1] 5)).alloc (.cells #[.int .u8 0] 5)).heap.size = w2.heap.size + 1 + 1 := by simp
  have r1 : LR [F] ((w2.alloc (.cells #[.int .u8 1] 5)).alloc (.cells #[.int .u8 0] 5)) w2.heap.size 0 [1] := LR.nxt (LR.mk1 H2.out.1 [1] (by decide)) ha2
  have r2 : LR [F] ((w2.alloc (.cells #[.int .u8 1] 5)).alloc (.cells #[.int .u8 0] 5)) (w2.heap.size + 1) 0 [0] := by
    have := LR.mk1 hl1 [0] (by decide)
    rw [e1] at this
    exact this
  have ll := LL.mk1 (n := 2) (S := fun i => some (awD i)) hl2 #[.slice (some ⟨w2.heap.size, 0, none⟩) 1 1, .slice (some ⟨w2.heap.size + 1, 0, none⟩) 1 1] 22 (fun i hi => by
    match i, hi with
    | 0, _ => exact ⟨_, rfl, _, _, _, rfl, r1⟩
    | 1, _ => exact ⟨_, rfl, _, _, _, rfl, r2⟩)
  have ha3 := hl2.alloc (.cells #[.slice (some ⟨w2.heap.size, 0, none⟩) 1 1, .slice (some ⟨w2.heap.size + 1, 0, none⟩) 1 1] 22)
  rw [e2] at ll
  refine (enc_good [F] w _ c F 2 1 pp pq sp sq (coefZ 2 1 [0, 1] [2]) (w2.heap.size + 1 + 1) 0 2 1 awD (hl2.nxt ha3) (((H2.out.2.nxt ha1).nxt ha2).nxt ha3) ll (fun i _ => by unfold awD; split <;> rfl) (by omega)).mono ?_
  rintro e w3 ⟨gl, b, rfl, h1, h2⟩
  have n3 := (hl2.nxt ha3).one (List.mem_cons_self ..) h1.up h2
  have p3 := h1.ll (hl2.nxt ha3)
  have H3 : Hid (LS w [F] w3 ∧ CD [F] w3 c F 2 1 pp pq sp sq (coefZ 2 1 [0, 1] [2]) ∧ LL [F] w3 gl 0 1 fun _ => some [142]) := ⟨(hl2.nxt ha3).nxt n3, (((H2.out.2.nxt ha1).nxt ha2).nxt ha3).nxt n3, p3.congr fun i hi => by
    have : i = 0 := by omega
    subst this
    rw [aw_enc]⟩
  clear ha1 hl1 ha2 hl2 e1 e2 r1 r2 ll ha3 h1 h2 n3 p3 H2
  go_wp2_with fail
  have ha1 := H3.out.1.alloc (.cells #[.int .u8 0] 5)
  have hl1 := H3.out.1.nxt ha1
  have ha2 := hl1.alloc (.cells #[.int .u8 142] 5)
  have hl2 := hl1.nxt ha2
  have e1 : (w3.alloc (.cells #[.int .u8 0] 5)).heap.size = w3.heap.size + 1 := by simp
  have e2 : ((w3.alloc (.cells #[.int .u8 0] 5)).alloc (.cells #[.int .u8 142] 5)).heap.size = w3.heap.size + 1 + 1 := by simp
  have r1 : LR [F] ((w3.alloc (.cells #[.int .u8 0] 5)).alloc (.cells #[.int .u8 142] 5)) w3.heap.size 0 [0] := LR.nxt (LR.mk1 H3.out.1 [0] (by decide)) ha2
  have r2 : LR [F] ((w3.alloc (.cells #[.int .u8 0] 5)).alloc (.cells #[.int .u8 142] 5)) (w3.heap.size + 1) 0 [142] := by
    have := LR.mk1 hl1 [142] (by decide)
    rw [e1] at this
    exact this
  have ll := LL.mk1 (n := 3) (S := awS) hl2 #[.slice none 0 0, .slice (some ⟨w3.heap.size, 0, none⟩) 1 1, .slice (some ⟨w3.heap.size + 1, 0, none⟩) 1 1] 22 (fun i hi => by
    match i, hi with
    | 0, _ => exact ⟨_, rfl, rfl⟩
    | 1, _ => exact ⟨_, rfl, _, _, _, rfl, r1⟩
    | 2, _ => exact ⟨_, rfl, _, _, _, rfl, r2⟩)
  have ha3 := hl2.alloc (.cells #[.slice none 0 0, .slice (some ⟨w3.heap.size, 0, none⟩) 1 1, .slice (some ⟨w3.heap.size + 1, 0, none⟩) 1 1] 22)
  rw [e2] at ll
  obtain ⟨M, hM⟩ := Tl_regular (k := 2) (r := 1) (X := [0, 1]) (Y := [2]) awS rfl rfl aw_dst (small_getD (by decide)) (small_getD (by decide)) awS_tl
  refine (decode_good [F] w _ c F 2 1 pp pq sp sq (coefZ 2 1 [0, 1] [2]) (w3.heap.size + 1 + 1) 0 3 3 1 awS M (hl2.nxt ha3) (((H3.out.2.1.nxt ha1).nxt ha2).nxt ha3) ll rfl (fun t ht z e => by
    match t, ht with
    | 0, _ => cases e
    | 1, _ => cases e; rfl
    | 2, _ => cases e; rfl) (by omega) awS_tl hM).mono ?_
  rintro e w4 ⟨gm, capm, bm, rfl, h1, h2⟩
  have n4 := (hl2.nxt ha3).one (List.mem_cons_self ..) h1.up h2
  have p4 := h1.ll (hl2.nxt ha3)
  have nn := ((ha1.trans ha2).trans ha3).trans n4
  have H4 : Hid (LS w [F] w4 ∧ CD [F] w4 c F 2 1 pp pq sp sq (coefZ 2 1 [0, 1] [2]) ∧ (LL [F] w4 gl 0 1 fun _ => some [142]) ∧ LL [F] w4 gm 0 1 fun _ => some [1]) := ⟨H3.out.1.nxt nn, H3.out.2.1.nxt nn, H3.out.2.2.nxt nn, (p4.sub 0 1 (by omega)).congr fun i hi => by
    have : i = 0 := by omega
    subst this
    rw [aw_right hM]⟩
  clear ha1 hl1 ha2 hl2 e1 e2 r1 r2 ll ha3 h1 h2 n4 p4 nn H3 hM
  go_wp2_with fail
  have ha1 := H4.out.1.alloc (.cells #[.int .u8 142] 5)
  have hl1 := H4.out.1.nxt ha1
  have e1 : (w4.alloc (.cells #[.int .u8 142] 5)).heap.size = w4.heap.size + 1 := by simp
  have r1 : LR [F] (w4.alloc (.cells #[.int .u8 142] 5)) w4.heap.size 0 [142] := LR.mk1 H4.out.1 [142] (by decide)
  have ll := LL.mk1 (n := 3) (S := awT) hl1 #[.slice none 0 0, .slice none 0 0, .slice (some ⟨w4.heap.size, 0, none⟩) 1 1] 22 (fun i hi => by
    match i, hi with
    | 0, _ => exact ⟨_, rfl, rfl⟩
    | 1, _ => exact ⟨_, rfl, rfl⟩
    | 2, _ => exact ⟨_, rfl, _, _, _, rfl, r1⟩)
  have ha3 := hl1.alloc (.cells #[.slice none 0 0, .slice none 0 0, .slice (some ⟨w4.heap.size, 0, none⟩) 1 1] 22)
  rw [e1] at ll
  refine (decode_lost [F] w _ c F 2 1 pp pq sp sq (coefZ 2 1 [0, 1] [2]) (w4.heap.size + 1) 0 3 3 1 awT (hl1.nxt ha3) ((H4.out.2.1.nxt ha1).nxt ha3) ll rfl (fun t ht z e => by
    match t, ht with
    | 0, _ => cases e
    | 1, _ => cases e
    | 2, _ => cases e; rfl) (by omega) awT_tl).mono ?_
  rintro e w5 ⟨rfl, u5⟩
  have nn := (ha1.trans ha3).trans ((hl1.nxt ha3).nul u5)
  have H5 := hid (And.intro (H4.out.1.nxt nn) (And.intro (H4.out.2.2.1.nxt nn) (H4.out.2.2.2.nxt nn)))
  clear ha1 hl1 e1 r1 ll ha3 nn u5 H4
  obtain ⟨b1, o1, k1, x1, y1⟩ := H5.out.2.1.at (i := 0) (by omega) rfl
  obtain ⟨b2, o2, k2, x2, y2⟩ := H5.out.2.2.at (i := 0) (by omega) rfl
  rw [Nat.add_zero] at x1 x2
  have z1 := conv_row (cap := k1) y1.row (rfl : [142].length = 1)
  have z2 := conv_row (cap := k2) y2.row (rfl : [1].length = 1)
  have z1' : (convert 22 9 (.slice (some ⟨b1, o1, none⟩) 1 k1)).run Tryz.prog w5 = .ok (.string ⟨#[142]⟩) w5 := z1
  have z2' : (convert 22 9 (.slice (some ⟨b2, o2, none⟩) 1 k2)).run Tryz.prog w5 = .ok (.string ⟨#[1]⟩) w5 := z2
  have x1' : w5.cell? ⟨gl, 0, none⟩ = some (.slice (some ⟨b1, o1, none⟩) 1 k1) := x1
  have x2' : w5.cell? ⟨gm, 0, none⟩ = some (.slice (some ⟨b2, o2, none⟩) 1 k2) := x2
  clear x1 x2 y1 y2 z1 z2
  go_wp2
  go_ret
  exact ⟨rfl, H5.out.1.up⟩
theorem awakeL {w0 w : World} {FS : List Nat} (h : LS w0 FS w) : Calls Tryz.prog 4 #[] w fun e w' => e = .returned (.bool true) ∧ Nxt FS w w' :=
  (awake_any w).mono fun e w' ⟨h1, h2⟩ => ⟨h1, h.nul h2⟩

/-- Where a law stands behind its Code. -/
structure CS (w0 : World) (FS : List Nat) (w : World) (V gx cx gy cy c F k r pp pq sp sq : Nat) (at_ : Int) : Prop where
  ls : LS w0 FS w
  lc : LC FS w V gx cx gy cy k r (mdX at_ k) (mdY at_ k r)
  cd : CD FS w c F k r pp pq sp sq (coefZ k r (mdX at_ k) (mdY at_ k r))
theorem CS.nxt {w0 : World} {FS : List Nat} {w w' : World} {V gx cx gy cy c F k r pp pq sp sq : Nat} {at_ : Int} (h : CS w0 FS w V gx cx gy cy c F k r pp pq sp sq at_) (n : Nxt FS w w') : CS w0 FS w' V gx cx gy cy c F k r pp pq sp sq at_ :=
  ⟨h.ls.nxt n, h.lc.nxt n, h.cd.nxt n⟩
theorem mdX_small (at_ : Int) (k : Nat) : ∀ i, (mdX at_ k).getD i 0 < 256 := small_getD (tab_small fun _ => mdB_lt _ _)
theorem mdY_small (at_ : Int) (k r : Nat) : ∀ i, (mdY at_ k r).getD i 0 < 256 := small_getD (tab_small fun _ => mdB_lt _ _)
theorem codeL {w0 w : World} {FS : List Nat} {F V gx cx gy cy k r : Nat} {at_ : Int} (h : LS w0 FS w) (hF : F ∈ FS) (hc : LC FS w V gx cx gy cy k r (mdX at_ k) (mdY at_ k r)) (k1 : 1 ≤ k) (k14 : k ≤ 14) (r1 : 1 ≤ r) (r4 : r ≤ 4) :
    Calls Tryz.prog 6 #[.pointer (some ⟨F, 0, none⟩), .slice (some ⟨gx, 0, none⟩) k cx, .slice (some ⟨gy, 0, none⟩) r cy] w
      fun e w' => ∃ c pp pq sp sq, e = .returned (.tuple #[.pointer (some ⟨c, 0, none⟩), .int .i64 0]) ∧ CS w0 FS w' V gx cx gy cy c F k r pp pq sp sq at_ ∧ Nxt FS w w' := by
  refine (new_code FS w0 w F gx 0 gy 0 k r cx cy (mdX at_ k) (mdY at_ k r) h hF hc.x hc.y (mdX_length _ _) (mdY_length _ _ _) k1 k14 r1 r4 (md_dst (by omega))).mono ?_
  rintro e w' ⟨c, pp, pq, sp, sq, h1, h2, h3⟩
  exact ⟨c, pp, pq, sp, sq, h1, ⟨h.nxt h3, hc.nxt h3, h2⟩, h3⟩
theorem md_regular {k r : Nat} {at_ : Int} (S : Nat → Option (List Nat)) (h : k + r ≤ 18) (hk : k ≤ (Tl S (k + r)).length) :
    ∃ M, GfM.run k (GfM.beside k (cz k (pickZ k k (unitZ k ++ coefZ k r (mdX at_ k) (mdY at_ k r)) fun i => (Tl S (k + r)).getD i 0))) k = some M :=
  Tl_regular S (mdX_length _ _) (mdY_length _ _ _) (md_dst h) (mdX_small _ _) (mdY_small _ _ _) hk
/-- Shards that are appended one by one. -/
def LA (FS : List Nat) (base : Nat) (w : World) (v : Value) (i : Nat) (S : Nat → Option (List Nat)) : Prop :=
  ∃ ys : List Value, OwnV 22 base w v ys ∧ ys.length = i ∧ ∀ t, t < i → ∃ u, ys[t]? = some u ∧ Shd FS w u (S t)
theorem Shd.grow0 {FS : List Nat} {w w2 : World} {u : Value} {x : Option (List Nat)} (h : Shd FS w u x) (h0 : x = none ∨ x = some []) (hs : w.heap.size ≤ w2.heap.size) : Shd FS w2 u x := by
  rcases h0 with rfl | rfl
  · exact h
  · obtain ⟨b, o, cap, e, r⟩ := h
    exact ⟨b, o, cap, e, ⟨fun i hi => absurd hi (Nat.not_lt_zero _), r.row.small⟩, Nat.lt_of_lt_of_le r.lt hs, r.b⟩
theorem LS.grown {w0 w wr w2 : World} {FS : List Nat} {row : Option Nat} (h : LS w0 FS w) (n : Nxt FS w wr) (g : wr.grownBy w2 row) (hr : ∀ k, row = some k → w.heap.size ≤ k) : Nxt FS w w2 :=
  ⟨n.up.grown g hr, fun F hF => (n.fld F hF).up (Up.ofg g) fun e => by have := hr F e.symm; have := (h.fld F hF).lt; omega⟩
theorem SlN.small {w : World} {a : Option Addr} {n : Nat} {z : List Nat} (h : SlN w a n z) (i : Nat) : z.getD i 0 < 256 := by
  rcases h.row with e | ⟨b, o, _, _, r⟩
  · have hl := h.len
    rw [e] at hl
    rw [List.eq_nil_of_length_eq_zero hl]
    simp
  · exact r.small i
/-- Row i of the data. -/
def dat (L : Nat) (z : List Nat) (i : Nat) : List Nat := tab L fun j => if i * L + j < z.length then z.getD (i * L + j) 0 else (31 * i + 17 * j) % 256
theorem dat_length (L : Nat) (z : List Nat) (i : Nat) : (dat L z i).length = L := tab_length _ _
/-- The data, i rows of it made. -/
structure Dat (w : World) (L i : Nat) (z : List Nat) (v : Value) (b : Nat → Nat) (wr : World) : Prop where
  own : OwnV 22 w.heap.size wr v (lnV i L b)
  rows : ∀ t, t < i → Blk wr (b t) (dat L z t)
  base : ∀ t, t < i → w.heap.size ≤ b t
  inj : ∀ s t, s < i → t < i → b s = b t → s = t
  up : Up Nul w wr
theorem own_ne {base : Nat} {w : World} {v : Value} {xs : List Value} {q : Nat} {z : List Nat} (h : OwnV 22 base w v xs) (hb : Blk w q z) : v.ownBlock ≠ some q := by
  intro e
  rcases h.2 with ⟨e2, _⟩ | ⟨g, cap, cur, e2, _, h3, _⟩
  · subst e2; cases e
  · subst e2
    have : g = q := by simpa [Value.ownBlock] using e
    subst this
    rw [hb.heap] at h3
    cases h3
theorem OwnV.apart {T : TypeId} {S : Nat → Prop} {base : Nat} {w w' : World} {v : Value} {xs : List Value} (h : OwnV T base w v xs) (u : Up S w w') (hs : ∀ g, v.ownBlock = some g → ¬ S g) : OwnV T base w' v xs := by
  refine ⟨h.1, ?_⟩
  rcases h.2 with hn | ⟨g, cap, cur, h1, h2, h3, h4⟩
  · exact .inl hn
  · exact .inr ⟨g, cap, cur, h1, h2, (u.block g (Array.getElem?_eq_some_iff.1 h3).1 (hs g (by rw [h1]; rfl))).trans h3, h4⟩
end Go.Proofs.YtkenfabnbmkhbaaGreat
