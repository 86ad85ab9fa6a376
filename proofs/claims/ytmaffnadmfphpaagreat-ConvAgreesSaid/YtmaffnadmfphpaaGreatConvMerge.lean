/- The document's own 'Merge'. -/
import Derived.Test.YtmaffnadmfphpaaGreatConvStripes
namespace Go.Proofs.YtmaffnadmfphpaaGreat
open Go.RowKit
set_option linter.unusedVariables false

set_option maxRecDepth 100000 in
theorem refWideL {w0 w : World} {FS : List Nat} (hs : LS w0 FS w) :
    Calls Tryz.prog 44 #[] w fun e w' => ∃ gx cx gy cy, e = .returned (.agg #[.slice (some ⟨gx, 0, none⟩) 14 cx, .slice (some ⟨gy, 0, none⟩) 4 cy]) ∧ LR FS w' gx 0 (ris 0 14) ∧ LR FS w' gy 0 (ris 14 4) ∧ Up Nul w w' := by
  have HS := hid hs
  have HU := hid ((Up.refl Nul w).alloc (.cells #[.slice none 0 0, .slice none 0 0] 79))
  have HP : Hid ((w.alloc (.cells #[.slice none 0 0, .slice none 0 0] 79)).heap[w.heap.size]? = some (.cells #[.slice none 0 0, .slice none 0 0] 79 (0, 0))) := heap_alloc_new _ _
  clear hs
  go_enter Tryz.func44, Tryz.ntmps44
  go_wp2_with fail
  generalize w.alloc (.cells #[.slice none 0 0, .slice none 0 0] 79) = wa at *
  obtain ⟨P, PP⟩ : ∃ P, P = w.heap.size := ⟨_, rfl⟩
  rw [← PP] at HP ⊢
  have HPE : Hid (w.heap.size ≤ P ∧ P < wa.heap.size) := ⟨by omega, (Array.getElem?_eq_some_iff.1 HP.out).1⟩
  clear PP
  have H0 := hid (HS.out.nul HU.out)
  refine (refBytesL (HS.out.nxt H0.out) 0 14 (by omega) (by omega)).mono ?_
  rintro e w2 ⟨g2, c2, rfl, r2, u2⟩
  have n2 := (HS.out.nxt H0.out).nul u2
  have H2 := hid (And.intro (HU.out.trans u2) (And.intro r2 ((u2.block P HPE.out.2 id).trans HP.out)))
  clear u2 r2 n2
  go_wp2_with fail
  refine (refBytesL (HS.out.nxt (HS.out.nul H2.out.1)) 14 4 (by omega) (by omega)).mono ?_
  rintro e w3 ⟨g3, c3, rfl, r3, u3⟩
  have H3 := hid (And.intro (H2.out.1.trans u3) (And.intro (H2.out.2.1.nxt ((HS.out.nxt (HS.out.nul H2.out.1)).nul u3)) (And.intro r3 ((u3.block P (Array.getElem?_eq_some_iff.1 H2.out.2.2).1 id).trans H2.out.2.2))))
  clear u3 r3 H2 HP HU H0
  have a0 := (cell_of2n H3.out.2.2.2).1
  have a1 := (cell_of2n H3.out.2.2.2).2.1
  have a3 := (cell_of2n H3.out.2.2.2).2.2
  go_wp2
  refine bodyPost_ret (results_cell_row (P := Tryz.prog) (ty := 79) rfl _ _ P _ _ _ _ rfl (heap2n H3.out.2.2.2 _ _) Tryz.underlying79 rfl info_c2n) rfl ?_
  have hu : Up Nul w ((w3.setCell ⟨P, 0, none⟩ (.slice (some ⟨g2, 0, none⟩) 14 c2)).setCell ⟨P, 1, none⟩ (.slice (some ⟨g3, 0, none⟩) 4 c3)) := (H3.out.1.setCell (p := ⟨P, 0, none⟩) (.inl HPE.out.1) _).setCell (p := ⟨P, 1, none⟩) (.inl HPE.out.1) _
  have ne2 : g2 ≠ P := fun e => by
    subst e
    have := H3.out.2.1.row.cells 0 (by rw [ris_length]; omega)
    rw [Nat.zero_add, a0] at this
    cases this
  have ne3 : g3 ≠ P := fun e => by
    subst e
    have := H3.out.2.2.1.row.cells 0 (by rw [ris_length]; omega)
    rw [Nat.zero_add, a0] at this
    cases this
  have hu3 : Up (One P) w3 ((w3.setCell ⟨P, 0, none⟩ (.slice (some ⟨g2, 0, none⟩) 14 c2)).setCell ⟨P, 1, none⟩ (.slice (some ⟨g3, 0, none⟩) 4 c3)) := ((Up.refl _ w3).setCell (p := ⟨P, 0, none⟩) (.inr (show One P P from rfl)) _).setCell (p := ⟨P, 1, none⟩) (.inr (show One P P from rfl)) _
  exact ⟨_, _, _, _, rfl, ⟨H3.out.2.1.row.up hu3 H3.out.2.1.lt ne2, Nat.lt_of_lt_of_le H3.out.2.1.lt hu3.size, H3.out.2.1.b⟩, ⟨H3.out.2.2.1.row.up hu3 H3.out.2.2.1.lt ne3, Nat.lt_of_lt_of_le H3.out.2.2.1.lt hu3.size, H3.out.2.2.1.b⟩, hu⟩

/-- Twelve data, two noughts. -/
def dz (L : Nat) (D : Nat → List Nat) (i : Nat) : List Nat := if i < 12 then D i else zer L
theorem strV_dz (L : Nat) (D : Nat → List Nat) : strV 14 (dz L D) = strV 12 D ++ [.string (strOf (zer L)), .string (strOf (zer L))] := by
  rw [strV_next, strV_next, List.append_assoc]
  have e : strV 12 (dz L D) = strV 12 D := List.map_congr_left fun i hi => by
    have := List.mem_range.1 hi
    rw [show dz L D i = D i from if_pos (by omega)]
  rw [e]
  rfl
theorem strV_one (n : Nat) (D : Nat → List Nat) : ∀ u ∈ strV n D, u.oneCell' = true := by
  intro u hu
  obtain ⟨i, _, rfl⟩ := List.mem_map.1 hu
  rfl
set_option maxRecDepth 100000 in
set_option maxHeartbeats 1600000 in
theorem refMergeL {w0 w : World} {FS : List Nat} {gs cs L : Nat} {D : Nat → List Nat} (hs : LS w0 FS w) (hst : St2 w gs 12 D) (lD : ∀ i, i < 12 → (D i).length = L) (sD : ∀ i u, (D i).getD u 0 < 256) (L64 : L ≤ 64) :
    Calls Tryz.prog 22 #[.slice (some ⟨gs, 0, none⟩) 12 cs] w fun e w' => ∃ h c, e = .returned (.slice (some ⟨h, 0, none⟩) 4 c) ∧ St2 w' h 4 (acrZ 14 L widZ (dz L D)) ∧ Up Nul w w' := by
  have HS := hid (And.intro hs (And.intro hst (And.intro lD sD)))
  have x0 := hst.cells 0 (by omega)
  have z0 : (strOf (D 0)).size = L := by rw [strOf_size]; exact lD 0 (by omega)
  have hmk := make_bytes w L (by omega)
  have HB := hid (Blk.new w _ (zer_small L))
  have hcv := conv_row (cap := L) (blk_row HB.out) (zer_length L)
  have HU := hid ((Up.refl Nul w).alloc (.cells (bys (zer L)) 5))
  have i0 : (0 : Int) ≤ (L : Int) := by omega
  generalize strOf (D 0) = str0 at x0 z0
  obtain ⟨W4, HW4⟩ : ∃ X, Hid (X = acrZ 14 L widZ (dz L D)) := ⟨_, rfl⟩
  rw [← HW4.out]
  clear hs hst lD sD
  go_enter Tryz.func22, Tryz.ntmps22
  go_wp2_with fail
  generalize w.alloc (.cells (bys (zer L)) 5) = wa at *
  refine (refWideL (HS.out.1.nxt (HS.out.1.nul HU.out))).mono ?_
  rintro e w1 ⟨gx, cx, gy, cy, rfl, rx, ry, u1⟩
  have H1 := hid (And.intro (HU.out.trans u1) (And.intro rx ry))
  clear rx ry u1 x0 z0 hmk hcv HB
  have HA1 : Hid (OwnV 9 w1.heap.size (w1.alloc (.cells #[] 9)) (.slice (some ⟨w1.heap.size, 0, none⟩) 0 0) []) := World.ownsRow_made w1 #[] 0 (Nat.le_refl _) (by unfold maxLen; omega) rfl
  have UA := hid (H1.out.1.alloc (.cells #[] 9))
  have U1A := hid ((Up.refl Nul w1).alloc (.cells #[] 9))
  have HV12 : Hid (([] ++ strV 12 D : List Value).length + 2 ≤ 1000000) := by show _ ≤ _; rw [List.nil_append, strV_length]; omega
  go_wp2_with (first
    | (at_builtin; refine wpList_append_vals Tryz.underlying27 info_str rfl (by omega) rfl (.tmp 11) (.tmp 12) rfl w1.heap.size _ [] rfl HA1.out ⟨gs, 0, none⟩ 12 cs (strV 12 D) rfl (fun j u hj => by
        have hj12 : j < 12 := by
          rcases Nat.lt_or_ge j 12 with h | h
          · exact h
          · rw [List.getElem?_eq_none (by rw [strV_length]; exact h)] at hj; cases hj
        rw [strV_at hj12] at hj
        cases hj
        have ea : Addr.add ⟨gs, 0, none⟩ j = ⟨gs, j, none⟩ := by
          by_cases h0 : j = 0
          · subst h0; simp [Addr.add]
          · simp [Addr.add, h0]
        rw [ea]
        exact (UA.out.cell (p := ⟨gs, j, none⟩) HS.out.2.1.lt id).trans (HS.out.2.1.cells j hj12)) (strV_one _ _) (strV_length _ _) (by simp) U1A.out.size ?_; intro v2 w2 G1 G2; have U2 := hid (UA.out.grown G2.out fun q hq => by have h1 := HA1.out.base q hq; have h2 := H1.out.1.size; omega); have U12 := hid (U1A.out.grown G2.out fun q hq => HA1.out.base q hq))
    | (at_builtin; refine wpList_append_vals Tryz.underlying27 info_str rfl (by omega) rfl (.tmp 13) (.tmp 16) rfl w1.heap.size _ ([] ++ strV 12 D) rfl (OwnV.alloc G1.out _) ⟨w2.heap.size, 0, none⟩ 2 2 [.string (strOf (zer L)), .string (strOf (zer L))] rfl (alloc_two _ _ _ _) (one_two rfl rfl) rfl HV12.out (U12.out.alloc _).size ?_; intro v3 w3 G3 G4; have U3 := hid ((U2.out.alloc _).grown G4.out fun q hq => by have h1 := G1.out.base q hq; have h2 := H1.out.1.size; omega); have U13 := hid ((U12.out.alloc _).grown G4.out fun q hq => G1.out.base q hq))
    | fail)
  rw [List.nil_append, ← strV_dz] at G3
  obtain ⟨h3, c3, rfl, _, hl3, hc3, _, _⟩ := G3.out.row (by rw [strV_length]; omega)
  rw [strV_length] at G3 ⊢
  have n3 := HS.out.1.nul U3.out
  have H3 := hid (And.intro (H1.out.2.1.nxt ((HS.out.1.nxt (HS.out.1.nul H1.out.1)).nul U13.out)) (And.intro (H1.out.2.2.nxt ((HS.out.1.nxt (HS.out.1.nul H1.out.1)).nul U13.out)) (⟨fun i hi => hc3 i _ (strV_at hi), hl3⟩ : St2 w3 h3 14 (dz L D))))
  clear hc3 hl3 G1 G2 G3 G4 HA1 UA U1A U2 U12 U13
  go_wp2_with fail
  refine (refEncL (D := dz L D) (L := L) (HS.out.1.nxt n3) H3.out.1 H3.out.2.1 (ris_length _ _) (ris_length _ _) (by omega) (by omega) (by omega) (by omega) H3.out.2.2 (fun i _ => by unfold dz; split; exact HS.out.2.2.1 i (by assumption); exact zer_length _) (fun i u => by unfold dz; split; exact HS.out.2.2.2 i u; rw [zer_at]; omega) (by omega)).mono ?_
  rintro e w4 ⟨g4, c4, rfl, st4, u4⟩
  have H4 : Hid (St2 w4 g4 4 W4 ∧ Up Nul w w4) := ⟨by rw [HW4.out]; exact st4, U3.out.trans u4⟩
  clear st4 u4
  go_wp2
  go_ret
  exact ⟨g4, c4, rfl, H4.out⟩
end Go.Proofs.YtmaffnadmfphpaaGreat
