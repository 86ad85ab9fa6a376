/- Parities of sums; one byte turned is told by each parity; the statements' own data, law by law. -/
import Derived.Test.YtebglmfdchfplaaCodeXor
namespace Go.Proofs.Ytebglmfdchfplaa
open Go.RowKit
set_option linter.unusedVariables false

theorem acr_xor {k L j : Nat} {Z : List Nat} {D E : Nat → List Nat} (sD : ∀ i u, (D i).getD u 0 < 256) (sE : ∀ i u, (E i).getD u 0 < 256) :
    acrZ k L Z (fun i => tab L fun u => (D i).getD u 0 ^^^ (E i).getD u 0) j = tab L fun u => (acrZ k L Z D j).getD u 0 ^^^ (acrZ k L Z E j).getD u 0 := by
  refine tab_congr fun u hu => ?_
  rw [acrZ_at hu, acrZ_at hu, ← GfM.xs_xor]
  exact GfM.xs_congr fun s _ => by rw [tab_at _ _ _ hu, GfM.mul_xor _ (sD s u) (sE s u)]
theorem acr_turn {k L j q u : Nat} {Z : List Nat} {D D2 : Nat → List Nat} (hq : q < k) (hu : u < L) (h : ∀ s, s < k → s ≠ q → (D2 s).getD u 0 = (D s).getD u 0) (hne : (D2 q).getD u 0 ≠ (D q).getD u 0) (sD : ∀ i u, (D i).getD u 0 < 256) (s2 : ∀ i u, (D2 i).getD u 0 < 256)
    (hz : Z.getD (j * k + q) 0 ≠ 0) : acrZ k L Z D2 j ≠ acrZ k L Z D j := by
  intro e
  have e1 : (acrZ k L Z D2 j).getD u 0 = (acrZ k L Z D j).getD u 0 := by rw [e]
  rw [acrZ_at hu, acrZ_at hu] at e1
  have e2 : (GfM.xs k fun s => GfM.mul (Z.getD (j * k + s) 0) ((D2 s).getD u 0) ^^^ GfM.mul (Z.getD (j * k + s) 0) ((D s).getD u 0)) = 0 := by rw [GfM.xs_xor, e1, Nat.xor_self]
  rw [GfM.xs_one hq fun s hs hne2 => by rw [h s hs hne2, Nat.xor_self], ← GfM.mul_xor _ (s2 q u) (sD q u)] at e2
  exact hne (GfM.xor_eq_zero (GfM.mul_eq_zero hz e2))
theorem coef_pos {k r i j : Nat} {X Y : List Nat} (hi : i < k) (hj : j < r) (h : X.getD i 0 ≠ Y.getD j 0) : (coefZ k r X Y).getD (j * k + i) 0 ≠ 0 := by
  rw [coefZ_at hj hi]
  exact GfM.inv_pos (GfM.xor_ne fun e => h e.symm)
theorem md_pos {k r i j : Nat} {at_ : Int} (hi : i < k) (hj : j < r) (h : k + r ≤ 18) : (coefZ k r (mdX at_ k) (mdY at_ k r)).getD (j * k + i) 0 ≠ 0 :=
  coef_pos hi hj ((md_dst h).xy (mdX_length _ _) (mdY_length _ _ _) i j hi hj)
theorem Elim.fld {W w w' : World} {F gl n m : Nat} {b : Nat → Nat} {L : Nat → List Nat} (h : Elim W F gl n m b L w) (hF : F < W.heap.size) (u : Up (One F) w w') : Elim W F gl n m b L w' :=
  h.step u (fun e => by have := h.glo; unfold One at e; omega) (fun i hi e => by have := (h.own i hi).1; unfold One at e; omega) fun k _ e => e
theorem dataL {w0 w : World} {FS : List Nat} {F k L n cap : Nat} {a : Option Addr} {z : List Nat} (h : LS w0 FS w) (hF : F ∈ FS) (hz : SlN w0 a n z) (k1 : 1 ≤ k) (k14 : k ≤ 14) (L70 : L ≤ 70) :
    Calls Try.prog 12 #[.int .i64 k, .int .i64 L, .slice a n cap] w
      fun e w' => ∃ g capg b, e = .returned (.slice (some ⟨g, 0, none⟩) k capg) ∧ Elim w F g k L b (dat L z) w' ∧ k ≤ capg ∧ Up Nul w w' := by
  refine (data_any F k L n cap a z w (hz.up h.up fun _ _ => id) k1 k14 L70).mono ?_
  rintro e w' ⟨⟨g, capg, b, h1, h2, h3⟩, h4⟩
  exact ⟨g, capg, b, h1, h2, h3, h4⟩
theorem dataL8 {w0 w : World} {FS : List Nat} {F k n cap : Nat} {a : Option Addr} {z : List Nat} (h : LS w0 FS w) (hF : F ∈ FS) (hz : SlN w0 a n z) (k1 : 1 ≤ k) (k14 : k ≤ 14) :
    Calls Try.prog 12 #[.int .i64 k, .int .i64 8, .slice a n cap] w
      fun e w' => ∃ g capg b, e = .returned (.slice (some ⟨g, 0, none⟩) k capg) ∧ Elim w F g k 8 b (dat 8 z) w' ∧ k ≤ capg ∧ Up Nul w w' := dataL (L := 8) h hF hz k1 k14 (by omega)
theorem dataL9 {w0 w : World} {FS : List Nat} {F k n cap : Nat} {a : Option Addr} {z : List Nat} (h : LS w0 FS w) (hF : F ∈ FS) (hz : SlN w0 a n z) (k1 : 1 ≤ k) (k14 : k ≤ 14) :
    Calls Try.prog 12 #[.int .i64 k, .int .i64 9, .slice a n cap] w
      fun e w' => ∃ g capg b, e = .returned (.slice (some ⟨g, 0, none⟩) k capg) ∧ Elim w F g k 9 b (dat 9 z) w' ∧ k ≤ capg ∧ Up Nul w w' := dataL (L := 9) h hF hz k1 k14 (by omega)
/-- 'Encode' as the laws use it. -/
theorem encL {w0 w : World} {FS : List Nat} {c F k r pp pq sp sq g o cap L : Nat} {Z : List Nat} {R : Nat → List Nat} (h : LS w0 FS w) (hc : CD FS w c F k r pp pq sp sq Z) (hR : LL FS w g o k fun i => some (R i)) (hl : ∀ i, i < k → (R i).length = L) (hL : L ≤ 64) :
    Calls Try.prog 13 #[.pointer (some ⟨c, 0, none⟩), .slice (some ⟨g, o, none⟩) k cap] w
      fun e w' => ∃ gl b, e = .returned (.tuple #[.slice (some ⟨gl, 0, none⟩) r r, .int .i64 0]) ∧ Elim w F gl r L b (acrZ k L Z R) w' ∧ Nxt FS w w' ∧ Up (One F) w w' := by
  refine (enc_good FS w0 w c F k r pp pq sp sq Z g o cap L R h hc hR hl hL).mono ?_
  rintro e w' ⟨gl, b, h1, h2, h3⟩
  exact ⟨gl, b, h1, h2, h.one hc.par.F h2.up h3, h2.up⟩
theorem Elim.put {W w : World} {F gl n m : Nat} {b : Nat → Nat} {L : Nat → List Nat} (h : Elim W F gl n m b L w) {i : Nat} (hi : i < n) (j v : Nat) (hv : v < 256) : Elim W F gl n m b (updL L i ((L i).set j v)) (w.setCell ⟨b i, j, none⟩ (.int .u8 v)) :=
  h.turn hi ((h.rows i hi).set j v hv) (by rw [List.length_set]; exact h.lens i hi) ((Up.refl _ _).setCell (p := ⟨b i, j, none⟩) (.inr (show One (b i) (b i) from rfl)) _)
theorem blk_row {w : World} {q : Nat} {z : List Nat} (h : Blk w q z) : Row w q 0 z := by
  have hr := h.row 0 z.length (by omega)
  rwa [List.drop_zero, List.take_of_length_le (Nat.le_refl _)] at hr
theorem nums_row {z : List Nat} (h : ∀ i, z.getD i 0 < 256) : nums (strOf z) = z := nums_strOf h
theorem str_eq {y z : List Nat} (h : y = z) : (strOf y).toList == (strOf z).toList := by rw [h]; simp
theorem str_ne {y z : List Nat} (hy : ∀ i, y.getD i 0 < 256) (hz : ∀ i, z.getD i 0 < 256) (h : y ≠ z) : ((strOf y).toList == (strOf z).toList) = false := by
  rw [beq_eq_false_iff_ne]
  exact fun e => h (strOf_inj hy hz (bytes_inj e))
end Go.Proofs.Ytebglmfdchfplaa
