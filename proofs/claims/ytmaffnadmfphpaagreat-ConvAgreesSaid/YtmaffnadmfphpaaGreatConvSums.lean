/- Sums of rows, sums of parities. -/
import Derived.Test.YtmaffnadmfphpaaGreatConvAlike
namespace Go.Proofs.YtmaffnadmfphpaaGreat
open Go.RowKit
set_option linter.unusedVariables false

set_option maxRecDepth 100000 in
theorem cadd_any (g b o n c1 c2 : Nat) (x y : List Nat) (w : World) (h1 : Blk w g x) (h2 : Row w b o y) (hb : b < w.heap.size) (hne : b ≠ g) (l1 : x.length = n) (l2 : y.length = n) (hn : n ≤ 64) :
    Calls Tryz.prog 37 #[.slice (some ⟨g, 0, none⟩) n c1, .slice (some ⟨b, o, none⟩) n c2] w
      fun e w' => e = .returned (.tuple #[]) ∧ Blk w' g (tab n fun j => x.getD j 0 ^^^ y.getD j 0) ∧ Up (One g) w w' := by
  have HS : Hid _ := Turn.start h1 l1 fun j => x.getD j 0 ^^^ y.getD j 0
  have H1 := hid (And.intro h1 (And.intro h2 (And.intro hb hne)))
  have HL := hid (And.intro l1 l2)
  clear h1 h2 hb hne l1 l2
  go_enter Tryz.func37, Tryz.ntmps37
  go_wp2_with fail
  go_loopw [8] (fun i wr => ∃ k : Nat, k ≤ n ∧ i = .int .i64 k ∧ ∃ v, Turn w g n k x (fun j => x.getD j 0 ^^^ y.getD j 0) wr v) (fun i _ => n - (intOf i).toNat)
  case atStart => exact ⟨0, by omega, rfl, _, HS.out⟩
  case round =>
    clear HS
    obtain ⟨k, hk, rfl, v, ht⟩ := hrel
    have HT := hid ht
    clear ht
    by_cases hlt : k < n
    · have x0 := HT.out.blk.cell k (by rw [HT.out.len]; exact hlt)
      have f0 := HT.out.blk.froz k
      rw [HT.out.rest k (Nat.le_refl _)] at x0
      have y0 := ((H1.out.2.1.up HT.out.up H1.out.2.2.1 H1.out.2.2.2).cells k (by rw [HL.out.2]; exact hlt))
      have sx := small_getD H1.out.1.small k
      have sy := H1.out.2.1.small k
      have hv : Hid ((fun j => x.getD j 0 ^^^ y.getD j 0) k = x.getD k 0 ^^^ y.getD k 0) := rfl
      generalize x.getD k 0 = p at x0 sx hv
      generalize y.getD k 0 = q at y0 sy hv
      have hxx := u8_xor_nat p q sx sy
      have h8 : Hid (p ^^^ q < 256) := GfM.xor_lt sx sy
      have i1 : (0 : Int) ≤ (k : Int) := by omega
      have i2 : (k : Int) < (n : Int) := by omega
      go_wp2
      go_roundw
      case rel => exact ⟨k + 1, by omega, by go_num, _, HT.out.next hlt hv.out h8.out 0⟩
      case measure => simp [intOf]; omega
    · obtain rfl : n = k := by omega
      go_wp2
      go_end0
      exact ⟨rfl, HT.out.done, HT.out.up⟩
theorem Up.fresh {q : Nat} {W w w' : World} (h : Up Nul W w) (u : Up (One q) w w') (hq : W.heap.size ≤ q) : Up Nul W w' :=
  (h.nul.trans u).mono fun k hk e => by unfold One at e; omega
theorem Bes.turn {W w w' : World} {gl n m k : Nat} {b : Nat → Nat} {L : Nat → List Nat} (h : Bes W gl n m k b L w) {i : Nat} (hi : i < k) {y : List Nat} (hy : Blk w' (b i) y) (hl : y.length = m) (u : Up (One (b i)) w w') : Bes W gl n m k b (updL L i y) w' where
  lin := fun j hj => (u.cell (p := ⟨gl, j, none⟩) h.gll fun e => (h.own i hi).2 e.symm).trans (h.lin j hj)
  any := fun j hj => by
    obtain ⟨v, hv⟩ := h.any j hj
    exact ⟨v, (u.cell (p := ⟨gl, j, none⟩) h.gll fun e => (h.own i hi).2 e.symm).trans hv⟩
  frz := fun j => (u.froz (p := ⟨gl, j, none⟩) h.gll fun e => (h.own i hi).2 e.symm).trans (h.frz j)
  gll := Nat.lt_of_lt_of_le h.gll u.size
  glo := h.glo
  rows := fun j hj => by
    unfold updL
    split
    · next e => subst e; exact hy
    · next e => exact (h.rows j hj).up u fun e2 => e (h.inj j i hj hi e2)
  lens := fun j hj => by
    unfold updL
    split
    · exact hl
    · exact h.lens j hj
  own := h.own
  inj := h.inj
  up := h.up.fresh u (h.own i hi).1
theorem Bes.drew {W w : World} {gl n m k : Nat} {b : Nat → Nat} {L : Nat → List Nat} (h : Bes W gl n m k b L w) : Bes W gl n m k b L w.drew := h.drewN 1
/-- Byte by byte the sum of the j-th parities of the first k stripes. -/
def sumK (k L : Nat) (R : Nat → Nat → List Nat) (j : Nat) : List Nat := tab L fun u => GfM.xs k fun i => (R i (4 + j)).getD u 0
theorem sumK_zero (L : Nat) (R : Nat → Nat → List Nat) (j : Nat) : sumK 0 L R j = zer L := (eq_tab (zer_length L) fun u _ => by rw [zer_at]; rfl).symm
theorem sumK_next (k L : Nat) (R : Nat → Nat → List Nat) (j : Nat) : (tab L fun u => (sumK k L R j).getD u 0 ^^^ (R k (4 + j)).getD u 0) = sumK (k + 1) L R j :=
  tab_congr fun u hu => by
    unfold sumK
    rw [tab_at _ _ _ hu]
    rfl
set_option maxRecDepth 100000 in
set_option maxHeartbeats 3200000 in
theorem csums_any (FS : List Nat) (w0 w : World) (go oo m co L : Nat) (G O C : Nat → Nat) (R : Nat → Nat → List Nat) (hs : LS w0 FS w) (m1 : 1 ≤ m) (m3 : m ≤ 3) (hgo : go < w.heap.size)
    (h0 : ∀ i, i < m → w.cell? ⟨go, oo + i, none⟩ = some (.slice (some ⟨G i, O i, none⟩) 6 (C i))) (hl : ∀ i, i < m → LL FS w (G i) (O i) 6 fun j => some (R i j)) (lR : ∀ i, i < m → ∀ j, j < 6 → (R i j).length = L) (L64 : L ≤ 64) :
    Calls Tryz.prog 30 #[.slice (some ⟨go, oo, none⟩) m co] w
      fun e w' => ∃ S b, e = .returned (.slice (some ⟨S, 0, none⟩) 2 2) ∧ Elim w 0 S 2 L b (sumK m L R) w' ∧ Up Nul w w' := by
  have HS := hid (And.intro hs (And.intro hgo (And.intro h0 (And.intro hl lR))))
  have hmk : (Instr.makeSlice 30 (.int .i64 2) (.int .i64 2)).run Tryz.prog w = .ok (.slice (some ⟨w.heap.size, 0, none⟩) 2 2) (w.alloc (.cells (nilS 2) 22)) := make_slices w 2 (by omega)
  have HB := hid (Bes.start w 2 L (fun _ => 0) (fun _ => []))
  have i0 : (0 : Int) < (m : Int) := by omega
  clear hs hgo h0 hl lR
  go_enter Tryz.func30, Tryz.ntmps30
  go_wp2_with fail
  obtain ⟨gl, GL⟩ : ∃ x, Hid (x = w.heap.size) := ⟨_, rfl⟩
  rw [← GL.out] at HB ⊢
  go_loopw [10] (fun i wr => ∃ j : Nat, j ≤ 2 ∧ i = .int .i64 j ∧ ∃ b P, Bes w gl 2 L j b P wr ∧ ∀ i, i < j → P i = sumK m L R i) (fun i _ => 2 - (intOf i).toNat)
  case atStart => exact ⟨0, by omega, rfl, _, _, HB.out, fun _ h => absurd h (Nat.not_lt_zero _)⟩
  case round =>
    clear HB hmk
    obtain ⟨j, hj, rfl, b, P, hb, hP⟩ := hrel
    have HBB := hid (And.intro hb hP)
    clear hb hP
    by_cases hlt : j < 2
    · have x0 := (HBB.out.1.up.cell (p := ⟨go, oo + 0, none⟩) HS.out.2.1 id).trans (HS.out.2.2.1 0 (by omega))
      obtain ⟨b0, o0, cap0, x1, _⟩ := ((HS.out.2.2.2.1 0 (by omega)).nxt (HS.out.1.nul HBB.out.1.up)).at (i := 0) (by omega) rfl
      rw [HS.out.2.2.2.2 0 (by omega) 0 (by omega), Nat.add_zero] at x1
      rw [Nat.add_zero] at x0
      have hmk2 := make_bytes wr L (by omega)
      obtain ⟨v0, y0⟩ := (HBB.out.1.alloc (.cells (bys (zer L)) 5)).any j hlt
      have f0 := (HBB.out.1.alloc (.cells (bys (zer L)) 5)).frz j
      have HNX := hid (HBB.out.1.make hlt)
      have i1 : (0 : Int) ≤ (j : Int) := by omega
      have i2 : (j : Int) < 2 := by omega
      generalize G 0 = g0 at x0 x1
      generalize O 0 = q0 at x0 x1
      generalize C 0 = cc0 at x0
      obtain ⟨b2, P2, hb2, hP2, hz2⟩ : ∃ b2 P2, Bes w gl 2 L (j + 1) b2 P2 ((wr.alloc (.cells (bys (zer L)) 5)).setCell ⟨gl, j, none⟩ (.slice (some ⟨wr.heap.size, 0, none⟩) L L)) ∧ (∀ i, i < j → P2 i = sumK m L R i) ∧ P2 j = sumK 0 L R j :=
        ⟨_, _, HNX.out, fun i hi => by simp only [if_neg (show ¬ i = j by omega)]; exact HBB.out.2 i hi, by simp only [if_true]; exact (sumK_zero L R j).symm⟩
      have HNX2 := hid (And.intro hb2 (And.intro hP2 hz2))
      clear hb2 hP2 hz2 HNX HBB
      go_wp2_with fail
      generalize ((wr.alloc (.cells (bys (zer L)) 5)).setCell ⟨gl, j, none⟩ (.slice (some ⟨wr.heap.size, 0, none⟩) L L)) = wq at *
      clear x0 x1 y0 f0 hmk2
      go_loopw [25] (fun i wx => ∃ k : Nat, k ≤ m ∧ i = .int .i64 k ∧ ∃ P, Bes w gl 2 L (j + 1) b2 P wx ∧ (∀ i, i < j → P i = sumK m L R i) ∧ P j = sumK k L R j) (fun i _ => m - (intOf i).toNat)
      case atStart => exact ⟨0, by omega, rfl, _, HNX2.out⟩
      case round =>
        clear HNX2
        obtain ⟨k, hk, rfl, P, hb, hP, hPj⟩ := hrel
        have HBB := hid (And.intro hb (And.intro hP hPj))
        clear hb hP hPj
        by_cases hlt2 : k < m
        · have x0 := (HBB.out.1.up.cell (p := ⟨go, oo + k, none⟩) HS.out.2.1 id).trans (HS.out.2.2.1 k hlt2)
          obtain ⟨jj, hjj, JJ⟩ : ∃ jj, jj < 6 ∧ Hid (4 + j = jj) := ⟨4 + j, by omega, rfl⟩
          obtain ⟨bb, ob, cb, x1, r1⟩ := (HS.out.2.2.2.1 k hlt2).at (i := jj) hjj rfl
          have x1' := (HBB.out.1.up.cell (p := ⟨G k, O k + jj, none⟩) (lt_of_cell x1) id).trans x1
          rw [HS.out.2.2.2.2 k hlt2 jj hjj] at x1'
          have HR := hid (And.intro (r1.row.up HBB.out.1.up r1.lt id) (And.intro r1.lt (HS.out.2.2.2.2 k hlt2 jj hjj)))
          have z0 := HBB.out.1.lin j (Nat.lt_succ_self _)
          have HBK := hid (And.intro (HBB.out.1.rows j (Nat.lt_succ_self _)) (And.intro (HBB.out.1.lens j (Nat.lt_succ_self _)) (HBB.out.1.own j (Nat.lt_succ_self _))))
          have hgk : Hid (G k < w.heap.size) := lt_of_cell x1
          obtain ⟨Bq, BQ⟩ : ∃ q, Hid (b2 j = q) := ⟨_, rfl⟩
          rw [BQ.out] at z0 HBK
          have i3 : (0 : Int) ≤ (k : Int) := by omega
          have i4 : (k : Int) < (m : Int) := by omega
          have i5 : IntKind.i64.wrap (4 + (j : Int)) = (jj : Int) := by rw [IntWalk.i64_in _ (by omega)]; have := JJ.out; omega
          have i6 : wrap64 (4 + (j : Int)) = (jj : Int) := by rw [← IntWalk.i64_left]; exact i5
          have i7 : (0 : Int) ≤ (jj : Int) := by omega
          have i8 : (jj : Int) < 6 := by omega
          have d0 : wr.drew.cell? ⟨gl, j, none⟩ = some (.slice (some ⟨Bq, 0, none⟩) L L) := z0
          have d1 : wr.drew.cell? ⟨G k, O k + jj, none⟩ = some (.slice (some ⟨bb, ob, none⟩) L cb) := x1'
          have HCA := hid (cadd_any Bq bb ob L L cb (P j) (R k jj) wr.drew (HBK.out.1.drewN 1) ⟨HR.out.1.cells, HR.out.1.small⟩ (Nat.lt_of_lt_of_le HR.out.2.1 HBB.out.1.up.size) (by have := HR.out.2.1; have := HBK.out.2.2.1; omega) HBK.out.2.1 HR.out.2.2 L64)
          have HNE : Hid (gl ≠ Bq ∧ G k ≠ Bq) := ⟨fun e => HBK.out.2.2.2 e.symm, by have h1 := hgk.out; have h2 := HBK.out.2.2.1; omega⟩
          go_wp2_with fail
          go_region_held3 (fun w' => w'.cell? ⟨gl, j, none⟩ = some (.slice (some ⟨Bq, 0, none⟩) L L) ∧ w'.cell? ⟨G k, O k + jj, none⟩ = some (.slice (some ⟨bb, ob, none⟩) L cb))
            (first | exact ⟨by assumption, by assumption⟩ | go_keep)
            ((go_at_call 37; (with_reducible refine HCA.out.mono ?_); rintro e wy ⟨rfl, hbk, hu⟩; have HY := hid (And.intro hbk hu); have e0 : wy.cell? ⟨gl, j, none⟩ = some (.slice (some ⟨Bq, 0, none⟩) L L) := (hu.cell (p := ⟨gl, j, none⟩) HBB.out.1.gll HNE.out.1).trans d0; have e1 : wy.cell? ⟨G k, O k + jj, none⟩ = some (.slice (some ⟨bb, ob, none⟩) L cb) := (hu.cell (p := ⟨G k, O k + jj, none⟩) (Nat.lt_of_lt_of_le hgk.out HBB.out.1.up.size) HNE.out.2).trans d1; clear hbk hu))
          have HNB : Hid (Bes w gl 2 L (j + 1) b2 (updL P j (tab L fun t => (P j).getD t 0 ^^^ (R k jj).getD t 0)) wy) :=
            HBB.out.1.drew.turn (Nat.lt_succ_self j) (by rw [BQ.out]; exact HY.out.1) (tab_length _ _) (by rw [BQ.out]; exact HY.out.2)
          go_wp2
          go_roundw
          case rel => exact ⟨k + 1, by omega, by go_num, _, HNB.out, fun i hi => by
            unfold updL
            rw [if_neg (show ¬ i = j by omega)]
            exact HBB.out.2.1 i hi, by
            unfold updL
            rw [if_pos rfl, HBB.out.2.2, ← JJ.out]
            exact sumK_next k L R j⟩
          case measure => simp [intOf]; omega
        · obtain rfl : m = k := by omega
          go_wp2
          go_roundw
          case rel => exact ⟨j + 1, by omega, by go_num, _, _, HBB.out.1, fun i hi => by
            by_cases e : i = j
            · rw [e]; exact HBB.out.2.2
            · exact HBB.out.2.1 i (by omega)⟩
          case measure => simp [intOf]; omega
    · obtain rfl : j = 2 := by omega
      have hel := HBB.out.1.elim (F := 0)
      have HE := hid (hel.congr fun i hi => HBB.out.2 i hi)
      clear hel
      go_wp2
      go_ret
      exact ⟨gl, b, rfl, HE.out, HBB.out.1.up⟩
end Go.Proofs.YtmaffnadmfphpaaGreat
