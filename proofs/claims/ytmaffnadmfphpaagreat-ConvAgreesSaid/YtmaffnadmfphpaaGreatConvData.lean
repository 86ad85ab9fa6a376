/- All data of three stripes, and two noughts. -/
import Derived.Test.YtmaffnadmfphpaaGreatConvPeel
namespace Go.Proofs.YtmaffnadmfphpaaGreat
open Go.RowKit
set_option linter.unusedVariables false

theorem alloc_one2 (W : World) (o : Obj) (x : Value) (T : TypeId) : ∀ j u, [x][j]? = some u → ((W.alloc o).alloc (.cells #[x] T)).cell? (Addr.add ⟨W.heap.size + 1, 0, none⟩ j) = some u := fun j u hj => by
  match j, hj with
  | 0, hj => cases hj; exact cell_two W o _ _ 0
theorem flat_at {X : Nat → List Value} {n : Nat} (n1 : 0 < n) : ∀ m, (∀ i, i < m → (X i).length = n) → ∀ i, i < n * m → (flat X m)[i]? = (X (i / n))[i % n]?
  | 0, _, i, hi => by omega
  | m + 1, h, i, hi => by
    have hl := flat_six (X := X) (n := n) m fun i hi => h i (by omega)
    rw [flat_next]
    by_cases e : i < n * m
    · rw [List.getElem?_append_left (by rw [hl]; exact e)]
      exact flat_at n1 m (fun i hi => h i (by omega)) i e
    · rw [List.getElem?_append_right (by rw [hl]; omega), hl]
      have hs : n * (m + 1) = n * m + n := Nat.mul_succ n m
      obtain ⟨d, rfl⟩ : ∃ d, i = n * m + d := ⟨i - n * m, by omega⟩
      have hd : d < n := by omega
      rw [Nat.add_sub_cancel_left, Nat.mul_add_div n1, Nat.div_eq_of_lt hd, Nat.mul_add_mod, Nat.mod_eq_of_lt hd, Nat.add_zero]
/-- The data of three stripes, two noughts. -/
def dat14 (L : Nat) (R : Nat → Nat → List Nat) (i : Nat) : List Nat := if i < 12 then R (i / 4) (i % 4) else zer L
set_option maxRecDepth 100000 in
set_option maxHeartbeats 3200000 in
theorem alldata_any (FS : List Nat) (w0 w : World) (go co L : Nat) (G O C : Nat → Nat) (R : Nat → Nat → List Nat) (hs : LS w0 FS w) (hgo : go < w.heap.size)
    (h0 : ∀ i, i < 3 → w.cell? ⟨go, i, none⟩ = some (.slice (some ⟨G i, O i, none⟩) 6 (C i))) (hl : ∀ i, i < 3 → LL FS w (G i) (O i) 6 fun j => some (R i j)) (lR : ∀ i, i < 3 → ∀ j, j < 6 → (R i j).length = L) (L64 : L ≤ 64) (hC : ∀ i, i < 3 → 4 ≤ C i) :
    Calls Tryz.prog 29 #[.slice (some ⟨go, 0, none⟩) 3 co] w
      fun e w' => ∃ g c, e = .returned (.slice (some ⟨g, 0, none⟩) 14 c) ∧ (LL FS w' g 0 14 fun i => some (dat14 L R i)) ∧ Up Nul w w' := by
  have hX : ∀ i, i < 3 → Srow w (some ⟨G i, O i, none⟩) 4 (C i) (rowV w (G i) (O i) 4) := fun i hi => rowV_srow (hl i hi).lt fun j hj => by
    obtain ⟨a, c, e⟩ := ((hl i hi).rowL (lR i hi)) j (by omega)
    exact ⟨a, c, e⟩
  have HX := hid (And.intro hX (And.intro hs (And.intro hgo (And.intro h0 (And.intro hl (And.intro lR hC))))))
  obtain ⟨X, hXX⟩ : ∃ X, Hid (X = fun i => rowV w (G i) (O i) 4) := ⟨_, rfl⟩
  have HXL : Hid (∀ i, (X i).length = 4) := fun i => by rw [hXX.out]; exact rowV_length _ _ _ _
  have HFL : Hid (∀ m, (flat X m).length = 4 * m) := fun m => flat_six m fun i _ => HXL.out i
  clear hX hs hgo h0 hl lR hC
  go_enter Tryz.func29, Tryz.ntmps29
  go_wp2_with fail
  go_loopw [3, 8] (fun v i wr => ∃ k : Nat, k ≤ 3 ∧ i = .int .i64 k ∧ OwnV 22 w.heap.size wr v (flat X k) ∧ Up Nul w wr) (fun _ i _ => 3 - (intOf i).toNat)
  case atStart => exact ⟨0, by omega, rfl, OwnV.nil _ _ _, Up.refl _ _⟩
  case round =>
    obtain ⟨k, hk, rfl, ho, hu⟩ := hrel
    have HO : Hid (OwnV 22 w.heap.size wr u3 (flat X k) ∧ Up Nul w wr) := ⟨ho, hu⟩
    clear ho hu
    by_cases hlt : k < 3
    · have x0 := (HO.out.2.cell (p := ⟨go, k, none⟩) HX.out.2.2.1 id).trans (HX.out.2.2.2.1 k hlt)
      have HP : Hid (Srow w (some ⟨G k, O k, none⟩) 4 (C k) (X k)) := by rw [hXX.out]; exact HX.out.1 k hlt
      have c4 : (4 : Int) ≤ (C k : Int) := by have := HX.out.2.2.2.2.2.2 k hlt; omega
      have HLE : Hid ((flat X k).length + 4 ≤ 1000000) := by show _ ≤ _; rw [HFL.out]; omega
      have HNX := hid (flat_next X k)
      generalize G k = g at x0 HP
      generalize O k = o at x0 HP
      generalize C k = ck at x0 HP c4
      go_wp2_with (at_builtin; refine wpList_append_vals Tryz.underlying30 info_sl rfl (by omega) rfl (.tmp 12) (.tmp 14) rfl w.heap.size u3 (flat X k) rfl HO.out.1 ⟨g, o, none⟩ 4 ck (X k) rfl (fun j u hj => (HO.out.2.cell (by rw [add_block]; exact (HP.out.pt.at_ _ rfl).1) id).trans ((HP.out.pt.at_ _ rfl).2 j u hj)) HP.out.pt.one HP.out.pt.len HLE.out HO.out.2.size ?_; intro v2 w2 H1 H2)
      go_roundw
      case rel => exact ⟨k + 1, by omega, by go_num, by rw [HNX.out]; exact H1.out, HO.out.2.grown H2.out fun q hq => OwnV.base HO.out.1 q hq⟩
      case measure => simp [intOf]; omega
    · have hk3 : k = 3 := by omega
      have hnk : ¬ (k : Int) < 3 := by omega
      rw [hk3] at HO
      clear hk hk3
      go_wp2_with fail
      go_loopw [3] (fun v wx => ∃ (d : Nat) (b : Nat → Nat), d ≤ 2 ∧ OwnV 22 w.heap.size wx v (flat X 3 ++ lnV d L b) ∧ (∀ i, i < d → Blk wx (b i) (zer L) ∧ w.heap.size ≤ b i) ∧ Up Nul w wx) (fun v _ => 14 - vlen v)
      case atStart => exact ⟨0, fun _ => 0, by omega, by rw [show lnV 0 L (fun _ => 0) = [] from rfl, List.append_nil]; exact HO.out.1, fun _ h => absurd h (Nat.not_lt_zero _), HO.out.2⟩
      case round =>
        clear HO
        obtain ⟨d, b, hd, ho, hb, hu⟩ := hrel
        obtain ⟨nn, NN⟩ : ∃ nn, Hid (12 + d = nn) := ⟨_, rfl⟩
        have hnn : nn ≤ 14 := by have := NN.out; omega
        have hn1 : 12 ≤ nn := by have := NN.out; omega
        have hlen : (flat X 3 ++ lnV d L b).length = nn := by rw [List.length_append, HFL.out, lnV_length]; exact NN.out
        obtain ⟨g, c, rfl, gb, gl, gc, gf, gw⟩ := OwnV.row ho (by rw [hlen]; omega)
        have HO : Hid (OwnV 22 w.heap.size wr (.slice (some ⟨g, 0, none⟩) (flat X 3 ++ lnV d L b).length c) (flat X 3 ++ lnV d L b) ∧ (∀ i, i < d → Blk wr (b i) (zer L) ∧ w.heap.size ≤ b i) ∧ Up Nul w wr) := ⟨ho, hb, hu⟩
        have HGC := hid (And.intro gb (And.intro gl gc))
        rw [hlen] at HO ⊢
        clear ho hb hu gb gl gf gw
        obtain ⟨b0, o0, c0, e0, _⟩ := (HX.out.2.2.2.2.1 0 (by omega)).at (i := 0) (by omega) rfl
        rw [HX.out.2.2.2.2.2.1 0 (by omega) 0 (by omega)] at e0
        have hf0 : (flat X 3 ++ lnV d L b)[0]? = some (.slice (some ⟨b0, o0, none⟩) L c0) := by
          rw [List.getElem?_append_left (by rw [HFL.out]; omega), flat_at (by omega) 3 (fun i _ => HXL.out i) 0 (by omega), hXX.out]
          exact rowV_at (by omega) e0
        have x1 := HGC.out.2.2 0 _ hf0
        clear hf0 e0
        by_cases hlt : d < 2
        · have i1 : (nn : Int) < 14 := by have := NN.out; omega
          have i0 : (0 : Int) < (nn : Int) := by omega
          have hmk := make_bytes wr L (by omega)
          have UA := hid ((Up.refl Nul wr).alloc (.cells (bys (zer L)) 5))
          have HBN := hid (Blk.new wr _ (zer_small L))
          have HKL : Hid ((flat X 3 ++ lnV d L b).length + 1 ≤ 1000000) := by show _ ≤ _; rw [hlen]; omega
          have HL1 : Hid ((flat X 3 ++ lnV d L b ++ [Value.slice (some ⟨wr.heap.size, 0, none⟩) L L]).length = nn + 1) := by show _ = _; rw [List.length_append, hlen]; rfl
          have HLN : Hid (lnV (d + 1) L (fun t => if t = d then wr.heap.size else b t) = lnV d L b ++ [.slice (some ⟨wr.heap.size, 0, none⟩) L L]) := by
            show _ = _
            unfold lnV
            rw [List.range_succ, List.map_append]
            congr 1
            · exact List.map_congr_left fun t ht => by
                have := List.mem_range.1 ht
                simp only [if_neg (show ¬ t = d by omega)]
            · simp
          go_wp2_with (at_builtin; refine wpList_append_vals Tryz.underlying30 info_sl rfl (by omega) rfl (.tmp 20) (.tmp 26) rfl w.heap.size (.slice (some ⟨g, 0, none⟩) nn c) (flat X 3 ++ lnV d L b) rfl (OwnV.alloc (OwnV.alloc HO.out.1 _) _) _ 1 1 [.slice (some ⟨wr.heap.size, 0, none⟩) L L] rfl (alloc_one2 _ _ _ _) (one_one rfl) rfl HKL.out (Nat.le_trans HO.out.2.2.size (UA.out.alloc _).size) ?_; intro v2 w2 H1 H2; obtain ⟨av, cv, rfl⟩ := OwnV.shp H1.out; rw [HL1.out] at H1 ⊢)
          go_roundw
          case rel => exact ⟨d + 1, (fun t => if t = d then wr.heap.size else b t), by omega, by rw [HLN.out, ← List.append_assoc]; exact H1.out, fun i hi => by
            have ho := OwnV.alloc (OwnV.alloc HO.out.1 (.cells (bys (zer L)) 5)) (.cells #[.slice (some ⟨wr.heap.size, 0, none⟩) L L] 22)
            have hu := Up.ofg H2.out
            by_cases e : i = d
            · simp only [if_pos e]
              have hb := HBN.out.alloc (.cells #[.slice (some ⟨wr.heap.size, 0, none⟩) L L] 22)
              exact ⟨hb.up hu fun e2 => own_ne ho hb e2.symm, HO.out.2.2.size⟩
            · simp only [if_neg e]
              have hb := ((HO.out.2.1 i (by omega)).1.alloc (.cells (bys (zer L)) 5)).alloc (.cells #[.slice (some ⟨wr.heap.size, 0, none⟩) L L] 22)
              exact ⟨hb.up hu fun e2 => own_ne ho hb e2.symm, (HO.out.2.1 i (by omega)).2⟩, ((HO.out.2.2.trans UA.out).alloc _).grown H2.out fun q hq => OwnV.base HO.out.1 q hq⟩
          case measure =>
            show 14 - (nn + 1) < 14 - nn
            have := NN.out
            omega
        · obtain rfl : d = 2 := by omega
          have HR : Hid (LL FS wr g 0 14 fun i => some (dat14 L R i)) := ⟨fun i hi => by
            rw [Nat.zero_add]
            by_cases e : i < 12
            · obtain ⟨bb, oo, cc, ec, rr⟩ := (HX.out.2.2.2.2.1 (i / 4) (by omega)).at (i := i % 4) (by omega) rfl
              refine ⟨_, HGC.out.2.2 i _ (by rw [List.getElem?_append_left (by rw [HFL.out]; omega), flat_at (by omega) 3 (fun i _ => HXL.out i) i (by omega), hXX.out]; exact rowV_at (by omega) ec), bb, oo, cc, ?_, ?_⟩
              · unfold dat14; rw [if_pos e]
              · unfold dat14; rw [if_pos e]; exact rr.nxt (HX.out.2.1.nul HO.out.2.2)
            · obtain ⟨hb, hbb⟩ := HO.out.2.1 (i - 12) (by omega)
              refine ⟨_, HGC.out.2.2 i _ (by rw [List.getElem?_append_right (by rw [HFL.out]; omega), HFL.out]; exact lnV_at (by omega)), b (i - 12), 0, L, ?_, ?_⟩
              · unfold dat14; rw [if_neg e, zer_length]
              · unfold dat14; rw [if_neg e]
                have := hb.row 0 L (by rw [zer_length]; omega)
                rw [List.drop_zero, List.take_of_length_le (by rw [zer_length]; exact Nat.le_refl _)] at this
                exact ⟨this, hb.lt, HX.out.2.1.lt hbb⟩, HGC.out.2.1, HX.out.2.1.lt HGC.out.1⟩
          have hn14 : nn = 14 := by have := NN.out; omega
          subst hn14
          clear x1
          go_wp2
          go_ret
          exact ⟨g, ⟨c, rfl⟩, HR.out, HO.out.2.2⟩
end Go.Proofs.YtmaffnadmfphpaaGreat
