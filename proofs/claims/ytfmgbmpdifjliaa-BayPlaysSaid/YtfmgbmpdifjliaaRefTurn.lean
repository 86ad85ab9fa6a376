/- The document's 'Rot', where it turns a byte. -/
import Derived.Test.YtfmgbmpdifjliaaRefRot
namespace Go.Proofs.Ytfmgbmpdifjliaa
open Go.RowKit
set_option linter.unusedVariables false

theorem bw_up (w : World) (s : ByteArray) : Up Nul w (Lib.bytesWorld w 5 s) :=
  ⟨rfl, rfl, rfl, by rw [Lib.bytesWorld_size]; omega, fun k hk _ => Lib.bytesWorld_at_old w 5 s k hk⟩
theorem bw_froz (w : World) (s : ByteArray) (j : Nat) (hj : j < s.size) : (Lib.bytesWorld w 5 s).frozen? ⟨w.heap.size, j, none⟩ = false := by
  have e := Lib.bytesWorld_at_new w 5 s
  have hs : s.size ≤ (Lib.bytesCells w 5 s).size := by simp [Lib.bytesCells]
  simp [World.frozen?, e]
  omega
theorem bw_row (w : World) (z : List Nat) (h8 : ∀ i, z.getD i 0 < 256) : Row (Lib.bytesWorld w 5 (strOf z)) w.heap.size 0 z :=
  ⟨fun i hi => by
    rw [Nat.zero_add, Lib.bytesWorld_cell _ _ _ _ (by rw [strOf_size]; exact hi)]
    congr 2
    have := h8 i
    simp [strOf, List.getD_eq_getElem?_getD, List.getElem?_eq_getElem hi] at this ⊢
    omega, h8⟩
theorem Row.set {w : World} {q : Nat} {z : List Nat} (h : Row w q 0 z) (t v : Nat) (ht : t < z.length) (hv : v < 256) : Row (w.setCell ⟨q, t, none⟩ (.int .u8 (v : Int))) q 0 (z.set t v) :=
  ⟨fun i hi => by
    rw [List.length_set] at hi
    rw [Nat.zero_add, getD_set _ _ _ _ ht]
    by_cases e : i = t
    · subst e
      have := h.cells i hi
      rw [Nat.zero_add] at this
      rw [if_pos rfl]
      exact World.cell?_setCell_same _ _ _ this
    · rw [if_neg e, World.cell?_setCell_other _ _ _ _ (by first | (simp; done) | (simp; omega))]
      have := h.cells i hi
      rwa [Nat.zero_add] at this, fun i => by
    rw [getD_set _ _ _ _ ht]
    split
    · exact hv
    · exact h.small i⟩
/-- What a Rot makes of what is pending. -/
def RotW (ws : List Wt) (s : Nat) (y : List Nat) (ws' : List Wt) : Prop :=
  (∃ k, ∃ hk : k < ws.length, ws[k].slot = s ∧ (∀ i (hi : i < ws.length), k < i → ws[i].slot ≠ s) ∧ ws' = ws.set k { ws[k] with now := y }) ∨ ((∀ i (hi : i < ws.length), ws[i].slot ≠ s) ∧ ws' = ws)
/-- What a Rot leaves. -/
def RTurned (r : RK) (s : Nat) (y : List Nat) (w w' : World) : Prop := ∃ ws', RD w' { r with R := upd r.R s y, ws := ws' } ∧ RotW r.ws s y ws' ∧ Up r.foot w w'
set_option maxRecDepth 100000 in
set_option maxHeartbeats 3200000 in
theorem rrot_good (r : RK) (s t c : Nat) (w : World) (h : RD w r) (hs : s < r.n) (ht : t < 96) (hc : c < 256) (hl : r.live = true) (h8 : ∀ i, (r.R s).getD i 0 < 256) :
    Calls Try.prog 27 #[.pointer (some ⟨r.m, 0, none⟩), .int .i64 s, .int .i64 t, .int .u8 c] w fun e w' => e = .returned (.bool true) ∧ RTurned r s (turn (r.R s) t c) w w' := by
  have HL := hid (rslot_in r s w h hs)
  have c1 := h.c1
  rw [hl] at c1
  have c0 := h.c0
  obtain ⟨sg, e1, e2, e3, x1, x2⟩ := h.slot hs
  rw [e1] at c0
  have hlz := h.lenR s hs
  have hcv := Lib.run_convert_string_bytes (P := Try.prog) w 9 32 5 (strOf (r.R s)) Try.underlying9 Try.underlying32 Try.underlying5
  have hsz : (strOf (r.R s)).size = 96 := by rw [strOf_size, hlz]
  rw [hsz] at hcv
  have HU1 := hid (bw_up w (strOf (r.R s)))
  have hrow := bw_row w (r.R s) h8
  have hfz := bw_froz w (strOf (r.R s)) t (by rw [hsz]; exact ht)
  have x3 := hrow.cells t (by rw [hlz]; exact ht)
  rw [Nat.zero_add] at x3
  have hv := h8 t
  have hxo := u8_xor_nat ((r.R s).getD t 0) c hv hc
  have hrow2 := hrow.set t ((r.R s).getD t 0 ^^^ c) (by rw [hlz]; exact ht) (xor_small hv hc)
  have HH := hid h
  have HX := hid (And.intro hs (And.intro e1 (And.intro e3 e2)))
  have HTL : Hid ((turn (r.R s) t c).length = 96) := by show _ = _; simp [turn, hlz]
  have hqn : sg ≠ w.heap.size := by omega
  obtain ⟨q, Q⟩ : ∃ q, Hid (w.heap.size = q) := ⟨_, rfl⟩
  have HUQ : Hid (Up Nul w ((Lib.bytesWorld w 5 (strOf (r.R s))).setCell ⟨q, t, none⟩ (.int .u8 (((r.R s).getD t 0 ^^^ c : Nat) : Int)))) := HU1.out.setCell (.inl (Nat.le_of_eq Q.out)) _
  have HR2 : Hid (Row ((Lib.bytesWorld w 5 (strOf (r.R s))).setCell ⟨q, t, none⟩ (.int .u8 (((r.R s).getD t 0 ^^^ c : Nat) : Int))) q 0 (turn (r.R s) t c)) := by rw [← Q.out]; exact hrow2
  rw [Q.out] at hcv hfz x3 hqn
  generalize grownCap w 96 0 5 = gc at hcv
  generalize (r.R s).getD t 0 = v at x3 hxo HUQ HR2
  generalize v ^^^ c = vc at hxo HUQ HR2
  generalize strOf (r.R s) = s0 at x1 hcv HU1 hfz x3 HUQ HR2
  generalize Lib.bytesWorld w 5 s0 = wb at hcv HU1 hfz x3 HUQ HR2
  obtain ⟨w2, W2⟩ : ∃ w2, Hid (wb.setCell ⟨q, t, none⟩ (.int .u8 (vc : Int)) = w2) := ⟨_, rfl⟩
  rw [W2.out] at HUQ HR2
  -- the slot's string
  have HD2 := hid (HH.out.nxt HUQ.out.drew)
  obtain ⟨ty, TY⟩ : ∃ z, Hid (turn (r.R s) t c = z) := ⟨_, rfl⟩
  rw [TY.out] at HR2 HTL ⊢
  have HCV : Hid (∀ W, Row W q 0 ty → (convert 32 9 (.slice (some ⟨q, 0, none⟩) 96 gc)).run Try.prog W = .ok (.string (strOf ty)) W) := fun W hr => conv_row hr HTL.out
  have h3 := HD2.out.sets (s := s) (g := sg) HX.out.1 HX.out.2.1 ty HTL.out
  have hcv2 := HCV.out w2 HR2.out
  have hcv2' : (convert 32 9 (.slice (some ⟨q, 0, none⟩) 96 gc)).run Try.prog w2.drew = .ok (.string (strOf ty)) w2.drew := HCV.out w2.drew ⟨HR2.out.cells, HR2.out.small⟩
  have HR3 : Hid (∀ v, Row (w2.drew.setCell ⟨sg, s, none⟩ v) q 0 ty) := fun v => ⟨fun i hi => by
    rw [World.cell?_setCell_other _ _ _ _ (by first | (simp; done) | (simp; intro e; exact absurd e hqn))]
    exact HR2.out.cells i hi, HR2.out.small⟩
  have HU3 : Hid (Up r.foot w (w2.drew.setCell ⟨sg, s, none⟩ (.string (strOf ty)))) := (HUQ.out.nul.drew).put (.inr (.inl HX.out.2.2.1)) s _
  have y0 : w2.cell? ⟨r.m, 0, none⟩ = some (.slice (some ⟨sg, 0, none⟩) r.n r.sc) := (HUQ.out.cell (p := ⟨r.m, 0, none⟩) HH.out.lt id).trans c0
  have y1 : w2.cell? ⟨sg, s, none⟩ = some (.string s0) := (HUQ.out.cell (p := ⟨sg, s, none⟩) e2 id).trans x1
  have y2 : w2.frozen? ⟨sg, s, none⟩ = false := (HUQ.out.froz (p := ⟨sg, s, none⟩) e2 id).trans x2
  have hcv3 : ∀ v, (convert 32 9 (.slice (some ⟨q, 0, none⟩) 96 gc)).run Try.prog (w2.drew.setCell ⟨sg, s, none⟩ v).drew = .ok (.string (strOf ty)) (w2.drew.setCell ⟨sg, s, none⟩ v).drew := fun v => HCV.out _ ⟨(HR3.out v).cells, HR2.out.small⟩
  have H3 := hid h3
  have z2 := h3.c2
  obtain ⟨wl, WL⟩ : ∃ x, Hid (r.ws.length = x) := ⟨_, rfl⟩
  have HWL : Hid (wl ≤ 1000) := by show _ ≤ _; rw [← WL.out]; exact h.most
  dsimp only at z2
  rw [WL.out] at z2
  obtain ⟨m, M⟩ : ∃ m, Hid (r.m = m) := ⟨_, rfl⟩
  rw [M.out] at HL c0 c1 y0 z2 ⊢
  have i1 : ¬ (95 : Int) < (t : Int) := by omega
  have i2 : (s : Int) < (r.n : Int) := by omega
  have i3 : (t : Int) < 96 := by omega
  have i4 : IntKind.i64.wrap ((wl : Int) - 1) = (wl : Int) - 1 := IntWalk.i64_in _ (by have := HWL.out; omega)
  have i5 : wrap64 ((wl : Int) - 1) = (wl : Int) - 1 := by rw [← IntWalk.i64_left]; exact i4
  clear h hs hl e1 e2 e3 hlz hsz hrow hv hrow2 hqn h3 h8 ht hc
  generalize r.n = n at c0 y0 i2
  generalize r.sc = sc at c0 y0
  go_enter Try.func27, Try.ntmps27
  go_wp2_with ((go_at_call 54; (with_reducible refine HL.out.mono ?_); rintro e w1 ⟨rfl, rfl⟩))
  rw [W2.out]
  clear c0 c1 x1 x2 x3 hxo hfz hcv i1 i3 HL
  go_region
  have hcv4 := hcv3 (.string (strOf ty))
  obtain ⟨w3, W3⟩ : ∃ w3, w2.drew.setCell ⟨sg, s, none⟩ (.string (strOf ty)) = w3 := ⟨_, rfl⟩
  have W3' : (w2.setCell ⟨sg, s, none⟩ (.string (strOf ty))).drew = w3 := W3
  first | rw [W3] | rw [W3']
  rw [W3] at hcv4 HU3 H3 z2
  clear W3 W3'
  clear hcv3 HR3 hcv2 hcv2' y0 y1 y2 HR2 HUQ HD2 HCV HU1 HH
  go_wp2_with fail
  go_loopw [10] (fun i wr => ∃ j : Nat, j ≤ wl ∧ i = .int .i64 ((wl : Int) - 1 - (j : Int)) ∧ wr = w3 ∧ ∀ i (hi : i < r.ws.length), wl ≤ i + j → r.ws[i].slot ≠ s) (fun i _ => (intOf i + 1).toNat)
  case atStart => exact ⟨0, by omega, by simp, rfl, fun i hi h => absurd h (by have := WL.out; omega)⟩
  case round =>
    obtain ⟨j, hj, rfl, rfl, hnb⟩ := hrel
    have HNB := hid hnb
    clear hnb
    by_cases hlt : j < wl
    · obtain ⟨k, hk⟩ : ∃ k : Nat, k + 1 + j = wl := ⟨wl - 1 - j, by omega⟩
      rw [show (wl : Int) - 1 - (j : Int) = (k : Int) by omega]
      have hkl : k < r.ws.length := by have := WL.out; omega
      obtain ⟨wg, g1o, g2, g3, g4o, g5, g6o, g7⟩ := H3.out.wt (k := k) hkl
      have g1 : r.wa = some ⟨wg, 0, none⟩ := g1o
      rw [g1] at z2
      have g4 : wr.cell? ⟨wg, k * 3, none⟩ = some (.int .i64 ((r.ws[k].slot : Nat) : Int)) := g4o
      have g6 : wr.cell? ⟨wg, k * 3 + 2, none⟩ = some (.string (strOf r.ws[k].now)) := g6o
      clear g1o g4o g6o
      have g8 := g7 (k * 3 + 2)
      have k1 : (k : Int) < (wl : Int) := by omega
      have k0 : (0 : Int) ≤ (k : Int) := by omega
      by_cases hsl : r.ws[k].slot = s
      · rw [hsl] at g4
        have h4 := (H3.out.nxt (Up.refl Nul wr).drew).setw (k := k) (g := wg) hkl g1 ty HTL.out
        have HE : Hid (RTurned r s ty w1 (wr.drew.setCell ⟨wg, k * 3 + 2, none⟩ (.string (strOf ty)))) :=
          ⟨_, h4, .inl ⟨k, hkl, hsl, fun i hi h => HNB.out i hi (by omega), rfl⟩, (HU3.out.drew).put (.inr (.inr g3)) _ _⟩
        generalize strOf r.ws[k].now = old at g6
        clear h4 hsl g5 g7 g1 g2 g3 hk hkl HNB H3 hlt hj
        go_wp2_with fail
        go_region
        go_wp2
        go_ret
        exact ⟨rfl, HE.out⟩
      · have e1 : (((r.ws[k].slot : Nat) : Int) == (s : Int)) = false := by simp; omega
        have e2 : ¬ ((r.ws[k].slot : Nat) : Int) = (s : Int) := by omega
        have HN2 : Hid (j + 1 ≤ wl ∧ ∀ i (hi : i < r.ws.length), wl ≤ i + (j + 1) → r.ws[i].slot ≠ s) := ⟨by omega, fun i hi h => by
          by_cases e : i = k
          · subst e; exact hsl
          · exact HNB.out i hi (by omega)⟩
        have hj1 : IntKind.i64.wrap ((k : Int) - 1) = (wl : Int) - 1 - ((j + 1 : Nat) : Int) := by rw [IntWalk.i64_in _ (by have := HWL.out; omega)]; omega
        have hj3 : wrap64 ((k : Int) - 1) = (wl : Int) - 1 - ((j + 1 : Nat) : Int) := by rw [← IntWalk.i64_left]; exact hj1
        have HK : Hid (k + 1 + j = wl) := hk
        clear g1 g2 g3 g5 g6 g7 hk hsl hlt hj
        generalize r.ws[k].slot = sk at g4 e1 e2
        go_wp2
        clear hj1 hj3
        all_goals (try go_roundw)
        all_goals first
          | exact ⟨j + 1, HN2.out.1, by simp, rfl, HN2.out.2⟩
          | (simp only [intOf]; have := HK.out; omega)
          | exact ⟨j + 1, HN2.out.1, by simp, trivial, HN2.out.2⟩
          | exact ⟨⟨j + 1, HN2.out.1, by simp, rfl, HN2.out.2⟩, by simp only [intOf]; have := HK.out; omega⟩
    · have HE : Hid (RTurned r s ty w1 wr) :=
        ⟨r.ws, H3.out, .inr ⟨fun i hi => HNB.out i hi (by omega), rfl⟩, HU3.out⟩
      have i6 : ¬ (0 : Int) ≤ (wl : Int) - 1 - (j : Int) := by omega
      clear HNB H3
      go_wp2
      go_ret
      exact ⟨rfl, HE.out⟩
end Go.Proofs.Ytfmgbmpdifjliaa
