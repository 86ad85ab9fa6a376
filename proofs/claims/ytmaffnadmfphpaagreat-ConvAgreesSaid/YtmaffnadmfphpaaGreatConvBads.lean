/- What 'Split' and 'Peel' refuse; 'Split'. -/
import Derived.Test.YtmaffnadmfphpaaGreatConvPeel
import Derived.Test.YtmaffnadmfphpaaGreatConvMerge
namespace Go.Proofs.YtmaffnadmfphpaaGreat
open Go.RowKit
set_option linter.unusedVariables false

/-- Lines, told as shards, that lie in none of these blocks. -/
theorem Elim.llf {FS : List Nat} {W w : World} {F gl n m : Nat} {b : Nat → Nat} {L : Nat → List Nat} (h : Elim W F gl n m b L w) (hav : ∀ x, W.heap.size ≤ x → x ∉ FS) : LL FS w gl 0 n fun i => some (L i) :=
  ⟨fun i hi => by
    have hl := h.lens i hi
    have hb := h.rows i hi
    have := hb.row 0 m (by rw [hl]; omega)
    rw [List.drop_zero, List.take_of_length_le (by rw [hl]; exact Nat.le_refl _)] at this
    rw [Nat.zero_add]
    exact ⟨_, h.lin i hi, b i, 0, m, by rw [hl], this, hb.lt, hav _ (h.own i hi).1⟩, h.gll, hav _ h.glo⟩
theorem split_bad {w0 w : World} {FS : List Nat} (hs : LS w0 FS w) (f d : Value) (t : Int) (h : t < 0 ∨ 3 ≤ t) :
    Calls Tryz.prog 13 #[f, .int .i64 t, d] w fun e w' => e = .returned (.tuple #[.slice none 0 0, .int .i64 1]) ∧ Nxt FS w w' := by
  have H := hid (narrow_bad hs f t h)
  clear hs h
  go_enter Tryz.func13, Tryz.ntmps13
  go_wp2_with fail
  refine H.out.mono ?_
  rintro e w1 ⟨rfl, n⟩
  have HN := hid n
  clear n
  go_wp2
  go_ret2
  exact ⟨rfl, HN.out⟩
theorem splitL {w0 w : World} {FS : List Nat} {F g o cap L : Nat} {D : Nat → List Nat} (hs : LS w0 FS w) (hF : F ∈ FS) (t : Nat) (h : t < 3) (hD : LL FS w g o 4 fun i => some (D i)) (lD : ∀ i, i < 4 → (D i).length = L) (L64 : L ≤ 64) :
    Calls Tryz.prog 13 #[.pointer (some ⟨F, 0, none⟩), .int .i64 t, .slice (some ⟨g, o, none⟩) 4 cap] w
      fun e w' => ∃ gl, e = .returned (.tuple #[.slice (some ⟨gl, 0, none⟩) 2 2, .int .i64 0]) ∧ (∀ FS' : List Nat, (∀ x, w.heap.size ≤ x → x ∉ FS') → LL FS' w' gl 0 2 fun j => some (acrZ 4 L (narZ t) D j)) ∧ Nxt FS w w' := by
  have HS := hid (And.intro hs (And.intro hD lD))
  have H := hid (narrowL hs hF t h)
  obtain ⟨P, HP⟩ : ∃ P, Hid (P = fun j => some (acrZ 4 L (narZ t) D j)) := ⟨_, rfl⟩
  rw [← HP.out]
  clear hs hD lD
  go_enter Tryz.func13, Tryz.ntmps13
  go_wp2_with fail
  refine H.out.mono ?_
  rintro e w1 ⟨c, pp, pq, sp, sq, rfl, hc, n⟩
  have H1 := hid (And.intro hc n)
  clear hc n H
  go_wp2_with fail
  refine (encL (L := L) (HS.out.1.nxt H1.out.2) H1.out.1 (HS.out.2.1.nxt H1.out.2) HS.out.2.2 L64).mono ?_
  rintro e w2 ⟨gl, b, rfl, he, n2, u2⟩
  have H2 : Hid ((∀ FS' : List Nat, (∀ x, w.heap.size ≤ x → x ∉ FS') → LL FS' w2 gl 0 2 P) ∧ Nxt FS w w2) := ⟨fun FS' hav => by rw [HP.out]; exact he.llf fun x hx => hav x (Nat.le_trans H1.out.2.up.size hx), H1.out.2.trans n2⟩
  clear he n2 u2
  go_wp2
  go_ret2
  exact ⟨gl, rfl, H2.out⟩
theorem peel_nil (t : Int) (a b : Value) (w : World) :
    Calls Tryz.prog 14 #[.pointer none, .int .i64 t, a, b] w fun e w' => e = .returned (.tuple #[.slice none 0 0, .int .i64 1]) ∧ Up Nul w w' := by
  go_enter Tryz.func14, Tryz.ntmps14
  go_wp2
  go_ret2
  exact ⟨rfl, Up.refl _ _⟩
theorem peel_colour (F : Addr) (t : Int) (a b : Value) (w : World) (h : t < 0 ∨ 3 ≤ t) :
    Calls Tryz.prog 14 #[.pointer (some F), .int .i64 t, a, b] w fun e w' => e = .returned (.tuple #[.slice none 0 0, .int .i64 1]) ∧ Up Nul w w' := by
  have HNC := hid (noColour_any t w)
  rw [show decide (t < 0 ∨ 3 ≤ t) = true from decide_eq_true h] at HNC
  clear h
  go_enter Tryz.func14, Tryz.ntmps14
  go_wp2_with fail
  refine HNC.out.mono ?_
  rintro e w1 ⟨rfl, u1⟩
  have H1 := hid u1
  clear u1 HNC
  go_wp2
  go_ret2
  exact ⟨rfl, H1.out⟩
theorem peel_len (F : Addr) (a : Option Addr) (n c : Nat) (b : Value) (w : World) (h : n ≠ 4) :
    Calls Tryz.prog 14 #[.pointer (some F), .int .i64 0, .slice a n c, b] w fun e w' => e = .returned (.tuple #[.slice none 0 0, .int .i64 1]) ∧ Up Nul w w' := by
  have HNC := hid (noColour_any 0 w)
  rw [show decide ((0 : Int) < 0 ∨ 3 ≤ (0 : Int)) = false from rfl] at HNC
  have e2 : ((n : Int) == 4) = false := beq_eq_false_iff_ne.2 (by omega)
  have e3 : ((n : Int) != 4) = true := by rw [bne, e2]; rfl
  clear h
  go_enter Tryz.func14, Tryz.ntmps14
  go_wp2_with fail
  refine HNC.out.mono ?_
  rintro e w1 ⟨rfl, u1⟩
  have H1 := hid u1
  clear u1 HNC
  go_wp2
  go_ret2
  exact ⟨rfl, H1.out⟩
set_option maxRecDepth 100000 in
set_option maxHeartbeats 1600000 in
theorem peel0_bad (w : World) (F : Addr) (gw ow cw go co : Nat) (V : Nat → Value) (hlt : go < w.heap.size) (hV : ∀ s, s < 3 → s ≠ 0 → w.cell? ⟨go, s, none⟩ = some (V s)) (hV1 : ∀ s, (V s).oneCell' = true) (co3 : 3 ≤ co)
    (H : ∀ h c wc, (∀ i, i < 2 → wc.cell? ⟨h, i, none⟩ = some (V (oth 0 i))) → h < wc.heap.size → Up Nul w wc → Calls Tryz.prog 28 #[.slice (some ⟨h, 0, none⟩) 2 c, .slice (some ⟨gw, ow, none⟩) 4 cw] wc fun e w' => e = .returned (.bool false) ∧ Up Nul wc w') :
    Calls Tryz.prog 14 #[.pointer (some F), .int .i64 0, .slice (some ⟨gw, ow, none⟩) 4 cw, .slice (some ⟨go, 0, none⟩) 3 co] w fun e w' => e = .returned (.tuple #[.slice none 0 0, .int .i64 1]) ∧ Up Nul w w' := by
  have hnot : ∀ (x : Bool) (w : World), (Op.unary .not (.bool x)).run Tryz.prog w = .ok (.bool (!x)) w := fun _ _ => rfl
  have HNC := hid (noColour_any 0 w)
  rw [show decide ((0 : Int) < 0 ∨ 3 ≤ (0 : Int)) = false from rfl] at HNC
  have HS := hid (And.intro (And.intro hlt hV) (And.intro hV1 H))
  have HT3 : Hid (0 < 3) := by show 0 < 3; omega
  have i2 : ¬ co = 1 := by omega
  clear hlt hV hV1 H
  go_enter Tryz.func14, Tryz.ntmps14
  go_wp2_with fail
  refine HNC.out.mono ?_
  rintro e w1 ⟨rfl, u1⟩
  have HU1 := hid u1
  clear HNC u1
  go_upto_region 3 with fail
  go_cut [10] (fun s10 wx => ∃ h c, s10 = .slice (some ⟨h, 0, none⟩) 2 c ∧ (∀ i, i < 2 → wx.cell? ⟨h, i, none⟩ = some (V (oth 0 i))) ∧ h < wx.heap.size ∧ Up Nul w wx)
  case first =>
    as_aux_lemma =>
    go_wp2_with fail
    go_region_with ((go_at_call 36; (refine (others_any (V := V) (t := 0) HT3.out HS.out.1.1 HS.out.1.2 HS.out.2.1 (by repeat (first | exact HU1.out | refine Up.alloc ?_ _ | refine Up.drew ?_)) rfl (fun h => by first | rfl | omega) (World.cell?_alloc_new _ _ _ 0) (World.cell?_alloc_new _ _ _ 1)).mono ?_); rintro e w2 ⟨h, c, rfl, hc, hl, u2⟩; have H2 := hid (And.intro hc (And.intro hl u2)); clear hc hl u2))
    all_goals
      go_wp2_with fail
      go_meet
      case rel => exact ⟨h, c, rfl, H2.out.1, H2.out.2.1, (by repeat (first | exact HU1.out | refine Up.alloc ?_ _ | refine Up.drew ?_) : Up Nul w _).trans H2.out.2.2⟩
  case rest =>
    as_aux_lemma =>
    obtain ⟨h, c, rfl, hc, hl, hu⟩ := hcut
    have HC := hid (HS.out.2.2 h c wc hc hl hu)
    have HU := hid hu
    clear hc hl hu HU1
    go_wp2_with fail
    refine HC.out.mono ?_
    rintro e w3 ⟨rfl, u3⟩
    have H3 := hid (HU.out.trans u3)
    clear u3 HC
    go_wp2
    go_ret2
    exact ⟨rfl, H3.out⟩
end Go.Proofs.YtmaffnadmfphpaaGreat
