/- The document's codes of stripes; stripes, told by their blocks' types. -/
import Derived.Test.YtmaffnadmfphpaaGreatConvAwake
import Derived.Test.YtmaffnadmfphpaaGreatCX
import Derived.Lib.ConvBytes
namespace Go.Proofs.YtmaffnadmfphpaaGreat
open Go.RowKit
set_option linter.unusedVariables false

theorem cell_of2n {w : World} {M : Nat} {x y : Value} {t : TypeId} (h : w.heap[M]? = some (.cells #[x, y] t (0, 0))) : w.cell? ⟨M, 0, none⟩ = some x ∧ w.cell? ⟨M, 1, none⟩ = some y ∧ ∀ j, w.frozen? ⟨M, j, none⟩ = false := by
  refine ⟨by simp only [World.cell?, h]; rfl, by simp only [World.cell?, h]; rfl, fun j => by simp [World.frozen?, h]⟩
theorem OwnB.shape2n {base : Nat} {w : World} {v : Value} {z : List Nat} (h : OwnB base w v z) : ∃ a n cap, v = .slice a n cap := by
  rcases h.own.2 with ⟨e, _⟩ | ⟨g, cap, cur, e, _⟩
  · exact ⟨_, _, _, e⟩
  · exact ⟨_, _, _, e⟩
theorem info_c2n : (Tryz.prog.info? 79).map (·.size) = some 2 := by kernel_rfl
theorem heap2n {w : World} {P : Nat} {x0 x1 : Value} {t : TypeId} (h : w.heap[P]? = some (.cells #[x0, x1] t (0, 0))) (y0 y1 : Value) :
    ((w.setCell ⟨P, 0, none⟩ y0).setCell ⟨P, 1, none⟩ y1).heap[P]? = some (.cells #[y0, y1] t (0, 0)) := heap_set_same (heap_set_same h 0 y0) 1 y1
theorem ris_next (a k : Nat) : ris a (k + 1) = ris a k ++ [a + k] := tab_next _ _
set_option maxRecDepth 100000 in
theorem refBytes_any (lo n : Nat) (w : World) (h : lo + n ≤ 200) :
    Calls Tryz.prog 46 #[.int .i64 lo, .int .i64 n] w fun e w' => ∃ v, e = .returned v ∧ OwnB w.heap.size w' v (ris lo n) ∧ Up Nul w w' := by
  go_enter Tryz.func46, Tryz.ntmps46
  go_wp2_with fail
  go_loopw [5, 6] (fun v i wr => ∃ k : Nat, k ≤ n ∧ i = .int .i64 k ∧ OwnB w.heap.size wr v (ris lo k) ∧ Up Nul w wr) (fun _ i _ => n - (intOf i).toNat)
  case atStart => exact ⟨0, by omega, rfl, OwnB.nil _ _, Up.refl _ _⟩
  case round =>
    obtain ⟨k, hk, rfl, ho, hu⟩ := hrel
    have HO := hid (And.intro ho hu)
    clear ho hu
    by_cases hlt : k < n
    · have b8 : lo + k < 256 := by omega
      go_wp2_with (first
        | (at_builtin; refine wpList_append_byte rfl (.tmp 12) (.tmp 17) rfl w.heap.size u5 (ris lo k) rfl (HO.out.1.alloc _) ⟨wr.heap.size, 0, none⟩ 1 (lo + k) rfl (by rw [Int.natCast_add]; exact World.cell?_alloc_new wr _ _ 0) b8 (by rw [ris_length]; omega) (by have := HO.out.2.size; simp; omega) ?_; intro v2 w2 H1 H2)
        | go_in)
      go_roundw
      case rel => exact ⟨k + 1, by omega, by go_num, by rw [ris_next]; exact H1.out, (HO.out.2.alloc _).grown H2.out fun x hx => HO.out.1.base x hx⟩
      case measure => simp [intOf]; omega
    · obtain rfl : n = k := by omega
      obtain ⟨va, vn, vc, rfl⟩ := HO.out.1.shape2n
      go_wp2
      go_ret
      exact ⟨_, rfl, HO.out⟩
theorem refBytesL {w0 w : World} {FS : List Nat} (hs : LS w0 FS w) (lo n : Nat) (n1 : 1 ≤ n) (h : lo + n ≤ 200) :
    Calls Tryz.prog 46 #[.int .i64 lo, .int .i64 n] w fun e w' => ∃ g c, e = .returned (.slice (some ⟨g, 0, none⟩) n c) ∧ LR FS w' g 0 (ris lo n) ∧ Up Nul w w' := by
  refine (refBytes_any lo n w h).mono ?_
  rintro e w' ⟨v, rfl, ho, u⟩
  obtain ⟨gx, cx, rfl, x1, x2, x3, _, _⟩ := ho.row (by rw [ris_length]; omega)
  rw [ris_length]
  exact ⟨gx, cx, rfl, ⟨x3, x2, hs.lt x1⟩, u⟩
set_option maxRecDepth 100000 in
theorem refNarrowL {w0 w : World} {FS : List Nat} (hs : LS w0 FS w) (t : Nat) (h : t < 3) :
    Calls Tryz.prog 26 #[.int .i64 t] w fun e w' => ∃ gx cx gy cy, e = .returned (.agg #[.slice (some ⟨gx, 0, none⟩) 4 cx, .slice (some ⟨gy, 0, none⟩) 2 cy]) ∧ LR FS w' gx 0 (ris (4 * t) 4) ∧ LR FS w' gy 0 (ris 14 2) ∧ Up Nul w w' := by
  have HS := hid hs
  have HU := hid ((Up.refl Nul w).alloc (.cells #[.slice none 0 0, .slice none 0 0] 79))
  have HP : Hid ((w.alloc (.cells #[.slice none 0 0, .slice none 0 0] 79)).heap[w.heap.size]? = some (.cells #[.slice none 0 0, .slice none 0 0] 79 (0, 0))) := heap_alloc_new _ _
  have e4 : wrap64 (4 * (t : Int)) = ((4 * t : Nat) : Int) := by unfold wrap64; omega
  obtain ⟨a, ha⟩ : ∃ a, Hid (4 * t = a) := ⟨_, rfl⟩
  have h14 : a + 4 ≤ 14 := by have := ha.out; omega
  rw [ha.out] at e4 ⊢
  clear hs h ha
  go_enter Tryz.func26, Tryz.ntmps26
  go_wp2_with fail
  generalize w.alloc (.cells #[.slice none 0 0, .slice none 0 0] 79) = wa at *
  obtain ⟨P, PP⟩ : ∃ P, P = w.heap.size := ⟨_, rfl⟩
  rw [← PP] at HP ⊢
  have HPE : Hid (w.heap.size ≤ P ∧ P < wa.heap.size) := ⟨by omega, (Array.getElem?_eq_some_iff.1 HP.out).1⟩
  clear PP
  have H0 := hid (HS.out.nul HU.out)
  refine (refBytesL (HS.out.nxt H0.out) a 4 (by omega) (by omega)).mono ?_
  rintro e w2 ⟨g2, c2, rfl, r2, u2⟩
  have n2 := (HS.out.nxt H0.out).nul u2
  have H2 := hid (And.intro (HU.out.trans u2) (And.intro r2 ((u2.block P HPE.out.2 id).trans HP.out)))
  clear u2 r2 n2
  go_wp2_with fail
  refine (refBytesL (HS.out.nxt (HS.out.nul H2.out.1)) 14 2 (by omega) (by omega)).mono ?_
  rintro e w3 ⟨g3, c3, rfl, r3, u3⟩
  have H3 := hid (And.intro (H2.out.1.trans u3) (And.intro (H2.out.2.1.nxt ((HS.out.nxt (HS.out.nul H2.out.1)).nul u3)) (And.intro r3 ((u3.block P (Array.getElem?_eq_some_iff.1 H2.out.2.2).1 id).trans H2.out.2.2))))
  clear u3 r3 H2 HP HU H0
  have a0 := (cell_of2n H3.out.2.2.2).1
  have a1 := (cell_of2n H3.out.2.2.2).2.1
  have a3 := (cell_of2n H3.out.2.2.2).2.2
  go_wp2
  refine bodyPost_ret (results_cell_row (P := Tryz.prog) (ty := 79) rfl _ _ P _ _ _ _ rfl (heap2n H3.out.2.2.2 _ _) Tryz.underlying79 rfl info_c2n) rfl ?_
  have hu : Up Nul w ((w3.setCell ⟨P, 0, none⟩ (.slice (some ⟨g2, 0, none⟩) 4 c2)).setCell ⟨P, 1, none⟩ (.slice (some ⟨g3, 0, none⟩) 2 c3)) := (H3.out.1.setCell (p := ⟨P, 0, none⟩) (.inl HPE.out.1) _).setCell (p := ⟨P, 1, none⟩) (.inl HPE.out.1) _
  have ne2 : g2 ≠ P := fun e => by
    subst e
    have := H3.out.2.1.row.cells 0 (by rw [ris_length]; omega)
    rw [Nat.zero_add, a0] at this
    cases this
  have ne3 : g3 ≠ P := fun e => by
    subst e
    have := H3.out.2.2.1.row.cells 0 (by rw [ris_length]; omega)
    rw [Nat.zero_add, a0] at this
    cases this
  have hu3 : Up (One P) w3 ((w3.setCell ⟨P, 0, none⟩ (.slice (some ⟨g2, 0, none⟩) 4 c2)).setCell ⟨P, 1, none⟩ (.slice (some ⟨g3, 0, none⟩) 2 c3)) := ((Up.refl _ w3).setCell (p := ⟨P, 0, none⟩) (.inr (show One P P from rfl)) _).setCell (p := ⟨P, 1, none⟩) (.inr (show One P P from rfl)) _
  exact ⟨_, _, _, _, rfl, ⟨H3.out.2.1.row.up hu3 H3.out.2.1.lt ne2, Nat.lt_of_lt_of_le H3.out.2.1.lt hu3.size, H3.out.2.1.b⟩, ⟨H3.out.2.2.1.row.up hu3 H3.out.2.2.1.lt ne3, Nat.lt_of_lt_of_le H3.out.2.2.1.lt hu3.size, H3.out.2.2.1.b⟩, hu⟩

/-! ### Rows of rows -/
/-- The type of what lies in a block. -/
def Typ (T : TypeId) (w : World) (q : Nat) : Prop := ∃ cs fr, w.heap[q]? = some (.cells cs T fr)
theorem Typ.lt {T : TypeId} {w : World} {q : Nat} (h : Typ T w q) : q < w.heap.size := by
  obtain ⟨_, _, h⟩ := h
  exact (Array.getElem?_eq_some_iff.1 h).1
theorem Typ.up {S : Nat → Prop} {T : TypeId} {w w' : World} {q : Nat} (h : Typ T w q) (u : Up S w w') (hs : ¬ S q) : Typ T w' q := by
  have := h.lt
  obtain ⟨cs, fr, h⟩ := h
  exact ⟨cs, fr, (u.block q this hs).trans h⟩
theorem OwnV.typ {T : TypeId} {base : Nat} {w : World} {v : Value} {xs : List Value} {q : Nat} (h : OwnV T base w v xs) (e : v.ownBlock = some q) : Typ T w q := by
  rcases h.2 with ⟨e2, _⟩ | ⟨g, cap, cur, e2, _, h3, _⟩
  · subst e2; cases e
  · subst e2
    have : g = q := by simpa [Value.ownBlock] using e
    subst this
    exact ⟨_, _, h3⟩
theorem Typ.ne {T T' : TypeId} {w : World} {p q : Nat} (h : Typ T w p) (h' : Typ T' w q) (hT : T ≠ T') : p ≠ q := fun e => by
  subst e
  obtain ⟨_, _, h⟩ := h
  obtain ⟨_, _, h'⟩ := h'
  rw [h] at h'
  cases h'
  exact hT rfl
/-- n shards that are there, in block g, their blocks' types known. -/
structure TL (FS : List Nat) (w : World) (g n : Nat) (R : Nat → List Nat) : Prop where
  ty : Typ 22 w g
  gb : g ∉ FS
  at_ : ∀ i, i < n → ∃ b o cap, w.cell? ⟨g, i, none⟩ = some (.slice (some ⟨b, o, none⟩) (R i).length cap) ∧ Row w b o (R i) ∧ Typ 5 w b ∧ b ∉ FS
theorem TL.up {S : Nat → Prop} {FS : List Nat} {w w' : World} {g n : Nat} {R : Nat → List Nat} (h : TL FS w g n R) (u : Up S w w') (h1 : ∀ q, Typ 22 w q → ¬ S q) (h2 : ∀ q, Typ 5 w q → ¬ S q) : TL FS w' g n R :=
  ⟨h.ty.up u (h1 g h.ty), h.gb, fun i hi => by
    obtain ⟨b, o, cap, hc, hr, ht, hb⟩ := h.at_ i hi
    exact ⟨b, o, cap, (u.cell (p := ⟨g, i, none⟩) h.ty.lt (h1 g h.ty)).trans hc, hr.up u ht.lt (h2 b ht), ht.up u (h2 b ht), hb⟩⟩
theorem TL.nul {FS : List Nat} {w w' : World} {g n : Nat} {R : Nat → List Nat} (h : TL FS w g n R) (u : Up Nul w w') : TL FS w' g n R := h.up u (fun _ _ => id) fun _ _ => id
theorem TL.grown {FS : List Nat} {base : Nat} {w w' : World} {g n : Nat} {R : Nat → List Nat} {v : Value} {xs : List Value} (h : TL FS w g n R) (u : Hid (w.grownBy w' v.ownBlock)) (hv : OwnV 30 base w v xs) : TL FS w' g n R :=
  h.up (Up.ofg u.out) (fun q hq e => (hv.typ e.symm).ne hq (by decide) rfl) fun q hq e => (hv.typ e.symm).ne hq (by decide) rfl
theorem TL.ll {FS : List Nat} {w : World} {g n : Nat} {R : Nat → List Nat} (h : TL FS w g n R) : LL FS w g 0 n fun i => some (R i) :=
  ⟨fun i hi => by
    obtain ⟨b, o, cap, hc, hr, ht, hb⟩ := h.at_ i hi
    rw [Nat.zero_add]
    exact ⟨_, hc, b, o, cap, rfl, hr, ht.lt, hb⟩, h.ty.lt, h.gb⟩
end Go.Proofs.YtmaffnadmfphpaaGreat
