/- 'awake' of the laws of meta. -/
import Derived.Test.YtmhmlfgikmeejaaDoorMtAwake
namespace Go.Proofs.YtmhmlfgikmeejaaDoor
open Go.RowKit Go.Maps
set_option linter.unusedVariables false

theorem mono_lt {F : Nat → Prop} {w w' : World} (h : ∀ k, F k → k < w.heap.size) (u : w.heap.size ≤ w'.heap.size) : ∀ k, Gr F w w' k → k < w'.heap.size := fun k hk => by
  rcases hk with hk | ⟨_, hk⟩
  · exact Nat.lt_of_lt_of_le (h k hk) u
  · exact hk
theorem Shp.up {F : Nat → Prop} {w w' : World} (h : Shp w) (u : Up F w w') (h0 : ¬ F 0) : Shp w' := ⟨fun k j hk hj => (u.cell (p := ⟨0, k * 15 + j, none⟩) h.lt h0).trans (h.c k j hk hj)⟩
/-- A Meta that a law holds: of what the law found it has none. -/
structure MtL (w0 w : World) (p n : Nat) (M : MM) (bm bs : Nat) (Q : Int → Value) (F : Nat → Prop) : Prop where
  m : MT F w p bm bs n Q M
  lt : ∀ k, F k → k < w.heap.size
  ge : ∀ k, F k → w0.heap.size ≤ k
  up : Up Nul w0 w
theorem MtL.nxt {w0 w w' : World} {p n : Nat} {M : MM} {bm bs : Nat} {Q : Int → Value} {F : Nat → Prop} (h : MtL w0 w p n M bm bs Q F) (u : Up Nul w w') : MtL w0 w' p n M bm bs Q F :=
  ⟨h.m.nxt u, fun k hk => Nat.lt_of_lt_of_le (h.lt k hk) u.size, h.ge, h.up.trans u⟩
/-- A call's step. -/
theorem MtL.go {w0 w w' : World} {p n m : Nat} {M M' : MM} {bm bs : Nat} {Q Q' : Int → Value} {F : Nat → Prop} (h : MtL w0 w p n M bm bs Q F) (h' : MT (Gr F w w') w' p bm bs m Q' M') (u : Up F w w') : MtL w0 w' p m M' bm bs Q' (Gr F w w') :=
  ⟨h', mono_lt h.lt u.size, fun k hk => by
    rcases hk with hk | ⟨hk, _⟩
    · exact h.ge k hk
    · exact Nat.le_trans h.up.size hk, h.up.thn u fun j hj => .inr (h.ge j hj)⟩
theorem Shp.l {w0 w : World} {p n : Nat} {M : MM} {bm bs : Nat} {Q : Int → Value} {F : Nat → Prop} (hS : Shp w0) (h : MtL w0 w p n M bm bs Q F) : Shp w := hS.nxt h.up
/-- RPut and RDel by a law. -/
theorem step12_any {w0 w : World} {p n : Nat} {M : MM} {bm bs : Nat} {Q : Int → Value} {F : Nat → Prop} (hS : Shp w0) (h : MtL w0 w p n M bm bs Q F) (hI : M.Inv3) (r : Rc) (h12 : r.kind = 1 ∨ r.kind = 2) (sa la : Option Addr) (sc lc : Nat) (hr : RH w r sa la) (hk : r.key.size ≤ 100000) (hn : n ≤ 50000) :
    Calls Tryd.prog 7 #[.pointer (some ⟨p, 0, none⟩), rv r (.slice sa r.sids.length sc) (.slice la r.locs.length lc)] w fun e w' => e = .returned (.int .i64 (M.step r).1) ∧ (∃ Q' F', MtL w0 w' p (n + 6) (M.step r).2 bm bs Q' F' ∧ (∀ k, F' k → F k ∨ w.heap.size ≤ k)) ∧ Up F w w' := by
  refine (apply_12 h.m h.lt hI (hS.l h) r h12 sa la sc lc hr hk hn).mono ?_
  rintro e w' ⟨rfl, ⟨Q', h'⟩, u⟩
  exact ⟨rfl, ⟨Q', _, h.go h' u, fun k hk => by rcases hk with hk | ⟨hk, _⟩; exact .inl hk; exact .inr hk⟩, u⟩
/-- Three Locs in a block. -/
theorem rowL3 {W : World} {g : Nat} (h : W.heap[g]? = some (.cells #[.int .i64 0, .int .i64 0, .int .i64 1, .int .i64 0, .int .i64 0, .int .i64 2, .int .i64 0, .int .i64 0, .int .i64 3] 36 (0, 0))) : RowL W (some ⟨g, 0, none⟩) locs3 :=
  .inr ⟨g, 0, rfl, (Array.getElem?_eq_some_iff.1 h).1, fun i l hi j v hj => by
    have c : ∀ j, W.cell? ⟨g, j, none⟩ = #[Value.int .i64 0, .int .i64 0, .int .i64 1, .int .i64 0, .int .i64 0, .int .i64 2, .int .i64 0, .int .i64 0, .int .i64 3][j]? := fun j => by simp [World.cell?, h]
    have hi3 : i < 3 := by
      rcases Nat.lt_or_ge i 3 with h | h
      · exact h
      · rw [List.getElem?_eq_none (by exact h)] at hi; cases hi
    have hj3 : j < 3 := by
      rcases Nat.lt_or_ge j 3 with h | h
      · exact h
      · rw [List.getElem?_eq_none (by exact h)] at hj; cases hj
    rw [c]
    have e1 : i = 0 ∨ i = 1 ∨ i = 2 := by omega
    have e2 : j = 0 ∨ j = 1 ∨ j = 2 := by omega
    rcases e1 with rfl | rfl | rfl <;> cases hi <;> rcases e2 with rfl | rfl | rfl <;> cases hj <;> rfl⟩
set_option maxRecDepth 10000 in
set_option maxHeartbeats 4000000 in
theorem awake_any (w : World) (hS : Shp w) : Calls Tryd.prog 9 #[] w fun e w' => e = .returned (.bool true) ∧ Up Nul w w' := by
  have HS := hid hS
  clear hS
  go_enter Tryd.func9, Tryd.ntmps9
  go_wp2_with fail
  refine (new_any w).mono ?_
  rintro e w1 ⟨p, bm, bs, rfl, h1, u1⟩
  have H1 : Hid (MtL w w1 p 0 MM.new bm bs (fun _ => undef) (Fresh w w1)) := ⟨h1, fun k hk => hk.2, fun k hk => hk.1, u1⟩
  clear h1 u1
  go_wp2_with fail
  obtain ⟨w2, hw2⟩ : ∃ W, W = w1.alloc (.cells #[.int .i64 0, .int .i64 0, .int .i64 1, .int .i64 0, .int .i64 0, .int .i64 2, .int .i64 0, .int .i64 0, .int .i64 3] 36) := ⟨_, rfl⟩
  have u2 : Up Nul w1 w2 := by rw [hw2]; exact (Up.refl _ _).alloc _
  have b2 : w2.heap[w1.heap.size]? = some (.cells #[.int .i64 0, .int .i64 0, .int .i64 1, .int .i64 0, .int .i64 0, .int .i64 2, .int .i64 0, .int .i64 0, .int .i64 3] 36 (0, 0)) := by rw [hw2]; exact heap_alloc_new _ _
  have H2 := hid (H1.out.nxt u2)
  rw [← hw2]
  clear hw2
  have HGF : Hid (¬ Fresh w w1 w1.heap.size) := fun e => Nat.lt_irrefl _ e.2
  generalize w1.heap.size = g at b2 HGF ⊢
  have HG2 := hid b2
  have HGL : Hid (g < w2.heap.size) := (Array.getElem?_eq_some_iff.1 b2).1
  clear b2 u2
  refine (step12_any HS.out H2.out inv_new ra1 (.inl rfl) none (some ⟨g, 0, none⟩) 0 3 ⟨.inl rfl, rowL3 HG2.out, by decide, by decide⟩ (by decide) (by omega)).mono ?_
  rintro e w3 ⟨rfl, ⟨Q3, F3, h3, hF3⟩, u3⟩
  have HG3 : Hid (w3.heap[g]? = some (.cells #[.int .i64 0, .int .i64 0, .int .i64 1, .int .i64 0, .int .i64 0, .int .i64 2, .int .i64 0, .int .i64 0, .int .i64 3] 36 (0, 0))) := (u3.block g HGL.out HGF.out).trans HG2.out
  have HNF3 : Hid (¬ F3 g) := fun e => by
    rcases hF3 g e with e | e
    · exact HGF.out e
    · have := HGL.out; omega
  have HG3L : Hid (g < w3.heap.size) := Nat.lt_of_lt_of_le HGL.out u3.size
  have H3 : Hid (MtL w w3 p 6 ma1 bm bs Q3 F3) := h3
  have HI3 : Hid ma1.Inv3 := inv_12 inv_new ra1 (.inl rfl)
  rw [ma1_is.1]
  clear h3 hF3 u3
  go_wp2_with fail
  refine (step12_any HS.out H3.out HI3.out ra2 (.inl rfl) none (some ⟨g, 0, none⟩) 0 3 ⟨.inl rfl, rowL3 HG3.out, by decide, by decide⟩ (by decide) (by omega)).mono ?_
  rintro e w4 ⟨rfl, ⟨Q4, F4, h4, hF4⟩, u4⟩
  rw [ma1_two] at h4 ⊢
  have H4 := hid h4
  clear h4 hF4 u4
  go_wp2_with fail
  refine (step12_any HS.out H4.out HI3.out ra3 (.inr rfl) none none 0 0 ⟨.inl rfl, .inl rfl, by decide, by decide⟩ (by decide) (by omega)).mono ?_
  rintro e w5 ⟨rfl, ⟨Q5, F5, h5, hF5⟩, u5⟩
  rw [ma1_three] at h5 ⊢
  have H5 := hid h5
  clear h5 hF5 u5
  go_wp2_with fail
  have HB := hid (blob_any H5.out.m ⟨#[98]⟩ (by unfold maxLen; decide))
  rw [ma1_is.2.2, upd_same] at HB
  refine HB.out.mono ?_
  rintro e w6 ⟨rfl, u6⟩
  have H6 := hid (H5.out.nxt (u6.trans ((Up.refl _ _).alloc (.cells #[.int .i64 5, .int .i64 1, .int .i64 0] 47))))
  have b6 := heap_alloc_new w6 (.cells #[.int .i64 5, .int .i64 1, .int .i64 0] 47)
  clear HB u6
  go_wp2_with fail
  have HNX := hid (next_any H6.out.m (by rw [ma1_is.2.1]; omega))
  rw [ma1_is.2.1] at HNX
  clear b6
  refine HNX.out.mono ?_
  rintro e w7 ⟨rfl, rfl⟩
  have HKY := hid (keys_any H6.out.m (by omega))
  clear HNX
  go_wp2_with fail
  refine HKY.out.mono ?_
  rintro e w8 ⟨v, l, rfl, ho, hk, _, u8⟩
  have hl := ma1_keys hk
  obtain ⟨a, c, hv⟩ := OwnV.shape ho
  rw [List.length_map, hl] at hv
  subst hv
  have HU8 := hid (H6.out.up.trans u8)
  clear ho hk hl u8 HKY
  go_wp2
  go_ret
  exact ⟨rfl, HU8.out⟩
end Go.Proofs.YtmhmlfgikmeejaaDoor
