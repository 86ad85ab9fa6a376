/- What the law ConvFour makes of a wide stripe's data. -/
import Derived.Test.YtmaffnadmfphpaaGreatConvWide
import Derived.WalkSmall
namespace Go.Proofs.YtmaffnadmfphpaaGreat
open Go.RowKit
set_option linter.unusedVariables false

/-- The values of a row of k. -/
def wrV (k : Nat) (q c : Nat → Nat) : List Value := (List.range k).map fun i => Value.slice (some ⟨q i, 0, none⟩) 16 (c i)
theorem wrV_length (k : Nat) (q c : Nat → Nat) : (wrV k q c).length = k := by simp [wrV]
theorem wrV_at {k i : Nat} {q c : Nat → Nat} (h : i < k) : (wrV k q c)[i]? = some (.slice (some ⟨q i, 0, none⟩) 16 (c i)) := by simp [wrV, h]
theorem wrV_next (k a b : Nat) (q c : Nat → Nat) : wrV (k + 1) (fun i => if i = k then a else q i) (fun i => if i = k then b else c i) = wrV k q c ++ [.slice (some ⟨a, 0, none⟩) 16 b] := by
  unfold wrV
  rw [List.range_succ, List.map_append]
  congr 1
  · exact List.map_congr_left fun t ht => by
      have := List.mem_range.1 ht
      simp only [if_neg (show ¬ t = k by omega)]
  · simp
/-- The row of data, k of it made. -/
structure Wrq (W : World) (k : Nat) (v : Value) (q c : Nat → Nat) (R : Nat → List Nat) (wr : World) : Prop where
  own : OwnV 22 W.heap.size wr v (wrV k q c)
  at_ : ∀ i, i < k → W.heap.size ≤ q i ∧ Row wr (q i) 0 (R i) ∧ Typ 5 wr (q i)
  up : Up Nul W wr
/-- One row more. -/
theorem Wrq.next {W wr W1 w2 : World} {k a b : Nat} {v v2 : Value} {q c : Nat → Nat} {R : Nat → List Nat} {o : Obj} (h : Wrq W k v q c R wr) (u : Up Nul wr W1) (ha : wr.heap.size ≤ a) (hr : Row W1 a 0 (R k)) (ht : Typ 5 W1 a)
    (G1 : OwnV 22 W.heap.size w2 v2 (wrV k q c ++ [.slice (some ⟨a, 0, none⟩) 16 b])) (G2 : (W1.alloc o).grownBy w2 v.ownBlock) : Wrq W (k + 1) v2 (fun i => if i = k then a else q i) (fun i => if i = k then b else c i) R w2 := by
  have ho := OwnV.alloc (OwnV.apart (S := Nul) h.own u (fun _ _ => id)) o
  have hne : ∀ x, Typ 5 (W1.alloc o) x → ¬ some x = v.ownBlock := fun x hx e => (ho.typ e.symm).ne hx (by decide) rfl
  have hu := Up.ofg G2
  have hal := (Up.refl Nul W1).alloc o
  refine ⟨by rw [wrV_next]; exact G1, fun i hi => ?_, ((h.up.trans u).alloc _).grown G2 fun x hx => h.own.base x hx⟩
  by_cases e : i = k
  · subst e
    simp only [if_true]
    have ht2 := ht.up hal id
    exact ⟨Nat.le_trans h.up.size ha, (hr.up hal ht.lt id).up hu ht2.lt (hne _ ht2), ht2.up hu (hne _ ht2)⟩
  · simp only [if_neg e]
    obtain ⟨h1, h2, h3⟩ := h.at_ i (by omega)
    have u1 := u.trans hal
    have ht2 := h3.up u1 id
    exact ⟨h1, (h2.up u1 h3.lt id).up hu ht2.lt (hne _ ht2), ht2.up hu (hne _ ht2)⟩
/-- The data, with two rows of noughts behind them. -/
theorem Wrq.more {w0 W wr W1 w2 : World} {FS : List Nat} {qa qb : Nat} {v v2 : Value} {q c : Nat → Nat} {R : Nat → List Nat} (hs : LS w0 FS W) (h : Wrq W 12 v q c R wr) (u : Up Nul wr W1) (lR : ∀ i, i < 12 → (R i).length = 16) (hA : Blk W1 qa (zer 16)) (hB : Blk W1 qb (zer 16)) (ha : W.heap.size ≤ qa) (hb : W.heap.size ≤ qb)
    (G1 : OwnV 22 W.heap.size w2 v2 (wrV 12 q c ++ [.slice (some ⟨qa, 0, none⟩) 16 16, .slice (some ⟨qb, 0, none⟩) 16 16])) (G2 : W1.grownBy w2 v.ownBlock) :
    (∃ g cg, v2 = .slice (some ⟨g, 0, none⟩) 14 cg ∧ LL FS w2 g 0 14 fun i => some (if i < 12 then R i else zer 16)) ∧ Up Nul W w2 := by
  have ho := OwnV.apart (S := Nul) h.own u (fun _ _ => id)
  have hne : ∀ x, Typ 5 W1 x → ¬ some x = v.ownBlock := fun x hx e => (ho.typ e.symm).ne hx (by decide) rfl
  have hu := Up.ofg G2
  have hlen : (wrV 12 q c ++ [Value.slice (some ⟨qa, 0, none⟩) 16 16, .slice (some ⟨qb, 0, none⟩) 16 16]).length = 14 := by rw [List.length_append, wrV_length]; rfl
  obtain ⟨g, cg, rfl, gb, gl, gc, _, _⟩ := G1.row (by rw [hlen]; omega)
  rw [hlen]
  have zrow : ∀ x, W.heap.size ≤ x → Blk W1 x (zer 16) → LR FS w2 x 0 (zer 16) := fun x hx hb => by
    have h1 := hb.up hu (hne x ⟨_, _, hb.heap⟩)
    have := h1.row 0 16 (by rw [zer_length]; omega)
    rw [List.drop_zero, List.take_of_length_le (by rw [zer_length]; exact Nat.le_refl _)] at this
    exact ⟨this, h1.lt, hs.lt hx⟩
  refine ⟨⟨g, cg, rfl, fun i hi => ?_, gl, hs.lt gb⟩, (h.up.trans u).grown G2 fun x hx => h.own.base x hx⟩
  rw [Nat.zero_add]
  by_cases e : i < 12
  · obtain ⟨h1, h2, h3⟩ := h.at_ i e
    have ht := h3.up u id
    rw [if_pos e]
    exact ⟨_, gc i _ (by rw [List.getElem?_append_left (by rw [wrV_length]; exact e)]; exact wrV_at e), q i, 0, c i, by rw [lR i e], (h2.up u h3.lt id).up hu ht.lt (hne _ ht), (ht.up hu (hne _ ht)).lt, hs.lt h1⟩
  · rw [if_neg e]
    rcases Nat.eq_or_lt_of_le (show 12 ≤ i by omega) with e2 | e2
    · subst e2
      exact ⟨_, gc 12 _ (by rw [List.getElem?_append_right (by rw [wrV_length]; omega), wrV_length]; rfl), qa, 0, 16, by rw [zer_length], zrow qa ha hA⟩
    · obtain rfl : i = 13 := by omega
      exact ⟨_, gc 13 _ (by rw [List.getElem?_append_right (by rw [wrV_length]; omega), wrV_length]; rfl), qb, 0, 16, by rw [zer_length], zrow qb hb hB⟩
theorem alloc_two3 (W : World) (o1 o2 : Obj) (x y : Value) (T : TypeId) : ∀ j u, [x, y][j]? = some u → (((W.alloc o1).alloc o2).alloc (.cells #[x, y] T)).cell? (Addr.add ⟨W.heap.size + 1 + 1, 0, none⟩ j) = some u := fun j u hj => by
  have e : ((W.alloc o1).alloc o2).heap.size = W.heap.size + 1 + 1 := by simp
  rw [← e]
  exact alloc_two _ _ _ _ j u hj
theorem alloc_two3d (W : World) (o1 o2 : Obj) (x y : Value) (T : TypeId) : ∀ j u, [x, y][j]? = some u → ((((W.alloc o1).alloc o2).alloc (.cells #[x, y] T)).drew).cell? (Addr.add ⟨W.heap.size + 1 + 1, 0, none⟩ j) = some u := alloc_two3 W o1 o2 x y T
theorem four_long (a b : Option Addr) (n cap m capb : Nat) (w : World) (h : 400 < n) :
    Calls Tryz.prog 4 #[.slice a n cap, .slice b m capb] w fun e w' => e = .returned (.bool true) ∧ Below w.heap.size w w' := by
  go_enter Tryz.func4, Tryz.ntmps4
  go_wp2_with ((go_at_call 7; (with_reducible refine (cawakeL (LS.start w)).mono ?_); rintro e w1 ⟨rfl, k1⟩; have K := hid ((LS.start w).nxt k1); clear k1))
  go_ret
  exact ⟨rfl, K.out.below⟩
end Go.Proofs.YtmaffnadmfphpaaGreat
