/- What the law ConvAgrees makes of its stripes. -/
import Derived.Test.YtmaffnadmfphpaaGreatConvFourParts
import Derived.Test.YtmaffnadmfphpaaGreatConvBads
namespace Go.Proofs.YtmaffnadmfphpaaGreat
open Go.RowKit
set_option linter.unusedVariables false

/-- The values of a row of k. -/
def wrVL (L k : Nat) (q c : Nat → Nat) : List Value := (List.range k).map fun i => Value.slice (some ⟨q i, 0, none⟩) L (c i)
theorem wrVL_length (L k : Nat) (q c : Nat → Nat) : (wrVL L k q c).length = k := by simp [wrVL]
theorem wrVL_at {L k i : Nat} {q c : Nat → Nat} (h : i < k) : (wrVL L k q c)[i]? = some (.slice (some ⟨q i, 0, none⟩) L (c i)) := by simp [wrVL, h]
theorem wrVL_next (L k a b : Nat) (q c : Nat → Nat) : wrVL L (k + 1) (fun i => if i = k then a else q i) (fun i => if i = k then b else c i) = wrVL L k q c ++ [.slice (some ⟨a, 0, none⟩) L b] := by
  unfold wrVL
  rw [List.range_succ, List.map_append]
  congr 1
  · exact List.map_congr_left fun t ht => by
      have := List.mem_range.1 ht
      simp only [if_neg (show ¬ t = k by omega)]
  · simp
/-- The row of data, k of it made. -/
structure WrL (L : Nat) (W : World) (k : Nat) (v : Value) (q c : Nat → Nat) (R : Nat → List Nat) (wr : World) : Prop where
  own : OwnV 22 W.heap.size wr v (wrVL L k q c)
  at_ : ∀ i, i < k → W.heap.size ≤ q i ∧ Row wr (q i) 0 (R i) ∧ Typ 5 wr (q i)
  up : Up Nul W wr
/-- One row more. -/
theorem WrL.next {W wr W1 w2 : World} {L k a b : Nat} {v v2 : Value} {q c : Nat → Nat} {R : Nat → List Nat} {o : Obj} (h : WrL L W k v q c R wr) (u : Up Nul wr W1) (ha : wr.heap.size ≤ a) (hr : Row W1 a 0 (R k)) (ht : Typ 5 W1 a)
    (G1 : OwnV 22 W.heap.size w2 v2 (wrVL L k q c ++ [.slice (some ⟨a, 0, none⟩) L b])) (G2 : (W1.alloc o).grownBy w2 v.ownBlock) : WrL L W (k + 1) v2 (fun i => if i = k then a else q i) (fun i => if i = k then b else c i) R w2 := by
  have ho := OwnV.alloc (OwnV.apart (S := Nul) h.own u (fun _ _ => id)) o
  have hne : ∀ x, Typ 5 (W1.alloc o) x → ¬ some x = v.ownBlock := fun x hx e => (ho.typ e.symm).ne hx (by decide) rfl
  have hu := Up.ofg G2
  have hal := (Up.refl Nul W1).alloc o
  refine ⟨by rw [wrVL_next]; exact G1, fun i hi => ?_, ((h.up.trans u).alloc _).grown G2 fun x hx => h.own.base x hx⟩
  by_cases e : i = k
  · subst e
    simp only [if_true]
    have ht2 := ht.up hal id
    exact ⟨Nat.le_trans h.up.size ha, (hr.up hal ht.lt id).up hu ht2.lt (hne _ ht2), ht2.up hu (hne _ ht2)⟩
  · simp only [if_neg e]
    obtain ⟨h1, h2, h3⟩ := h.at_ i (by omega)
    have u1 := u.trans hal
    have ht2 := h3.up u1 id
    exact ⟨h1, (h2.up u1 h3.lt id).up hu ht2.lt (hne _ ht2), ht2.up hu (hne _ ht2)⟩
/-- The data, with two rows of noughts behind them. -/
theorem WrL.more {W wr W1 w2 : World} {FS : List Nat} {L qa qb : Nat} {v v2 : Value} {q c : Nat → Nat} {R : Nat → List Nat} (hav : ∀ x, W.heap.size ≤ x → x ∉ FS) (h : WrL L W 12 v q c R wr) (u : Up Nul wr W1) (lR : ∀ i, i < 12 → (R i).length = L) (hA : Blk W1 qa (zer L)) (hB : Blk W1 qb (zer L)) (ha : W.heap.size ≤ qa) (hb : W.heap.size ≤ qb)
    (G1 : OwnV 22 W.heap.size w2 v2 (wrVL L 12 q c ++ [.slice (some ⟨qa, 0, none⟩) L L, .slice (some ⟨qb, 0, none⟩) L L])) (G2 : W1.grownBy w2 v.ownBlock) :
    (∃ g cg, v2 = .slice (some ⟨g, 0, none⟩) 14 cg ∧ LL FS w2 g 0 14 fun i => some (if i < 12 then R i else zer L)) ∧ Up Nul W w2 := by
  have ho := OwnV.apart (S := Nul) h.own u (fun _ _ => id)
  have hne : ∀ x, Typ 5 W1 x → ¬ some x = v.ownBlock := fun x hx e => (ho.typ e.symm).ne hx (by decide) rfl
  have hu := Up.ofg G2
  have hlen : (wrVL L 12 q c ++ [Value.slice (some ⟨qa, 0, none⟩) L L, .slice (some ⟨qb, 0, none⟩) L L]).length = 14 := by rw [List.length_append, wrVL_length]; rfl
  obtain ⟨g, cg, rfl, gb, gl, gc, _, _⟩ := G1.row (by rw [hlen]; omega)
  rw [hlen]
  have zrow : ∀ x, W.heap.size ≤ x → Blk W1 x (zer L) → LR FS w2 x 0 (zer L) := fun x hx hb => by
    have h1 := hb.up hu (hne x ⟨_, _, hb.heap⟩)
    have := h1.row 0 L (by rw [zer_length]; omega)
    rw [List.drop_zero, List.take_of_length_le (by rw [zer_length]; exact Nat.le_refl _)] at this
    exact ⟨this, h1.lt, hav _ hx⟩
  refine ⟨⟨g, cg, rfl, fun i hi => ?_, gl, hav _ gb⟩, (h.up.trans u).grown G2 fun x hx => h.own.base x hx⟩
  rw [Nat.zero_add]
  by_cases e : i < 12
  · obtain ⟨h1, h2, h3⟩ := h.at_ i e
    have ht := h3.up u id
    rw [if_pos e]
    exact ⟨_, gc i _ (by rw [List.getElem?_append_left (by rw [wrVL_length]; exact e)]; exact wrVL_at e), q i, 0, c i, by rw [lR i e], (h2.up u h3.lt id).up hu ht.lt (hne _ ht), (ht.up hu (hne _ ht)).lt, hav _ h1⟩
  · rw [if_neg e]
    rcases Nat.eq_or_lt_of_le (show 12 ≤ i by omega) with e2 | e2
    · subst e2
      exact ⟨_, gc 12 _ (by rw [List.getElem?_append_right (by rw [wrVL_length]; omega), wrVL_length]; rfl), qa, 0, L, by rw [zer_length], zrow qa ha hA⟩
    · obtain rfl : i = 13 := by omega
      exact ⟨_, gc 13 _ (by rw [List.getElem?_append_right (by rw [wrVL_length]; omega), wrVL_length]; rfl), qb, 0, L, by rw [zer_length], zrow qb hb hB⟩
theorem x_a (a b c : Nat) : (b ^^^ c) ^^^ ((a ^^^ b) ^^^ c) = a := by
  apply Nat.eq_of_testBit_eq
  intro i
  simp only [Nat.testBit_xor]
  cases a.testBit i <;> cases b.testBit i <;> cases c.testBit i <;> rfl
theorem x_b (a b c : Nat) : (a ^^^ c) ^^^ ((a ^^^ b) ^^^ c) = b := by
  apply Nat.eq_of_testBit_eq
  intro i
  simp only [Nat.testBit_xor]
  cases a.testBit i <;> cases b.testBit i <;> cases c.testBit i <;> rfl
theorem x_c (a b c : Nat) : (a ^^^ b) ^^^ ((a ^^^ b) ^^^ c) = c := by
  apply Nat.eq_of_testBit_eq
  intro i
  simp only [Nat.testBit_xor]
  cases a.testBit i <;> cases b.testBit i <;> cases c.testBit i <;> rfl
theorem xs_others (y : Nat → Nat) {t : Nat} (ht : t < 3) : (GfM.xs 2 fun i => y (oth t i)) ^^^ (GfM.xs 3 y) = y t := by
  have e2 : ∀ f : Nat → Nat, GfM.xs 2 f = f 0 ^^^ f 1 := fun f => by simp [GfM.xs]
  have e3 : GfM.xs 3 y = (y 0 ^^^ y 1) ^^^ y 2 := by simp [GfM.xs]
  rw [e2, e3]
  obtain rfl | rfl | rfl : t = 0 ∨ t = 1 ∨ t = 2 := by omega
  · exact x_a _ _ _
  · exact x_b _ _ _
  · exact x_c _ _ _
/-- What is peeled off. -/
theorem peel_back (L : Nat) (z : List Nat) {t j : Nat} (ht : t < 3) (hj : j < 2) : (tab L fun u => (sumK 2 L (fun i => stp L z (oth t i)) j).getD u 0 ^^^ (wst L z (14 + j)).getD u 0) = stp L z t (4 + j) := by
  refine (eq_tab (stp_length _ _ _ _) fun u hu => ?_).symm
  rw [← merged_wide, if_pos hj]
  unfold sumK
  rw [tab_at _ _ _ hu, tab_at _ _ _ hu]
  exact (xs_others (fun i => (stp L z i (4 + j)).getD u 0) ht).symm
/-- Shards over a step that turns only what is told. -/
theorem LL.upf {S : Nat → Prop} {FS : List Nat} {w w' : World} {g o n : Nat} {R : Nat → List Nat} (h : LL FS w g o n fun i => some (R i)) (u : Up S w w') (hS : ∀ k, S k → k ∈ FS) : LL FS w' g o n fun i => some (R i) :=
  ⟨fun i hi => by
    obtain ⟨b, so, cap, e, r⟩ := h.at hi rfl
    exact ⟨_, (u.cell (p := ⟨g, o + i, none⟩) h.lt fun e => h.b (hS _ e)).trans e, b, so, cap, rfl, r.row.up u r.lt fun e => r.b (hS _ e), Nat.lt_of_lt_of_le r.lt u.size, r.b⟩, Nat.lt_of_lt_of_le h.lt u.size, h.b⟩
theorem LL.weak {FS FS' : List Nat} {w : World} {g o n : Nat} {R : Nat → List Nat} (h : LL FS w g o n fun i => some (R i)) (hS : ∀ k, k ∈ FS' → k ∈ FS) : LL FS' w g o n fun i => some (R i) :=
  ⟨fun i hi => by
    obtain ⟨b, so, cap, e, r⟩ := h.at hi rfl
    exact ⟨_, e, b, so, cap, rfl, r.row, r.lt, fun hm => r.b (hS _ hm)⟩, h.lt, fun hm => h.b (hS _ hm)⟩
theorem TL.more {FS : List Nat} {w : World} {g n go : Nat} {R : Nat → List Nat} (h : TL FS w g n R) (hg : Typ 30 w go) : LL (go :: FS) w g 0 n fun i => some (R i) :=
  ⟨fun i hi => by
    obtain ⟨b, o, cap, hc, hr, ht, hb⟩ := h.at_ i hi
    rw [Nat.zero_add]
    exact ⟨_, hc, b, o, cap, rfl, hr, ht.lt, fun hm => by
      rcases List.mem_cons.1 hm with e | hm
      · exact ht.ne hg (by decide) e
      · exact hb hm⟩, h.ty.lt, fun hm => by
    rcases List.mem_cons.1 hm with e | hm
    · exact h.ty.ne hg (by decide) e
    · exact h.gb hm⟩
theorem i64_and63 (n : Int) : ∃ k : Nat, bits .and .i64 n 63 = (k : Int) - 1 ∧ 1 ≤ k ∧ k ≤ 64 := by
  rw [i64_mask 6 (by omega) n 63 (by decide)]
  exact ⟨(n % 64).toNat + 1, by show n % 64 = _; omega, by omega, by omega⟩
theorem agrees_long (a1 a2 : Int) (a : Option Addr) (n cap : Nat) (w : World) (h : 1000 < n) :
    Calls Tryz.prog 3 #[.slice a n cap, .int .i64 a1, .int .i64 a2] w fun e w' => e = .returned (.bool true) ∧ Below w.heap.size w w' := by
  go_enter Tryz.func3, Tryz.ntmps3
  go_wp2_with ((go_at_call 7; (with_reducible refine (cawakeL (LS.start w)).mono ?_); rintro e w1 ⟨rfl, k1⟩; have K := hid ((LS.start w).nxt k1); clear k1))
  go_ret
  exact ⟨rfl, K.out.below⟩
end Go.Proofs.YtmaffnadmfphpaaGreat
