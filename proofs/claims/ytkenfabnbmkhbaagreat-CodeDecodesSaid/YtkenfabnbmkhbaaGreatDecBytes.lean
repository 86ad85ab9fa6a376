/- The statement's own 'bytes': strings as rows of bytes, each in its block; one byte turned, one row cut. -/
import Derived.Test.YtkenfabnbmkhbaaGreatDecCheck
namespace Go.Proofs.YtkenfabnbmkhbaaGreat
open Go.RowKit
set_option linter.unusedVariables false

def Typ (T : TypeId) (w : World) (q : Nat) : Prop := ∃ cs fr, w.heap[q]? = some (.cells cs T fr)
theorem Typ.lt {T : TypeId} {w : World} {q : Nat} (h : Typ T w q) : q < w.heap.size := by
  obtain ⟨_, _, h⟩ := h
  exact (Array.getElem?_eq_some_iff.1 h).1
theorem Typ.up {S : Nat → Prop} {T : TypeId} {w w' : World} {q : Nat} (h : Typ T w q) (u : Up S w w') (hs : ¬ S q) : Typ T w' q := by
  have := h.lt
  obtain ⟨cs, fr, h⟩ := h
  exact ⟨cs, fr, (u.block q this hs).trans h⟩
theorem OwnV.typ {T : TypeId} {base : Nat} {w : World} {v : Value} {xs : List Value} {q : Nat} (h : OwnV T base w v xs) (e : v.ownBlock = some q) : Typ T w q := by
  rcases h.2 with ⟨e2, _⟩ | ⟨g, cap, cur, e2, _, h3, _⟩
  · subst e2; cases e
  · subst e2
    have : g = q := by simpa [Value.ownBlock] using e
    subst this
    exact ⟨_, _, h3⟩
theorem Typ.ne {T T' : TypeId} {w : World} {p q : Nat} (h : Typ T w p) (h' : Typ T' w q) (hT : T ≠ T') : p ≠ q := fun e => by
  subst e
  obtain ⟨_, _, h⟩ := h
  obtain ⟨_, _, h'⟩ := h'
  rw [h] at h'
  cases h'
  exact hT rfl
def wrVL (L k : Nat) (q c : Nat → Nat) : List Value := (List.range k).map fun i => Value.slice (some ⟨q i, 0, none⟩) L (c i)
theorem wrVL_length (L k : Nat) (q c : Nat → Nat) : (wrVL L k q c).length = k := by simp [wrVL]
theorem wrVL_at {L k i : Nat} {q c : Nat → Nat} (h : i < k) : (wrVL L k q c)[i]? = some (.slice (some ⟨q i, 0, none⟩) L (c i)) := by simp [wrVL, h]
theorem wrVL_next (L k a b : Nat) (q c : Nat → Nat) : wrVL L (k + 1) (fun i => if i = k then a else q i) (fun i => if i = k then b else c i) = wrVL L k q c ++ [.slice (some ⟨a, 0, none⟩) L b] := by
  unfold wrVL
  rw [List.range_succ, List.map_append]
  congr 1
  · exact List.map_congr_left fun t ht => by
      have := List.mem_range.1 ht
      simp only [if_neg (show ¬ t = k by omega)]
  · simp
/-- Rows of bytes, each in a block of its own. -/
structure LB (W w : World) (g n : Nat) (q c : Nat → Nat) (R : Nat → List Nat) : Prop where
  cell : ∀ i, i < n → w.cell? ⟨g, i, none⟩ = some (.slice (some ⟨q i, 0, none⟩) (R i).length (c i))
  row : ∀ i, i < n → Row w (q i) 0 (R i)
  qlt : ∀ i, i < n → W.heap.size ≤ q i ∧ q i < w.heap.size ∧ q i ≠ g
  inj : ∀ i j, i < n → j < n → q i = q j → i = j
  froz : ∀ i, i < n → ∀ j, j < (R i).length → w.frozen? ⟨q i, j, none⟩ = false
  cap : ∀ i, i < n → (R i).length ≤ c i
  gfr : ∀ j, w.frozen? ⟨g, j, none⟩ = false
  glt : W.heap.size ≤ g ∧ g < w.heap.size
  up : Up Nul W w
theorem LB.nxt {W w w' : World} {g n : Nat} {q c : Nat → Nat} {R : Nat → List Nat} (h : LB W w g n q c R) (u : Up Nul w w') : LB W w' g n q c R :=
  ⟨fun i hi => (u.cell (p := ⟨g, i, none⟩) h.glt.2 id).trans (h.cell i hi), fun i hi => (h.row i hi).up u (h.qlt i hi).2.1 id, fun i hi => ⟨(h.qlt i hi).1, Nat.lt_of_lt_of_le (h.qlt i hi).2.1 u.size, (h.qlt i hi).2.2⟩, h.inj,
   fun i hi j hj => (u.froz (p := ⟨q i, j, none⟩) (h.qlt i hi).2.1 id).trans (h.froz i hi j hj), h.cap, fun j => (u.froz (p := ⟨g, j, none⟩) h.glt.2 id).trans (h.gfr j), ⟨h.glt.1, Nat.lt_of_lt_of_le h.glt.2 u.size⟩, h.up.trans u⟩
theorem Row.put {w : World} {b i v : Nat} {z : List Nat} (h : Row w b 0 z) (hi : i < z.length) (hv : v < 256) : Row (w.setCell ⟨b, i, none⟩ (.int .u8 v)) b 0 (z.set i v) := by
  refine ⟨fun j hj => ?_, fun j => ?_⟩
  · rw [List.length_set] at hj
    rw [getD_set _ _ _ _ hi, Nat.zero_add]
    have hc := h.cells j hj
    rw [Nat.zero_add] at hc
    by_cases e : j = i
    · subst e
      rw [if_pos rfl]
      exact World.cell?_setCell_same _ _ _ hc
    · rw [if_neg e, World.cell?_setCell_other _ _ _ _ (by intro e2; have := congrArg Addr.off e2; simp at this; omega)]
      exact hc
  · rw [getD_set _ _ _ _ hi]
    split
    · exact hv
    · exact h.small j
theorem LB.turn {W w : World} {g n i u v : Nat} {q c : Nat → Nat} {R : Nat → List Nat} (h : LB W w g n q c R) (hi : i < n) (hu : u < (R i).length) (hv : v < 256) :
    LB W (w.setCell ⟨q i, u, none⟩ (.int .u8 v)) g n q c (updL R i ((R i).set u v)) := by
  have U : Up (One (q i)) w (w.setCell ⟨q i, u, none⟩ (.int .u8 v)) := (Up.refl _ _).setCell (p := ⟨q i, u, none⟩) (.inr (show One (q i) (q i) from rfl)) _
  have hl : ∀ t, (updL R i ((R i).set u v) t).length = (R t).length := fun t => by
    unfold updL
    split
    · next e => rw [e, List.length_set]
    · rfl
  refine ⟨fun t ht => ?_, fun t ht => ?_, fun t ht => ?_, h.inj, fun t ht j hj => ?_, fun t ht => by rw [hl]; exact h.cap t ht, fun j => by rw [World.frozen?_setCell]; exact h.gfr j, ⟨h.glt.1, by simpa using h.glt.2⟩, h.up.setCell (p := ⟨q i, u, none⟩) (.inl (h.qlt i hi).1) _⟩
  · rw [hl, U.cell (p := ⟨g, t, none⟩) h.glt.2 (by unfold One; exact fun e => (h.qlt i hi).2.2 e.symm)]
    exact h.cell t ht
  · unfold updL
    by_cases e : t = i
    · rw [if_pos e, e]
      exact (h.row i hi).put hu hv
    · rw [if_neg e]
      exact (h.row t ht).up U (h.qlt t ht).2.1 (by unfold One; exact fun e2 => e (h.inj t i ht hi e2))
  · exact ⟨(h.qlt t ht).1, by simpa using (h.qlt t ht).2.1, (h.qlt t ht).2.2⟩
  · rw [hl] at hj
    rw [World.frozen?_setCell]
    exact h.froz t ht j hj
theorem LB.cut {W w : World} {g n i m : Nat} {q c : Nat → Nat} {R : Nat → List Nat} (h : LB W w g n q c R) (hi : i < n) (hm : m ≤ (R i).length) :
    LB W (w.setCell ⟨g, i, none⟩ (.slice (some ⟨q i, 0, none⟩) m (c i))) g n q c (updL R i ((R i).take m)) := by
  have U : Up (One g) w (w.setCell ⟨g, i, none⟩ (.slice (some ⟨q i, 0, none⟩) m (c i))) := (Up.refl _ _).setCell (p := ⟨g, i, none⟩) (.inr (show One g g from rfl)) _
  have hlm : ((R i).take m).length = m := by rw [List.length_take]; omega
  refine ⟨fun t ht => ?_, fun t ht => ?_, fun t ht => ?_, h.inj, fun t ht j hj => ?_, fun t ht => ?_, fun j => by rw [World.frozen?_setCell]; exact h.gfr j, ⟨h.glt.1, by simpa using h.glt.2⟩, h.up.setCell (p := ⟨g, i, none⟩) (.inl h.glt.1) _⟩
  · unfold updL
    by_cases e : t = i
    · rw [if_pos e, hlm, e]
      exact World.cell?_setCell_same _ _ _ (h.cell i hi)
    · rw [if_neg e, World.cell?_setCell_other _ _ _ _ (by intro e2; have := congrArg Addr.off e2; simp at this; omega)]
      exact h.cell t ht
  · have hr := (h.row t ht).up U (h.qlt t ht).2.1 (by unfold One; exact (h.qlt t ht).2.2)
    unfold updL
    by_cases e : t = i
    · rw [if_pos e]
      subst e
      refine ⟨fun j hj => ?_, fun j => ?_⟩
      · rw [List.length_take] at hj
        rw [hr.cells j (by omega)]
        simp [List.getD_eq_getElem?_getD, show j < m by omega]
      · have := hr.small j
        simp only [List.getD_eq_getElem?_getD, List.getElem?_take] at this ⊢
        split
        · exact this
        · simp
    · rw [if_neg e]; exact hr
  · exact ⟨(h.qlt t ht).1, by simpa using (h.qlt t ht).2.1, (h.qlt t ht).2.2⟩
  · rw [World.frozen?_setCell]
    refine h.froz t ht j ?_
    unfold updL at hj
    split at hj
    · next e => rw [hlm] at hj; rw [e]; omega
    · exact hj
  · unfold updL
    split
    · next e => rw [hlm, e]; have := h.cap i hi; omega
    · exact h.cap t ht
theorem LB.ll {W w w0 : World} {FS : List Nat} {g n : Nat} {q c : Nat → Nat} {R : Nat → List Nat} (h : LB W w g n q c R) (hs : LS w0 FS W) : LL FS w g 0 n fun i => some (R i) :=
  ⟨fun i hi => ⟨_, by rw [Nat.zero_add]; exact h.cell i hi, q i, 0, c i, rfl, h.row i hi, (h.qlt i hi).2.1, hs.lt (h.qlt i hi).1⟩, h.glt.2, hs.lt h.glt.1⟩
/-- k rows are made. -/
structure BW (L : Nat) (W : World) (k : Nat) (v : Value) (q c : Nat → Nat) (R : Nat → List Nat) (wr : World) : Prop where
  own : OwnV 22 W.heap.size wr v (wrVL L k q c)
  at_ : ∀ i, i < k → W.heap.size ≤ q i ∧ Row wr (q i) 0 (R i) ∧ Typ 5 wr (q i) ∧ (∀ j, j < L → wr.frozen? ⟨q i, j, none⟩ = false) ∧ L ≤ c i
  inj : ∀ i j, i < k → j < k → q i = q j → i = j
  up : Up Nul W wr
theorem BW.next {W wr W1 w2 : World} {L k a b : Nat} {v v2 : Value} {q c : Nat → Nat} {R : Nat → List Nat} {o : Obj} (h : BW L W k v q c R wr) (u : Up Nul wr W1) (ha : wr.heap.size ≤ a) (hr : Row W1 a 0 (R k)) (ht : Typ 5 W1 a) (hf : ∀ j, j < L → W1.frozen? ⟨a, j, none⟩ = false) (hb : L ≤ b)
    (G1 : OwnV 22 W.heap.size w2 v2 (wrVL L k q c ++ [.slice (some ⟨a, 0, none⟩) L b])) (G2 : (W1.alloc o).grownBy w2 v.ownBlock) : BW L W (k + 1) v2 (fun i => if i = k then a else q i) (fun i => if i = k then b else c i) R w2 := by
  have ho := OwnV.alloc (OwnV.apart (S := Nul) h.own u (fun _ _ => id)) o
  have hne : ∀ x, Typ 5 (W1.alloc o) x → ¬ some x = v.ownBlock := fun x hx e => (ho.typ e.symm).ne hx (by decide) rfl
  have hu := Up.ofg G2
  have hal := (Up.refl Nul W1).alloc o
  have hq : ∀ i, i < k → q i < wr.heap.size := fun i hi => (h.at_ i hi).2.2.1.lt
  refine ⟨by rw [wrVL_next]; exact G1, fun i hi => ?_, fun i j hi hj e => ?_, ((h.up.trans u).alloc _).grown G2 fun x hx => OwnV.base h.own x hx⟩
  · by_cases e : i = k
    · subst e
      simp only [if_true]
      have ht2 := ht.up hal id
      exact ⟨Nat.le_trans h.up.size ha, (hr.up hal ht.lt id).up hu ht2.lt (hne _ ht2), ht2.up hu (hne _ ht2), fun j hj => (hu.froz (p := ⟨a, j, none⟩) ht2.lt (hne _ ht2)).trans ((hal.froz (p := ⟨a, j, none⟩) ht.lt id).trans (hf j hj)), hb⟩
    · simp only [if_neg e]
      obtain ⟨h1, h2, h3, h4, h5⟩ := h.at_ i (by omega)
      have u1 := u.trans hal
      have ht2 := h3.up u1 id
      exact ⟨h1, (h2.up u1 h3.lt id).up hu ht2.lt (hne _ ht2), ht2.up hu (hne _ ht2), fun j hj => (hu.froz (p := ⟨q i, j, none⟩) ht2.lt (hne _ ht2)).trans ((u1.froz (p := ⟨q i, j, none⟩) h3.lt id).trans (h4 j hj)), h5⟩
  · by_cases e1 : i = k
    · by_cases e2 : j = k
      · omega
      · simp only [if_pos e1, if_neg e2] at e
        have := hq j (by omega)
        omega
    · by_cases e2 : j = k
      · simp only [if_neg e1, if_pos e2] at e
        have := hq i (by omega)
        omega
      · simp only [if_neg e1, if_neg e2] at e
        exact h.inj i j (by omega) (by omega) e
theorem BW.lb {W w : World} {L n : Nat} {v : Value} {q c : Nat → Nat} {R : Nat → List Nat} (h : BW L W n v q c R w) (hR : ∀ i, (R i).length = L) (n1 : 1 ≤ n) : ∃ g cg, v = .slice (some ⟨g, 0, none⟩) n cg ∧ LB W w g n q c R ∧ n ≤ cg := by
  obtain ⟨g, cg, e, e1, e2, e3, e4, e5⟩ := OwnV.row h.own (by rw [wrVL_length]; omega)
  rw [wrVL_length] at e e5
  have hty : Typ 22 w g := h.own.typ (by rw [e]; rfl)
  exact ⟨g, cg, e, ⟨fun i hi => by rw [hR]; exact e3 i _ (wrVL_at hi), fun i hi => (h.at_ i hi).2.1, fun i hi => ⟨(h.at_ i hi).1, (h.at_ i hi).2.2.1.lt, (h.at_ i hi).2.2.1.ne hty (by decide)⟩, h.inj, fun i hi j hj => (h.at_ i hi).2.2.2.1 j (by rw [hR] at hj; exact hj), fun i hi => by rw [hR]; exact (h.at_ i hi).2.2.2.2, e4, ⟨e1, e2⟩, h.up⟩, e5⟩
theorem alloc_one' (W : World) (x : Value) (T : TypeId) : ∀ j u, [x][j]? = some u → (W.alloc (.cells #[x] T)).cell? (Addr.add ⟨W.heap.size, 0, none⟩ j) = some u := fun j u hj => by
  match j, hj with
  | 0, hj => cases hj; exact World.cell?_alloc_new W _ _ 0
theorem one_one' {x : Value} (hx : x.oneCell' = true) : ∀ u ∈ [x], u.oneCell' = true := fun u hu => by
  cases hu with
  | head => exact hx
  | tail _ h => cases h
set_option maxRecDepth 100000 in
set_option maxHeartbeats 800000 in
theorem bytesL (g n cap L : Nat) (R : Nat → List Nat) (w : World) (hR : St2 w g n R) (n1 : 1 ≤ n) (hn : n ≤ 100) (hl : ∀ i, (R i).length = L) (hs : ∀ i u, (R i).getD u 0 < 256) (hL : L ≤ 100) :
    Calls Tryz.prog 11 #[.slice (some ⟨g, 0, none⟩) n cap] w fun e w' => ∃ gl cl q c, e = .returned (.slice (some ⟨gl, 0, none⟩) n cl) ∧ LB w w' gl n q c R ∧ n ≤ cl := by
  have HS := hid (And.intro hR (And.intro hl hs))
  clear hR hl hs
  go_enter Tryz.func11, Tryz.ntmps11
  go_wp2_with fail
  go_loopw [3, 4] (fun v i wr => ∃ k : Nat, k ≤ n ∧ i = .int .i64 k ∧ ∃ q c, BW L w k v q c R wr) (fun _ i _ => n - (intOf i).toNat)
  case atStart => exact ⟨0, by omega, rfl, id, id, OwnV.nil _ _ _, fun _ h => absurd h (Nat.not_lt_zero _), fun _ _ h => absurd h (Nat.not_lt_zero _), Up.refl _ _⟩
  case round =>
    obtain ⟨k, hk, rfl, q, cq, hw⟩ := hrel
    have HW := hid hw
    clear hw
    by_cases hlt : k < n
    · have s0 := (HS.out.1.up HW.out.up).cells k hlt
      have hcv := Lib.run_convert_string_bytes (P := Tryz.prog) wr 9 22 5 (strOf (R k)) Tryz.underlying9 Tryz.underlying22 Tryz.underlying5
      have hsz : (strOf (R k)).size = L := by rw [strOf_size]; exact HS.out.2.1 k
      have HFZ : Hid (∀ j, j < L → (Lib.bytesWorld wr 5 (strOf (R k))).frozen? ⟨wr.heap.size, j, none⟩ = false) := fun j hj => bytes_frozen wr 5 (strOf (R k)) j (by rw [hsz]; exact hj)
      rw [hsz] at hcv
      have HRW : Hid (Row (Lib.bytesWorld wr 5 (strOf (R k))) wr.heap.size 0 (R k)) := by
        have hr := (Trn.start wr (strOf (R k))).row
        rwa [nums_strOf (HS.out.2.2 k)] at hr
      have HTY : Hid (Typ 5 (Lib.bytesWorld wr 5 (strOf (R k))) wr.heap.size) := ⟨_, _, Lib.bytesWorld_at_new wr 5 (strOf (R k))⟩
      have UC := hid (bytes_below wr 5 (strOf (R k)))
      have HGC := hid (grownCap_ge wr L 0 5)
      generalize strOf (R k) = sk at hcv s0 hsz HFZ HRW HTY UC
      have i3 : (0 : Int) ≤ (k : Int) := by omega
      have i4 : (k : Int) < (n : Int) := by omega
      have HKL : Hid ((wrVL L k q cq).length + 1 ≤ 1000000) := by show _ ≤ _; rw [wrVL_length]; omega
      clear hsz
      go_wp2_with (first
        | (at_builtin; refine wpList_append_vals Tryz.underlying34 info_sl rfl (by omega) rfl (.tmp 11) (.tmp 17) rfl w.heap.size u3 (wrVL L k q cq) rfl (OwnV.alloc (OwnV.apart (S := Nul) HW.out.own UC.out (fun _ _ => id)) _) _ 1 1 [.slice (some ⟨wr.heap.size, 0, none⟩) L (grownCap wr L 0 5)] rfl (alloc_one' _ _ _) (one_one' rfl) rfl HKL.out (Nat.le_trans HW.out.up.size (UC.out.alloc _).size) ?_; intro v2 w6 G1 G2)
        | go_in)
      go_roundw
      case rel => exact ⟨k + 1, by omega, by go_num, _, _, HW.out.next UC.out (Nat.le_refl _) HRW.out HTY.out HFZ.out (by have := HGC.out; omega) G1.out G2.out⟩
      case measure => simp [intOf]; omega
    · obtain rfl : n = k := by omega
      obtain ⟨gl, cl, rfl, hlb, hcl⟩ := HW.out.lb HS.out.2.1 n1
      have HLB := hid (And.intro hlb hcl)
      clear hlb hcl
      go_wp2
      go_ret
      exact ⟨gl, cl, q, cq, rfl, HLB.out⟩
end Go.Proofs.YtkenfabnbmkhbaaGreat
