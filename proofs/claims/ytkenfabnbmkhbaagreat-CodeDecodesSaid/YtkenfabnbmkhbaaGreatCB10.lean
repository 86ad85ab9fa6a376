/- Part 10 of what the walks rest on: CodeShards, CodeShardsWalk, CodeLost. -/
import Derived.Test.YtkenfabnbmkhbaaGreatCB9
namespace Go.Proofs.YtkenfabnbmkhbaaGreat
open Go.RowKit
set_option linter.unusedVariables false

theorem OwnS.ne_pc {base n : Nat} {w : World} {v : Value} {xs : List Value} {b : Nat} {z : List Nat} (h : OwnS base w v n xs) (hb : Pc w b z) : v.ownBlock ≠ some b := by
  intro e
  obtain ⟨cur2, hc⟩ := hb.heap
  rcases h.2 with ⟨e2, _⟩ | ⟨g, cap, cur, e2, _, h3, _⟩
  · subst e2; cases e
  · subst e2
    have : g = b := by simpa [Value.ownBlock] using e
    subst this
    rw [hc] at h3
    cases h3
theorem OwnV.ne_s {base base2 n : Nat} {w : World} {v u : Value} {xs ys : List Value} (h : OwnV 22 base w v xs) (h2 : OwnS base2 w u n ys) (q : Nat) (e1 : v.ownBlock = some q) (e2 : u.ownBlock = some q) : False := by
  rcases h.2 with ⟨e, _⟩ | ⟨g, cap, cur, e, _, h3, _⟩
  · subst e; cases e1
  · subst e
    have e3 : g = q := by simpa [Value.ownBlock] using e1
    rcases h2.2 with ⟨e, _⟩ | ⟨g2, cap2, cur2, e, _, h4, _⟩
    · subst e; cases e2
    · subst e
      have e4 : g2 = q := by simpa [Value.ownBlock] using e2
      rw [e3] at h3
      rw [e4, h3] at h4
      cases h4
/-- Which shards are there: those whose bit is nought. -/
def outS (x : Nat → Bool) (R : Nat → List Nat) (i : Nat) : Option (List Nat) := if x i = true then none else some (R i)
/-- The same, as cells. -/
def shC (x : Nat → Bool) (R : Nat → List Nat) : Nat → List Value
  | 0 => []
  | t + 1 => shC x R t ++ (if x t = true then [.string ByteArray.empty, .bool false] else [.string (strOf (R t)), .bool true])
/-- A shard that lies in a block of its own. -/
def Shp (w W : World) (v : Value) : Option (List Nat) → Prop
  | none => v = .slice none 0 0
  | some z => ∃ b cap, v = .slice (some ⟨b, 0, none⟩) z.length cap ∧ Pc w b z ∧ W.heap.size ≤ b
theorem Shp.up {S : Nat → Prop} {w w' W : World} {v : Value} {x : Option (List Nat)} (h : Shp w W v x) (u : Up S w w') (hs : ∀ b z, Pc w b z → ¬ S b) : Shp w' W v x := by
  cases x with
  | none => exact h
  | some z =>
    obtain ⟨b, cap, e, p, hb⟩ := h
    exact ⟨b, cap, e, p.up u (hs b z p), hb⟩
/-- t shards are made. -/
structure Mds (W : World) (x : Nat → Bool) (t : Nat) (R : Nat → List Nat) (v1 v2 : Value) (xs : List Value) (w : World) : Prop where
  own : OwnV 22 W.heap.size w v1 xs
  two : OwnS W.heap.size w v2 t (shC x R t)
  len : xs.length = t
  is : ∀ i, i < t → ∃ v, xs[i]? = some v ∧ Shp w W v (outS x R i)
  up : Up Nul W w
theorem Mds.start (W : World) (x : Nat → Bool) (R : Nat → List Nat) : Mds W x 0 R (.slice none 0 0) (.slice none 0 0) [] W :=
  ⟨OwnV.nil _ _ _, OwnS.nil _ _, rfl, fun _ h => absurd h (Nat.not_lt_zero _), Up.refl _ _⟩
/-- One more: both rows grown, the rest as it was. -/
theorem Mds.next {W w w' : World} {x : Nat → Bool} {t : Nat} {R : Nat → List Nat} {v1 v2 u1 u2 v : Value} {xs c : List Value} (h : Mds W x t R v1 v2 xs w) (u : Up (fun q => some q = v1.ownBlock ∨ some q = v2.ownBlock) w w')
    (h1 : OwnV 22 W.heap.size w' u1 (xs ++ [v])) (h2 : OwnS W.heap.size w' u2 (t + 1) (shC x R t ++ c)) (hv : Shp w' W v (outS x R t)) (hc : c = if x t = true then [.string ByteArray.empty, .bool false] else [.string (strOf (R t)), .bool true]) : Mds W x (t + 1) R u1 u2 (xs ++ [v]) w' := by
  refine ⟨h1, by rw [shC, ← hc]; exact h2, by rw [List.length_append, h.len]; rfl, fun i hi => ?_, ?_⟩
  · rcases Nat.lt_or_ge i t with hlt | hge
    · obtain ⟨y, hy, hs⟩ := h.is i hlt
      refine ⟨y, by rw [List.getElem?_append_left (by rw [h.len]; exact hlt)]; exact hy, hs.up u fun b z p e => ?_⟩
      rcases e with e | e
      · exact h.own.ne_pc p e.symm
      · exact h.two.ne_pc p e.symm
    · have : i = t := by omega
      subst this
      exact ⟨v, by rw [List.getElem?_append_right (by rw [h.len]; exact Nat.le_refl _), h.len, Nat.sub_self]; rfl, hv⟩
  · exact ⟨u.os.trans h.up.os, u.tape.trans h.up.tape, u.output.trans h.up.output, Nat.le_trans h.up.size u.size, fun k hk hs => (u.block k (Nat.lt_of_lt_of_le hk h.up.size) fun e => by
      rcases e with e | e
      · have := h.own.base k e.symm; omega
      · have := h.two.base k e.symm; omega).trans (h.up.block k hk hs)⟩
/-- Between the two appends of a round: the row of slices vA (it was u1), the row of shards vB (it was u2). -/
structure Mid (B base n : Nat) (W : World) (u1 u2 vA vB : Value) (xs ys : List Value) (w : World) : Prop where
  a : OwnV 22 base w vA xs
  b : OwnS base w vB n ys
  up : Up (fun q => some q = u1.ownBlock ∨ some q = u2.ownBlock) W w
  le : base ≤ W.heap.size
theorem Mid.alloc {B base n : Nat} {W w : World} {u1 u2 vA vB : Value} {xs ys : List Value} (h : Mid B base n W u1 u2 vA vB xs ys w) (o : Obj) : Mid B base n W u1 u2 vA vB xs ys (w.alloc o) :=
  ⟨OwnV.alloc h.a o, h.b.alloc o, h.up.alloc o, h.le⟩
theorem Mid.drew {B base n : Nat} {W w : World} {u1 u2 vA vB : Value} {xs ys : List Value} (h : Mid B base n W u1 u2 vA vB xs ys w) : Mid B base n W u1 u2 vA vB xs ys w.drew :=
  ⟨OwnV.drewN h.a 1, h.b, h.up.drew, h.le⟩
theorem cell_two (w : World) (o : Obj) (cs : Array Value) (T : TypeId) (i : Nat) : ((w.alloc o).alloc (.cells cs T)).cell? ⟨w.heap.size + 1, i, none⟩ = cs[i]? := by
  have h := World.cell?_alloc_new (w.alloc o) cs T i
  rw [show (w.alloc o).heap.size = w.heap.size + 1 by simp] at h
  exact h
theorem cell_one (w : World) (o : Obj) (cs : Array Value) (T : TypeId) (i : Nat) : ((w.alloc (.cells cs T)).alloc o).cell? ⟨w.heap.size, i, none⟩ = cs[i]? :=
  (((Up.refl Nul (w.alloc (.cells cs T))).alloc o).cell (p := ⟨w.heap.size, i, none⟩) (by simp) id).trans (World.cell?_alloc_new w cs T i)
theorem Mid.lt {B base n : Nat} {W w : World} {u1 u2 vA vB : Value} {xs ys : List Value} (h : Mid B base n W u1 u2 vA vB xs ys w) : base ≤ w.heap.size := Nat.le_trans h.le h.up.size
theorem Mid.growA {B base n : Nat} {W w w' : World} {u1 u2 v vB : Value} {xs xs2 ys : List Value} (h : Mid B base n W u1 u2 u1 vB xs ys w) (g1 : OwnV 22 base w' v xs2) (g2 : w.grownBy w' u1.ownBlock) : Mid B base n W u1 u2 v vB xs2 ys w' :=
  ⟨g1, h.b.apart (Up.ofg g2) fun g e e2 => h.a.ne_s h.b g e2.symm e, h.up.trans ((Up.ofg g2).mono fun k _ e => .inl e), h.le⟩
theorem Mid.growB {B base n m : Nat} {W w w' : World} {u1 u2 v vA : Value} {xs ys ys2 : List Value} (h : Mid B base n W u1 u2 vA u2 xs ys w) (g1 : OwnS base w' v m ys2) (g2 : w.grownBy w' u2.ownBlock) : Mid B base m W u1 u2 vA v xs ys2 w' :=
  ⟨h.a.apart (Up.ofg g2) fun g e e2 => h.a.ne_s h.b g e e2.symm, g1, h.up.trans ((Up.ofg g2).mono fun k _ e => .inr e), h.le⟩
/-- What was laid after W is as it was. -/
theorem Mid.keepA {B base n : Nat} {W w w' : World} {u1 u2 vB : Value} {xs ys x0 : List Value} {a : Addr} {y : Value} (h : Mid B base n W u1 u2 u1 vB xs ys w) (h0 : OwnV 22 base W u1 x0) (g2 : w.grownBy w' u1.ownBlock) (hb : W.heap.size ≤ a.block) (hc : w.cell? a = some y) : w'.cell? a = some y :=
  ((Up.ofg g2).cell (lt_of_cell hc) fun e => by have := (World.ownsRow.lt h0 _ e.symm).2; omega).trans hc
theorem Mid.keepB {B base n m : Nat} {W w w' : World} {u1 u2 vA : Value} {xs ys y0 : List Value} {a : Addr} {y : Value} (h : Mid B base n W u1 u2 vA u2 xs ys w) (h0 : OwnS base W u2 m y0) (g2 : w.grownBy w' u2.ownBlock) (hb : W.heap.size ≤ a.block) (hc : w.cell? a = some y) : w'.cell? a = some y :=
  ((Up.ofg g2).cell (lt_of_cell hc) fun e => by have := (World.ownsRow.lt h0 _ e.symm).2; omega).trans hc
/-- make([]byte, 0, n + 1). -/
theorem make_cap (w : World) (n : Nat) (hn : n ≤ 1000000) :
    (Instr.makeSlice 22 (.int .i64 0) (.int .i64 ((n : Int) + 1))).run Tryz.prog w = .ok (.slice (some ⟨w.heap.size, 0, none⟩) 0 (n + 1)) (w.alloc (.cells (bys (zer (n + 1))) 5)) := by
  obtain ⟨i0, hi, hz0, hz1, hz2⟩ := info_parts info_u8
  have := run_make (P := Tryz.prog) (w := w) 22 5 i0 (.int .u8 0) Tryz.underlying22 hi hz0 .i64 .i64 0 ((n : Int) + 1) (by omega) (by omega) (by rw [hz2]; omega) (by omega)
  rw [this, hz1]
  have e : ((n : Int) + 1).toNat = n + 1 := by omega
  rw [e, made_zer]
  rfl
theorem OwnB.made (base : Nat) (w : World) (n : Nat) (hb : base ≤ w.heap.size) (hn : n ≤ 1000000) : OwnB base (w.alloc (.cells (bys (zer (n + 1))) 5)) (.slice (some ⟨w.heap.size, 0, none⟩) 0 (n + 1)) [] :=
  ⟨⟨rfl, .inr ⟨w.heap.size, n + 1, bys (zer (n + 1)), rfl, hb, heap_alloc_new _ _, Nat.zero_le _, by unfold maxLen; omega, by simp [bys, zer], rfl⟩⟩, fun _ h => by cases h⟩

set_option maxRecDepth 100000 in
set_option maxHeartbeats 3200000 in
theorem shards_any (FS : List Nat) (w0 w : World) (g o n cap : Nat) (x : Int) (X : Nat → Bool) (R : Nat → List Nat) (hs : LS w0 FS w) (hR : LL FS w g o n fun i => some (R i)) (hl : ∀ i, (R i).length ≤ 64) (hn : n ≤ 60) (hX : ∀ t, t < n → (bits .and .u64 (x / 2 ^ t) 1 == 1) = X t) :
    Calls Tryz.prog 12 #[.slice (some ⟨g, o, none⟩) n cap, .int .u64 x] w
      fun e w' => ∃ v1 v2 xs, e = .returned (.tuple #[v1, v2]) ∧ Mds w X n R v1 v2 xs w' := by
  have HS := hid (And.intro hs (And.intro hR (And.intro hl hX)))
  clear hs hR hl hX
  go_enter Tryz.func12, Tryz.ntmps12
  go_wp2_with fail
  go_loopw [6, 7, 8] (fun v1 v2 i wr => ∃ t : Nat, t ≤ n ∧ i = .int .i64 t ∧ ∃ xs, Mds w X t R v1 v2 xs wr) (fun _ _ i _ => n - (intOf i).toNat)
  case atStart => exact ⟨0, by omega, rfl, _, Mds.start _ _ _⟩
  case round =>
    obtain ⟨t, ht, rfl, xs, hm⟩ := hrel
    have HM := hid hm
    clear hm
    by_cases hlt : t < n
    · have hxl : xs.length + 1 ≤ 1000000 := by rw [HM.out.len]; omega
      have hwz : w.heap.size ≤ wr.heap.size := HM.out.up.size
      have M0 : Hid (Mid 0 w.heap.size t wr u6 u7 u6 u7 xs (shC X R t) wr) := ⟨HM.out.own, HM.out.two, Up.refl _ _, hwz⟩
      cases hb : X t with
      | true =>
        have hb' : (bits .and .u64 (x / 2 ^ t) 1 == 1) = true := by rw [HS.out.2.2.2 t hlt, hb]
        go_wp2_with (first
          | (at_builtin; refine wpList_append_vals Tryz.underlying34 info_sl rfl (by omega) rfl (.tmp 21) (.tmp 22) rfl w.heap.size u6 xs rfl (OwnV.alloc HM.out.own _) ⟨wr.heap.size, 0, none⟩ 1 1 [.slice none 0 0] rfl (fun j u hj => by
              match j, hj with
              | 0, hj => cases hj; exact World.cell?_alloc_new wr _ _ 0) (fun u hu => by cases hu with | head => rfl | tail _ h => cases h) rfl hxl (M0.out.alloc _).lt ?_; intro v2 w2 G1 G2; have MA := hid ((M0.out.alloc _).growA G1.out G2.out))
          | (at_builtin; refine wpList_append_shard rfl (.tmp 24) (.tmp 26) rfl w.heap.size t u7 _ rfl (MA.out.alloc _).b w2.heap.size 1 (.string ByteArray.empty) (.bool false) rfl (World.cell?_alloc_new w2 _ _ 0) (World.cell?_alloc_new w2 _ _ 1) rfl rfl (by omega) (MA.out.alloc _).lt ?_; intro v3 w3 G3 G4; have MB := hid ((MA.out.alloc _).growB G3.out G4.out))
          | go_in)
        go_roundw
        case rel => exact ⟨t + 1, by omega, by go_num, _, HM.out.next MB.out.up MB.out.a MB.out.b (by unfold outS; rw [if_pos hb]; exact rfl) (by rw [if_pos hb])⟩
        case measure => simp [intOf]; omega
      | false =>
        have hb' : (bits .and .u64 (x / 2 ^ t) 1 == 1) = false := by rw [HS.out.2.2.2 t hlt, hb]
        obtain ⟨b, so, cp, x1, r1⟩ := HS.out.2.1.at hlt rfl
        replace x1 := (HM.out.up.cell (p := ⟨g, o + t, none⟩) HS.out.2.1.lt id).trans x1
        have HR1 := hid r1
        obtain ⟨lr, LR⟩ : ∃ q, Hid (R t = q) := ⟨_, rfl⟩
        have hlr : lr.length ≤ 64 := by rw [← LR.out]; exact HS.out.2.2.1 t
        rw [LR.out] at x1 HR1
        obtain ⟨l, LL⟩ : ∃ q, Hid (lr.length = q) := ⟨_, rfl⟩
        rw [LL.out] at x1 hlr
        have HXB : Hid (g < w.heap.size ∧ b < w.heap.size) := ⟨HS.out.2.1.lt, HR1.out.lt⟩
        have HRW : Hid (Row w b so lr) := HR1.out.row
        have hmk := fun w => make_cap w l (by omega)
        have i1 : (0 : Int) ≤ (t : Int) := by omega
        have i2 : (t : Int) < (n : Int) := by omega
        have i3 : IntKind.i64.wrap ((l : Int) + 1) = (l : Int) + 1 := IntWalk.i64_in _ (by omega)
        have q1 : wr.drew.cell? ⟨g, o + t, none⟩ = some (.slice (some ⟨b, so, none⟩) l cp) := x1
        have q0 : (wr.alloc (.cells (bys (zer (l + 1))) 5)).drew.cell? ⟨g, o + t, none⟩ = some (.slice (some ⟨b, so, none⟩) l cp) := (((Up.refl Nul wr).alloc _).cell (p := ⟨g, o + t, none⟩) (Nat.lt_of_lt_of_le HXB.out.1 hwz) id).trans x1
        have UD : Hid (Up Nul wr (wr.alloc (.cells (bys (zer (l + 1))) 5)).drew) := ((Up.refl _ _).alloc _).drew
        clear r1 x1
        go_wp2_with fail
        go_region_held3 (fun w' => w'.cell? ⟨g, o + t, none⟩ = some (.slice (some ⟨b, so, none⟩) l cp))
          (first | assumption | go_keep)
          ((refine step_append_there (by rfl) (.tmp 34) (.tmp 38) (by rfl) wr.heap.size _ [] (by rfl) ((OwnB.made wr.heap.size wr l (Nat.le_refl _) (by omega)).drewN 1) (by intro e; cases e) b so l cp lr (by rfl) (HRW.out.up (HM.out.up.trans UD.out) HXB.out.2 id) LL.out (by simp; omega) UD.out.size ?_; intro v2 w2 G1 G2; have U2 := hid (UD.out.grown G2.out (fun k hk => (OwnB.made wr.heap.size wr l (Nat.le_refl _) (by omega)).base k hk)); have q2 : w2.cell? ⟨g, o + t, none⟩ = some (.slice (some ⟨b, so, none⟩) l cp) := (U2.out.cell (p := ⟨g, o + t, none⟩) (Nat.lt_of_lt_of_le HXB.out.1 hwz) id).trans q1))
        obtain ⟨q, cq, rfl, hq, hp⟩ := G1.out.1.pc G1.out.2
        rw [show ([] ++ lr : List Nat).length = l from LL.out]
        have HP : Hid (Pc w2 q lr ∧ wr.heap.size ≤ q) := ⟨hp, hq⟩
        have M2 : Hid (Mid 0 w.heap.size t w2 u6 u7 u6 u7 xs (shC X R t) w2) := ⟨OwnV.apart M0.out.a U2.out (fun _ _ => id), M0.out.b.apart U2.out (fun _ _ => id), Up.refl _ _, Nat.le_trans hwz U2.out.size⟩
        obtain ⟨sR, SR⟩ : ∃ s, Hid (strOf lr = s) := ⟨_, rfl⟩
        have CC : Hid (∀ W : World, Up (fun q => some q = u6.ownBlock ∨ some q = u7.ownBlock) w2 W → W.cell? ⟨g, o + t, none⟩ = some (.slice (some ⟨b, so, none⟩) l cp) ∧ (convert 22 9 (.slice (some ⟨b, so, none⟩) l cp)).run Tryz.prog W = .ok (.string sR) W) := fun W u => by
          have hn1 : ∀ k, k < w.heap.size → ¬ (some k = u6.ownBlock ∨ some k = u7.ownBlock) := fun k hk e => by
            rcases e with e | e
            · have := M2.out.a.base k e.symm; omega
            · have := M2.out.b.base k e.symm; omega
          refine ⟨(u.cell (p := ⟨g, o + t, none⟩) (Nat.lt_of_lt_of_le HXB.out.1 (Nat.le_trans hwz U2.out.size)) (hn1 g HXB.out.1)).trans q2, ?_⟩
          rw [← SR.out]
          exact conv_row ((HRW.out.up (HM.out.up.trans U2.out) HXB.out.2 id).up u (Nat.lt_of_lt_of_le HXB.out.2 (Nat.le_trans hwz U2.out.size)) (hn1 b HXB.out.2)) LL.out
        have q3 := CC.out w2.drew (Up.refl _ _).drew
        have q4 := q3.1
        have q5 := q3.2
        clear q0 q1 q2 q3 hq hp hmk i3 hwz
        go_wp2_with fail
        go_region_held3 (fun w' => w'.cell? ⟨g, o + t, none⟩ = some (.slice (some ⟨b, so, none⟩) l cp) ∧ (convert 22 9 (.slice (some ⟨b, so, none⟩) l cp)).run Tryz.prog w' = .ok (.string sR) w')
          (first | exact CC.out _ (by first | exact (Up.refl _ _).drew | exact ((Up.refl _ _).alloc _).drew | exact (((Up.refl _ _).alloc _).alloc _).drew | exact MA.out.up | exact MB.out.up | exact MA.out.up.alloc _ | exact MB.out.up.alloc _))
          ((first
            | (refine step_append_one (by rfl) (.tmp 40) (.tmp 42) (by rfl) w.heap.size u6 xs (by rfl) (by first | exact (M2.out.alloc _).drew.a | exact ((M2.out.alloc _).alloc _).drew.a | exact (MB.out.alloc _).a | exact MB.out.a) ⟨_, 0, none⟩ 1 (.slice (some ⟨q, 0, none⟩) l cq) (by rfl) (by first | exact World.cell?_alloc_new _ _ _ 0 | exact cell_one _ _ _ _ 0 | exact cell_two _ _ _ _ 0 | exact (KB.out _ _ _ G6 (by simp) (World.cell?_alloc_new _ _ _ 0)) | exact (KB.out _ _ _ G6 (by simp) (cell_one _ _ _ _ 0)) | exact (KB.out _ _ _ G6 (by simp) (cell_two _ _ _ _ 0))) (by rfl) hxl (by first | exact (M2.out.alloc _).drew.lt | exact ((M2.out.alloc _).alloc _).drew.lt | exact (MB.out.alloc _).lt | exact MB.out.lt) ?_; intro v3 w3 G3 G4; have MA := hid ((by first | exact (M2.out.alloc _).drew.growA G3.out G4.out | exact ((M2.out.alloc _).alloc _).drew.growA G3.out G4.out | exact (MB.out.alloc _).growA G3.out G4.out | exact MB.out.growA G3.out G4.out) : Mid 0 w.heap.size _ w2 u6 u7 v3 _ _ _ w3); have KA : Hid (∀ (W : World) (a : Addr) (y : Value), Hid (W.grownBy w3 u6.ownBlock) → w2.heap.size ≤ a.block → W.cell? a = some y → w3.cell? a = some y) := fun W a y hg hb hc => ((Up.ofg hg.out).cell (lt_of_cell hc) fun e => by have := (World.ownsRow.lt M2.out.a _ e.symm).2; omega).trans hc)
            | (refine step_append_shard (by rfl) (.tmp 44) (.tmp 51) (by rfl) w.heap.size t u7 _ (by rfl) (by first | exact (M2.out.alloc _).drew.b | exact ((M2.out.alloc _).alloc _).drew.b | exact (MA.out.alloc _).b | exact MA.out.b) _ 1 (.string sR) (.bool true) (by rfl) (by first | exact World.cell?_alloc_new _ _ _ 0 | exact cell_one _ _ _ _ 0 | exact cell_two _ _ _ _ 0 | exact (KA.out _ _ _ G4 (by simp) (World.cell?_alloc_new _ _ _ 0)) | exact (KA.out _ _ _ G4 (by simp) (cell_one _ _ _ _ 0)) | exact (KA.out _ _ _ G4 (by simp) (cell_two _ _ _ _ 0))) (by first | exact World.cell?_alloc_new _ _ _ 1 | exact cell_one _ _ _ _ 1 | exact cell_two _ _ _ _ 1 | exact (KA.out _ _ _ G4 (by simp) (World.cell?_alloc_new _ _ _ 1)) | exact (KA.out _ _ _ G4 (by simp) (cell_one _ _ _ _ 1)) | exact (KA.out _ _ _ G4 (by simp) (cell_two _ _ _ _ 1))) (by rfl) (by rfl) (by omega) (by first | exact (M2.out.alloc _).drew.lt | exact ((M2.out.alloc _).alloc _).drew.lt | exact (MA.out.alloc _).lt | exact MA.out.lt) ?_; intro v5 w5 G5 G6; have MB := hid ((by first | exact (M2.out.alloc _).drew.growB G5.out G6.out | exact ((M2.out.alloc _).alloc _).drew.growB G5.out G6.out | exact (MA.out.alloc _).growB G5.out G6.out | exact MA.out.growB G5.out G6.out) : Mid 0 w.heap.size _ w2 u6 u7 _ v5 _ _ w5); have KB : Hid (∀ (W : World) (a : Addr) (y : Value), Hid (W.grownBy w5 u7.ownBlock) → w2.heap.size ≤ a.block → W.cell? a = some y → w5.cell? a = some y) := fun W a y hg hb hc => ((Up.ofg hg.out).cell (lt_of_cell hc) fun e => by have := (World.ownsRow.lt M2.out.b _ e.symm).2; omega).trans hc)))
        all_goals
          go_wp2
          go_roundw
          case rel => first | exact ⟨t + 1, by omega, by go_num, _, HM.out.next (U2.out.nul.trans MA.out.up) MA.out.a MA.out.b (by unfold outS; rw [if_neg (by rw [hb]; exact Bool.false_ne_true)]; exact ⟨q, cq, by rw [LR.out, LL.out], by rw [LR.out]; exact HP.out.1.up MA.out.up (fun e => by rcases e with e | e; exact M2.out.a.ne_pc HP.out.1 e.symm; exact M2.out.b.ne_pc HP.out.1 e.symm), Nat.le_trans HM.out.up.size HP.out.2⟩) (by rw [if_neg (by rw [hb]; exact Bool.false_ne_true), LR.out, SR.out])⟩ | exact ⟨t + 1, by omega, by go_num, _, HM.out.next (U2.out.nul.trans MB.out.up) MB.out.a MB.out.b (by unfold outS; rw [if_neg (by rw [hb]; exact Bool.false_ne_true)]; exact ⟨q, cq, by rw [LR.out, LL.out], by rw [LR.out]; exact HP.out.1.up MB.out.up (fun e => by rcases e with e | e; exact M2.out.a.ne_pc HP.out.1 e.symm; exact M2.out.b.ne_pc HP.out.1 e.symm), Nat.le_trans HM.out.up.size HP.out.2⟩) (by rw [if_neg (by rw [hb]; exact Bool.false_ne_true), LR.out, SR.out])⟩
          case measure => simp [intOf]; omega
    · obtain rfl : t = n := by omega
      go_wp2
      go_ret2
      exact ⟨_, _, _, rfl, HM.out⟩

theorem bit_at {x t : Nat} (hx : x < 18446744073709551616) : (bits .and .u64 ((x : Int) / 2 ^ t) 1 == 1) = x.testBit t := by
  have e : (x : Int) / 2 ^ t = ((x / 2 ^ t : Nat) : Int) := by simp
  have hlt : x / 2 ^ t ≤ x := Nat.div_le_self _ _
  rw [e, Nat.testBit_eq_decide_div_mod_eq]
  clear e
  generalize x / 2 ^ t = d at hlt ⊢
  rw [and_one_u64 _ (by omega) (by omega), show ((d : Nat) : Int) % 2 = ((d % 2 : Nat) : Int) by omega]
  have h2 : d % 2 = 0 ∨ d % 2 = 1 := by omega
  rcases h2 with h | h <;> rw [h] <;> rfl
theorem or_at {x q : Nat} (hx : x < 18446744073709551616) (hq : q < 60) : bits .or .u64 (x : Int) ((2 ^ q : Nat) : Int) = ((x ||| 2 ^ q : Nat) : Int) :=
  bits_or_u64_nat x (2 ^ q) hx (Nat.lt_of_lt_of_le (Nat.pow_lt_pow_right (by omega) hq) (by decide))
theorem or_lt {x q : Nat} (hx : x < 18446744073709551616) (hq : q < 60) : x ||| 2 ^ q < 18446744073709551616 :=
  Nat.or_lt_two_pow (n := 64) hx (Nat.lt_of_lt_of_le (Nat.pow_lt_pow_right (by omega) hq) (by decide))
theorem or_bit (x q t : Nat) : (x ||| 2 ^ q).testBit t = (x.testBit t || decide (q = t)) := by rw [Nat.testBit_or, Nat.testBit_two_pow]
theorem outS_or {x q : Nat} {R : Nat → List Nat} : outS (x ||| 2 ^ q).testBit R = out1 (outS x.testBit R) q := by
  funext t
  unfold out1 outS
  rw [or_bit]
  by_cases e : q = t
  · subst e
    simp
  · simp [e, show ¬ t = q from fun h => e h.symm]
theorem Tl_less {S : Nat → Option (List Nat)} {q : Nat} (hS : (S q).isSome = true) : ∀ n, (Tl (out1 S q) n).length + (if q < n then 1 else 0) = (Tl S n).length
  | 0 => by simp [Tl]
  | n + 1 => by
    have ih := Tl_less hS n
    by_cases e : n = q
    · subst e
      have h : out1 S n n = none := by unfold out1; rw [if_pos rfl]
      obtain ⟨z, hz⟩ := Option.isSome_iff_exists.1 hS
      rw [Tl_none h, Tl_some hz, List.length_append]
      rw [if_neg (by omega)] at ih
      rw [if_pos (by omega)]
      simp only [List.length_singleton]
      omega
    · have h : out1 S q n = S n := by unfold out1; rw [if_neg e]
      have hi : (if q < n + 1 then 1 else 0) = (if q < n then 1 else 0) := by
        by_cases h1 : q < n
        · rw [if_pos h1, if_pos (by omega)]
        · rw [if_neg h1, if_neg (by omega)]
      rw [hi]
      cases hn : S n with
      | none => rw [Tl_none (by rw [h]; exact hn), Tl_none hn]; exact ih
      | some z => rw [Tl_some (z := z) (by rw [h]; exact hn), Tl_some hn, List.length_append, List.length_append]; simp only [List.length_singleton]; omega
theorem fine_outS {X : Nat → Bool} {R : Nat → List Nat} {n L : Nat} (h : ∀ t, (R t).length = L) : Fine (outS X R) n L := fun t ht z e => by
  unfold outS at e
  split at e
  · cases e
  · cases e; exact h t
theorem outS_zero {R : Nat → List Nat} : outS (0 : Nat).testBit R = fun t => some (R t) := by
  funext t
  unfold outS
  rw [Nat.zero_testBit]
  simp
theorem i64_and31 (n : Int) : ∃ k : Nat, bits .and .i64 n 31 = (k : Int) - 1 ∧ 1 ≤ k ∧ k ≤ 32 := by
  rw [i64_mask 5 (by omega) n 31 (by decide)]
  exact ⟨(n % 32).toNat + 1, by show n % 32 = _; omega, by omega, by omega⟩
/-- What 'Shards' made, as shards. -/
theorem Mds.ll {W w w0 : World} {FS : List Nat} {x : Nat → Bool} {t : Nat} {R : Nat → List Nat} {v1 v2 : Value} {xs : List Value} (h : Mds W x t R v1 v2 xs w) (hs : LS w0 FS W) (ht : 0 < t) :
    ∃ g cap, v1 = .slice (some ⟨g, 0, none⟩) t cap ∧ LL FS w g 0 t (outS x R) ∧ t ≤ cap := by
  obtain ⟨g, cap, e, e1, e2, e3, e4, e5⟩ := OwnV.row h.own (by rw [h.len]; exact ht)
  rw [h.len] at e e5
  refine ⟨g, cap, e, ⟨fun i hi => ?_, e2, hs.lt e1⟩, e5⟩
  obtain ⟨v, hv, hp⟩ := h.is i hi
  rw [Nat.zero_add]
  refine ⟨v, e3 i v hv, ?_⟩
  cases hx : outS x R i with
  | none => rw [hx] at hp; exact hp
  | some z =>
    rw [hx] at hp
    obtain ⟨b, cp, ev, p, hb⟩ := hp
    exact ⟨b, 0, cp, ev, p.row, p.lt, hs.lt hb⟩
theorem shardsL {w0 w : World} {FS : List Nat} {g o n cap x : Nat} {R : Nat → List Nat} (hs : LS w0 FS w) (hR : LL FS w g o n fun i => some (R i)) (hl : ∀ i, (R i).length ≤ 64) (n1 : 1 ≤ n) (hn : n ≤ 60) (hx : x < 18446744073709551616) :
    Calls Tryz.prog 12 #[.slice (some ⟨g, o, none⟩) n cap, .int .u64 x] w
      fun e w' => ∃ h c v2, e = .returned (.tuple #[.slice (some ⟨h, 0, none⟩) n c, v2]) ∧ LL FS w' h 0 n (outS x.testBit R) ∧ n ≤ c ∧ Nxt FS w w' := by
  refine (shards_any FS w0 w g o n cap x x.testBit R hs hR hl hn fun t _ => bit_at hx).mono ?_
  rintro e w' ⟨v1, v2, xs, rfl, m⟩
  obtain ⟨h, c, rfl, hll, hc⟩ := m.ll hs n1
  exact ⟨h, c, v2, rfl, hll, hc, hs.nul m.up⟩
end Go.Proofs.YtkenfabnbmkhbaaGreat
