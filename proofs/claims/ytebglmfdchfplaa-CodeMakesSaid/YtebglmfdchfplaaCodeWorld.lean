/- Rows of shards in memory. -/
import Derived.Test.YtebglmfdchfplaaMatLaw
import Derived.Test.YtebglmfdchfplaaMatPick
import Derived.Test.YtebglmfdchfplaaCodeMath
import Derived.Test.YtebglmfdchfplaaHand
import Derived.Deep.CutBlock
import Derived.Deep.DeepCutAuto
namespace Go.Proofs.Ytebglmfdchfplaa
open Go.RowKit
set_option linter.unusedVariables false

/-- n slices of bytes, one behind the other: of each its length is known. -/
def RowL (w : World) (g o n : Nat) (l : Nat → Nat) : Prop := ∀ i, i < n → ∃ a cap, w.cell? ⟨g, o + i, none⟩ = some (.slice a (l i) cap)
theorem RowL.up {S : Nat → Prop} {w w' : World} {g o n : Nat} {l : Nat → Nat} (h : RowL w g o n l) (u : Up S w w') (hb : g < w.heap.size) (hs : ¬ S g) : RowL w' g o n l := fun i hi => by
  obtain ⟨a, cap, e⟩ := h i hi
  exact ⟨a, cap, (u.cell (p := ⟨g, o + i, none⟩) hb hs).trans e⟩

/-- A shard in a cell: nothing, or a row. -/
def Shd (FS : List Nat) (w : World) (v : Value) : Option (List Nat) → Prop
  | none => v = .slice none 0 0
  | some z => ∃ b o cap, v = .slice (some ⟨b, o, none⟩) z.length cap ∧ LR FS w b o z
/-- n shards, one behind the other. -/
structure LL (FS : List Nat) (w : World) (g o n : Nat) (S : Nat → Option (List Nat)) : Prop where
  cells : ∀ i, i < n → ∃ v, w.cell? ⟨g, o + i, none⟩ = some v ∧ Shd FS w v (S i)
  lt : g < w.heap.size
  b : g ∉ FS
theorem Shd.nxt {FS : List Nat} {w w' : World} {v : Value} {x : Option (List Nat)} (h : Shd FS w v x) (n : Nxt FS w w') : Shd FS w' v x := by
  cases x with
  | none => exact h
  | some z =>
    obtain ⟨b, o, cap, e, r⟩ := h
    exact ⟨b, o, cap, e, r.nxt n⟩
theorem Shd.newF {FS : List Nat} {w w' : World} {G : Nat} {v : Value} {x : Option (List Nat)} (h : Shd FS w v x) (n : NewF w w' G) : Shd (G :: FS) w' v x := by
  cases x with
  | none => exact h
  | some z =>
    obtain ⟨b, o, cap, e, r⟩ := h
    exact ⟨b, o, cap, e, r.newF n⟩
theorem LL.nxt {FS : List Nat} {w w' : World} {g o n : Nat} {S : Nat → Option (List Nat)} (h : LL FS w g o n S) (m : Nxt FS w w') : LL FS w' g o n S :=
  ⟨fun i hi => by
    obtain ⟨v, hv, hs⟩ := h.cells i hi
    exact ⟨v, (m.up.cell (p := ⟨g, o + i, none⟩) h.lt h.b).trans hv, hs.nxt m⟩, Nat.lt_of_lt_of_le h.lt m.up.size, h.b⟩
theorem LL.newF {FS : List Nat} {w w' : World} {g o n G : Nat} {S : Nat → Option (List Nat)} (h : LL FS w g o n S) (m : NewF w w' G) : LL (G :: FS) w' g o n S :=
  ⟨fun i hi => by
    obtain ⟨v, hv, hs⟩ := h.cells i hi
    exact ⟨v, (m.n.up.cell (p := ⟨g, o + i, none⟩) h.lt id).trans hv, hs.newF m⟩, Nat.lt_of_lt_of_le h.lt m.n.up.size, fun hm => by
    rcases List.mem_cons.1 hm with e | hm
    · have := h.lt
      have := m.eq
      omega
    · exact h.b hm⟩
theorem LL.at {FS : List Nat} {w : World} {g o n i : Nat} {S : Nat → Option (List Nat)} {z : List Nat} (h : LL FS w g o n S) (hi : i < n) (e : S i = some z) :
    ∃ b so cap, w.cell? ⟨g, o + i, none⟩ = some (.slice (some ⟨b, so, none⟩) z.length cap) ∧ LR FS w b so z := by
  obtain ⟨v, hv, hs⟩ := h.cells i hi
  rw [e] at hs
  obtain ⟨b, so, cap, rfl, r⟩ := hs
  exact ⟨b, so, cap, hv, r⟩
theorem LL.not {FS : List Nat} {w : World} {g o n i : Nat} {S : Nat → Option (List Nat)} (h : LL FS w g o n S) (hi : i < n) (e : S i = none) : w.cell? ⟨g, o + i, none⟩ = some (.slice none 0 0) := by
  obtain ⟨v, hv, hs⟩ := h.cells i hi
  rw [e] at hs
  rw [hv, show v = _ from hs]
theorem LL.lens {FS : List Nat} {w : World} {g o n : Nat} {S : Nat → Option (List Nat)} (h : LL FS w g o n S) : RowL w g o n fun i => ((S i).getD []).length := fun i hi => by
  cases e : S i with
  | none => exact ⟨none, 0, by simp only [e]; exact h.not hi e⟩
  | some z =>
    obtain ⟨b, so, cap, hv, _⟩ := h.at hi e
    exact ⟨_, cap, by simp only [e]; exact hv⟩
theorem LL.congr {FS : List Nat} {w : World} {g o n : Nat} {S T : Nat → Option (List Nat)} (h : LL FS w g o n S) (e : ∀ i, i < n → S i = T i) : LL FS w g o n T :=
  ⟨fun i hi => by rw [← e i hi]; exact h.cells i hi, h.lt, h.b⟩
theorem LL.sub {FS : List Nat} {w : World} {g o n : Nat} {S : Nat → Option (List Nat)} (h : LL FS w g o n S) (d m : Nat) (hd : d + m ≤ n) : LL FS w g (o + d) m fun i => S (d + i) :=
  ⟨fun i hi => by rw [Nat.add_assoc]; exact h.cells (d + i) (by omega), h.lt, h.b⟩

/-! ### Lines that a call makes -/
theorem Elim.step {S : Nat → Prop} {W w w' : World} {F gl n m : Nat} {b : Nat → Nat} {L : Nat → List Nat} (h : Elim W F gl n m b L w) (u : Up S w w') (h1 : ¬ S gl) (h2 : ∀ i, i < n → ¬ S (b i)) (h3 : ∀ k, k < W.heap.size → S k → k = F) : Elim W F gl n m b L w' :=
  { h with
    lin := fun i hi => (u.cell (p := ⟨gl, i, none⟩) h.gll h1).trans (h.lin i hi), frz := fun i => (u.froz (p := ⟨gl, i, none⟩) h.gll h1).trans (h.frz i)
    gll := Nat.lt_of_lt_of_le h.gll u.size, rows := fun i hi => (h.rows i hi).up u (h2 i hi)
    up := ⟨u.os.trans h.up.os, u.tape.trans h.up.tape, u.output.trans h.up.output, Nat.le_trans h.up.size u.size, fun k hk hs => (u.block k (Nat.lt_of_lt_of_le hk h.up.size) fun e => hs (h3 k hk e)).trans (h.up.block k hk hs)⟩ }
theorem Elim.nul {W w w' : World} {F gl n m : Nat} {b : Nat → Nat} {L : Nat → List Nat} (h : Elim W F gl n m b L w) (u : Up Nul w w') : Elim W F gl n m b L w' := h.step u id (fun _ _ => id) fun _ _ => False.elim
theorem Elim.congr {W w : World} {F gl n m : Nat} {b : Nat → Nat} {L M : Nat → List Nat} (h : Elim W F gl n m b L w) (e : ∀ i, i < n → L i = M i) : Elim W F gl n m b M w :=
  { h with rows := fun i hi => by rw [← e i hi]; exact h.rows i hi, lens := fun i hi => by rw [← e i hi]; exact h.lens i hi }
theorem Elim.base {W w : World} {F gl n m d : Nat} {b : Nat → Nat} {L : Nat → List Nat} (h : Elim (W.drewN d) F gl n m b L w) : Elim W F gl n m b L w :=
  { h with glo := h.glo, own := h.own, up := ((Up.refl _ W).drewN d).trans h.up }
/-- One more line of noughts. -/
theorem Bes.make {W w : World} {gl n m k : Nat} {b : Nat → Nat} {L : Nat → List Nat} (h : Bes W gl n m k b L w) (hk : k < n) :
    Bes W gl n m (k + 1) (fun i => if i = k then w.heap.size else b i) (fun i => if i = k then zer m else L i) ((w.alloc (.cells (bys (zer m)) 5)).setCell ⟨gl, k, none⟩ (.slice (some ⟨w.heap.size, 0, none⟩) m m)) := by
  obtain ⟨v0, c0⟩ := (h.alloc (.cells (bys (zer m)) 5)).any k hk
  have hne : w.heap.size ≠ gl := by have := h.gll; omega
  exact h.next hk rfl (World.cell?_setCell_same _ _ _ c0) ((Blk.new w _ (zer_small _)).other (p := ⟨gl, k, none⟩) hne _) (zer_length _) (by simp) rfl rfl rfl
    (fun j hj hn => by rw [Below.heap_setCell _ _ _ _ hn]; exact Below.heap_alloc _ _ _ hj)
    (fun i hi => by
      rw [World.cell?_setCell_other _ _ _ _ (by intro e; have := congrArg Addr.off e; simp at this; omega)]
      exact World.cell?_alloc_past _ _ _ h.gll)
    fun i => by rw [World.frozen?_setCell]; exact (h.alloc _).frz i
/-- Lines, told as shards. -/
theorem Elim.ll {FS : List Nat} {W w0 w : World} {F gl n m : Nat} {b : Nat → Nat} {L : Nat → List Nat} (h : Elim W F gl n m b L w) (hs : LS w0 FS W) : LL FS w gl 0 n fun i => some (L i) :=
  ⟨fun i hi => by
    have hr := (h.rows i hi).row 0 m (by rw [h.lens i hi]; omega)
    rw [List.drop_zero, List.take_of_length_le (by rw [h.lens i hi]; exact Nat.le_refl _)] at hr
    refine ⟨_, by rw [Nat.zero_add]; exact h.lin i hi, b i, 0, m, by rw [h.lens i hi], hr, h.lt hi, hs.lt (h.own i hi).1⟩, h.gll, hs.lt h.glo⟩
/-! ### 'across' -/
/-- The product of the matrix z and the rows R, place by place: its row j. -/
def acrZ (k L : Nat) (z : List Nat) (R : Nat → List Nat) (j : Nat) : List Nat := tab L fun t => GfM.xs k fun s => GfM.mul (z.getD (j * k + s) 0) ((R s).getD t 0)
/-- The lines that are filled, and the column. -/
structure Acs (w : World) (F gl r L col k : Nat) (b : Nat → Nat) (P : Nat → List Nat) (y : List Nat) (wr : World) : Prop where
  el : Elim w F gl r L b P wr
  cb : Blk wr col y
  cl : y.length = k
  cw : w.heap.size ≤ col
  cg : col ≠ gl
  cr : ∀ i, i < r → col ≠ b i
  fld : Fld F wr
theorem Acs.put {w wr : World} {F gl r L col k : Nat} {b : Nat → Nat} {P : Nat → List Nat} {y : List Nat} (h : Acs w F gl r L col k b P y wr) (hF : F < w.heap.size) (i v : Nat) (hv : v < 256) :
    Acs w F gl r L col k b P (y.set i v) (wr.setCell ⟨col, i, none⟩ (.int .u8 v)) := by
  have u : Up (One col) wr (wr.setCell ⟨col, i, none⟩ (.int .u8 v)) := (Up.refl _ _).setCell (p := ⟨col, i, none⟩) (.inr (show One col col from rfl)) _
  have hc := h.cw
  exact ⟨h.el.step u (fun e => h.cg e.symm) (fun i hi e => h.cr i hi e.symm) (fun k hk e => by unfold One at e; omega), h.cb.set i v hv, by rw [List.length_set]; exact h.cl, h.cw, h.cg, h.cr, h.fld.up u (by unfold One; omega)⟩
theorem Acs.times {w wr w' : World} {F gl r L col k : Nat} {b : Nat → Nat} {P : Nat → List Nat} {y : List Nat} (h : Acs w F gl r L col k b P y wr) (hF : F < w.heap.size) (u : Up (One F) wr w') (f : Fld F w') : Acs w F gl r L col k b P y w' := by
  have hc := h.cw
  have hg := h.el.glo
  exact ⟨h.el.step u (by unfold One; omega) (fun i hi e => by have := (h.el.own i hi).1; unfold One at e; omega) fun k hk e => e, h.cb.up u (by unfold One; omega), h.cl, h.cw, h.cg, h.cr, f⟩
theorem Acs.turn {w wr : World} {F gl r L col k : Nat} {b : Nat → Nat} {P : Nat → List Nat} {y : List Nat} (h : Acs w F gl r L col k b P y wr) (hF : F < w.heap.size) {j : Nat} (hj : j < r) (t v : Nat) (hv : v < 256) :
    Acs w F gl r L col k b (updL P j ((P j).set t v)) y (wr.setCell ⟨b j, t, none⟩ (.int .u8 v)) := by
  have u : Up (One (b j)) wr (wr.setCell ⟨b j, t, none⟩ (.int .u8 v)) := (Up.refl _ _).setCell (p := ⟨b j, t, none⟩) (.inr (show One (b j) (b j) from rfl)) _
  have hb := (h.el.own j hj).1
  exact ⟨h.el.turn hj ((h.el.rows j hj).set t v hv) (by rw [List.length_set]; exact h.el.lens j hj) u, h.cb.up u (fun e => h.cr j hj e), h.cl, h.cw, h.cg, h.cr, h.fld.up u (by unfold One; omega)⟩
/-- Places t of the first j lines are told, and all ahead of t. -/
def Tld (r L t j : Nat) (V : Nat → Nat → Nat) (P : Nat → List Nat) : Prop := ∀ i, i < r → ∀ u, u < L → (u < t ∨ (u = t ∧ i < j)) → (P i).getD u 0 = V i u
theorem Tld.next {r L t j v : Nat} {V : Nat → Nat → Nat} {P : Nat → List Nat} (h : Tld r L t j V P) (hl : ∀ i, i < r → (P i).length = L) (hj : j < r) (ht : t < L) (hv : V j t = v) : Tld r L t (j + 1) V (updL P j ((P j).set t v)) := by
  intro i hi u hu hc
  unfold updL
  by_cases e : i = j
  · subst e
    rw [if_pos rfl, getD_set _ _ _ _ (by rw [hl i hi]; exact ht)]
    by_cases e2 : u = t
    · rw [if_pos e2, e2, hv]
    · rw [if_neg e2]
      exact h i hi u hu (by omega)
  · rw [if_neg e]
    exact h i hi u hu (by omega)
theorem Tld.line {r L t : Nat} {V : Nat → Nat → Nat} {P : Nat → List Nat} (h : Tld r L t r V P) : Tld r L (t + 1) 0 V P := fun i hi u hu hc => h i hi u hu (by omega)

set_option maxRecDepth 100000 in
set_option maxHeartbeats 1600000 in
theorem across_any (p q F r k g o cap L : Nat) (z : List Nat) (R : Nat → List Nat) (FS : List Nat) (w0 w : World) (hs : LS w0 FS w) (hm : LM FS w p q F r k z) (hR : LL FS w g o k fun i => some (R i)) (hl : ∀ i, i < k → (R i).length = L) (hL : L ≤ 64) :
    Calls Try.prog 36 #[.pointer (some ⟨p, 0, none⟩), .slice (some ⟨g, o, none⟩) k cap] w
      fun e w' => ∃ gl b, e = .returned (.tuple #[.slice (some ⟨gl, 0, none⟩) r r, .int .i64 0]) ∧ Elim w F gl r L b (acrZ k L z R) w' ∧ Fld F w' := by
  have c1 := hm.mat.c1
  have r32 := hm.mat.r32
  have k32 := hm.mat.c32
  have HS0 := hid (And.intro hs (And.intro hm hR))
  have HL := hid hl
  have HFM := hid hm.F
  clear hs hm hR hl
  go_enter Try.func36, Try.ntmps36
  go_wp2_with fail
  refine (size_any p q F r k z _ HS0.out.2.1.mat).mono ?_
  rintro e wq ⟨rfl, nq, EQ⟩
  have hn := HS0.out.1.drewN nq
  rw [← EQ] at hn
  have HS : Hid (LS w0 FS wq ∧ LM FS wq p q F r k z ∧ LL FS wq g o k fun i => some (R i)) := ⟨HS0.out.1.nxt hn, HS0.out.2.1.nxt hn, HS0.out.2.2.nxt hn⟩
  have HEQ := hid EQ
  have hmk := make_slices wq r (by omega)
  have HB := hid (Bes.start wq r L (fun _ => 0) (fun _ => []))
  have HFW : Hid (F < wq.heap.size) := (HS.out.1.fld F HFM.out).lt
  have HT : Hid (∀ W, Up (One F) wq W → Fld F W → Nxt FS wq W) := fun W u f => HS.out.1.one HFM.out u f
  clear hn EQ HS0
  go_wp2_with fail
  obtain ⟨gl, GL⟩ : ∃ x, Hid (x = wq.heap.size) := ⟨_, rfl⟩
  rw [← GL.out] at HB ⊢
  go_loopw [27] (fun i wr => ∃ j : Nat, j ≤ r ∧ i = .int .i64 j ∧ ∃ b P, Bes wq gl r L j b P wr ∧ ∀ i, i < j → P i = zer L) (fun i _ => r - (intOf i).toNat)
  case atStart => exact ⟨0, by omega, rfl, _, _, HB.out, fun _ h => absurd h (Nat.not_lt_zero _)⟩
  case round =>
    clear HB hmk
    obtain ⟨j, hj, rfl, b, P, hb, hP⟩ := hrel
    have HBB := hid hb
    have HP := hid hP
    clear hb hP
    by_cases hlt : j < r
    · obtain ⟨b0, o0, cap0, x0, _⟩ := (HS.out.2.2.nxt (HS.out.1.nul HBB.out.up)).at (i := 0) c1 rfl
      rw [HL.out 0 c1, Nat.add_zero] at x0
      have hmk2 := make_bytes wr L (by omega)
      obtain ⟨v0, y0⟩ := (HBB.out.alloc (.cells (bys (zer L)) 5)).any j hlt
      have f0 := (HBB.out.alloc (.cells (bys (zer L)) 5)).frz j
      have HNX := hid (HBB.out.make hlt)
      have i1 : (0 : Int) ≤ (j : Int) := by omega
      have i2 : (j : Int) < (r : Int) := by omega
      go_wp2
      go_roundw
      case rel => exact ⟨j + 1, by omega, by go_num, _, _, HNX.out, fun i hi => by
        by_cases e : i = j
        · simp [e]
        · simp only [e, if_false]
          exact HP.out i (by omega)⟩
      case measure => simp [intOf]; omega
    · obtain rfl : j = r := by omega
      have hel := HBB.out.elim (F := F)
      have hmk3 := make_bytes wr k (by omega)
      have hac : Acs wq F gl j L wr.heap.size k b P (zer k) (wr.alloc (.cells (bys (zer k)) 5)) :=
        ⟨hel.alloc _, Blk.new wr _ (zer_small _), zer_length _, HBB.out.up.size, by have := HBB.out.gll; omega, fun i hi => by have := hel.lt hi; omega, ((HS.out.1.fld F HFM.out).up HBB.out.up id).alloc _⟩
      have HAC := hid hac
      obtain ⟨b0, o0, cap0, x0, _⟩ := (HS.out.2.2.nxt (HT.out _ hac.el.up hac.fld)).at (i := 0) c1 rfl
      rw [HL.out 0 c1, Nat.add_zero] at x0
      clear hel hac HBB HP
      go_wp2_with fail
      generalize wr.alloc (.cells (bys (zer k)) 5) = wa at *
      generalize wr.heap.size = col at *
      obtain ⟨V, HV⟩ : ∃ V : Nat → Nat → Nat, Hid (V = fun j t => GfM.xs k fun s => GfM.mul (z.getD (j * k + s) 0) ((R s).getD t 0)) := ⟨_, rfl⟩
      have HV8 : Hid (∀ j t, V j t < 256) := fun j t => by rw [HV.out]; exact GfM.xs_lt fun _ _ => GfM.mul_lt _ _
      clear x0 hmk3
      go_loopw [46] (fun i wr => ∃ t : Nat, t ≤ L ∧ i = .int .i64 t ∧ ∃ P y, Acs wq F gl j L col k b P y wr ∧ Tld j L t 0 V P) (fun i _ => L - (intOf i).toNat)
      case atStart => exact ⟨0, by omega, rfl, _, _, HAC.out, fun i hi u hu hc => by omega⟩
      case round =>
        clear HAC
        obtain ⟨t, ht, rfl, P, y, ha, hT⟩ := hrel
        have HA := hid ha
        have HTL := hid hT
        clear ha hT
        by_cases hlt2 : t < L
        · go_wp2_with fail
          go_loopw [51] (fun i wr => ∃ s : Nat, s ≤ k ∧ i = .int .i64 s ∧ ∃ y, Acs wq F gl j L col k b P y wr ∧ ∀ i, i < s → y.getD i 0 = (R i).getD t 0) (fun i _ => k - (intOf i).toNat)
          case atStart => exact ⟨0, by omega, rfl, _, HA.out, fun _ h => absurd h (Nat.not_lt_zero _)⟩
          case round =>
            clear HA
            obtain ⟨s, hs, rfl, y, ha, hy⟩ := hrel
            have HA := hid ha
            have HY := hid hy
            clear ha hy
            have HN := hid (HT.out _ HA.out.el.up HA.out.fld)
            by_cases hlt3 : s < k
            · obtain ⟨bs, os, caps, xs, hr⟩ := (HS.out.2.2.nxt HN.out).at hlt3 rfl
              rw [HL.out s hlt3] at xs
              have xc := hr.row.cells t (by rw [HL.out s hlt3]; exact hlt2)
              have x8 := hr.row.small t
              obtain ⟨x, X⟩ : ∃ x, Hid ((R s).getD t 0 = x) := ⟨_, rfl⟩
              rw [X.out] at xc x8
              have y0 := HA.out.cb.cell s (by rw [HA.out.cl]; exact hlt3)
              have f0 := HA.out.cb.froz s
              generalize y.getD s 0 = ys at y0
              have i1 : (0 : Int) ≤ (s : Int) := by omega
              have i2 : (s : Int) < (k : Int) := by omega
              have i3 : (0 : Int) ≤ (t : Int) := by omega
              have i4 : (t : Int) < (L : Int) := by omega
              clear hr
              go_wp2
              go_roundw
              case rel => exact ⟨s + 1, by omega, by go_num, _, HA.out.put HFW.out s x x8, fun i hi => by
                rw [getD_set _ _ _ _ (by rw [HA.out.cl]; exact hlt3)]
                split
                · next e => rw [e, X.out]
                · exact HY.out i (by omega)⟩
              case measure => simp [intOf]; omega
            · obtain rfl : s = k := by omega
              have hrow := HA.out.cb.row 0 s (by rw [HA.out.cl]; omega)
              rw [List.drop_zero, List.take_of_length_le (by rw [HA.out.cl]; exact Nat.le_refl _)] at hrow
              have HTM := hid (times_good p q F j s col 0 s z y wr (HS.out.2.1.nxt HN.out).mat HA.out.fld hrow HA.out.cl HA.out.cb.lt (by have := HA.out.cw; have := HFW.out; omega))
              clear hrow
              go_wp2_with fail
              refine HTM.out.mono ?_
              rintro e wt ⟨rfl, t1, t2, t3⟩
              have HT1 := hid (And.intro (HA.out.times HFW.out t2 t3) t1)
              have HSB : Hid (∀ i, i < j → wr.heap.size ≠ b i) := fun i hi => by have := HA.out.el.lt hi; omega
              have HVV : Hid (∀ i, i < j → sumAt s z y i = V i t) := fun i hi => by
                rw [HV.out]
                exact GfM.xs_congr fun u hu => by rw [HY.out u hu]
              generalize wr.heap.size = sb at *
              clear t1 t2 t3 HTM HA HN HY
              go_wp2_with fail
              go_loopw [75] (fun i wr => ∃ n : Nat, n ≤ j ∧ i = .int .i64 n ∧ ∃ P, Acs wq F gl j L col s b P y wr ∧ Blk wr sb (tab j fun i => sumAt s z y i) ∧ Tld j L t n V P) (fun i _ => j - (intOf i).toNat)
              case atStart => exact ⟨0, by omega, rfl, _, HT1.out.1, HT1.out.2, HTL.out⟩
              case round =>
                clear HT1 HTL
                obtain ⟨n, hn, rfl, P, ha, hsb, hT⟩ := hrel
                have HA := hid ha
                have HSU := hid hsb
                have HTL := hid hT
                clear ha hsb hT
                by_cases hlt4 : n < j
                · have x1 := HSU.out.cell n (by rw [tab_length]; exact hlt4)
                  rw [tab_at _ _ _ hlt4] at x1
                  have v8 : sumAt s z y n < 256 := sumAt_lt _ _ _ _
                  have HVN := hid (HVV.out n hlt4)
                  generalize sumAt s z y n = v at x1 v8 HVN
                  have x2 := HA.out.el.lin n hlt4
                  have x3 := (HA.out.el.rows n hlt4).cell t (by rw [HA.out.el.lens n hlt4]; exact hlt2)
                  have f3 := (HA.out.el.rows n hlt4).froz t
                  generalize (P n).getD t 0 = u at x3
                  have i1 : (0 : Int) ≤ (n : Int) := by omega
                  have i2 : (n : Int) < (j : Int) := by omega
                  have i3 : (0 : Int) ≤ (t : Int) := by omega
                  have i4 : (t : Int) < (L : Int) := by omega
                  have HNE := hid (HSB.out n hlt4)
                  go_wp2
                  go_roundw
                  case rel => exact ⟨n + 1, by omega, by go_num, _, HA.out.turn HFW.out hlt4 t v v8, HSU.out.other (p := ⟨b n, t, none⟩) HNE.out _, HTL.out.next HA.out.el.lens hlt4 hlt2 HVN.out.symm⟩
                  case measure => simp [intOf]; omega
                · obtain rfl : n = j := by omega
                  go_wp2
                  go_roundw
                  case rel => exact ⟨t + 1, by omega, by go_num, _, _, HA.out, HTL.out.line⟩
                  case measure => simp [intOf]; omega
        · obtain rfl : t = L := by omega
          go_wp2
          go_ret2
          have he := HA.out.el.congr (M := acrZ k t z R) fun i hi => eq_tab (HA.out.el.lens i hi) fun u hu => by
            have := HTL.out i hi u hu (.inl hu)
            rw [this, HV.out]
          have hq := HEQ.out
          subst hq
          exact ⟨gl, b, rfl, he.base, HA.out.fld⟩
end Go.Proofs.Ytebglmfdchfplaa
