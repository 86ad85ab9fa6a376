/- A Code in memory; 'chosen', 'there'. -/
import Derived.Test.YtebglmfdchfplaaCodeAlike
namespace Go.Proofs.Ytebglmfdchfplaa
open Go.RowKit
set_option linter.unusedVariables false

/-- A Code of k data and r parities. -/
structure CD (FS : List Nat) (w : World) (c F k r pp pq sp sq : Nat) (Z : List Nat) : Prop where
  k0 : w.cell? ⟨c, 0, none⟩ = some (.int .i64 k)
  r0 : w.cell? ⟨c, 1, none⟩ = some (.int .i64 r)
  p0 : w.cell? ⟨c, 2, none⟩ = some (.pointer (some ⟨pp, 0, none⟩))
  s0 : w.cell? ⟨c, 3, none⟩ = some (.pointer (some ⟨sp, 0, none⟩))
  lt : c < w.heap.size
  b : c ∉ FS
  par : LM FS w pp pq F r k Z
  shd : LM FS w sp sq F (k + r) k (unitZ k ++ Z)
  k14 : k ≤ 14
  r4 : r ≤ 4
theorem CD.nxt {FS : List Nat} {w w' : World} {c F k r pp pq sp sq : Nat} {Z : List Nat} (h : CD FS w c F k r pp pq sp sq Z) (n : Nxt FS w w') : CD FS w' c F k r pp pq sp sq Z :=
  have e : ∀ j, w'.cell? ⟨c, j, none⟩ = w.cell? ⟨c, j, none⟩ := fun j => n.up.cell (p := ⟨c, j, none⟩) h.lt h.b
  ⟨(e 0).trans h.k0, (e 1).trans h.r0, (e 2).trans h.p0, (e 3).trans h.s0, Nat.lt_of_lt_of_le h.lt n.up.size, h.b, h.par.nxt n, h.shd.nxt n, h.k14, h.r4⟩
theorem CD.newF {FS : List Nat} {w w' : World} {c F k r pp pq sp sq G : Nat} {Z : List Nat} (h : CD FS w c F k r pp pq sp sq Z) (n : NewF w w' G) : CD (G :: FS) w' c F k r pp pq sp sq Z :=
  have e : ∀ j, w'.cell? ⟨c, j, none⟩ = w.cell? ⟨c, j, none⟩ := fun j => n.n.up.cell (p := ⟨c, j, none⟩) h.lt id
  ⟨(e 0).trans h.k0, (e 1).trans h.r0, (e 2).trans h.p0, (e 3).trans h.s0, Nat.lt_of_lt_of_le h.lt n.n.up.size, fun hm => by
    rcases List.mem_cons.1 hm with e | hm
    · have := h.lt
      have := n.eq
      omega
    · exact h.b hm, h.par.newF n, h.shd.newF n, h.k14, h.r4⟩

theorem Shd.slice {FS : List Nat} {w : World} {v : Value} {x : Option (List Nat)} (h : Shd FS w v x) : ∃ a n cap, v = .slice a n cap := by
  cases x with
  | none => exact ⟨_, _, _, h⟩
  | some z =>
    obtain ⟨b, o, cap, e, _⟩ := h
    exact ⟨_, _, _, e⟩
/-- Shards that are being chosen, the first k of them told. -/
structure Chs (FS : List Nat) (w : World) (h m k : Nat) (T : Nat → Option (List Nat)) (wr : World) : Prop where
  told : ∀ i, i < k → ∃ v, wr.cell? ⟨h, i, none⟩ = some v ∧ Shd FS w v (T i)
  any : ∀ i, i < m → ∃ v, wr.cell? ⟨h, i, none⟩ = some v
  frz : ∀ i, wr.frozen? ⟨h, i, none⟩ = false
  lt : h < wr.heap.size
  hw : w.heap.size ≤ h
  up : Up Nul w wr
theorem Chs.start (FS : List Nat) (w : World) (m : Nat) (T : Nat → Option (List Nat)) : Chs FS w w.heap.size m 0 T (w.alloc (.cells (nilS m) 22)) :=
  ⟨fun _ h => absurd h (Nat.not_lt_zero _), fun i hi => ⟨_, (World.cell?_alloc_new w _ _ i).trans (nilS_at m i hi)⟩, fun i => World.frozen?_alloc_new w _ _ i, by simp, Nat.le_refl _, (Up.refl _ _).alloc _⟩
theorem Chs.next {FS : List Nat} {w wr : World} {h m k : Nat} {T : Nat → Option (List Nat)} (c : Chs FS w h m k T wr) (hk : k < m) {v : Value} (hv : Shd FS w v (T k)) : Chs FS w h m (k + 1) T (wr.setCell ⟨h, k, none⟩ v) := by
  obtain ⟨v0, c0⟩ := c.any k hk
  have hc : ∀ i, i ≠ k → (wr.setCell ⟨h, k, none⟩ v).cell? ⟨h, i, none⟩ = wr.cell? ⟨h, i, none⟩ := fun i hi => World.cell?_setCell_other _ _ _ _ (by intro e; have := congrArg Addr.off e; simp at this; omega)
  refine ⟨fun i hi => ?_, fun i hi => ?_, fun i => by rw [World.frozen?_setCell]; exact c.frz i, by simpa using c.lt, c.hw, c.up.setCell (p := ⟨h, k, none⟩) (.inl c.hw) _⟩
  · by_cases e : i = k
    · subst e
      exact ⟨v, World.cell?_setCell_same _ _ _ c0, hv⟩
    · rw [hc i e]
      exact c.told i (by omega)
  · by_cases e : i = k
    · subst e
      exact ⟨v, World.cell?_setCell_same _ _ _ c0⟩
    · rw [hc i e]
      exact c.any i hi
/-- A row of places, perhaps without any. -/
def Plc (w : World) (a : Option Addr) (m : Nat) (f : Nat → Nat) : Prop := m = 0 ∨ ∃ gp op, a = some ⟨gp, op, none⟩ ∧ gp < w.heap.size ∧ RowI w gp op m fun i => (f i : Int)
theorem Plc.up {w w' : World} {a : Option Addr} {m : Nat} {f : Nat → Nat} (h : Plc w a m f) (u : Up Nul w w') : Plc w' a m f := by
  rcases h with h | ⟨gp, op, e, hl, hr⟩
  · exact .inl h
  · exact .inr ⟨gp, op, e, Nat.lt_of_lt_of_le hl u.size, hr.up u hl id⟩

set_option maxHeartbeats 800000 in
theorem chosen_any (FS : List Nat) (w0 w : World) (g o n cap m capm : Nat) (a : Option Addr) (S : Nat → Option (List Nat)) (f : Nat → Nat) (hs : LS w0 FS w) (hS : LL FS w g o n S) (hf : Plc w a m f) (hlt : ∀ i, i < m → f i < n) (hm : m ≤ 1000) :
    Calls Try.prog 59 #[.slice (some ⟨g, o, none⟩) n cap, .slice a m capm] w
      fun e w' => ∃ h, e = .returned (.slice (some ⟨h, 0, none⟩) m m) ∧ LL FS w' h 0 m (fun i => S (f i)) ∧ Up Nul w w' ∧ w.heap.size ≤ h := by
  have hmk := make_slices w m hm
  have HC := hid (Chs.start FS w m fun i => S (f i))
  have HS := hid (And.intro hs hS)
  have HF := hid hf
  have HLT := hid hlt
  clear hs hS hf hlt
  go_enter Try.func59, Try.ntmps59
  go_wp2_with fail
  obtain ⟨h, GL⟩ : ∃ x, Hid (x = w.heap.size) := ⟨_, rfl⟩
  rw [← GL.out] at HC ⊢
  go_loopw [13] (fun i wr => ∃ k : Nat, k ≤ m ∧ i = .int .i64 k ∧ Chs FS w h m k (fun i => S (f i)) wr) (fun i _ => m - (intOf i).toNat)
  case atStart => exact ⟨0, by omega, rfl, HC.out⟩
  case round =>
    clear HC hmk
    obtain ⟨k, hk, rfl, hc⟩ := hrel
    have HC := hid hc
    clear hc
    by_cases hlt : k < m
    · obtain ⟨gp, op, rfl, hgp, hrow⟩ : ∃ gp op, a = some ⟨gp, op, none⟩ ∧ gp < w.heap.size ∧ RowI w gp op m fun i => (f i : Int) := by
        rcases HF.out with e | e
        · omega
        · exact e
      have x1 := (hrow.up HC.out.up hgp id) k hlt
      have hfn := HLT.out k hlt
      have HSK : Hid (∃ v, w.cell? ⟨g, o + f k, none⟩ = some v ∧ Shd FS w v (S (f k))) := HS.out.2.cells (f k) hfn
      obtain ⟨fk, FK⟩ : ∃ x, Hid (f k = x) := ⟨_, rfl⟩
      obtain ⟨v, hv, hsv⟩ := HSK.out
      have x2 := (HC.out.up.cell (p := ⟨g, o + f k, none⟩) HS.out.2.lt id).trans hv
      have x1' : wr.cell? ⟨gp, op + k, none⟩ = some (.int .i64 (f k : Int)) := x1
      rw [FK.out] at x1' x2 hfn
      obtain ⟨va, vn, vc, rfl⟩ := hsv.slice
      have HV := hid hsv
      obtain ⟨v0, y0⟩ := HC.out.any k hlt
      have f0 := HC.out.frz k
      have i1 : (0 : Int) ≤ (k : Int) := by omega
      have i2 : (k : Int) < (m : Int) := by omega
      have i3 : (0 : Int) ≤ (fk : Int) := by omega
      have i4 : (fk : Int) < (n : Int) := by omega
      clear x1 hrow hsv hv HSK
      go_wp2
      go_roundw
      case rel => exact ⟨k + 1, by omega, by go_num, HC.out.next hlt HV.out⟩
      case measure => simp [intOf]; omega
    · obtain rfl : m = k := by omega
      go_wp2
      go_ret
      have hn := HS.out.1.nul HC.out.up
      exact ⟨h, rfl, ⟨fun i hi => by
        obtain ⟨v, h1, h2⟩ := HC.out.told i hi
        exact ⟨v, by rw [Nat.zero_add]; exact h1, h2.nxt hn⟩, HC.out.lt, HS.out.1.lt HC.out.hw⟩, HC.out.up, HC.out.hw⟩

/-- The places of the shards that are there. -/
def Tl (S : Nat → Option (List Nat)) (n : Nat) : List Nat := (List.range n).filter fun i => (S i).isSome
theorem Tl_zero (S : Nat → Option (List Nat)) : Tl S 0 = [] := rfl
theorem Tl_some {S : Nat → Option (List Nat)} {k : Nat} {z : List Nat} (h : S k = some z) : Tl S (k + 1) = Tl S k ++ [k] := by simp [Tl, List.range_succ, h]
theorem Tl_none {S : Nat → Option (List Nat)} {k : Nat} (h : S k = none) : Tl S (k + 1) = Tl S k := by simp [Tl, List.range_succ, h]
theorem Tl_len (S : Nat → Option (List Nat)) (n : Nat) : (Tl S n).length ≤ n := by
  have := List.length_filter_le (fun i => (S i).isSome) (List.range n)
  simpa [Tl] using this
theorem Tl_mem {S : Nat → Option (List Nat)} {n i : Nat} (h : i < (Tl S n).length) : (Tl S n).getD i 0 < n ∧ ∃ z, S ((Tl S n).getD i 0) = some z := by
  have := GfM.getD_mem h
  unfold Tl at this ⊢
  rw [List.mem_filter] at this
  exact ⟨List.mem_range.1 this.1, Option.isSome_iff_exists.1 this.2⟩
theorem Tl_nodup (S : Nat → Option (List Nat)) (n : Nat) : (Tl S n).Nodup := List.nodup_range.filter _
/-- Places as values. -/
def ints (T : List Nat) : List Value := T.map fun (t : Nat) => Value.int .i64 (t : Int)
theorem ints_at {T : List Nat} {i : Nat} (h : i < T.length) : (ints T)[i]? = some (.int .i64 (T.getD i 0 : Nat)) := by
  simp [ints, List.getD_eq_getElem?_getD, List.getElem?_eq_getElem h]
theorem OwnV.plc {base : Nat} {w : World} {v : Value} {T : List Nat} (h : OwnV 3 base w v (ints T)) : ∃ a cap, v = .slice a T.length cap ∧ T.length ≤ cap ∧ (Plc w a T.length fun i => T.getD i 0) ∧ ∀ ad, a = some ad → base ≤ ad.block := by
  have hl : (ints T).length = T.length := by simp [ints]
  by_cases h0 : T.length = 0
  · rcases h.2 with ⟨e, e0⟩ | ⟨g, cap, cur, e, hb, _, hc, _⟩
    · exact ⟨none, 0, by rw [e, h0], by omega, .inl h0, fun ad h => by cases h⟩
    · exact ⟨some ⟨g, 0, none⟩, cap, by rw [e, hl], by omega, .inl h0, fun ad h => by cases h; exact hb⟩
  · obtain ⟨g, cap, e, hb, h2, h3, _, h5⟩ := h.row (by omega)
    exact ⟨_, cap, by rw [e, hl], by omega, .inr ⟨g, 0, rfl, h2, fun i hi => by rw [Nat.zero_add]; exact h3 i _ (ints_at hi)⟩, fun ad h => by cases h; exact hb⟩
/-- How long the shards are that are there. -/
def lenT (S : Nat → Option (List Nat)) (n i : Nat) : Nat := ((S ((Tl S n).getD i 0)).getD []).length

set_option maxHeartbeats 800000 in
theorem there_len (FS : List Nat) (w0 w : World) (c F k r pp pq sp sq : Nat) (Z : List Nat) (n cap : Nat) (a : Option Addr) (hs : LS w0 FS w) (hc : CD FS w c F k r pp pq sp sq Z) (hn : n ≠ k + r) :
    Calls Try.prog 37 #[.pointer (some ⟨c, 0, none⟩), .slice a n cap] w
      fun e w' => e = .returned (.tuple #[.slice none 0 0, .int .i64 1]) ∧ Up Nul w w' := by
  have x1 := hc.k0
  have x2 := hc.r0
  have b1 := hc.k14
  have b2 := hc.r4
  have e1 : ((n : Int) == (k : Int) + (r : Int)) = false := by simp; omega
  have e2 : ((n : Int) != (k : Int) + (r : Int)) = true := by simp; omega
  clear hc hs
  go_enter Try.func37, Try.ntmps37
  go_wp2_with fail
  go_quiet (fail)
  go_wp2
  go_ret2
  exact ⟨rfl, (Up.refl _ _).drewN _⟩

set_option maxRecDepth 100000 in
set_option maxHeartbeats 1600000 in
theorem there_any (FS : List Nat) (w0 w : World) (c F k r pp pq sp sq : Nat) (Z : List Nat) (g o n cap : Nat) (S : Nat → Option (List Nat)) (hs : LS w0 FS w) (hc : CD FS w c F k r pp pq sp sq Z) (hS : LL FS w g o n S) (hn : n = k + r) :
    Calls Try.prog 37 #[.pointer (some ⟨c, 0, none⟩), .slice (some ⟨g, o, none⟩) n cap] w
      fun e w' => (((∀ i, i < (Tl S n).length → ¬ UL (lenT S n) i) ∧ ∃ a capm, e = .returned (.tuple #[.slice a (Tl S n).length capm, .int .i64 0]) ∧ (Tl S n).length ≤ capm ∧ (Plc w' a (Tl S n).length fun i => (Tl S n).getD i 0) ∧ ∀ ad, a = some ad → w.heap.size ≤ ad.block) ∨
        ((∃ i, i < (Tl S n).length ∧ UL (lenT S n) i) ∧ e = .returned (.tuple #[.slice none 0 0, .int .i64 1]))) ∧ Up Nul w w' := by
  have hnot : ∀ (x : Bool) (w : World), (Op.unary .not (.bool x)).run Try.prog w = .ok (.bool (!x)) w := fun _ _ => rfl
  have x1 := hc.k0
  have x2 := hc.r0
  have b1 := hc.k14
  have b2 := hc.r4
  have e1 : ((n : Int) == (k : Int) + (r : Int)) = true := by simp; omega
  have e2 : ((n : Int) != (k : Int) + (r : Int)) = false := by simp; omega
  have hn18 : n ≤ 18 := by omega
  have HS := hid (And.intro hs hS)
  clear hc hs hS hn
  go_enter Try.func37, Try.ntmps37
  go_wp2_with fail
  go_quiet (fail)
  go_wp2_with fail
  go_loopw [6, 23] (fun pl i wr => ∃ j : Nat, j ≤ n ∧ i = .int .i64 j ∧ OwnV 3 w.heap.size wr pl (ints (Tl S j)) ∧ Up Nul w wr) (fun _ i _ => n - (intOf i).toNat)
  case atStart => exact ⟨0, by omega, rfl, OwnV.nil _ _ _, (Up.refl _ _).drewN _⟩
  case round =>
    obtain ⟨j, hj, rfl, hown, hu⟩ := hrel
    have HO := hid hown
    have HU := hid hu
    clear hown hu
    by_cases hlt : j < n
    · have i1 : (0 : Int) ≤ (j : Int) := by omega
      have i2 : (j : Int) < (n : Int) := by omega
      cases e : S j with
      | none =>
        have y1 := (HU.out.cell (p := ⟨g, o + j, none⟩) HS.out.2.lt id).trans (HS.out.2.not hlt e)
        have E := hid (Tl_none e)
        clear e
        go_wp2
        go_roundw
        case rel => exact ⟨j + 1, by omega, by go_num, by rw [E.out]; exact HO.out, HU.out⟩
        case measure => simp [intOf]; omega
      | some z =>
        obtain ⟨b, so, capb, hcell, _⟩ := HS.out.2.at hlt e
        have y1 := (HU.out.cell (p := ⟨g, o + j, none⟩) HS.out.2.lt id).trans hcell
        have E : Hid (ints (Tl S (j + 1)) = ints (Tl S j) ++ [.int .i64 j]) := by show _ = _; rw [Tl_some e]; simp [ints]
        have HLE : Hid ((ints (Tl S j)).length + 1 ≤ 1000000) := by
          have := Tl_len S j
          show _ ≤ _
          simp [ints]
          omega
        clear e hcell
        go_wp2_with (first
          | (at_builtin; refine wpList_append_int rfl (.tmp 30) (.tmp 32) rfl w.heap.size _ (ints (Tl S j)) rfl (HO.out.alloc _) ⟨wr.heap.size, 0, none⟩ 1 j rfl (World.cell?_alloc_new wr _ _ 0) HLE.out (by have := HU.out.size; simp; omega) ?_; intro v2 w2 H1 H2)
          | go_in)
        go_roundw
        case rel => exact ⟨j + 1, by omega, by go_num, by rw [E.out]; exact H1.out, (HU.out.alloc _).grown H2.out fun q hq => HO.out.base q hq⟩
        case measure => simp [intOf]; omega
    · obtain rfl : n = j := by omega
      obtain ⟨a, capm, rfl, hcm, hplc, hbase⟩ := HO.out.plc
      have HNX := hid (HS.out.1.nul HU.out)
      have hTl := Tl_len S n
      have HCH := hid (chosen_any FS w0 wr g o n cap (Tl S n).length capm a S (fun i => (Tl S n).getD i 0) (HS.out.1.nxt HNX.out) (HS.out.2.nxt HNX.out) hplc (fun i hi => (Tl_mem hi).1) (by omega))
      have HP := hid (And.intro hcm (And.intro hplc hbase))
      clear hcm hplc hbase
      go_wp2_with fail
      refine HCH.out.mono ?_
      rintro e w1 ⟨h, rfl, c1, c2, c3⟩
      have HAL := hid (alike_any h 0 (Tl S n).length (Tl S n).length (lenT S n) w1 c1.lens c1.lt (by omega))
      have HU1 := hid c2
      clear c1 c2 c3 HCH
      go_wp2_with fail
      refine HAL.out.mono ?_
      rintro e w2 ⟨⟨rfl, hb⟩ | ⟨rfl, hb⟩, u2⟩
      · have HB := hid (And.intro hb u2)
        clear hb u2 HAL
        go_wp2
        go_ret2
        exact ⟨.inl ⟨HB.out.1, a, capm, rfl, HP.out.1, HP.out.2.1.up (HU1.out.trans HB.out.2), HP.out.2.2⟩, (HU.out.trans HU1.out).trans HB.out.2⟩
      · have HB := hid (And.intro hb u2)
        clear hb u2 HAL
        go_wp2
        go_ret2
        exact ⟨.inr ⟨HB.out.1, rfl⟩, (HU.out.trans HU1.out).trans HB.out.2⟩
end Go.Proofs.Ytebglmfdchfplaa
