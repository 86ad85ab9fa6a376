/- 'read'. -/
import Derived.Test.YtpdkcpjofofkoaaDoorPkTidy
import Derived.Test.YtpdkcpjofofkoaaDoorPq3
import Derived.Test.YtpdkcpjofofkoaaDoorPq9
namespace Go.Proofs.YtpdkcpjofofkoaaDoor
open Go.RowKit
set_option linter.unusedVariables false
set_option linter.unusedSimpArgs false

/-- The rows of a record are new. -/
structure RF (r : Rc) (sa la : Option Addr) (m : Nat) : Prop where
 s : r.sids ≠ [] → ∀ x, sa = some x → m ≤ x.block
 l : r.locs ≠ [] → ∀ x, la = some x → m ≤ x.block
theorem OwnI.rowb {base : Nat} {w : World} {v : Value} {zs : List Int} (h : OwnI base w v zs) : ∃ a c, v = .slice a zs.length c ∧ RowI w a zs ∧ (zs ≠ [] → ∀ x, a = some x → base ≤ x.block) := by
 obtain ⟨a, c, e, r⟩ := h.row
 refine ⟨a, c, e, r, fun _ x hx => ?_⟩
 subst hx
 exact h.bs x.block (by rw [e]; rfl)
theorem OwnLo.rowb {base : Nat} {w : World} {v : Value} {ls : List Lo} (h : OwnLo base w v ls) : ∃ a c, v = .slice a ls.length c ∧ RowL w a ls ∧ (ls ≠ [] → ∀ x, a = some x → base ≤ x.block) := by
 obtain ⟨a, c, e, r⟩ := h.row
 refine ⟨a, c, e, r, fun _ x hx => ?_⟩
 subst hx
 exact h.bs x.block (by rw [e]; rfl)
theorem src_new {w : World} {a : Option Addr} {n c : Nat} {z : List Nat} (h : SlN w a n z) (hc : n ≤ c) (W : World) (u : Up Nul w W) (q : Nat) (hq : W.heap[q]? = some (.cells #[.slice a n c] 83 (0, 0))) (hq2 : w.heap.size ≤ q) : So w.heap.size W q z := by
 have hl := h.len
 subst hl
 exact ⟨⟨a, c, hq, h.row.imp id fun ⟨b, o, e, hb, r⟩ => ⟨b, o, e, hb, r.up u hb id⟩, hc⟩, h.le, hq2⟩
theorem up13 (w : World) (g : Nat) (v0 v1 v2 v3 v4 v5 v6 v7 v8 v9 v10 v11 v12 : Value) : Up (One g) w (((((((((((((w.setCell ⟨g, 0, none⟩ v0).setCell ⟨g, 1, none⟩ v1).setCell ⟨g, 2, none⟩ v2).setCell ⟨g, 3, none⟩ v3).setCell ⟨g, 4, none⟩ v4).setCell ⟨g, 5, none⟩ v5).setCell ⟨g, 6, none⟩ v6).setCell ⟨g, 7, none⟩ v7).setCell ⟨g, 8, none⟩ v8).setCell ⟨g, 9, none⟩ v9).setCell ⟨g, 10, none⟩ v10).setCell ⟨g, 11, none⟩ v11).setCell ⟨g, 12, none⟩ v12) := by
 have u0 : Up (One g) w (w.setCell ⟨g, 0, none⟩ v0) := Up.put (Up.refl (One g) w) (b := g) rfl 0 v0
 have u1 : Up (One g) w ((w.setCell ⟨g, 0, none⟩ v0).setCell ⟨g, 1, none⟩ v1) := Up.put (u0) (b := g) rfl 1 v1
 have u2 : Up (One g) w (((w.setCell ⟨g, 0, none⟩ v0).setCell ⟨g, 1, none⟩ v1).setCell ⟨g, 2, none⟩ v2) := Up.put (u1) (b := g) rfl 2 v2
 have u3 : Up (One g) w ((((w.setCell ⟨g, 0, none⟩ v0).setCell ⟨g, 1, none⟩ v1).setCell ⟨g, 2, none⟩ v2).setCell ⟨g, 3, none⟩ v3) := Up.put (u2) (b := g) rfl 3 v3
 have u4 : Up (One g) w (((((w.setCell ⟨g, 0, none⟩ v0).setCell ⟨g, 1, none⟩ v1).setCell ⟨g, 2, none⟩ v2).setCell ⟨g, 3, none⟩ v3).setCell ⟨g, 4, none⟩ v4) := Up.put (u3) (b := g) rfl 4 v4
 have u5 : Up (One g) w ((((((w.setCell ⟨g, 0, none⟩ v0).setCell ⟨g, 1, none⟩ v1).setCell ⟨g, 2, none⟩ v2).setCell ⟨g, 3, none⟩ v3).setCell ⟨g, 4, none⟩ v4).setCell ⟨g, 5, none⟩ v5) := Up.put (u4) (b := g) rfl 5 v5
 have u6 : Up (One g) w (((((((w.setCell ⟨g, 0, none⟩ v0).setCell ⟨g, 1, none⟩ v1).setCell ⟨g, 2, none⟩ v2).setCell ⟨g, 3, none⟩ v3).setCell ⟨g, 4, none⟩ v4).setCell ⟨g, 5, none⟩ v5).setCell ⟨g, 6, none⟩ v6) := Up.put (u5) (b := g) rfl 6 v6
 have u7 : Up (One g) w ((((((((w.setCell ⟨g, 0, none⟩ v0).setCell ⟨g, 1, none⟩ v1).setCell ⟨g, 2, none⟩ v2).setCell ⟨g, 3, none⟩ v3).setCell ⟨g, 4, none⟩ v4).setCell ⟨g, 5, none⟩ v5).setCell ⟨g, 6, none⟩ v6).setCell ⟨g, 7, none⟩ v7) := Up.put (u6) (b := g) rfl 7 v7
 have u8 : Up (One g) w (((((((((w.setCell ⟨g, 0, none⟩ v0).setCell ⟨g, 1, none⟩ v1).setCell ⟨g, 2, none⟩ v2).setCell ⟨g, 3, none⟩ v3).setCell ⟨g, 4, none⟩ v4).setCell ⟨g, 5, none⟩ v5).setCell ⟨g, 6, none⟩ v6).setCell ⟨g, 7, none⟩ v7).setCell ⟨g, 8, none⟩ v8) := Up.put (u7) (b := g) rfl 8 v8
 have u9 : Up (One g) w ((((((((((w.setCell ⟨g, 0, none⟩ v0).setCell ⟨g, 1, none⟩ v1).setCell ⟨g, 2, none⟩ v2).setCell ⟨g, 3, none⟩ v3).setCell ⟨g, 4, none⟩ v4).setCell ⟨g, 5, none⟩ v5).setCell ⟨g, 6, none⟩ v6).setCell ⟨g, 7, none⟩ v7).setCell ⟨g, 8, none⟩ v8).setCell ⟨g, 9, none⟩ v9) := Up.put (u8) (b := g) rfl 9 v9
 have u10 : Up (One g) w (((((((((((w.setCell ⟨g, 0, none⟩ v0).setCell ⟨g, 1, none⟩ v1).setCell ⟨g, 2, none⟩ v2).setCell ⟨g, 3, none⟩ v3).setCell ⟨g, 4, none⟩ v4).setCell ⟨g, 5, none⟩ v5).setCell ⟨g, 6, none⟩ v6).setCell ⟨g, 7, none⟩ v7).setCell ⟨g, 8, none⟩ v8).setCell ⟨g, 9, none⟩ v9).setCell ⟨g, 10, none⟩ v10) := Up.put (u9) (b := g) rfl 10 v10
 have u11 : Up (One g) w ((((((((((((w.setCell ⟨g, 0, none⟩ v0).setCell ⟨g, 1, none⟩ v1).setCell ⟨g, 2, none⟩ v2).setCell ⟨g, 3, none⟩ v3).setCell ⟨g, 4, none⟩ v4).setCell ⟨g, 5, none⟩ v5).setCell ⟨g, 6, none⟩ v6).setCell ⟨g, 7, none⟩ v7).setCell ⟨g, 8, none⟩ v8).setCell ⟨g, 9, none⟩ v9).setCell ⟨g, 10, none⟩ v10).setCell ⟨g, 11, none⟩ v11) := Up.put (u10) (b := g) rfl 11 v11
 have u12 : Up (One g) w (((((((((((((w.setCell ⟨g, 0, none⟩ v0).setCell ⟨g, 1, none⟩ v1).setCell ⟨g, 2, none⟩ v2).setCell ⟨g, 3, none⟩ v3).setCell ⟨g, 4, none⟩ v4).setCell ⟨g, 5, none⟩ v5).setCell ⟨g, 6, none⟩ v6).setCell ⟨g, 7, none⟩ v7).setCell ⟨g, 8, none⟩ v8).setCell ⟨g, 9, none⟩ v9).setCell ⟨g, 10, none⟩ v10).setCell ⟨g, 11, none⟩ v11).setCell ⟨g, 12, none⟩ v12) := Up.put (u11) (b := g) rfl 12 v12
 exact u12
theorem rsNum_small {h : Int} {m : Nat} {b : List Nat} (hb : ∀ x ∈ b, x < 256) : ∀ x ∈ rsNum h m b, x < 256 := by
 unfold rsNum
 split
 ·exact small_drop hb m
 ·exact hb
theorem rsKey_small {k : Nat} {b : List Nat} (hb : ∀ x ∈ b, x < 256) : ∀ x ∈ rsKey k b, x < 256 := by
 unfold rsKey
 split
 ·exact small_drop (small_drop hb 1) _
 ·exact hb
theorem rsNum_yes {h : Int} {m : Nat} {b : List Nat} (e : 0 < h) : rsNum h m b = b.drop m := if_pos e
theorem rsNum_no {h : Int} {m : Nat} {b : List Nat} (e : ¬ 0 < h) : rsNum h m b = b := if_neg e
theorem rdNum_yes {h : Int} {m : Nat} {b : List Nat} (e : 0 < h) : rdNum h m b = num m b := if_pos e
theorem rdNum_no {h : Int} {m : Nat} {b : List Nat} (e : ¬ 0 < h) : rdNum h m b = 0 := if_neg e
theorem RS.grow {B q p : Nat} {W2 wx wy : World} {b : List Nat} {C : Array Value} {row : Option Nat} (h : RS B W2 q p wx b C) (g : wx.grownBy wy row) (hr : ∀ k, row = some k → W2.heap.size ≤ k) : RS B W2 q p wy b C := by
 have hp := h.pl
 have hq := h.ql
 have hb := h.bp
 have u : Up (fun k => row = some k) wx wy := ⟨g.os, g.tape, g.output, g.size, fun k hk hs => g.block k hk fun e => hs e.symm⟩
 refine ⟨h.so.keep u fun k _ e => ⟨by have := hr k e; omega, by have := hr k e; omega⟩, (g.block p (Array.getElem?_eq_some_iff.1 h.pc).1 fun e => by have := hr p e.symm; omega).trans h.pc, ⟨u.os.trans h.up.os, u.tape.trans h.up.tape, u.output.trans h.up.output, Nat.le_trans h.up.size u.size, fun k hk hs => (u.block k (Nat.lt_of_lt_of_le hk h.up.size) fun e => by have := hr k e; omega).trans (h.up.block k hk hs)⟩, h.pq, h.bp, h.pl, h.ql, h.s8⟩
/-- A slot's number. -/
theorem num_any (B : Nat) (w : World) (q m : Nat) (b : List Nat) (h : So B w q b) (hm : m ≤ 4) (h8 : ∀ x ∈ b, x < 256) (n : Nat) (hn : num m b = n) (b' : List Nat) (hb : b.drop m = b') :
  Calls Tryd.prog 46 #[.pointer (some ⟨q, 0, none⟩), .int .i64 (m : Nat)] w fun e w' => e = .returned (.int .i64 (n : Nat)) ∧ So B w' q b' ∧ Up (One q) w w' := by
 subst hn hb
 exact number_any B w q m b h hm h8
set_option maxRecDepth 100000 in
set_option maxHeartbeats 4000000 in
theorem read_core (a : Option Addr) (n0 c : Nat) (z : List Nat) (w : World) (hS : Shp w) (h : SlN w a n0 z) (hc : n0 ≤ c) (h8 : ∀ x ∈ z, x < 256) :
    Calls Tryd.prog 35 #[.slice a n0 c] w fun e w' => ∃ sa sc la lc, e = .returned (rv (readR z) (.slice sa (readR z).sids.length sc) (.slice la (readR z).locs.length lc)) ∧ RH w' (readR z) sa la ∧ Up Nul w w' ∧ RF (readR z) sa la w.heap.size := by
  have HS := hid hS
  obtain ⟨W1, hW1⟩ : ∃ W, W = (w.alloc (.cells #[.int .i64 0, .string ⟨#[]⟩, .int .i64 0, .int .i64 0, .slice none 0 0, .int .i64 0, .slice none 0 0, .int .i64 0, .int .i64 0, .int .i64 0, .int .i64 0, .int .i64 0, .int .i64 0] 27)).alloc (.cells #[.slice a n0 c] 83) := ⟨_, rfl⟩
  have U1 : Up Nul w W1 := by rw [hW1]; exact ((Up.refl Nul w).alloc _).alloc _
  have hr0 : W1.heap[w.heap.size]? = some (.cells #[.int .i64 0, .string ⟨#[]⟩, .int .i64 0, .int .i64 0, .slice none 0 0, .int .i64 0, .slice none 0 0, .int .i64 0, .int .i64 0, .int .i64 0, .int .i64 0, .int .i64 0, .int .i64 0] 27 (0, 0)) := by rw [hW1]; exact (Below.heap_alloc _ _ _ (by simp)).trans (heap_alloc_new _ _)
  have hq : W1.heap[w.heap.size + 1]? = some (.cells #[.slice a n0 c] 83 (0, 0)) := by
    rw [hW1]
    have := heap_alloc_new (w.alloc (.cells #[.int .i64 0, .string ⟨#[]⟩, .int .i64 0, .int .i64 0, .slice none 0 0, .int .i64 0, .slice none 0 0, .int .i64 0, .int .i64 0, .int .i64 0, .int .i64 0, .int .i64 0, .int .i64 0] 27)) (.cells #[.slice a n0 c] 83)
    simpa using this
  have hso := src_new h hc W1 U1 (w.heap.size + 1) hq (by omega)
  have hr0l : w.heap.size < W1.heap.size := by rw [hW1]; simp; omega
  obtain ⟨B, hB⟩ : ∃ B, Hid (w.heap.size = B) := ⟨_, rfl⟩
  obtain ⟨q, hqq⟩ : ∃ q, Hid (w.heap.size + 1 = q) := ⟨_, rfl⟩
  have HBQ : Hid (B + 1 = q) := by show _ = _; rw [← hB.out, ← hqq.out]
  rw [hqq.out] at hso
  rw [hB.out] at hso hr0 hr0l
  have HSO := hid (And.intro hso U1)
  have HR0 := hid (And.intro hr0 hr0l)
  have H8 := hid h8
  obtain ⟨k, K⟩ : ∃ k, Hid (num 1 z = k) := ⟨_, rfl⟩
  obtain ⟨z1, Z1⟩ : ∃ b, Hid (z.drop 1 = b) := ⟨_, rfl⟩
  have HZ8 : Hid (∀ x ∈ z1, x < 256) := by show ∀ x ∈ z1, x < 256; rw [← Z1.out]; exact small_drop h8 1
  have HC := hid (fun W s => num_any B W q 1 z s (by omega) h8 k K.out z1 Z1.out)
  have hk256 : k < 256 := by rw [← K.out]; exact num_lt1 h8
  obtain ⟨R, HR⟩ : ∃ R, Hid (readR z = R) := ⟨_, rfl⟩
  have HRD : Hid (R = if 1 ≤ k ∧ k ≤ 8 then readK k z1 else rc0) := by show _ = _; rw [← HR.out]; unfold readR; rw [K.out, Z1.out]
  rw [HR.out]
  clear h hc h8 hS hso hr0 hq U1 hr0l HR
  go_enter Tryd.func35, Tryd.ntmps35
  go_wp2_with fail
  rw [← hW1]
  clear hW1
  rw [hqq.out, hB.out]
  refine (HC.out W1 HSO.out.1).mono ?_
  rintro e w2 ⟨rfl, s2, u2⟩
  obtain ⟨W3, hW3⟩ : ∃ W, W = w2.alloc (.cells #[.int .i64 (k : Nat), .string ⟨#[]⟩, .int .i64 0, .int .i64 0, .slice none 0 0, .int .i64 0, .slice none 0 0, .int .i64 0, .int .i64 0, .int .i64 0, .int .i64 0, .int .i64 0, .int .i64 0] 27) := ⟨_, rfl⟩
  have U3 : Up Nul w2 W3 := by rw [hW3]; exact (Up.refl Nul w2).alloc _
  have hp : W3.heap[w2.heap.size]? = some (.cells #[.int .i64 (k : Nat), .string ⟨#[]⟩, .int .i64 0, .int .i64 0, .slice none 0 0, .int .i64 0, .slice none 0 0, .int .i64 0, .int .i64 0, .int .i64 0, .int .i64 0, .int .i64 0, .int .i64 0] 27 (0, 0)) := by rw [hW3]; exact heap_alloc_new _ _
  have hpl : w2.heap.size < W3.heap.size := by rw [hW3]; simp
  have xk : W3.cell? ⟨w2.heap.size, 0, none⟩ = some (.int .i64 (k : Nat)) := by simp [World.cell?, hp]
  have hql2 := s2.lt
  have HKI := hid (fun W => kind_any (k : Int) W)
  have hr2 := (u2.block B HR0.out.2 (fun e => by have e : B = q := e; have := HBQ.out; omega)).trans HR0.out.1
  have HX := hid (And.intro (s2.nxt U3) (And.intro ((HSO.out.2.nul.trans u2).trans (U3.nul : Up (One q) w2 W3)) (And.intro ((U3.block B (Nat.lt_of_lt_of_le HR0.out.2 u2.size) id).trans hr2) (And.intro hp (And.intro hpl (show q < w2.heap.size from hql2))))))
  have hu3 := HX.out.2.1.size
  clear HC HSO HR0 s2 u2 U3 hp hql2 hr2
  go_upto_if 14 with (first | (go_at_call 19; rw [← hW3]; refine (HKI.out W3).mono ?_; rintro e w3 ⟨rfl, u3⟩) | fail)
  clear hW3 xk
  have hS3 : Shp w3 := by
    refine ⟨fun k j hk hj => ?_⟩
    have h0 : (0 : Nat) ≠ q := by have := HBQ.out; omega
    rw [Up.cell u3 (p := ⟨0, k * 15 + j, none⟩) (by have := HS.out.lt; have := hu3; show 0 < W3.heap.size; omega) id, Up.cell HX.out.2.1 (p := ⟨0, k * 15 + j, none⟩) HS.out.lt h0]
    exact HS.out.c k j hk hj
  obtain ⟨p, P⟩ : ∃ p, Hid (w2.heap.size = p) := ⟨_, rfl⟩
  rw [P.out] at HX hpl ⊢
  have h1 := (HX.out.1.nxt u3)
  have h2 := HX.out.2.1.trans (u3.nul : Up (One q) W3 w3)
  have h3 := (u3.block B (by have := HX.out.2.2.2.2.2; have := HBQ.out; omega) id).trans HX.out.2.2.1
  have h4 := (u3.block p hpl id).trans HX.out.2.2.2.1
  have h5 := Nat.lt_of_lt_of_le hpl u3.size
  have HY := hid (And.intro h1 (And.intro h2 (And.intro h3 (And.intro h4 (And.intro h5 HX.out.2.2.2.2.2)))))
  clear h1 h2 h3 h4 h5 HX u3 hpl hu3 HKI HS
  by_cases hk : 1 ≤ k ∧ k ≤ 8
  case neg =>
    have HE : Hid (R = rc0) := by show _ = _; rw [HRD.out, if_neg hk]
    have hsp : spn 1 8 (k : Int) = false := by
      cases e : spn 1 8 (k : Int) with
      | false => rfl
      | true => have := spn_iff.1 e; omega
    rw [hsp]
    have hb := HY.out.2.2.1
    have x0 : w3.cell? ⟨B, 0, none⟩ = some (.int .i64 0) := by simp [World.cell?, hb]
    have f0 : w3.frozen? ⟨B, 0, none⟩ = false := by simp [World.frozen?, hb]
    have x1 : w3.cell? ⟨B, 1, none⟩ = some (.string ⟨#[]⟩) := by simp [World.cell?, hb]
    have f1 : w3.frozen? ⟨B, 1, none⟩ = false := by simp [World.frozen?, hb]
    have x2 : w3.cell? ⟨B, 2, none⟩ = some (.int .i64 0) := by simp [World.cell?, hb]
    have f2 : w3.frozen? ⟨B, 2, none⟩ = false := by simp [World.frozen?, hb]
    have x3 : w3.cell? ⟨B, 3, none⟩ = some (.int .i64 0) := by simp [World.cell?, hb]
    have f3 : w3.frozen? ⟨B, 3, none⟩ = false := by simp [World.frozen?, hb]
    have x4 : w3.cell? ⟨B, 4, none⟩ = some (.slice none 0 0) := by simp [World.cell?, hb]
    have f4 : w3.frozen? ⟨B, 4, none⟩ = false := by simp [World.frozen?, hb]
    have x5 : w3.cell? ⟨B, 5, none⟩ = some (.int .i64 0) := by simp [World.cell?, hb]
    have f5 : w3.frozen? ⟨B, 5, none⟩ = false := by simp [World.frozen?, hb]
    have x6 : w3.cell? ⟨B, 6, none⟩ = some (.slice none 0 0) := by simp [World.cell?, hb]
    have f6 : w3.frozen? ⟨B, 6, none⟩ = false := by simp [World.frozen?, hb]
    have x7 : w3.cell? ⟨B, 7, none⟩ = some (.int .i64 0) := by simp [World.cell?, hb]
    have f7 : w3.frozen? ⟨B, 7, none⟩ = false := by simp [World.frozen?, hb]
    have x8 : w3.cell? ⟨B, 8, none⟩ = some (.int .i64 0) := by simp [World.cell?, hb]
    have f8 : w3.frozen? ⟨B, 8, none⟩ = false := by simp [World.frozen?, hb]
    have x9 : w3.cell? ⟨B, 9, none⟩ = some (.int .i64 0) := by simp [World.cell?, hb]
    have f9 : w3.frozen? ⟨B, 9, none⟩ = false := by simp [World.frozen?, hb]
    have x10 : w3.cell? ⟨B, 10, none⟩ = some (.int .i64 0) := by simp [World.cell?, hb]
    have f10 : w3.frozen? ⟨B, 10, none⟩ = false := by simp [World.frozen?, hb]
    have x11 : w3.cell? ⟨B, 11, none⟩ = some (.int .i64 0) := by simp [World.cell?, hb]
    have f11 : w3.frozen? ⟨B, 11, none⟩ = false := by simp [World.frozen?, hb]
    have x12 : w3.cell? ⟨B, 12, none⟩ = some (.int .i64 0) := by simp [World.cell?, hb]
    have f12 : w3.frozen? ⟨B, 12, none⟩ = false := by simp [World.frozen?, hb]
    have HBW : Hid (w.heap.size ≤ B) := by show _ ≤ _; rw [hB.out]; exact Nat.le_refl _
    have HUW : Hid (Up Nul w w3) := by
      have u := HY.out.2.1
      exact ⟨u.os, u.tape, u.output, u.size, fun k hk _ => u.block k hk (fun e => by have e : k = q := e; have := HBQ.out; have := hB.out; omega)⟩
    have HB1 := hid hb
    clear hb hS3 hsp
    go_wp2_with fail
    refine bodyPost_ret (results_cell_row (P := Tryd.prog) (ty := 27) rfl _ _ B _ _ _ _ rfl (heap13s HB1.out _ _ _ _ _ _ _ _ _ _ _ _ _) Tryd.underlying27 rfl info_rec13) rfl ?_
    rw [HE.out]
    exact ⟨none, 0, none, 0, rfl, ⟨RowI.nil _ _, RowL.nil _ _, by show 0 ≤ 100000; omega, by show 0 ≤ 100000; omega⟩, ((((((((((((((((((((((((((HUW.out).setCell (p := ⟨B, 0, none⟩) (.inl HBW.out) _)).setCell (p := ⟨B, 1, none⟩) (.inl HBW.out) _)).setCell (p := ⟨B, 2, none⟩) (.inl HBW.out) _)).setCell (p := ⟨B, 3, none⟩) (.inl HBW.out) _)).setCell (p := ⟨B, 4, none⟩) (.inl HBW.out) _)).setCell (p := ⟨B, 5, none⟩) (.inl HBW.out) _)).setCell (p := ⟨B, 6, none⟩) (.inl HBW.out) _)).setCell (p := ⟨B, 7, none⟩) (.inl HBW.out) _)).setCell (p := ⟨B, 8, none⟩) (.inl HBW.out) _)).setCell (p := ⟨B, 9, none⟩) (.inl HBW.out) _)).setCell (p := ⟨B, 10, none⟩) (.inl HBW.out) _)).setCell (p := ⟨B, 11, none⟩) (.inl HBW.out) _)).setCell (p := ⟨B, 12, none⟩) (.inl HBW.out) _), ⟨fun h => absurd rfl h, fun h => absurd rfl h⟩⟩
  case pos =>
  have HE : Hid (R = readK k z1) := by show _ = _; rw [HRD.out, if_pos hk]
  clear HRD
  have hsp : spn 1 8 (k : Int) = true := spn_iff.2 ⟨by omega, by omega⟩
  rw [hsp]
  have hk9 : k < 9 := by omega
  have i0 : (0 : Int) ≤ (k : Int) := by omega
  have i1 : (k : Int) < 9 := by omega
  have HKK := hid hk
  have y0 := hS3.c k 0 hk9 (by omega)
  have y1 := hS3.c k 1 hk9 (by omega)
  have y2 := hS3.c k 2 hk9 (by omega)
  have y3 := hS3.c k 3 hk9 (by omega)
  have y4 := hS3.c k 4 hk9 (by omega)
  have y5 := hS3.c k 5 hk9 (by omega)
  have y6 := hS3.c k 6 hk9 (by omega)
  have y7 := hS3.c k 7 hk9 (by omega)
  have y8 := hS3.c k 8 hk9 (by omega)
  have y9 := hS3.c k 9 hk9 (by omega)
  have y10 := hS3.c k 10 hk9 (by omega)
  have y11 := hS3.c k 11 hk9 (by omega)
  have y12 := hS3.c k 12 hk9 (by omega)
  have y13 := hS3.c k 13 hk9 (by omega)
  have y14 := hS3.c k 14 hk9 (by omega)
  rw [Nat.add_zero] at y0
  have hpb := HY.out.2.2.2.1
  have xk : w3.cell? ⟨p, 0, none⟩ = some (.int .i64 (k : Nat)) := by simp [World.cell?, hpb]
  clear hk hsp hS3 hpb
  go_upto_region 6 with fail
  obtain ⟨W2, hW2⟩ : ∃ W, W = w3.alloc (.cells #[.int .i64 (sh k 0), .int .i64 (sh k 1), .int .i64 (sh k 2), .int .i64 (sh k 3), .int .i64 (sh k 4), .int .i64 (sh k 5), .int .i64 (sh k 6), .int .i64 (sh k 7), .int .i64 (sh k 8), .int .i64 (sh k 9), .int .i64 (sh k 10), .int .i64 (sh k 11), .int .i64 (sh k 12), .int .i64 (sh k 13), .int .i64 (sh k 14)] 53) := ⟨_, rfl⟩
  have U2 : Up Nul w3 W2 := by rw [hW2]; exact (Up.refl Nul w3).alloc _
  have hf : W2.heap[w3.heap.size]? = some (.cells #[.int .i64 (sh k 0), .int .i64 (sh k 1), .int .i64 (sh k 2), .int .i64 (sh k 3), .int .i64 (sh k 4), .int .i64 (sh k 5), .int .i64 (sh k 6), .int .i64 (sh k 7), .int .i64 (sh k 8), .int .i64 (sh k 9), .int .i64 (sh k 10), .int .i64 (sh k 11), .int .i64 (sh k 12), .int .i64 (sh k 13), .int .i64 (sh k 14)] 53 (0, 0)) := by rw [hW2]; exact heap_alloc_new _ _
  have hf2 : w3.heap.size < W2.heap.size := by rw [hW2]; simp
  obtain ⟨Y1, Y2, Y3, Y4, Y5, Y6⟩ := HY.out
  have HN : Hid (RS B W2 q p W2 z1 #[.int .i64 (k : Nat), .string ⟨#[]⟩, .int .i64 0, .int .i64 0, .slice none 0 0, .int .i64 0, .slice none 0 0, .int .i64 0, .int .i64 0, .int .i64 0, .int .i64 0, .int .i64 0, .int .i64 0]) := ⟨Y1.nxt U2, (U2.block p Y5 id).trans Y4, Up.refl _ _, by omega, by have := HBQ.out; omega, by omega, by omega, HZ8.out⟩
  have HB0 := hid (And.intro ((U2.block B (by have := HBQ.out; omega) id).trans Y3) (And.intro (show B < W2.heap.size by have := HBQ.out; omega) (And.intro (show B ≠ p by have := HBQ.out; omega) (show B ≠ q by have := HBQ.out; omega))))
  have HUW : Hid (Up (One q) w W2) := Y2.trans U2.nul
  have hfp : w3.heap.size ≠ p ∧ w3.heap.size ≠ q := by omega
  rw [← hW2]
  clear hW2 xk y0 y1 y2 y3 y4 y5 y6 y7 y8 y9 y10 y11 y12 y13 y14 U2 HY Y1 Y2 Y3 Y4 Y5 Y6
  generalize w3.heap.size = f at hf hf2 hfp ⊢
  have Hf0 : Hid (∀ (wx : World) (b : List Nat) (C : Array Value), RS B W2 q p wx b C → wx.cell? ⟨f, 0, none⟩ = some (.int .i64 (sh k 0))) := fun wx b C r => by have e := (r.old hf2 hfp.1 hfp.2).trans hf; simp only [World.cell?, e]; rfl
  have Hf1 : Hid (∀ (wx : World) (b : List Nat) (C : Array Value), RS B W2 q p wx b C → wx.cell? ⟨f, 1, none⟩ = some (.int .i64 (sh k 1))) := fun wx b C r => by have e := (r.old hf2 hfp.1 hfp.2).trans hf; simp only [World.cell?, e]; rfl
  have Hf2 : Hid (∀ (wx : World) (b : List Nat) (C : Array Value), RS B W2 q p wx b C → wx.cell? ⟨f, 2, none⟩ = some (.int .i64 (sh k 2))) := fun wx b C r => by have e := (r.old hf2 hfp.1 hfp.2).trans hf; simp only [World.cell?, e]; rfl
  have Hf3 : Hid (∀ (wx : World) (b : List Nat) (C : Array Value), RS B W2 q p wx b C → wx.cell? ⟨f, 3, none⟩ = some (.int .i64 (sh k 3))) := fun wx b C r => by have e := (r.old hf2 hfp.1 hfp.2).trans hf; simp only [World.cell?, e]; rfl
  have Hf4 : Hid (∀ (wx : World) (b : List Nat) (C : Array Value), RS B W2 q p wx b C → wx.cell? ⟨f, 4, none⟩ = some (.int .i64 (sh k 4))) := fun wx b C r => by have e := (r.old hf2 hfp.1 hfp.2).trans hf; simp only [World.cell?, e]; rfl
  have Hf5 : Hid (∀ (wx : World) (b : List Nat) (C : Array Value), RS B W2 q p wx b C → wx.cell? ⟨f, 5, none⟩ = some (.int .i64 (sh k 5))) := fun wx b C r => by have e := (r.old hf2 hfp.1 hfp.2).trans hf; simp only [World.cell?, e]; rfl
  have Hf6 : Hid (∀ (wx : World) (b : List Nat) (C : Array Value), RS B W2 q p wx b C → wx.cell? ⟨f, 6, none⟩ = some (.int .i64 (sh k 6))) := fun wx b C r => by have e := (r.old hf2 hfp.1 hfp.2).trans hf; simp only [World.cell?, e]; rfl
  have Hf7 : Hid (∀ (wx : World) (b : List Nat) (C : Array Value), RS B W2 q p wx b C → wx.cell? ⟨f, 7, none⟩ = some (.int .i64 (sh k 7))) := fun wx b C r => by have e := (r.old hf2 hfp.1 hfp.2).trans hf; simp only [World.cell?, e]; rfl
  have Hf8 : Hid (∀ (wx : World) (b : List Nat) (C : Array Value), RS B W2 q p wx b C → wx.cell? ⟨f, 8, none⟩ = some (.int .i64 (sh k 8))) := fun wx b C r => by have e := (r.old hf2 hfp.1 hfp.2).trans hf; simp only [World.cell?, e]; rfl
  have Hf9 : Hid (∀ (wx : World) (b : List Nat) (C : Array Value), RS B W2 q p wx b C → wx.cell? ⟨f, 9, none⟩ = some (.int .i64 (sh k 9))) := fun wx b C r => by have e := (r.old hf2 hfp.1 hfp.2).trans hf; simp only [World.cell?, e]; rfl
  have Hf10 : Hid (∀ (wx : World) (b : List Nat) (C : Array Value), RS B W2 q p wx b C → wx.cell? ⟨f, 10, none⟩ = some (.int .i64 (sh k 10))) := fun wx b C r => by have e := (r.old hf2 hfp.1 hfp.2).trans hf; simp only [World.cell?, e]; rfl
  have Hf11 : Hid (∀ (wx : World) (b : List Nat) (C : Array Value), RS B W2 q p wx b C → wx.cell? ⟨f, 11, none⟩ = some (.int .i64 (sh k 11))) := fun wx b C r => by have e := (r.old hf2 hfp.1 hfp.2).trans hf; simp only [World.cell?, e]; rfl
  have Hf12 : Hid (∀ (wx : World) (b : List Nat) (C : Array Value), RS B W2 q p wx b C → wx.cell? ⟨f, 12, none⟩ = some (.int .i64 (sh k 12))) := fun wx b C r => by have e := (r.old hf2 hfp.1 hfp.2).trans hf; simp only [World.cell?, e]; rfl
  have Hf13 : Hid (∀ (wx : World) (b : List Nat) (C : Array Value), RS B W2 q p wx b C → wx.cell? ⟨f, 13, none⟩ = some (.int .i64 (sh k 13))) := fun wx b C r => by have e := (r.old hf2 hfp.1 hfp.2).trans hf; simp only [World.cell?, e]; rfl
  have Hf14 : Hid (∀ (wx : World) (b : List Nat) (C : Array Value), RS B W2 q p wx b C → wx.cell? ⟨f, 14, none⟩ = some (.int .i64 (sh k 14))) := fun wx b C r => by have e := (r.old hf2 hfp.1 hfp.2).trans hf; simp only [World.cell?, e]; rfl
  clear hf hf2 hfp i0 i1
  have HB := HN
  clear HN
  -- piece 1
  have y1 := Hf0.out _ _ _ HB.out
  have y2 := Hf1.out _ _ _ HB.out
  go_upto_if 22 with (first | (go_at_call 26; refine (named_any _ _ _).mono ?_; rintro e wb ⟨rfl, kb⟩; have HN := hid (HB.out.nxt kb); clear kb) | fail)
  clear y1 y2 HB
  go_cut [22] (fun _ wx => RS B W2 q p wx (rsKey k z1) #[.int .i64 (k : Nat), .string (rdKey k z1), .int .i64 0, .int .i64 0, .slice none 0 0, .int .i64 0, .slice none 0 0, .int .i64 0, .int .i64 0, .int .i64 0, .int .i64 0, .int .i64 0, .int .i64 0])
  case first =>
    as_aux_lemma =>
    by_cases h : 0 < sh k 1
    · obtain ⟨nv, NV⟩ : ∃ x, Hid (num 1 z1 = x) := ⟨_, rfl⟩
      obtain ⟨zr, ZR⟩ : ∃ x, Hid (z1.drop 1 = x) := ⟨_, rfl⟩
      have h256 : nv < 256 := by rw [← NV.out]; exact num_lt1 HN.out.s8
      have HNU := hid (num_any B wb q 1 z1 HN.out.so (by omega) HN.out.s8 nv NV.out zr ZR.out)
      go_wp2_with fail
      refine HNU.out.mono ?_
      rintro e wc ⟨rfl, sc, uc⟩
      have HC := hid (HN.out.src sc uc (by rw [← ZR.out]; exact small_drop HN.out.s8 _))
      clear sc uc HN HNU
      go_wp2_with fail
      refine (next_any B wc q nv zr HC.out.so (by omega)).mono ?_
      rintro e wd ⟨g, rfl, hb, sd, ud, _⟩
      have HD := hid (HC.out.src sd ud (small_drop HC.out.s8 _))
      have hcv := (SlN.ofBlk hb (by rw [nx_length]; omega)).conv nv
      rw [nx_length] at hcv
      have xc := HD.out.cell (i := 1) rfl
      have fc := HD.out.froz 1
      have HRK : Hid (rdKey k z1 = strOf (nx nv zr) ∧ rsKey k z1 = zr.drop nv) := by
        show rdKey k z1 = _ ∧ rsKey k z1 = _
        unfold rdKey rsKey
        rw [if_pos h, if_pos h, NV.out, ZR.out]
        exact ⟨rfl, rfl⟩
      generalize strOf (nx nv zr) = sk at hcv HRK
      generalize zr.drop nv = zq at HD HRK
      clear sd ud hb HC
      go_wp2_with fail
      go_meet
      case rel => rw [HRK.out.1, HRK.out.2]; exact HD.out.set 1 _
    · have HRK : Hid (rdKey k z1 = ⟨#[]⟩ ∧ rsKey k z1 = z1) := by
        show rdKey k z1 = _ ∧ rsKey k z1 = _
        unfold rdKey rsKey
        rw [if_neg h, if_neg h]
        exact ⟨rfl, rfl⟩
      go_wp2_with fail
      go_meet
      case rel => rw [HRK.out.1, HRK.out.2]; exact HN.out
  case rest =>
  have HB := hid hcut
  clear hcut HN
  change Hid (RS B W2 q p _ (b2 k z1) _) at HB
  -- piece 2
  have y1 := Hf2.out _ _ _ HB.out
  have y2 := Hf3.out _ _ _ HB.out
  go_upto_if 29 with (first | (go_at_call 26; refine (named_any _ _ _).mono ?_; rintro e wb ⟨rfl, kb⟩; have HN := hid (HB.out.nxt kb); clear kb) | fail)
  clear y1 y2 HB
  go_cut [29] (fun _ wx => RS B W2 q p wx (rsNum (sh k 3) 1 (b2 k z1)) #[.int .i64 (k : Nat), .string (rdKey k z1), .int .i64 ((rdNum (sh k 3) 1 (b2 k z1) : Nat) : Int), .int .i64 0, .slice none 0 0, .int .i64 0, .slice none 0 0, .int .i64 0, .int .i64 0, .int .i64 0, .int .i64 0, .int .i64 0, .int .i64 0])
  case first =>
    as_aux_lemma =>
    by_cases h : 0 < sh k 3
    · obtain ⟨nv, NV⟩ : ∃ x, Hid (num 1 (b2 k z1) = x) := ⟨_, rfl⟩
      obtain ⟨zr, ZR⟩ : ∃ x, Hid ((b2 k z1).drop 1 = x) := ⟨_, rfl⟩
      have HNU := hid (num_any B wb q 1 (b2 k z1) HN.out.so (by omega) HN.out.s8 nv NV.out zr ZR.out)
      go_wp2_with fail
      refine HNU.out.mono ?_
      rintro e wc ⟨rfl, sc, uc⟩
      have HC := hid (HN.out.src sc uc (by rw [← ZR.out]; exact small_drop HN.out.s8 _))
      have xc := HC.out.cell (i := 2) rfl
      have fc := HC.out.froz 2
      clear sc uc HN HNU
      go_wp2_with fail
      go_meet
      case rel => rw [rsNum_yes h, rdNum_yes h, NV.out, ZR.out]; exact HC.out.set 2 _
    · go_wp2_with fail
      go_meet
      case rel => rw [rsNum_no (h := sh k 3) (by omega), rdNum_no (h := sh k 3) (by omega)]; exact HN.out
  case rest =>
  have HB := hid hcut
  clear hcut HN
  change Hid (RS B W2 q p _ (b3 k z1) _) at HB
  -- piece 3
  have y1 := Hf4.out _ _ _ HB.out
  have y2 := Hf5.out _ _ _ HB.out
  go_upto_if 34 with (first | (go_at_call 26; refine (named_any _ _ _).mono ?_; rintro e wb ⟨rfl, kb⟩; have HN := hid (HB.out.nxt kb); clear kb) | fail)
  clear y1 y2 HB
  go_cut [34] (fun _ wx => RS B W2 q p wx (rsNum (sh k 5) 4 (b3 k z1)) #[.int .i64 (k : Nat), .string (rdKey k z1), .int .i64 ((rdNum (sh k 3) 1 (b2 k z1) : Nat) : Int), .int .i64 ((rdNum (sh k 5) 4 (b3 k z1) : Nat) : Int), .slice none 0 0, .int .i64 0, .slice none 0 0, .int .i64 0, .int .i64 0, .int .i64 0, .int .i64 0, .int .i64 0, .int .i64 0])
  case first =>
    as_aux_lemma =>
    by_cases h : 0 < sh k 5
    · obtain ⟨nv, NV⟩ : ∃ x, Hid (num 4 (b3 k z1) = x) := ⟨_, rfl⟩
      obtain ⟨zr, ZR⟩ : ∃ x, Hid ((b3 k z1).drop 4 = x) := ⟨_, rfl⟩
      have HNU := hid (num_any B wb q 4 (b3 k z1) HN.out.so (by omega) HN.out.s8 nv NV.out zr ZR.out)
      go_wp2_with fail
      refine HNU.out.mono ?_
      rintro e wc ⟨rfl, sc, uc⟩
      have HC := hid (HN.out.src sc uc (by rw [← ZR.out]; exact small_drop HN.out.s8 _))
      have xc := HC.out.cell (i := 3) rfl
      have fc := HC.out.froz 3
      clear sc uc HN HNU
      go_wp2_with fail
      go_meet
      case rel => rw [rsNum_yes h, rdNum_yes h, NV.out, ZR.out]; exact HC.out.set 3 _
    · go_wp2_with fail
      go_meet
      case rel => rw [rsNum_no (h := sh k 5) (by omega), rdNum_no (h := sh k 5) (by omega)]; exact HN.out
  case rest =>
  have HB := hid hcut
  clear hcut HN
  change Hid (RS B W2 q p _ (b4 k z1) _) at HB
  -- piece 4
  have y1 := Hf6.out _ _ _ HB.out
  have y2 := Hf7.out _ _ _ HB.out
  go_upto_if 39 with (first | (go_at_call 26; refine (named_any _ _ _).mono ?_; rintro e wb ⟨rfl, kb⟩; have HN := hid (HB.out.nxt kb); clear kb) | fail)
  clear y1 y2 HB
  go_cut [39] (fun _ wx => RS B W2 q p wx (rsNum (sh k 7) 1 (b4 k z1)) #[.int .i64 (k : Nat), .string (rdKey k z1), .int .i64 ((rdNum (sh k 3) 1 (b2 k z1) : Nat) : Int), .int .i64 ((rdNum (sh k 5) 4 (b3 k z1) : Nat) : Int), .slice none 0 0, .int .i64 ((rdNum (sh k 7) 1 (b4 k z1) : Nat) : Int), .slice none 0 0, .int .i64 0, .int .i64 0, .int .i64 0, .int .i64 0, .int .i64 0, .int .i64 0])
  case first =>
    as_aux_lemma =>
    by_cases h : 0 < sh k 7
    · obtain ⟨nv, NV⟩ : ∃ x, Hid (num 1 (b4 k z1) = x) := ⟨_, rfl⟩
      obtain ⟨zr, ZR⟩ : ∃ x, Hid ((b4 k z1).drop 1 = x) := ⟨_, rfl⟩
      have HNU := hid (num_any B wb q 1 (b4 k z1) HN.out.so (by omega) HN.out.s8 nv NV.out zr ZR.out)
      go_wp2_with fail
      refine HNU.out.mono ?_
      rintro e wc ⟨rfl, sc, uc⟩
      have HC := hid (HN.out.src sc uc (by rw [← ZR.out]; exact small_drop HN.out.s8 _))
      have xc := HC.out.cell (i := 5) rfl
      have fc := HC.out.froz 5
      clear sc uc HN HNU
      go_wp2_with fail
      go_meet
      case rel => rw [rsNum_yes h, rdNum_yes h, NV.out, ZR.out]; exact HC.out.set 5 _
    · go_wp2_with fail
      go_meet
      case rel => rw [rsNum_no (h := sh k 7) (by omega), rdNum_no (h := sh k 7) (by omega)]; exact HN.out
  case rest =>
  have HB := hid hcut
  clear hcut HN
  change Hid (RS B W2 q p _ (b5 k z1) _) at HB
  -- piece 5
  have y8 := Hf8.out _ _ _ HB.out
  obtain ⟨⟨hb1, hb2⟩, ⟨hb3, hb4⟩, ⟨hb5, hb6⟩, _⟩ := sh_bounds k hk9
  obtain ⟨c5, hc5⟩ := Int.eq_ofNat_of_zero_le hb1
  rw [hc5] at y8
  have HC5 : Hid ((sh k 8).toNat = c5 ∧ c5 ≤ 3) := ⟨by rw [hc5]; rfl, by omega⟩
  have HB5 := hid (And.intro hb3 (And.intro hb4 (And.intro hb5 hb6)))
  clear hb1 hb2 hb3 hb4 hb5 hb6 hc5
  go_upto_block 0 with fail
  clear y8
  go_cut [44] (fun _ wx => ∃ sv, RS B W2 q p wx ((b5 k z1).drop (4 * c5)) #[.int .i64 (k : Nat), .string (rdKey k z1), .int .i64 ((rdNum (sh k 3) 1 (b2 k z1) : Nat) : Int), .int .i64 ((rdNum (sh k 5) 4 (b3 k z1) : Nat) : Int), sv, .int .i64 ((rdNum (sh k 7) 1 (b4 k z1) : Nat) : Int), .slice none 0 0, .int .i64 0, .int .i64 0, .int .i64 0, .int .i64 0, .int .i64 0, .int .i64 0] ∧ OwnI W2.heap.size wx sv (rdInts c5 (b5 k z1)))
  case first =>
    as_aux_lemma =>
    go_wp2_with fail
    go_loopw [44] (fun i wr => ∃ t sv, t ≤ c5 ∧ i = .int .i64 ((t : Nat) : Int) ∧ RS B W2 q p wr ((b5 k z1).drop (4 * t)) #[.int .i64 (k : Nat), .string (rdKey k z1), .int .i64 ((rdNum (sh k 3) 1 (b2 k z1) : Nat) : Int), .int .i64 ((rdNum (sh k 5) 4 (b3 k z1) : Nat) : Int), sv, .int .i64 ((rdNum (sh k 7) 1 (b4 k z1) : Nat) : Int), .slice none 0 0, .int .i64 0, .int .i64 0, .int .i64 0, .int .i64 0, .int .i64 0, .int .i64 0] ∧ OwnI W2.heap.size wr sv (rdInts t (b5 k z1))) (fun i _ => c5 - (intOf i).toNat)
    case atStart => exact ⟨0, _, Nat.zero_le _, rfl, HB.out, OwnI.nil _ _⟩
    case round =>
      clear HB
      obtain ⟨t, sv, ht, rfl, hrs, hown⟩ := hrel
      have HB := hid hrs
      have HO := hid hown
      have hc3 := HC5.out.2
      have i0 : (0 : Int) ≤ (t : Int) := by omega
      have i9 : (t : Int) ≤ 3 := by omega
      by_cases hlt : t < c5
      · have i2 : (t : Int) < (c5 : Int) := by omega
        have HT := hid hlt
        have HNX := hid (rdInts_next t (b5 k z1))
        obtain ⟨x, X⟩ : ∃ x, Hid (num 4 ((b5 k z1).drop (4 * t)) = x) := ⟨_, rfl⟩
        obtain ⟨zr, ZR⟩ : ∃ y, Hid ((b5 k z1).drop (4 * (t + 1)) = y) := ⟨_, rfl⟩
        have hzr : ((b5 k z1).drop (4 * t)).drop 4 = zr := by rw [← ZR.out, List.drop_drop, Nat.mul_add]
        rw [X.out] at HNX
        have hd := hrs.nxt (Up.refl Nul wr).drew
        have HNU := hid (num_any B wr.drew q 4 _ hd.so (by omega) hd.s8 x X.out zr hzr)
        have HZ : Hid (∀ y ∈ zr, y < 256) := by show ∀ y ∈ zr, y < 256; rw [← hzr]; exact small_drop hd.s8 4
        have HD := hid hd
        have HOD := hid (hown.up ((Up.refl Nul wr).drew) fun _ _ _ h => h)
        have HLE : Hid ((rdInts t (b5 k z1)).length ≤ 1000) := by show _ ≤ _; rw [rdInts_length]; omega
        have xa : wr.cell? ⟨p, 4, none⟩ = some sv := hrs.cell (i := 4) rfl
        obtain ⟨sa, sc, rfl⟩ := hown.shape
        rw [rdInts_length] at xa HB HO HD HOD
        clear hrs hown hd hzr ht hlt
        go_wp2_with fail
        refine wp_region_held_drew (S := (fun _ => True)) (by kernel_rfl) (by exact trivial) (fun hHeld => ?_)
        refine tkl 0 (some 46) ?vg1 rfl ?yg1 ?rg1
        case yg1 => (intro w hSw; (try dsimp only at hSw); go_simp; try with_reducible rfl)
        try simp only [tdy]
        refine wpAnyH_ready (rs := [1, 2]) (by kernel_rfl) (by simp) ?_
        refine (AllReadyH.cons (o := ⟨some 47, _, _, _, _, _⟩) rfl (fun K hK => ?_) (AllReadyH.cons (o := ⟨some 48, _, _, _, _, _⟩) rfl (fun K hK => ?_) AllReadyH.nil))
        · go_simp
          refine hK.out _ _ ?kg2x (fun hHeld => ?_)
          case kg2x => exact trivial
          clear hK K
          try simp only [tdy]
          refine one 2 (some 48) rfl (fun K hK => ?_)
          go_simp
          go_at_call 46
          refine HNU.out.mono ?_
          rintro e wc ⟨rfl, sc', uc⟩
          have HC := hid (HD.out.src sc' uc HZ.out)
          have HOC := hid (HOD.out.up uc fun g hg _ e => by have e : g = q := e; have := HD.out.ql; omega)
          have xb : wc.cell? ⟨p, 4, none⟩ = some (.slice sa t sc) := HC.out.cell (i := 4) rfl
          have HCA := hid (HC.out.nxt ((Up.refl Nul wc).alloc (.cells #[.int .i64 ((x : Nat) : Int)] 3)))
          have xc : (wc.alloc (.cells #[.int .i64 ((x : Nat) : Int)] 3)).cell? ⟨p, 4, none⟩ = some (.slice sa t sc) := HCA.out.cell (i := 4) rfl
          obtain ⟨v', w', hrun, ho', hg'⟩ := (HOC.out.up ((Up.refl Nul wc).alloc (.cells #[.int .i64 ((x : Nat) : Int)] 3)) fun _ _ _ h => h).app ((x : Nat) : Int) ⟨wc.heap.size, 0, none⟩ (World.cell?_alloc_new _ _ _ 0) 1 HLE.out HCA.out.up.size
          have HF := hid (HCA.out.grow hg' (fun g hg => HOC.out.bs g hg))
          have HFO := hid ho'
          obtain ⟨av, nv', cv, rfl⟩ : ∃ a l c, v' = .slice a l c := by obtain ⟨a, c, e⟩ := ho'.shape; exact ⟨a, _, c, e⟩
          have xd := HF.out.cell (i := 4) rfl
          have fd := HF.out.froz 4
          clear sc' uc ho' hg'
          refine hK.out _ _ ?kg2x1 (fun hHeld => ?_)
          case kg2x1 => exact trivial
          clear hK K
          try simp only [tdy]
          refine one 3 (some 49) rfl (fun K hK => ?_)
          go_simp
          skip
          refine hK.out _ _ ?kg2x2 (fun hHeld => ?_)
          case kg2x2 => exact trivial
          clear hK K
          try simp only [tdy]
          refine one 4 (some 50) rfl (fun K hK => ?_)
          refine wp_append_eqv (.tmp 47) (.tmp 49) 22 rfl (.slice sa t sc) (.slice (some ⟨wc.heap.size, 0, none⟩) 1 1) (.slice av nv' cv) rfl rfl hrun ?_
          refine hK.out _ _ ?kg2x3 (fun hHeld => ?_)
          case kg2x3 => exact trivial
          clear hK K
          try simp only [tdy]
          refine tkl 5 (some 51) ?vg2x4 rfl ?yg2x4 ?rg2x4
          case yg2x4 => (intro w hSw; (try dsimp only at hSw); go_simp; try with_reducible rfl)
          try simp only [tdy]
          refine one 6 none rfl (fun K hK => ?_)
          go_simp
          skip
          refine hK.out _ _ ?kg2x5 (fun hHeld => ?_)
          case kg2x5 => exact trivial
          clear hK K
          try simp only [tdy]
          refine wpAnyH_done (by kernel_rfl) ?_ _
          have HG := hid (And.intro (HF.out.set 4 (.slice av nv' cv)) (HFO.out.up ((Up.refl (One p) w').put rfl 4 (.slice av nv' cv)) (fun g hg _ e => by have e : g = p := e; have := HF.out.pl; omega)))
          clear hrun xb xc xd fd HF HFO HC HOC HCA
          go_wp2_with fail
          go_roundw
          case rel => exact ⟨t + 1, _, HT.out, by go_num, by rw [ZR.out]; exact HG.out.1, by rw [HNX.out]; exact HG.out.2⟩
          case measure => have := HT.out; simp [intOf]; omega
        · go_simp
          go_at_call 46
          refine HNU.out.mono ?_
          rintro e wc ⟨rfl, sc', uc⟩
          have HC := hid (HD.out.src sc' uc HZ.out)
          have HOC := hid (HOD.out.up uc fun g hg _ e => by have e : g = q := e; have := HD.out.ql; omega)
          have xb : wc.cell? ⟨p, 4, none⟩ = some (.slice sa t sc) := HC.out.cell (i := 4) rfl
          have HCA := hid (HC.out.nxt ((Up.refl Nul wc).alloc (.cells #[.int .i64 ((x : Nat) : Int)] 3)))
          have xc : (wc.alloc (.cells #[.int .i64 ((x : Nat) : Int)] 3)).cell? ⟨p, 4, none⟩ = some (.slice sa t sc) := HCA.out.cell (i := 4) rfl
          obtain ⟨v', w', hrun, ho', hg'⟩ := (HOC.out.up ((Up.refl Nul wc).alloc (.cells #[.int .i64 ((x : Nat) : Int)] 3)) fun _ _ _ h => h).app ((x : Nat) : Int) ⟨wc.heap.size, 0, none⟩ (World.cell?_alloc_new _ _ _ 0) 1 HLE.out HCA.out.up.size
          have HF := hid (HCA.out.grow hg' (fun g hg => HOC.out.bs g hg))
          have HFO := hid ho'
          obtain ⟨av, nv', cv, rfl⟩ : ∃ a l c, v' = .slice a l c := by obtain ⟨a, c, e⟩ := ho'.shape; exact ⟨a, _, c, e⟩
          have xd := HF.out.cell (i := 4) rfl
          have fd := HF.out.froz 4
          clear sc' uc ho' hg'
          refine hK.out _ _ ?kg2y (fun hHeld => ?_)
          case kg2y => exact trivial
          clear hK K
          try simp only [tdy]
          refine wpAnyH_ready (rs := [1, 3]) (by kernel_rfl) (by simp) ?_
          refine (AllReadyH.cons (o := ⟨some 47, _, _, _, _, _⟩) rfl (fun K hK => ?_) (AllReadyH.cons (o := ⟨some 49, _, _, _, _, _⟩) rfl (fun K hK => ?_) AllReadyH.nil))
          · go_simp
            refine hK.out _ _ ?kg2y1x (fun hHeld => ?_)
            case kg2y1x => exact trivial
            clear hK K
            try simp only [tdy]
            refine one 3 (some 49) rfl (fun K hK => ?_)
            go_simp
            skip
            refine hK.out _ _ ?kg2y1x1 (fun hHeld => ?_)
            case kg2y1x1 => exact trivial
            clear hK K
            try simp only [tdy]
            refine one 4 (some 50) rfl (fun K hK => ?_)
            refine wp_append_eqv (.tmp 47) (.tmp 49) 22 rfl (.slice sa t sc) (.slice (some ⟨wc.heap.size, 0, none⟩) 1 1) (.slice av nv' cv) rfl rfl hrun ?_
            refine hK.out _ _ ?kg2y1x2 (fun hHeld => ?_)
            case kg2y1x2 => exact trivial
            clear hK K
            try simp only [tdy]
            refine tkl 5 (some 51) ?vg2y1x3 rfl ?yg2y1x3 ?rg2y1x3
            case yg2y1x3 => (intro w hSw; (try dsimp only at hSw); go_simp; try with_reducible rfl)
            try simp only [tdy]
            refine one 6 none rfl (fun K hK => ?_)
            go_simp
            skip
            refine hK.out _ _ ?kg2y1x4 (fun hHeld => ?_)
            case kg2y1x4 => exact trivial
            clear hK K
            try simp only [tdy]
            refine wpAnyH_done (by kernel_rfl) ?_ _
            have HG := hid (And.intro (HF.out.set 4 (.slice av nv' cv)) (HFO.out.up ((Up.refl (One p) w').put rfl 4 (.slice av nv' cv)) (fun g hg _ e => by have e : g = p := e; have := HF.out.pl; omega)))
            clear hrun xb xc xd fd HF HFO HC HOC HCA
            go_wp2_with fail
            go_roundw
            case rel => exact ⟨t + 1, _, HT.out, by go_num, by rw [ZR.out]; exact HG.out.1, by rw [HNX.out]; exact HG.out.2⟩
            case measure => have := HT.out; simp [intOf]; omega
          · go_simp
            refine hK.out _ _ ?kg2y1y (fun hHeld => ?_)
            case kg2y1y => exact trivial
            clear hK K
            try simp only [tdy]
            refine one 1 (some 47) rfl (fun K hK => ?_)
            go_simp
            skip
            refine hK.out _ _ ?kg2y1y1 (fun hHeld => ?_)
            case kg2y1y1 => exact trivial
            clear hK K
            try simp only [tdy]
            refine one 4 (some 50) rfl (fun K hK => ?_)
            refine wp_append_eqv (.tmp 47) (.tmp 49) 22 rfl (.slice sa t sc) (.slice (some ⟨wc.heap.size, 0, none⟩) 1 1) (.slice av nv' cv) rfl rfl hrun ?_
            refine hK.out _ _ ?kg2y1y2 (fun hHeld => ?_)
            case kg2y1y2 => exact trivial
            clear hK K
            try simp only [tdy]
            refine tkl 5 (some 51) ?vg2y1y3 rfl ?yg2y1y3 ?rg2y1y3
            case yg2y1y3 => (intro w hSw; (try dsimp only at hSw); go_simp; try with_reducible rfl)
            try simp only [tdy]
            refine one 6 none rfl (fun K hK => ?_)
            go_simp
            skip
            refine hK.out _ _ ?kg2y1y4 (fun hHeld => ?_)
            case kg2y1y4 => exact trivial
            clear hK K
            try simp only [tdy]
            refine wpAnyH_done (by kernel_rfl) ?_ _
            have HG := hid (And.intro (HF.out.set 4 (.slice av nv' cv)) (HFO.out.up ((Up.refl (One p) w').put rfl 4 (.slice av nv' cv)) (fun g hg _ e => by have e : g = p := e; have := HF.out.pl; omega)))
            clear hrun xb xc xd fd HF HFO HC HOC HCA
            go_wp2_with fail
            go_roundw
            case rel => exact ⟨t + 1, _, HT.out, by go_num, by rw [ZR.out]; exact HG.out.1, by rw [HNX.out]; exact HG.out.2⟩
            case measure => have := HT.out; simp [intOf]; omega
      · obtain rfl : t = c5 := by omega
        clear hlt ht hrs hown hc3
        go_wp2_with fail
        go_meet
        case rel => exact ⟨sv, HB.out, HO.out⟩
  case rest =>
  clear HB
  obtain ⟨sv, hrs, hown⟩ := hcut
  have HB := hid hrs
  have HO := hid hown
  clear hrs hown
  have hb6 : (b5 k z1).drop (4 * c5) = b6 k z1 := by unfold b6; rw [HC5.out.1]
  rw [hb6] at HB
  clear hb6
  -- piece 6
  have y11 := Hf11.out _ _ _ HB.out
  have y12 := Hf12.out _ _ _ HB.out
  go_upto_if 57 with fail
  clear y11 y12
  go_cut [6] (fun s6 wx => s6 = .int .i64 ((rdCnt k (b6 k z1) : Nat) : Int) ∧ RS B W2 q p wx (b7 k z1) #[.int .i64 (k : Nat), .string (rdKey k z1), .int .i64 ((rdNum (sh k 3) 1 (b2 k z1) : Nat) : Int), .int .i64 ((rdNum (sh k 5) 4 (b3 k z1) : Nat) : Int), sv, .int .i64 ((rdNum (sh k 7) 1 (b4 k z1) : Nat) : Int), .slice none 0 0, .int .i64 0, .int .i64 0, .int .i64 0, .int .i64 0, .int .i64 0, .int .i64 0] ∧ OwnI W2.heap.size wx sv (rdInts c5 (b5 k z1)))
  case first =>
    as_aux_lemma =>
    by_cases h : 0 < sh k 12
    · have HCN : Hid (rdCnt k (b6 k z1) = num 1 (b6 k z1) ∧ b7 k z1 = (b6 k z1).drop 1) := ⟨if_pos h, rsNum_yes h⟩
      obtain ⟨nv, NV⟩ : ∃ x, Hid (num 1 (b6 k z1) = x) := ⟨_, rfl⟩
      obtain ⟨zr, ZR⟩ : ∃ x, Hid ((b6 k z1).drop 1 = x) := ⟨_, rfl⟩
      have HNU := hid (fun W s => num_any B W q 1 (b6 k z1) s (by omega) HB.out.s8 nv NV.out zr ZR.out)
      rw [NV.out, ZR.out] at HCN
      go_wp2_with fail
      refine (HNU.out _ HB.out.so).mono ?_
      rintro e wc ⟨rfl, sc, uc⟩
      have HF := hid (And.intro (HB.out.src sc uc (by rw [← ZR.out]; exact small_drop HB.out.s8 1)) (HO.out.up uc fun g hg _ e => by have e : g = q := e; have := HB.out.ql; omega))
      clear sc uc
      go_wp2_with fail
      go_meet
      case rel => rw [HCN.out.1, HCN.out.2]; exact ⟨rfl, HF.out⟩
    · have HCN : Hid (((rdCnt k (b6 k z1) : Nat) : Int) = sh k 11 ∧ b7 k z1 = b6 k z1) := ⟨by unfold rdCnt; rw [if_neg h]; have := HB5.out.1; omega, rsNum_no h⟩
      go_wp2_with fail
      go_meet
      case rel => rw [HCN.out.1, HCN.out.2]; exact ⟨rfl, HB.out, HO.out⟩
  case rest =>
  clear HB HO
  obtain ⟨rfl, hrs, hown⟩ := hcut
  have HB := hid hrs
  have HO := hid hown
  have hcn : rdCnt k (b6 k z1) < 256 := by
    unfold rdCnt
    split
    · refine num_lt1 (fun x hx => ?_)
      have h6 : ∀ x ∈ b6 k z1, x < 256 := small_drop (rsNum_small (rsNum_small (rsNum_small (rsKey_small HZ8.out)))) _
      exact h6 x hx
    · have := HB5.out.2.1; omega
  obtain ⟨c7, C7⟩ : ∃ c, Hid (rdCnt k (b6 k z1) = c) := ⟨_, rfl⟩
  rw [C7.out] at hcn ⊢
  have HC7 := hid hcn
  clear hrs hown hcn
  -- piece 7
  go_upto_block 2 with fail
  go_cut [60] (fun _ wx => ∃ lv, RS B W2 q p wx ((b7 k z1).drop (6 * c7)) #[.int .i64 (k : Nat), .string (rdKey k z1), .int .i64 ((rdNum (sh k 3) 1 (b2 k z1) : Nat) : Int), .int .i64 ((rdNum (sh k 5) 4 (b3 k z1) : Nat) : Int), sv, .int .i64 ((rdNum (sh k 7) 1 (b4 k z1) : Nat) : Int), lv, .int .i64 0, .int .i64 0, .int .i64 0, .int .i64 0, .int .i64 0, .int .i64 0] ∧ OwnI W2.heap.size wx sv (rdInts c5 (b5 k z1)) ∧ OwnLo W2.heap.size wx lv (rdLocs c7 (b7 k z1)))
  case first =>
    as_aux_lemma =>
    go_wp2_with fail
    go_loopw [60] (fun i wr => ∃ t lv, t ≤ c7 ∧ i = .int .i64 ((t : Nat) : Int) ∧ RS B W2 q p wr ((b7 k z1).drop (6 * t)) #[.int .i64 (k : Nat), .string (rdKey k z1), .int .i64 ((rdNum (sh k 3) 1 (b2 k z1) : Nat) : Int), .int .i64 ((rdNum (sh k 5) 4 (b3 k z1) : Nat) : Int), sv, .int .i64 ((rdNum (sh k 7) 1 (b4 k z1) : Nat) : Int), lv, .int .i64 0, .int .i64 0, .int .i64 0, .int .i64 0, .int .i64 0, .int .i64 0] ∧ OwnI W2.heap.size wr sv (rdInts c5 (b5 k z1)) ∧ OwnLo W2.heap.size wr lv (rdLocs t (b7 k z1)) ∧ (∀ g, sv.ownBlock = some g → lv.ownBlock ≠ some g)) (fun i _ => c7 - (intOf i).toNat)
    case atStart => exact ⟨0, _, Nat.zero_le _, rfl, HB.out, HO.out, OwnLo.nil _ _, fun g _ e => by cases e⟩
    case round =>
      clear HB HO
      obtain ⟨t, lv, ht, rfl, hrs, hsv, hown, hdis⟩ := hrel
      have HB := hid hrs
      have HO := hid hown
      have HSV := hid (And.intro hsv hdis)
      have hc3 := HC7.out
      have i0 : (0 : Int) ≤ (t : Int) := by omega
      have i9 : (t : Int) ≤ 256 := by omega
      by_cases hlt : t < c7
      · have i2 : (t : Int) < (c7 : Int) := by omega
        have HT := hid hlt
        have HNX := hid (rdLocs_next t (b7 k z1))
        have hd := hrs.nxt (Up.refl Nul wr).drew
        obtain ⟨zr, ZR⟩ : ∃ y, Hid ((b7 k z1).drop (6 * (t + 1)) = y) := ⟨_, rfl⟩
        have hzr : ((b7 k z1).drop (6 * t)).drop 6 = zr := by rw [← ZR.out, List.drop_drop, Nat.mul_add]
        have hlo := loc_any B wr.drew q _ hd.so (by have := hd.bp; have := hd.pl; have := hd.up.size; omega) hd.s8
        rw [hzr] at hlo
        obtain ⟨lo, LO⟩ : ∃ l, Hid (locOf ((b7 k z1).drop (6 * t)) = l) := ⟨_, rfl⟩
        rw [LO.out] at hlo HNX
        have HNU := hid hlo
        obtain ⟨ld, ls, li⟩ := lo
        have HZ : Hid (∀ y ∈ zr, y < 256) := by show ∀ y ∈ zr, y < 256; rw [← hzr]; exact small_drop hd.s8 6
        have HD := hid hd
        have HOD := hid (hown.up ((Up.refl Nul wr).drew) fun _ _ _ h => h)
        have HSD := hid (hsv.up ((Up.refl Nul wr).drew) fun _ _ _ h => h)
        have HLE : Hid ((rdLocs t (b7 k z1)).length ≤ 1000) := by show _ ≤ _; rw [rdLocs_length]; omega
        have xa : wr.cell? ⟨p, 6, none⟩ = some lv := hrs.cell (i := 6) rfl
        obtain ⟨sa, sc, rfl⟩ := hown.shape
        rw [rdLocs_length] at xa HB HO HD HOD HSV
        clear hrs hown hd hzr ht hlt hsv hdis hlo
        go_wp2_with fail
        refine wp_region_held_drew (S := (fun _ => True)) (by kernel_rfl) (by exact trivial) (fun hHeld => ?_)
        refine tkl 0 (some 62) ?vh1 rfl ?yh1 ?rh1
        case yh1 => (intro w hSw; (try dsimp only at hSw); go_simp; try with_reducible rfl)
        try simp only [tdy]
        refine wpAnyH_ready (rs := [1, 2]) (by kernel_rfl) (by simp) ?_
        refine (AllReadyH.cons (o := ⟨some 63, _, _, _, _, _⟩) rfl (fun K hK => ?_) (AllReadyH.cons (o := ⟨some 64, _, _, _, _, _⟩) rfl (fun K hK => ?_) AllReadyH.nil))
        · go_simp
          refine hK.out _ _ ?kh2x (fun hHeld => ?_)
          case kh2x => exact trivial
          clear hK K
          try simp only [tdy]
          refine one 2 (some 64) rfl (fun K hK => ?_)
          go_simp
          go_at_call 48
          refine HNU.out.mono ?_
          rintro e wc ⟨rfl, sg'⟩
          have HC := hid (HD.out.src sg'.so sg'.up HZ.out)
          have HOC := hid (HOD.out.up sg'.up fun g hg _ e => by have e : g = q := e; have := HD.out.ql; omega)
          have HSC := hid (HSD.out.up sg'.up fun g hg _ e => by have e : g = q := e; have := HD.out.ql; omega)
          have xb : wc.cell? ⟨p, 6, none⟩ = some (.slice sa t sc) := HC.out.cell (i := 6) rfl
          have HCA := hid (HC.out.nxt ((Up.refl Nul wc).alloc (.cells #[.int .i64 ld, .int .i64 ls, .int .i64 li] 31)))
          have xc : (wc.alloc (.cells #[.int .i64 ld, .int .i64 ls, .int .i64 li] 31)).cell? ⟨p, 6, none⟩ = some (.slice sa t sc) := HCA.out.cell (i := 6) rfl
          obtain ⟨v', w', hrun, ho', hg', hw'⟩ := (HOC.out.up ((Up.refl Nul wc).alloc (.cells #[.int .i64 ld, .int .i64 ls, .int .i64 li] 31)) fun _ _ _ h => h).appw ⟨ld, ls, li⟩ wc.heap.size (fun j u hj => by
             match j, hj with
             | 0, hj => cases hj; exact World.cell?_alloc_new _ _ _ 0
             | 1, hj => cases hj; exact World.cell?_alloc_new _ _ _ 1
             | 2, hj => cases hj; exact World.cell?_alloc_new _ _ _ 2) 1 HLE.out HCA.out.up.size
          have HF := hid (HCA.out.grow hg' (fun g hg => HOC.out.bs g hg))
          have HFO := hid ho'
          have HFS := hid ((HSC.out.up ((Up.refl Nul wc).alloc (.cells #[.int .i64 ld, .int .i64 ls, .int .i64 li] 31)) fun _ _ _ h => h).grown hg' HSV.out.2)
          have HFD : Hid (∀ g, sv.ownBlock = some g → v'.ownBlock ≠ some g) := fun g hg e => by
            rcases hw' with hw' | hw'
            · rw [hw'] at e; exact HSV.out.2 g hg e
            · rw [hw'] at e
              have := (World.ownsRow.lt HSC.out g hg).2
              simp at e
              omega
          obtain ⟨av, nv', cv, rfl⟩ : ∃ a l c, v' = .slice a l c := by obtain ⟨a, c, e⟩ := ho'.shape; exact ⟨a, _, c, e⟩
          have xd := HF.out.cell (i := 6) rfl
          have fd := HF.out.froz 6
          clear sg' ho' hg' hw'
          refine hK.out _ _ ?kh2x1 (fun hHeld => ?_)
          case kh2x1 => exact trivial
          clear hK K
          try simp only [tdy]
          refine one 3 (some 65) rfl (fun K hK => ?_)
          go_simp
          skip
          refine hK.out _ _ ?kh2x2 (fun hHeld => ?_)
          case kh2x2 => exact trivial
          clear hK K
          try simp only [tdy]
          refine one 4 (some 66) rfl (fun K hK => ?_)
          refine wp_append_eqv (.tmp 63) (.tmp 65) 23 rfl (.slice sa t sc) (.slice (some ⟨wc.heap.size, 0, none⟩) 1 1) (.slice av nv' cv) rfl rfl hrun ?_
          refine hK.out _ _ ?kh2x3 (fun hHeld => ?_)
          case kh2x3 => exact trivial
          clear hK K
          try simp only [tdy]
          refine tkl 5 (some 67) ?vh2x4 rfl ?yh2x4 ?rh2x4
          case yh2x4 => (intro w hSw; (try dsimp only at hSw); go_simp; try with_reducible rfl)
          try simp only [tdy]
          refine one 6 none rfl (fun K hK => ?_)
          go_simp
          skip
          refine hK.out _ _ ?kh2x5 (fun hHeld => ?_)
          case kh2x5 => exact trivial
          clear hK K
          try simp only [tdy]
          refine wpAnyH_done (by kernel_rfl) ?_ _
          have HG := hid (And.intro (HF.out.set 6 (.slice av nv' cv)) (And.intro (HFS.out.up ((Up.refl (One p) w').put rfl 6 (.slice av nv' cv)) (fun g hg _ e => by have e : g = p := e; have := HF.out.pl; omega)) (HFO.out.up ((Up.refl (One p) w').put rfl 6 (.slice av nv' cv)) (fun g hg _ e => by have e : g = p := e; have := HF.out.pl; omega))))
          clear hrun xb xc xd fd HF HFO HC HOC HCA HSC HFS
          go_wp2_with fail
          go_roundw
          case rel => exact ⟨t + 1, _, HT.out, by go_num, by rw [ZR.out]; exact HG.out.1, HG.out.2.1, by rw [HNX.out]; exact HG.out.2.2, HFD.out⟩
          case measure => have := HT.out; simp [intOf]; omega
        · go_simp
          go_at_call 48
          refine HNU.out.mono ?_
          rintro e wc ⟨rfl, sg'⟩
          have HC := hid (HD.out.src sg'.so sg'.up HZ.out)
          have HOC := hid (HOD.out.up sg'.up fun g hg _ e => by have e : g = q := e; have := HD.out.ql; omega)
          have HSC := hid (HSD.out.up sg'.up fun g hg _ e => by have e : g = q := e; have := HD.out.ql; omega)
          have xb : wc.cell? ⟨p, 6, none⟩ = some (.slice sa t sc) := HC.out.cell (i := 6) rfl
          have HCA := hid (HC.out.nxt ((Up.refl Nul wc).alloc (.cells #[.int .i64 ld, .int .i64 ls, .int .i64 li] 31)))
          have xc : (wc.alloc (.cells #[.int .i64 ld, .int .i64 ls, .int .i64 li] 31)).cell? ⟨p, 6, none⟩ = some (.slice sa t sc) := HCA.out.cell (i := 6) rfl
          obtain ⟨v', w', hrun, ho', hg', hw'⟩ := (HOC.out.up ((Up.refl Nul wc).alloc (.cells #[.int .i64 ld, .int .i64 ls, .int .i64 li] 31)) fun _ _ _ h => h).appw ⟨ld, ls, li⟩ wc.heap.size (fun j u hj => by
             match j, hj with
             | 0, hj => cases hj; exact World.cell?_alloc_new _ _ _ 0
             | 1, hj => cases hj; exact World.cell?_alloc_new _ _ _ 1
             | 2, hj => cases hj; exact World.cell?_alloc_new _ _ _ 2) 1 HLE.out HCA.out.up.size
          have HF := hid (HCA.out.grow hg' (fun g hg => HOC.out.bs g hg))
          have HFO := hid ho'
          have HFS := hid ((HSC.out.up ((Up.refl Nul wc).alloc (.cells #[.int .i64 ld, .int .i64 ls, .int .i64 li] 31)) fun _ _ _ h => h).grown hg' HSV.out.2)
          have HFD : Hid (∀ g, sv.ownBlock = some g → v'.ownBlock ≠ some g) := fun g hg e => by
            rcases hw' with hw' | hw'
            · rw [hw'] at e; exact HSV.out.2 g hg e
            · rw [hw'] at e
              have := (World.ownsRow.lt HSC.out g hg).2
              simp at e
              omega
          obtain ⟨av, nv', cv, rfl⟩ : ∃ a l c, v' = .slice a l c := by obtain ⟨a, c, e⟩ := ho'.shape; exact ⟨a, _, c, e⟩
          have xd := HF.out.cell (i := 6) rfl
          have fd := HF.out.froz 6
          clear sg' ho' hg' hw'
          refine hK.out _ _ ?kh2y (fun hHeld => ?_)
          case kh2y => exact trivial
          clear hK K
          try simp only [tdy]
          refine wpAnyH_ready (rs := [1, 3]) (by kernel_rfl) (by simp) ?_
          refine (AllReadyH.cons (o := ⟨some 63, _, _, _, _, _⟩) rfl (fun K hK => ?_) (AllReadyH.cons (o := ⟨some 65, _, _, _, _, _⟩) rfl (fun K hK => ?_) AllReadyH.nil))
          · go_simp
            refine hK.out _ _ ?kh2y1x (fun hHeld => ?_)
            case kh2y1x => exact trivial
            clear hK K
            try simp only [tdy]
            refine one 3 (some 65) rfl (fun K hK => ?_)
            go_simp
            skip
            refine hK.out _ _ ?kh2y1x1 (fun hHeld => ?_)
            case kh2y1x1 => exact trivial
            clear hK K
            try simp only [tdy]
            refine one 4 (some 66) rfl (fun K hK => ?_)
            refine wp_append_eqv (.tmp 63) (.tmp 65) 23 rfl (.slice sa t sc) (.slice (some ⟨wc.heap.size, 0, none⟩) 1 1) (.slice av nv' cv) rfl rfl hrun ?_
            refine hK.out _ _ ?kh2y1x2 (fun hHeld => ?_)
            case kh2y1x2 => exact trivial
            clear hK K
            try simp only [tdy]
            refine tkl 5 (some 67) ?vh2y1x3 rfl ?yh2y1x3 ?rh2y1x3
            case yh2y1x3 => (intro w hSw; (try dsimp only at hSw); go_simp; try with_reducible rfl)
            try simp only [tdy]
            refine one 6 none rfl (fun K hK => ?_)
            go_simp
            skip
            refine hK.out _ _ ?kh2y1x4 (fun hHeld => ?_)
            case kh2y1x4 => exact trivial
            clear hK K
            try simp only [tdy]
            refine wpAnyH_done (by kernel_rfl) ?_ _
            have HG := hid (And.intro (HF.out.set 6 (.slice av nv' cv)) (And.intro (HFS.out.up ((Up.refl (One p) w').put rfl 6 (.slice av nv' cv)) (fun g hg _ e => by have e : g = p := e; have := HF.out.pl; omega)) (HFO.out.up ((Up.refl (One p) w').put rfl 6 (.slice av nv' cv)) (fun g hg _ e => by have e : g = p := e; have := HF.out.pl; omega))))
            clear hrun xb xc xd fd HF HFO HC HOC HCA HSC HFS
            go_wp2_with fail
            go_roundw
            case rel => exact ⟨t + 1, _, HT.out, by go_num, by rw [ZR.out]; exact HG.out.1, HG.out.2.1, by rw [HNX.out]; exact HG.out.2.2, HFD.out⟩
            case measure => have := HT.out; simp [intOf]; omega
          · go_simp
            refine hK.out _ _ ?kh2y1y (fun hHeld => ?_)
            case kh2y1y => exact trivial
            clear hK K
            try simp only [tdy]
            refine one 1 (some 63) rfl (fun K hK => ?_)
            go_simp
            skip
            refine hK.out _ _ ?kh2y1y1 (fun hHeld => ?_)
            case kh2y1y1 => exact trivial
            clear hK K
            try simp only [tdy]
            refine one 4 (some 66) rfl (fun K hK => ?_)
            refine wp_append_eqv (.tmp 63) (.tmp 65) 23 rfl (.slice sa t sc) (.slice (some ⟨wc.heap.size, 0, none⟩) 1 1) (.slice av nv' cv) rfl rfl hrun ?_
            refine hK.out _ _ ?kh2y1y2 (fun hHeld => ?_)
            case kh2y1y2 => exact trivial
            clear hK K
            try simp only [tdy]
            refine tkl 5 (some 67) ?vh2y1y3 rfl ?yh2y1y3 ?rh2y1y3
            case yh2y1y3 => (intro w hSw; (try dsimp only at hSw); go_simp; try with_reducible rfl)
            try simp only [tdy]
            refine one 6 none rfl (fun K hK => ?_)
            go_simp
            skip
            refine hK.out _ _ ?kh2y1y4 (fun hHeld => ?_)
            case kh2y1y4 => exact trivial
            clear hK K
            try simp only [tdy]
            refine wpAnyH_done (by kernel_rfl) ?_ _
            have HG := hid (And.intro (HF.out.set 6 (.slice av nv' cv)) (And.intro (HFS.out.up ((Up.refl (One p) w').put rfl 6 (.slice av nv' cv)) (fun g hg _ e => by have e : g = p := e; have := HF.out.pl; omega)) (HFO.out.up ((Up.refl (One p) w').put rfl 6 (.slice av nv' cv)) (fun g hg _ e => by have e : g = p := e; have := HF.out.pl; omega))))
            clear hrun xb xc xd fd HF HFO HC HOC HCA HSC HFS
            go_wp2_with fail
            go_roundw
            case rel => exact ⟨t + 1, _, HT.out, by go_num, by rw [ZR.out]; exact HG.out.1, HG.out.2.1, by rw [HNX.out]; exact HG.out.2.2, HFD.out⟩
            case measure => have := HT.out; simp [intOf]; omega
      · obtain rfl : t = c7 := by omega
        clear hlt ht hrs hown hc3 hsv hdis
        go_wp2_with fail
        go_meet
        case rel => exact ⟨lv, HB.out, HSV.out.1, HO.out⟩
  case rest =>
  clear HB HO
  obtain ⟨lv, hrs, hsv, hlv⟩ := hcut
  have HB := hid hrs
  have HO := hid (And.intro hsv hlv)
  clear hrs hsv hlv
  have hb8 : (b7 k z1).drop (6 * c7) = b8 k z1 := by unfold b8; rw [C7.out]
  rw [hb8] at HB
  clear hb8
  -- piece 8
  have y1 := Hf13.out _ _ _ HB.out
  have y2 := Hf14.out _ _ _ HB.out
  go_upto_if 71 with (first | (go_at_call 26; refine (named_any _ _ _).mono ?_; rintro e wb ⟨rfl, kb⟩; have HN := hid (HB.out.nxt kb); have HNO := hid (And.intro (HO.out.1.up kb fun _ _ _ h => h) (HO.out.2.up kb fun _ _ _ h => h)); clear kb) | fail)
  clear y1 y2 HB HO
  go_cut [71] (fun _ wx => ∃ bb, RS B W2 q p wx bb #[.int .i64 (k : Nat), .string (rdKey k z1), .int .i64 ((rdNum (sh k 3) 1 (b2 k z1) : Nat) : Int), .int .i64 ((rdNum (sh k 5) 4 (b3 k z1) : Nat) : Int), sv, .int .i64 ((rdNum (sh k 7) 1 (b4 k z1) : Nat) : Int), lv, .int .i64 (rdTab (sh k 14) (b8 k z1)).hot, .int .i64 (rdTab (sh k 14) (b8 k z1)).warm, .int .i64 (rdTab (sh k 14) (b8 k z1)).gap, .int .i64 (rdTab (sh k 14) (b8 k z1)).add, .int .i64 (rdTab (sh k 14) (b8 k z1)).top, .int .i64 (rdTab (sh k 14) (b8 k z1)).half] ∧ OwnI W2.heap.size wx sv (rdInts c5 (b5 k z1)) ∧ OwnLo W2.heap.size wx lv (rdLocs c7 (b7 k z1)))
  case first =>
    as_aux_lemma =>
    by_cases h : 0 < sh k 14
    · obtain ⟨tt, TT⟩ : ∃ t, Hid (tabOf (b8 k z1) = t) := ⟨_, rfl⟩
      have HTB : Hid (rdTab (sh k 14) (b8 k z1) = tt) := by show _ = _; rw [← TT.out]; exact if_pos h
      have hst := stable_any B wb q _ HN.out.so (by have := HN.out.bp; have := HN.out.pl; have := HN.out.up.size; omega) HN.out.s8
      have h24 := small_drop HN.out.s8 24
      obtain ⟨zr, ZR⟩ : ∃ y, Hid ((b8 k z1).drop 24 = y) := ⟨_, rfl⟩
      rw [ZR.out, TT.out] at hst
      rw [ZR.out] at h24
      obtain ⟨t0, t1, t2, t3, t4, t5⟩ := tt
      have HST := hid hst
      have H24 := hid h24
      clear hst h24
      go_wp2_with fail
      refine HST.out.mono ?_
      rintro e wc ⟨rfl, sg⟩
      have HC := hid (HN.out.src sg.so sg.up H24.out)
      have HCO := hid (And.intro (HNO.out.1.up sg.up fun g hg _ e => by have e : g = q := e; have := HN.out.ql; omega) (HNO.out.2.up sg.up fun g hg _ e => by have e : g = q := e; have := HN.out.ql; omega))
      have x7 := HC.out.cell (i := 7) rfl
      have f7 := HC.out.froz 7
      have x8 := HC.out.cell (i := 8) rfl
      have f8 := HC.out.froz 8
      have x9 := HC.out.cell (i := 9) rfl
      have f9 := HC.out.froz 9
      have x10 := HC.out.cell (i := 10) rfl
      have f10 := HC.out.froz 10
      have x11 := HC.out.cell (i := 11) rfl
      have f11 := HC.out.froz 11
      have x12 := HC.out.cell (i := 12) rfl
      have f12 := HC.out.froz 12
      have HF := hid (And.intro ((((((HC.out.set 7 (.int .i64 t0)).set 8 (.int .i64 t1)).set 9 (.int .i64 t2)).set 10 (.int .i64 t3)).set 11 (.int .i64 t4)).set 12 (.int .i64 t5)) (And.intro (HCO.out.1.up (((((((Up.refl (One p) wc).put rfl 7 (.int .i64 t0)).put rfl 8 (.int .i64 t1)).put rfl 9 (.int .i64 t2)).put rfl 10 (.int .i64 t3)).put rfl 11 (.int .i64 t4)).put rfl 12 (.int .i64 t5)) (fun g hg _ e => by have e : g = p := e; have := HN.out.pl; omega)) (HCO.out.2.up (((((((Up.refl (One p) wc).put rfl 7 (.int .i64 t0)).put rfl 8 (.int .i64 t1)).put rfl 9 (.int .i64 t2)).put rfl 10 (.int .i64 t3)).put rfl 11 (.int .i64 t4)).put rfl 12 (.int .i64 t5)) (fun g hg _ e => by have e : g = p := e; have := HN.out.pl; omega))))
      clear sg HCO HST
      go_wp2_with fail
      go_meet
      case rel => rw [HTB.out]; exact ⟨zr, HF.out.1, HF.out.2.1, HF.out.2.2⟩
    · have HTB : Hid (rdTab (sh k 14) (b8 k z1) = tb0) := if_neg h
      go_wp2_with fail
      go_meet
      case rel => rw [HTB.out]; exact ⟨_, HN.out, HNO.out.1, HNO.out.2⟩
  case rest =>
  obtain ⟨bb, hrs, hsv, hlv⟩ := hcut
  obtain ⟨ky, KY⟩ : ∃ x, Hid (rdKey k z1 = x) := ⟨_, rfl⟩
  obtain ⟨nn, NN⟩ : ∃ x, Hid (rdNum (sh k 3) 1 (b2 k z1) = x) := ⟨_, rfl⟩
  obtain ⟨si, SI⟩ : ∃ x, Hid (rdNum (sh k 5) 4 (b3 k z1) = x) := ⟨_, rfl⟩
  obtain ⟨co, CO⟩ : ∃ x, Hid (rdNum (sh k 7) 1 (b4 k z1) = x) := ⟨_, rfl⟩
  obtain ⟨tt, TT⟩ : ∃ x, Hid (rdTab (sh k 14) (b8 k z1) = x) := ⟨_, rfl⟩
  rw [KY.out, NN.out, SI.out, CO.out, TT.out] at hrs
  obtain ⟨t0, t1, t2, t3, t4, t5⟩ := tt
  have HB := hid hrs
  have HO := hid (And.intro hsv hlv)
  clear HN HNO
  -- the end
  have hpc := hrs.pc
  have x0 : wc.cell? ⟨p, 0, none⟩ = some (.int .i64 (k : Nat)) := by simp [World.cell?, hpc]
  have x1 : wc.cell? ⟨p, 1, none⟩ = some (.string ky) := by simp [World.cell?, hpc]
  have x2 : wc.cell? ⟨p, 2, none⟩ = some (.int .i64 ((nn : Nat) : Int)) := by simp [World.cell?, hpc]
  have x3 : wc.cell? ⟨p, 3, none⟩ = some (.int .i64 ((si : Nat) : Int)) := by simp [World.cell?, hpc]
  have x4 : wc.cell? ⟨p, 4, none⟩ = some (sv) := by simp [World.cell?, hpc]
  have x5 : wc.cell? ⟨p, 5, none⟩ = some (.int .i64 ((co : Nat) : Int)) := by simp [World.cell?, hpc]
  have x6 : wc.cell? ⟨p, 6, none⟩ = some (lv) := by simp [World.cell?, hpc]
  have x7 : wc.cell? ⟨p, 7, none⟩ = some (.int .i64 t0) := by simp [World.cell?, hpc]
  have x8 : wc.cell? ⟨p, 8, none⟩ = some (.int .i64 t1) := by simp [World.cell?, hpc]
  have x9 : wc.cell? ⟨p, 9, none⟩ = some (.int .i64 t2) := by simp [World.cell?, hpc]
  have x10 : wc.cell? ⟨p, 10, none⟩ = some (.int .i64 t3) := by simp [World.cell?, hpc]
  have x11 : wc.cell? ⟨p, 11, none⟩ = some (.int .i64 t4) := by simp [World.cell?, hpc]
  have x12 : wc.cell? ⟨p, 12, none⟩ = some (.int .i64 t5) := by simp [World.cell?, hpc]
  clear hpc
  have hbb := (hrs.old HB0.out.2.1 HB0.out.2.2.1 HB0.out.2.2.2).trans HB0.out.1
  have u0 : wc.cell? ⟨B, 0, none⟩ = some (.int .i64 0) := by simp [World.cell?, hbb]
  have f0 : wc.frozen? ⟨B, 0, none⟩ = false := by simp [World.frozen?, hbb]
  have u1 : wc.cell? ⟨B, 1, none⟩ = some (.string ⟨#[]⟩) := by simp [World.cell?, hbb]
  have f1 : wc.frozen? ⟨B, 1, none⟩ = false := by simp [World.frozen?, hbb]
  have u2 : wc.cell? ⟨B, 2, none⟩ = some (.int .i64 0) := by simp [World.cell?, hbb]
  have f2 : wc.frozen? ⟨B, 2, none⟩ = false := by simp [World.frozen?, hbb]
  have u3 : wc.cell? ⟨B, 3, none⟩ = some (.int .i64 0) := by simp [World.cell?, hbb]
  have f3 : wc.frozen? ⟨B, 3, none⟩ = false := by simp [World.frozen?, hbb]
  have u4 : wc.cell? ⟨B, 4, none⟩ = some (.slice none 0 0) := by simp [World.cell?, hbb]
  have f4 : wc.frozen? ⟨B, 4, none⟩ = false := by simp [World.frozen?, hbb]
  have u5 : wc.cell? ⟨B, 5, none⟩ = some (.int .i64 0) := by simp [World.cell?, hbb]
  have f5 : wc.frozen? ⟨B, 5, none⟩ = false := by simp [World.frozen?, hbb]
  have u6 : wc.cell? ⟨B, 6, none⟩ = some (.slice none 0 0) := by simp [World.cell?, hbb]
  have f6 : wc.frozen? ⟨B, 6, none⟩ = false := by simp [World.frozen?, hbb]
  have u7 : wc.cell? ⟨B, 7, none⟩ = some (.int .i64 0) := by simp [World.cell?, hbb]
  have f7 : wc.frozen? ⟨B, 7, none⟩ = false := by simp [World.frozen?, hbb]
  have u8 : wc.cell? ⟨B, 8, none⟩ = some (.int .i64 0) := by simp [World.cell?, hbb]
  have f8 : wc.frozen? ⟨B, 8, none⟩ = false := by simp [World.frozen?, hbb]
  have u9 : wc.cell? ⟨B, 9, none⟩ = some (.int .i64 0) := by simp [World.cell?, hbb]
  have f9 : wc.frozen? ⟨B, 9, none⟩ = false := by simp [World.frozen?, hbb]
  have u10 : wc.cell? ⟨B, 10, none⟩ = some (.int .i64 0) := by simp [World.cell?, hbb]
  have f10 : wc.frozen? ⟨B, 10, none⟩ = false := by simp [World.frozen?, hbb]
  have u11 : wc.cell? ⟨B, 11, none⟩ = some (.int .i64 0) := by simp [World.cell?, hbb]
  have f11 : wc.frozen? ⟨B, 11, none⟩ = false := by simp [World.frozen?, hbb]
  have u12 : wc.cell? ⟨B, 12, none⟩ = some (.int .i64 0) := by simp [World.cell?, hbb]
  have f12 : wc.frozen? ⟨B, 12, none⟩ = false := by simp [World.frozen?, hbb]
  have HBB := hid hbb
  have HUF := hid (up13 wc B (.int .i64 (k : Nat)) (.string ky) (.int .i64 ((nn : Nat) : Int)) (.int .i64 ((si : Nat) : Int)) (sv) (.int .i64 ((co : Nat) : Int)) (lv) (.int .i64 t0) (.int .i64 t1) (.int .i64 t2) (.int .i64 t3) (.int .i64 t4) (.int .i64 t5))
  obtain ⟨sa, scap, hsa, _⟩ := hsv.row
  obtain ⟨la, lcap, hla, _⟩ := hlv.row
  rw [hsa] at x4 HUF HO
  rw [hla] at x6 HUF HO
  clear hrs hsv hlv hbb hsa hla
  go_wp2_with fail
  refine bodyPost_ret (results_cell_row (P := Tryd.prog) (ty := 27) rfl _ _ B _ _ _ _ rfl (heap13s HBB.out _ _ _ _ _ _ _ _ _ _ _ _ _) Tryd.underlying27 rfl info_rec13) rfl ?_
  obtain ⟨sa2, sc2, e1, r1, r1b⟩ := (HO.out.1.up HUF.out fun g hg _ e => by have e : g = B := e; have := HB0.out.2.1; omega).rowb
  obtain ⟨la2, lc2, e2, r2, r2b⟩ := (HO.out.2.up HUF.out fun g hg _ e => by have e : g = B := e; have := HB0.out.2.1; omega).rowb
  have hR : readK k z1 = ⟨(k : Nat), ky, (nn : Nat), (si : Nat), rdInts c5 (b5 k z1), (co : Nat), rdLocs c7 (b7 k z1), ⟨t0, t1, t2, t3, t4, t5⟩⟩ := by
    unfold readK
    rw [HC5.out.1, C7.out, KY.out, NN.out, SI.out, CO.out, TT.out]
  rw [HE.out, hR]
  first
    | refine Exists.intro sa2 (Exists.intro sc2 (Exists.intro la2 (Exists.intro lc2 (And.intro ?_ (And.intro ?_ (And.intro ?_ ?_))))))
    | refine Exists.intro sa2 (Exists.intro sc2 (Exists.intro la2 (And.intro (Exists.intro lc2 ?_) (And.intro ?_ (And.intro ?_ ?_)))))
    | refine Exists.intro sa2 (Exists.intro sc2 (Exists.intro la2 (And.intro (Exists.intro lc2 ?_) (And.intro ?_ (And.intro ?_ ?_)))))
  · rw [e1, e2]
  · exact ⟨r1, r2, by show (rdInts _ _).length ≤ _; rw [rdInts_length]; have := HC5.out.2; omega, by show (rdLocs _ _).length ≤ _; rw [rdLocs_length]; have := HC7.out; omega⟩
  · have uA := HUW.out
    have uB := HB.out.up
    have uC := HUF.out
    refine ⟨uC.os.trans (uB.os.trans uA.os), uC.tape.trans (uB.tape.trans uA.tape), uC.output.trans (uB.output.trans uA.output), Nat.le_trans uA.size (Nat.le_trans uB.size uC.size), fun g hg _ => ?_⟩
    have hBg := hB.out
    have hqg := HBQ.out
    have hpg := HB.out.bp
    rw [uC.block g (by have := uA.size; have := uB.size; omega) (fun e => by have e : g = B := e; omega), uB.block g (by have := uA.size; omega) (fun e => by rcases e with e | e <;> omega), uA.block g hg (fun e => by have e : g = q := e; omega)]
  · have uA := HUW.out.size
    exact ⟨fun h x hx => Nat.le_trans uA (r1b h x hx), fun h x hx => Nat.le_trans uA (r2b h x hx)⟩
end Go.Proofs.YtpdkcpjofofkoaaDoor
