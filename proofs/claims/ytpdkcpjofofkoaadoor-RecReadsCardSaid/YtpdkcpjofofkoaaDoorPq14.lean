/- Whole records stored and read; what is apart. -/
import Derived.Test.YtpdkcpjofofkoaaDoorPkTidy
import Derived.Test.YtpdkcpjofofkoaaDoorPq3
import Derived.Test.YtpdkcpjofofkoaaDoorPq13
import Derived.Test.YtpdkcpjofofkoaaDoorPq4
import Derived.Test.YtpdkcpjofofkoaaDoorPq12
import Derived.Test.YtpdkcpjofofkoaaDoorPq9
set_option maxRecDepth 100000
namespace Go.Proofs.YtpdkcpjofofkoaaDoor
open Go.RowKit
set_option linter.unusedVariables false
theorem came_nxt {w w' : World} {a : Option Addr} {len cap : Nat} {zs : List Int} (h : CameI w a len cap zs) (u : Up Nul w w') : CameI w' a len cap zs := by
 rcases h with h | ⟨x, e, hl, hm, hz, hc, hw⟩
 ·exact .inl h
 ·exact .inr ⟨x, e, hl, hm, hz, fun i hi => (u.cell (p := x.add i) (lt_of_cell (hc i hi)) id).trans (hc i hi), hw⟩
theorem dec_enc {r : Rc} (F : OkF r) : decR (encR r) = some r := decR_iff.2 ⟨F, rfl⟩
theorem decO_enc {r : Rc} (F : OkF r) : decO (encR r) = r := by unfold decO; rw [dec_enc F]; rfl
theorem RB.range {w : World} {p : Nat} {q : Rc} {sb lb : Option Addr} {tc mc : Nat} (h : RB w p q (.slice sb q.sids.length tc) (.slice lb q.locs.length mc)) : w.rangeAt p 0 [.int .i64 q.kind, .string q.key, .int .i64 q.n, .int .i64 q.sid, .slice sb q.sids.length tc, .int .i64 q.colour, .slice lb q.locs.length mc, .int .i64 q.t.hot, .int .i64 q.t.warm, .int .i64 q.t.gap, .int .i64 q.t.add, .int .i64 q.t.top, .int .i64 q.t.half] := fun j v hv => by
 have a : w.heap[p]? = _ := h
 simp only [World.cell?, a, Nat.zero_add]
 simpa using hv
theorem Up.newest {S : Nat → Prop} {u w w' : World} (h : Up Nul u w) (k : Up S w w') (hs : ∀ i, i < u.heap.size → ¬ S i) : Up Nul u w' :=
 ⟨k.os.trans h.os, k.tape.trans h.tape, k.output.trans h.output, Nat.le_trans h.size k.size, fun j hj _ => (k.block j (Nat.lt_of_lt_of_le hj h.size) (hs j hj)).trans (h.block j hj id)⟩
theorem OwnLo.apart {B : Nat} {w : World} {a : Option Addr} {n c : Nat} {ls : List Lo} (h : OwnLo B w (.slice a n c) ls) (g o : Nat) (e : a = some ⟨g, o, none⟩) : B ≤ g := h.bs g (by rw [e]; rfl)
theorem RH.keep13 {w w' : World} {r : Rc} {sa la : Option Addr} {p : Nat} (h : RH w r sa la) (u : Up (One p) w w') (hf : (∀ g o, r.sids ≠ [] → sa = some ⟨g, o, none⟩ → g ≠ p) ∧ (∀ g o, la = some ⟨g, o, none⟩ → g ≠ p)) : RH w' r sa la := by
 refine ⟨?_, ?_, h.ns, h.nl⟩
 ·rcases h.s with e | ⟨g, o, e, hg, hc⟩
  ·exact .inl e
  ·by_cases hz : r.sids = []
   ·exact .inl hz
   ·exact .inr ⟨g, o, e, Nat.lt_of_lt_of_le hg u.size, fun j x hj => (u.cell (p := ⟨g, o + j, none⟩) hg (hf.1 g o hz e)).trans (hc j x hj)⟩
 ·rcases h.l with e | ⟨g, o, e, hg, hc⟩
  ·exact .inl e
  ·exact .inr ⟨g, o, e, Nat.lt_of_lt_of_le hg u.size, fun j l hj k x hk => (u.cell (p := ⟨g, o + j * 3 + k, none⟩) hg (hf.2 g o e)).trans (hc j l hj k x hk)⟩
/-- A whole record stored into its block. -/
theorem RB.store {w : World} {p : Nat} {q : Rc} {sv lv : Value} (h : RB w p q sv lv) (r : Rc) (s2 l2 : Value) :
  RB (((((((((((((w.setCell ⟨p, 0, none⟩ (.int .i64 r.kind)).setCell ⟨p, 1, none⟩ (.string r.key)).setCell ⟨p, 2, none⟩ (.int .i64 r.n)).setCell ⟨p, 3, none⟩ (.int .i64 r.sid)).setCell ⟨p, 4, none⟩ s2).setCell ⟨p, 5, none⟩ (.int .i64 r.colour)).setCell ⟨p, 6, none⟩ l2).setCell ⟨p, 7, none⟩ (.int .i64 r.t.hot)).setCell ⟨p, 8, none⟩ (.int .i64 r.t.warm)).setCell ⟨p, 9, none⟩ (.int .i64 r.t.gap)).setCell ⟨p, 10, none⟩ (.int .i64 r.t.add)).setCell ⟨p, 11, none⟩ (.int .i64 r.t.top)).setCell ⟨p, 12, none⟩ (.int .i64 r.t.half)) p r s2 l2 :=
 heap13s h _ _ _ _ _ _ _ _ _ _ _ _ _
end Go.Proofs.YtpdkcpjofofkoaaDoor
set_option maxRecDepth 100000
namespace Go.Proofs.YtpdkcpjofofkoaaDoor
open Go.RowKit
set_option linter.unusedVariables false
theorem decR_no {z : List Nat} (h : ∀ r, OkF r → encR r = z → False) : decO z = rc0 ∧ (decR z).isSome = false := by
 cases e : decR z with
 | none => exact ⟨by unfold decO; rw [e]; rfl, rfl⟩
 | some r => exact (h r (decR_iff.1 e).1 (decR_iff.1 e).2).elim
theorem decR_yes {z : List Nat} {r : Rc} (F : OkF r) (h : encR r = z) : decO z = r ∧ (decR z).isSome = true := by
 have e : decR z = some r := decR_iff.2 ⟨F, h⟩
 exact ⟨by unfold decO; rw [e]; rfl, by rw [e]; rfl⟩
theorem st_app {y z R : List Nat} {b : Bool} (n : Nat) (hn : y.length = n) (h : b = false ∧ z = y ++ R) : (b || lk n z) = false ∧ rs n z = R ∧ tk n z = y := by
 obtain ⟨rfl, rfl⟩ := h
 subst hn
 obtain ⟨h1, h2, h3⟩ := tk_app y R
 exact ⟨by rw [h3]; rfl, h2, h1⟩
theorem fold8_one (x : Nat) : fold8 [x] = x := by simp [fold8]
theorem fold8_four (v : Nat) (h : v < 4294967296) : fold8 (w4 v) = v := by
 have := num4_app v h []
 unfold num at this
 rw [List.append_nil] at this
 have e : nx 4 (w4 v) = w4 v := by have := nx_app (w4 v) []; rwa [List.append_nil] at this
 rwa [e] at this
theorem RB.frozs {w : World} {p : Nat} {r : Rc} {sv lv : Value} (h : RB w p r sv lv) : w.frozen? ⟨p, 0, none⟩ = false ∧ w.frozen? ⟨p, 1, none⟩ = false ∧ w.frozen? ⟨p, 2, none⟩ = false ∧ w.frozen? ⟨p, 3, none⟩ = false ∧ w.frozen? ⟨p, 4, none⟩ = false ∧ w.frozen? ⟨p, 5, none⟩ = false ∧ w.frozen? ⟨p, 6, none⟩ = false ∧ w.frozen? ⟨p, 7, none⟩ = false ∧ w.frozen? ⟨p, 8, none⟩ = false ∧ w.frozen? ⟨p, 9, none⟩ = false ∧ w.frozen? ⟨p, 10, none⟩ = false ∧ w.frozen? ⟨p, 11, none⟩ = false ∧ w.frozen? ⟨p, 12, none⟩ = false :=
 ⟨h.froz 0, h.froz 1, h.froz 2, h.froz 3, h.froz 4, h.froz 5, h.froz 6, h.froz 7, h.froz 8, h.froz 9, h.froz 10, h.froz 11, h.froz 12⟩
theorem Rd.bad {w : World} {p : Nat} {z : List Nat} {b : Bool} (h : Rd w p z b) : w.cell? ⟨p, 1, none⟩ = some (.bool b) := by
 have a : w.heap[p]? = _ := h
 simp [World.cell?, a]
theorem strOf_enc {r : Rc} {z : List Nat} (F : OkF r) (hz : ∀ x ∈ z, x < 256) (h : strOf (encR r) = strOf z) : encR r = z := by
 have sm : ∀ l : List Nat, (∀ x ∈ l, x < 256) → ∀ i, l.getD i 0 < 256 := fun l hl i => by
  rw [List.getD_eq_getElem?_getD]
  cases e : l[i]? with
  | none => decide
  | some x => exact hl x (List.mem_of_getElem? e)
 exact strOf_inj (sm _ F.small) (sm _ hz) h
theorem OwnI.off {S : Nat → Prop} {B : Nat} {w w' : World} {v : Value} {ys : List Int} (h : OwnI B w v ys) (u : Up S w w') (hs : ∀ g, v.ownBlock = some g → ¬ S g) : OwnI B w' v ys := by
 refine ⟨h.1, ?_⟩
 rcases h.2 with hn | ⟨g, cap, cur, h1, h2, h3, h4⟩
 ·exact .inl hn
 ·exact .inr ⟨g, cap, cur, h1, h2, (u.block g (Array.getElem?_eq_some_iff.1 h3).1 (hs g (by rw [h1]; rfl))).trans h3, h4⟩
theorem OwnLo.off {S : Nat → Prop} {B : Nat} {w w' : World} {v : Value} {ls : List Lo} (h : OwnLo B w v ls) (u : Up S w w') (hs : ∀ g, v.ownBlock = some g → ¬ S g) : OwnLo B w' v ls := by
 refine ⟨h.1, ?_⟩
 rcases h.2 with hn | ⟨g, cap, cur, h1, h2, h3, h4⟩
 ·exact .inl hn
 ·exact .inr ⟨g, cap, cur, h1, h2, (u.block g (Array.getElem?_eq_some_iff.1 h3).1 (hs g (by rw [h1]; rfl))).trans h3, h4⟩
/-- Six numbers as they come in. -/
def six (xs : List Int) : Array Value := #[.int .i64 (xs.getD 0 0), .int .i64 (xs.getD 1 0), .int .i64 (xs.getD 2 0), .int .i64 (xs.getD 3 0), .int .i64 (xs.getD 4 0), .int .i64 (xs.getD 5 0)]
theorem six_set (xs : List Int) (x : Int) (h : xs.length < 6) : (six xs).setIfInBounds xs.length (.int .i64 x) = six (xs ++ [x]) := by
 match xs, h with
 | [], _ => rfl
 | [a], _ => rfl
 | [a, b], _ => rfl
 | [a, b, c], _ => rfl
 | [a, b, c, d], _ => rfl
 | [a, b, c, d, e], _ => rfl
 | _ :: _ :: _ :: _ :: _ :: _ :: _, h => simp at h; omega
theorem six_cell {w : World} {g : Nat} {xs : List Int} (h : w.heap[g]? = some (.cells (six xs) 67 (0, 0))) (t : Nat) (ht : t < 6) : w.cell? ⟨g, t, none⟩ = some (.int .i64 (xs.getD t 0)) ∧ w.frozen? ⟨g, t, none⟩ = false := by
 refine ⟨?_, by simp [World.frozen?, h]⟩
 simp only [World.cell?, h]
 match t, ht with
 | 0, _ => rfl
 | 1, _ => rfl
 | 2, _ => rfl
 | 3, _ => rfl
 | 4, _ => rfl
 | 5, _ => rfl
theorem six_all (xs : List Int) (h : xs.length = 6) : ∃ a b c d e f, xs = [a, b, c, d, e, f] := by
 match xs, h with
 | [a, b, c, d, e, f], _ => exact ⟨a, b, c, d, e, f, rfl⟩
/-- What RecOf answers. -/
def RofP (w : World) (D : Rc) (ib : Bool) (e : Ending) (w' : World) : Prop := ∃ sa sc la lc, e = .returned (.tuple #[rv D (.slice sa D.sids.length sc) (.slice la D.locs.length lc), .bool ib]) ∧ RH w' D sa la ∧ Up Nul w w'
/-- Rows of ints and of Locs lie apart: their blocks are of unlike types. -/
theorem own_apart {B : Nat} {w : World} {v u : Value} {ys : List Int} {ls : List Lo} (h1 : OwnI B w v ys) (h2 : OwnLo B w u ls) (j : Nat) (hj : v.ownBlock = some j) : u.ownBlock ≠ some j := fun e => by
 rcases h1.2 with ⟨rfl, _⟩ | ⟨g, cap, cur, rfl, _, hg, _⟩
 ·cases hj
 ·rcases h2.2 with ⟨rfl, _⟩ | ⟨g', cap', cur', rfl, _, hg', _⟩
  ·cases e
  ·have a : g = j := by simpa [Value.ownBlock] using hj
   have b : g' = j := by simpa [Value.ownBlock] using e
   subst a
   subst b
   rw [hg] at hg'
   simp at hg'
/-- Where RecOf stands: its result's block, its reader's, its record's, what is named. -/
structure RfS (w0 wr : World) (pr pd p q : Nat) (r : Rc) (sv lv : Value) (z : List Nat) (b : Bool) (nm : Array Value) : Prop where
 res : RB wr pr rc0 (.slice none 0 0) (.slice none 0 0)
 rd : Rd wr pd z b
 rb : RB wr p r sv lv
 nm : wr.heap[q]? = some (.cells nm 63 (0, 0))
 up : Up Nul w0 wr
 ge : w0.heap.size ≤ pr ∧ w0.heap.size ≤ pd ∧ w0.heap.size ≤ p
 ne : pr ≠ pd ∧ pr ≠ p ∧ pd ≠ p ∧ pd ≠ q ∧ p ≠ q
 sm : ∀ x ∈ z, x < 256
 le : z.length ≤ 100000
section
variable {w0 wr w' : World} {pr pd p q : Nat} {r : Rc} {sv lv : Value} {z : List Nat} {b : Bool} {nm : Array Value}
theorem RfS.nxt (h : RfS w0 wr pr pd p q r sv lv z b nm) (u : Up Nul wr w') : RfS w0 w' pr pd p q r sv lv z b nm :=
 ⟨h.res.nxt u, h.rd.up u id, h.rb.nxt u, (u.block q (Array.getElem?_eq_some_iff.1 h.nm).1 id).trans h.nm, h.up.trans u, h.ge, h.ne, h.sm, h.le⟩
theorem RfS.num (h : RfS w0 wr pr pd p q r sv lv z b nm) (n : Nat) (hr : Rd w' pd (rs n z) (b || lk n z)) (u : Up (One pd) wr w') : RfS w0 w' pr pd p q r sv lv (rs n z) (b || lk n z) nm :=
 ⟨h.res.up u h.ne.1, hr, h.rb.up u (fun e => h.ne.2.2.1 e.symm), (u.block q (Array.getElem?_eq_some_iff.1 h.nm).1 (fun e => h.ne.2.2.2.1 e.symm)).trans h.nm, h.up.newest u (fun i hi e => by have e : i = pd := e; have := h.ge.2.1; omega), h.ge, h.ne, rs_small h.sm, Nat.le_trans (rs_le _ _) h.le⟩
theorem RfS.set (h : RfS w0 wr pr pd p q r sv lv z b nm) (i : Nat) (v : Value) {r' : Rc} {sv' lv' : Value} (e : (rcellsL r sv lv).setIfInBounds i v = rcellsL r' sv' lv') : RfS w0 (wr.setCell ⟨p, i, none⟩ v) pr pd p q r' sv' lv' z b nm := by
 have u : Up (One p) wr (wr.setCell ⟨p, i, none⟩ v) := (Up.refl (One p) wr).put rfl i v
 exact ⟨h.res.up u h.ne.2.1, h.rd.up u h.ne.2.2.1, h.rb.set i v e, (u.block q (Array.getElem?_eq_some_iff.1 h.nm).1 (fun e => h.ne.2.2.2.2 e.symm)).trans h.nm, h.up.newest u (fun i hi e => by have e : i = p := e; have := h.ge.2.2; omega), h.ge, h.ne, h.sm, h.le⟩
theorem RfS.grow {B : Nat} {row : Option Nat} (h : RfS w0 wr pr pd p q r sv lv z b nm) (hb : pr < B ∧ pd < B ∧ p < B ∧ q < B ∧ w0.heap.size ≤ B) (g : wr.grownBy w' row) (hr : ∀ k, row = some k → B ≤ k) : RfS w0 w' pr pd p q r sv lv z b nm := by
 obtain ⟨b1, b2, b3, b4, b5⟩ := hb
 have u : Up (fun j => row = some j) wr w' := ⟨g.os, g.tape, g.output, g.size, fun k hk hs => g.block k hk fun e => hs e.symm⟩
 have ne : ∀ j, j < B → ¬ (row = some j) := fun j hj e => by have := hr j e; omega
 exact ⟨h.res.up u (ne pr b1), h.rd.up u (ne pd b2), h.rb.up u (ne p b3), (u.block q (Array.getElem?_eq_some_iff.1 h.nm).1 (ne q b4)).trans h.nm, h.up.newest u (fun i hi e => by have := hr i e; omega), h.ge, h.ne, h.sm, h.le⟩
theorem RfS.lts (h : RfS w0 wr pr pd p q r sv lv z b nm) : pr < wr.heap.size ∧ pd < wr.heap.size ∧ p < wr.heap.size ∧ q < wr.heap.size ∧ w0.heap.size ≤ wr.heap.size :=
 ⟨h.res.lt, h.rd.lt, h.rb.lt, (Array.getElem?_eq_some_iff.1 h.nm).1, h.up.size⟩
theorem RfS.cells (h : RfS w0 wr pr pd p q r sv lv z b nm) (i : Nat) : wr.cell? ⟨p, i, none⟩ = (rcellsL r sv lv)[i]? ∧ wr.frozen? ⟨p, i, none⟩ = false := by
 have a : wr.heap[p]? = _ := h.rb
 exact ⟨by simp [World.cell?, a], h.rb.froz i⟩
theorem RfS.names {b0 b1 b2 b3 b4 : Bool} (h : RfS w0 wr pr pd p q r sv lv z b #[.bool b0, .bool b1, .bool b2, .bool b3, .bool b4]) : wr.cell? ⟨q, 0, none⟩ = some (.bool b0) ∧ wr.cell? ⟨q, 1, none⟩ = some (.bool b1) ∧ wr.cell? ⟨q, 2, none⟩ = some (.bool b2) ∧ wr.cell? ⟨q, 3, none⟩ = some (.bool b3) ∧ wr.cell? ⟨q, 4, none⟩ = some (.bool b4) := b5_cells h.nm
end
end Go.Proofs.YtpdkcpjofofkoaaDoor
set_option maxRecDepth 100000
namespace Go.Proofs.YtpdkcpjofofkoaaDoor
open Go.RowKit
set_option linter.unusedVariables false
set_option maxHeartbeats 8000000 in
theorem rok1 (r : Rc) (sa la : Option Addr) (sc lc : Nat) (w : World) (hR : RH w r sa la) (hK : r.key.size ≤ 100000) (hk : r.kind = 1) :
  Calls Tryd.prog 11 #[rv r (.slice sa r.sids.length sc) (.slice la r.locs.length lc)] w fun e w' => e = .returned (.bool (okR r)) ∧ Up Nul w w' := by
 obtain ⟨R, HE0⟩ : ∃ R, R = okR r := ⟨_, rfl⟩
 rw [← HE0]
 have HE := hid HE0
 have HR := hid hR
 have HK1 := hid hk
 have HKS := hid hK
 have HI := hid (okF1 hk)
 clear hR hk hK HE0
 obtain ⟨W1, hW1⟩ : ∃ W, W = w.alloc (.cells (rcellsL r (.slice sa r.sids.length sc) (.slice la r.locs.length lc)) 27) := ⟨_, rfl⟩
 have U1 : Hid (Up Nul w W1) := by show Up _ _ _; rw [hW1]; exact (Up.refl Nul w).alloc _
 have B1 : Hid (RB W1 w.heap.size r (.slice sa r.sids.length sc) (.slice la r.locs.length lc)) := by show RB _ _ _ _ _; rw [hW1]; exact RB.new _ _ _ _
 go_enter Tryd.func11, Tryd.ntmps11
 go_upto_region 1 with fail
 rw [← hW1]
 clear hW1
 obtain ⟨p, hpe⟩ : ∃ p, p = w.heap.size := ⟨_, rfl⟩
 rw [← hpe] at B1 ⊢
 clear hpe
 have x0 := B1.out.cells.1
 have hk := HK1.out
 go_wp2_with fail
 refine (in_any _ _ _ _).mono ?_
 rintro e w2 ⟨rfl, rfl⟩
 rw [show spn 1 8 1 = true from by decide]
 go_wp2_with fail
 refine (names1 _).mono ?_
 rintro e w2 ⟨rfl, u2⟩
 go_upto_region 4 with fail
 obtain ⟨W4, hW4⟩ : ∃ W, W = w2.alloc (.cells #[.bool (nmB 1 0), .bool (nmB 1 1), .bool (nmB 1 2), .bool (nmB 1 3), .bool (nmB 1 4)] 63) := ⟨_, rfl⟩
 have u4 : Up Nul w2 W4 := by rw [hW4]; exact (Up.refl Nul w2).alloc _
 have hq : W4.heap[w2.heap.size]? = some (.cells #[.bool true, .bool true, .bool true, .bool false, .bool false] 63 (0, 0)) := by rw [hW4]; exact heap_alloc_new _ _
 have HQ : Hid (∀ W, Up Nul W4 W → W.heap[w2.heap.size]? = some (.cells #[.bool true, .bool true, .bool true, .bool false, .bool false] 63 (0, 0))) := fun W u => (u.block _ (Array.getElem?_eq_some_iff.1 hq).1 id).trans hq
 have B4 := hid (B1.out.nxt (u2.trans u4))
 have U4 := hid (U1.out.trans (u2.trans u4))
 rw [← hW4]
 clear hW4 hq u2 u4 B1 U1 x0
 generalize w2.heap.size = q at HQ ⊢
 obtain ⟨n0, n1, n2, n3, n4⟩ := b5_cells (HQ.out _ (Up.refl Nul W4))
 obtain ⟨x0, x1, x2, x3, x4, x5, x6, x7, x8, x9, x10, x11, x12⟩ := B4.out.cells
 go_wp2_with fail
 refine (keyok_any _ _ HKS.out).mono ?_
 rintro e w' ⟨rfl, rfl⟩
 cases hkb : kok r.key with
 | false =>
  have HKB := hid hkb
  go_wp2_with fail
  go_ret
  refine ⟨by rw [HE.out, okR_no (fun F => by obtain ⟨i1, i2, i3, i4, i5, i6, i7, i8, i9, i10, i11, i12, i13, i14, i15⟩ := HI.out.1 F; have := kok_iff.2 ⟨⟨by omega, by omega⟩, i2⟩; rw [HKB.out] at this; cases this)]; rfl, U4.out⟩
 | true =>
 have HKB := hid (kok_iff.1 hkb)
 clear hkb
 go_wp2_with fail
 all_goals first | (go_ret; refine ⟨by rw [HE.out, okR_no (fun F => by obtain ⟨i1, i2, i3, i4, i5, i6, i7, i8, i9, i10, i11, i12, i13, i14, i15⟩ := HI.out.1 F; first | omega | (have hz : r.key.size = 0 := (by omega); exact absurd (key_nil.2 hz) (by assumption)))]; rfl, U4.out⟩) | skip
 have HKB : Hid ((1 ≤ ((r.key.size : Nat) : Int) ∧ ((r.key.size : Nat) : Int) ≤ 16) ∧ ∀ c ∈ nums r.key, 33 ≤ c ∧ c ≤ 126) := ⟨⟨by have := HKB.out.1; omega, by have := HKB.out.1; omega⟩, HKB.out.2⟩
 refine (in_any _ _ _ _).mono ?_
 rintro e w' ⟨rfl, rfl⟩
 cases hb : spn 0 64 r.n with
 | false =>
  have HB := hid (spn_no hb)
  go_wp2_with fail
  go_ret
  refine ⟨by rw [HE.out, okR_no (fun F => by obtain ⟨i1, i2, i3, i4, i5, i6, i7, i8, i9, i10, i11, i12, i13, i14, i15⟩ := HI.out.1 F; have := HB.out; omega)]; rfl, U4.out⟩
 | true =>
 have hc0 := spn_iff.1 hb
 clear hb
 go_wp2_with fail
 refine (in_any _ _ _ _).mono ?_
 rintro e w' ⟨rfl, rfl⟩
 cases hb : spn 1 2147483647 r.sid with
 | false =>
  have HB := hid (spn_no hb)
  go_wp2_with fail
  go_ret
  refine ⟨by rw [HE.out, okR_no (fun F => by obtain ⟨i1, i2, i3, i4, i5, i6, i7, i8, i9, i10, i11, i12, i13, i14, i15⟩ := HI.out.1 F; have := HB.out; omega)]; rfl, U4.out⟩
 | true =>
 have hc1 := spn_iff.1 hb
 clear hb
 go_wp2_with fail
 refine (in_any _ _ _ _).mono ?_
 rintro e w' ⟨rfl, rfl⟩
 rw [show spn 0 2 0 = true from by decide]
 go_wp2_with fail
 have HB : Hid ((0 ≤ r.n ∧ r.n ≤ 64) ∧ (1 ≤ r.sid ∧ r.sid ≤ 2147483647) ∧ (0 ≤ r.colour ∧ r.colour ≤ 0)) := ⟨⟨by omega, by omega⟩, ⟨by omega, by omega⟩, ⟨by omega, by omega⟩⟩
 have HT : Hid (r.t.hot = 0 ∧ r.t.warm = 0 ∧ r.t.gap = 0 ∧ r.t.add = 0 ∧ r.t.top = 0 ∧ r.t.half = 0) := ⟨by omega, by omega, by omega, by omega, by omega, by omega⟩
 clear hc0
 clear hc1
 refine (sids1 _).mono ?_
 rintro e w' ⟨rfl, rfl⟩
 rw [show sdN 1 = 0 from rfl, show lcN 1 = 3 from rfl]
 cases hb : (((r.sids.length : Nat) : Int) != 0) with
 | true =>
  have HNS : Hid (¬ ((r.sids.length : Nat) : Int) = 0) := by simpa [Hid] using hb
  go_wp2_with fail
  go_ret
  refine ⟨by rw [HE.out, okR_no (fun F => by obtain ⟨i1, i2, i3, i4, i5, i6, i7, i8, i9, i10, i11, i12, i13, i14, i15⟩ := HI.out.1 F; exact HNS.out i6)]; rfl, U4.out⟩
 | false =>
 have HNS : Hid (((r.sids.length : Nat) : Int) = 0) := by simpa [Hid] using hb
 go_wp2_with fail
 clear hb
 obtain ⟨ns, hns⟩ : ∃ ns, r.sids.length = ns := ⟨_, rfl⟩
 have HNN := hid hns
 rw [hns] at x4
 have hn3 : (ns : Int) ≤ 3 := by have := HNS.out; rw [hns] at this; omega
 clear hns
 go_loopw [5, 7] (fun l i wr => ∃ t : Nat, i = .int .i64 (t : Nat) ∧ t ≤ ns ∧ l = .int .i64 3 ∧ (∀ x ∈ r.sids.take t, 1 ≤ x ∧ x ≤ 2147483647) ∧ wr = w') (fun _ i _ => ns - (intOf i).toNat)
 case atStart => exact ⟨0, rfl, Nat.zero_le _, rfl, fun x hx => by simp at hx, by trivial⟩
 case round =>
  obtain ⟨t, rfl, ht, rfl, hp, rfl⟩ := hrel
  have HP := hid hp
  clear hp
  have i0 : (0 : Int) ≤ (t : Int) := by omega
  by_cases hd : t < ns
  ·have j1 : (t : Int) < (ns : Int) := by omega
   obtain ⟨x, hx⟩ : ∃ x, r.sids[t]? = some x := ⟨_, List.getElem?_eq_getElem (by rw [HNN.out]; exact hd)⟩
   rcases HR.out.s.nxt U4.out with e0 | ⟨g, o, rfl, hg, hrow⟩
   ·rw [e0] at hx; simp at hx
   have hcx := hrow t x hx
   have HX := hid hx
   have HL := hid hd
   clear hx hrow hg hd ht
   go_wp2_with fail
   refine (in_any _ _ _ _).mono ?_
   rintro e w'' ⟨rfl, rfl⟩
   cases hb : spn 1 2147483647 x with
   | false =>
    have HB2 := hid (spn_no hb)
    go_wp2_with fail
    go_ret
    refine ⟨by rw [HE.out, okR_no (fun F => by obtain ⟨i1, i2, i3, i4, i5, i6, i7, i8, i9, i10, i11, i12, i13, i14, i15⟩ := HI.out.1 F; have := i7 x (List.mem_of_getElem? HX.out); have := HB2.out; have h0 : r.sids = [] := List.eq_nil_of_length_eq_zero (by omega); rw [h0] at HX; exact absurd HX.out (by simp))]; rfl, U4.out⟩
   | true =>
    have HB2 := hid (spn_iff.1 hb)
    clear hb
    have HP2 : Hid (∀ y ∈ r.sids.take (t + 1), 1 ≤ y ∧ y ≤ 2147483647) := fun y hy => by
     rw [List.take_add_one, HX.out, List.mem_append] at hy
     rcases hy with hy | hy
     ·exact HP.out y hy
     ·have : y = x := by simpa using hy
      rw [this]; exact HB2.out
    go_wp2_with fail
    go_roundw
    case rel => exact ⟨t + 1, by go_num, HL.out, rfl, HP2.out, by trivial⟩
    case measure => have := HL.out; simp [intOf]; omega
  ·obtain rfl : t = ns := by omega
   have HP3 : Hid (∀ y ∈ r.sids, 1 ≤ y ∧ y ≤ 2147483647) := fun y hy => HP.out y (by rw [List.take_of_length_le (by rw [HNN.out]; omega)]; exact hy)
   skip
   have j1 : ¬ (t : Int) < (t : Int) := by omega
   clear hd
   cases hb : (((r.locs.length : Nat) : Int) != 3) with
   | true =>
    have HNL : Hid (¬ ((r.locs.length : Nat) : Int) = 3) := by simpa [Hid] using hb
    go_wp2_with fail
    go_ret
    refine ⟨by rw [HE.out, okR_no (fun F => by obtain ⟨i1, i2, i3, i4, i5, i6, i7, i8, i9, i10, i11, i12, i13, i14, i15⟩ := HI.out.1 F; exact HNL.out (by rw [i8]; omega))]; rfl, U4.out⟩
   | false =>
   have HNL : Hid (((r.locs.length : Nat) : Int) = 3) := by simpa [Hid] using hb
   go_wp2_with fail
   clear hb
   obtain ⟨nl, hnl⟩ : ∃ nl, r.locs.length = nl := ⟨_, rfl⟩
   have HNM := hid hnl
   have hl12 : (nl : Int) ≤ 12 := by have := HNL.out; rw [hnl] at this; omega
   clear hnl x0 x1 x2 x3 x4 x5 x6 x7 x8 x9 x10 x11 x12 n0 n1 n2 n3 n4
   go_loopw [8] (fun i wr => ∃ t : Nat, i = .int .i64 (t : Nat) ∧ t ≤ nl ∧ Hid (∀ l ∈ r.locs.take t, (0 ≤ l.d ∧ l.d ≤ 23) ∧ (0 ≤ l.s ∧ l.s ≤ 63) ∧ 1 ≤ l.i ∧ l.i ≤ 2147483647) ∧ RB wr p r (.slice sa r.sids.length sc) (.slice la r.locs.length lc) ∧ Up Nul w wr) (fun i _ => nl - (intOf i).toNat)
   case atStart => exact ⟨0, rfl, Nat.zero_le _, hid fun x hx => by simp at hx, B4.out, U4.out⟩
   case round =>
    obtain ⟨t2, rfl, ht2, HPL, hb2, hu2⟩ := hrel
    have B5 := hid hb2
    have U5 := hid hu2
    clear hb2 hu2
    have x6 := B5.out.cells.2.2.2.2.2.2.1
    rw [HNM.out] at x6
    have i2 : (0 : Int) ≤ (t2 : Int) := by omega
    have i3 : (t2 : Int) ≤ 12 := by omega
    by_cases hd2 : t2 < nl
    ·have j2 : (t2 : Int) < (nl : Int) := by omega
     obtain ⟨l, hl⟩ : ∃ l, r.locs[t2]? = some l := ⟨_, List.getElem?_eq_getElem (by rw [HNM.out]; exact hd2)⟩
     rcases HR.out.l.nxt U5.out with e0 | ⟨g, o, rfl, hg, hrow⟩
     ·rw [e0] at hl; simp at hl
     have y0 := hrow t2 l hl 0 (.int .i64 l.d) rfl
     have y1 := hrow t2 l hl 1 (.int .i64 l.s) rfl
     have y2 := hrow t2 l hl 2 (.int .i64 l.i) rfl
     simp only [Nat.add_zero] at y0
     have HX2 := hid hl
     have HL2 := hid hd2
     clear hl hrow hd2 ht2
     go_wp2_with fail
     refine (in_any _ _ _ _).mono ?_
     rintro e w6 ⟨rfl, rfl⟩
     cases hb : spn 0 23 l.d with
     | false =>
      have HB2 := hid (spn_no hb)
      go_wp2_with fail
      go_ret
      refine ⟨by rw [HE.out, okR_no (fun F => by obtain ⟨i1, i2, i3, i4, i5, i6, i7, i8, i9, i10, i11, i12, i13, i14, i15⟩ := HI.out.1 F; exact HB2.out (i9 l (List.mem_of_getElem? HX2.out)).1)]; rfl, U5.out.alloc _⟩
     | true =>
     have HB2 := hid (spn_iff.1 hb)
     clear hb
     go_wp2_with fail
     refine (in_any _ _ _ _).mono ?_
     rintro e w6 ⟨rfl, rfl⟩
     cases hb : spn 0 63 l.s with
     | false =>
      have HB3 := hid (spn_no hb)
      go_wp2_with fail
      go_ret
      refine ⟨by rw [HE.out, okR_no (fun F => by obtain ⟨i1, i2, i3, i4, i5, i6, i7, i8, i9, i10, i11, i12, i13, i14, i15⟩ := HI.out.1 F; exact HB3.out (i9 l (List.mem_of_getElem? HX2.out)).2.1)]; rfl, U5.out.alloc _⟩
     | true =>
     have HB3 := hid (spn_iff.1 hb)
     clear hb
     go_wp2_with fail
     refine (in_any _ _ _ _).mono ?_
     rintro e w6 ⟨rfl, rfl⟩
     cases hb : spn 1 2147483647 l.i with
     | false =>
      have HB4 := hid (spn_no hb)
      go_wp2_with fail
      go_ret
      refine ⟨by rw [HE.out, okR_no (fun F => by obtain ⟨i1, i2, i3, i4, i5, i6, i7, i8, i9, i10, i11, i12, i13, i14, i15⟩ := HI.out.1 F; exact HB4.out (i9 l (List.mem_of_getElem? HX2.out)).2.2)]; rfl, U5.out.alloc _⟩
     | true =>
     have HB4 := hid (spn_iff.1 hb)
     clear hb
     have HP2 : Hid (∀ y ∈ r.locs.take (t2 + 1), (0 ≤ y.d ∧ y.d ≤ 23) ∧ (0 ≤ y.s ∧ y.s ≤ 63) ∧ 1 ≤ y.i ∧ y.i ≤ 2147483647) := fun y hy => by
      rw [List.take_add_one, HX2.out, List.mem_append] at hy
      rcases hy with hy | hy
      ·exact HPL.out y hy
      ·have : y = l := by simpa using hy
       rw [this]; exact ⟨HB2.out, HB3.out, HB4.out⟩
     go_wp2_with fail
     go_roundw
     case rel => exact ⟨t2 + 1, by go_num, HL2.out, HP2, B5.out.nxt ((Up.refl Nul _).alloc _), U5.out.alloc _⟩
     case measure => have := HL2.out; simp [intOf]; omega
    ·obtain rfl : t2 = nl := by omega
     have HPL3 : Hid (∀ y ∈ r.locs, (0 ≤ y.d ∧ y.d ≤ 23) ∧ (0 ≤ y.s ∧ y.s ≤ 63) ∧ 1 ≤ y.i ∧ y.i ≤ 2147483647) := fun y hy => HPL.out y (by rw [List.take_of_length_le (by rw [HNM.out]; omega)]; exact hy)
     have j2 : ¬ (t2 : Int) < (t2 : Int) := by omega
     clear hd2 ht2
     obtain ⟨_, _, _, _, _, _, _, x7, x8, x9, x10, x11, x12⟩ := B5.out.cells
     go_wp2_with fail
     refine (tables_any tb0 _).mono ?_
     rintro e w7 ⟨rfl, u7⟩
     go_upto_region 30 with fail
     obtain ⟨W8, hW8⟩ : ∃ W, W = w7.alloc (.cells #[.int .i64 tb0.hot, .int .i64 tb0.warm, .int .i64 tb0.gap, .int .i64 tb0.add, .int .i64 tb0.top, .int .i64 tb0.half] 67) := ⟨_, rfl⟩
     have HC8 : Hid (∀ (i : Nat) (x : Int), tb0.l[i]? = some x → W8.cell? ⟨w7.heap.size, i, none⟩ = some (.int .i64 x)) := by rw [hW8]; exact i6_cells (heap_alloc_new _ _)
     have U8 : Hid (Up Nul w W8) := by show Up _ _ _; rw [hW8]; exact (U5.out.trans u7).alloc _
     first | rw [← hW8] | (have hW9 := hW8; simp only [tb0] at hW9; rw [← hW9]; clear hW9)
     clear hW8 u7 x6 x7 x8 x9 x10 x11 x12
     generalize w7.heap.size = q6 at HC8 ⊢
     go_wp2_with fail
     go_loopw [11] (fun i wr => ∃ t : Nat, i = .int .i64 (t : Nat) ∧ t ≤ 6 ∧ Hid (∀ x ∈ tb0.l.take t, 0 ≤ x ∧ x ≤ 1000000) ∧ wr = W8) (fun i _ => 6 - (intOf i).toNat)
     case atStart => exact ⟨0, rfl, by omega, hid fun x hx => by simp at hx, by trivial⟩
     case round =>
      obtain ⟨t3, rfl, ht3, HPT, rfl⟩ := hrel
      have i4 : (0 : Int) ≤ (t3 : Int) := by omega
      by_cases hd3 : t3 < 6
      ·have j3 : (t3 : Int) < 6 := by omega
       obtain ⟨x, hx⟩ : ∃ x, tb0.l[t3]? = some x := ⟨_, List.getElem?_eq_getElem (by simpa [Tb.l] using hd3)⟩
       have hcx := HC8.out t3 x hx
       have HX3 := hid hx
       have HL3 := hid hd3
       clear hx hd3 ht3
       go_wp2_with fail
       refine (in_any _ _ _ _).mono ?_
       rintro e w9 ⟨rfl, rfl⟩
       cases hb : spn 0 1000000 x with
       | false =>
        have HB5 := hid (spn_no hb)
        go_wp2_with fail
        go_ret
        refine ⟨by rw [HE.out, okR_no (fun F => by obtain ⟨i1, i2, i3, i4, i5, i6, i7, i8, i9, i10, i11, i12, i13, i14, i15⟩ := HI.out.1 F; have hm := List.mem_of_getElem? HX3.out; exact HB5.out (t0_bounds hm))]; rfl, U8.out⟩
       | true =>
       have HB5 := hid (spn_iff.1 hb)
       clear hb
       have HP5 : Hid (∀ y ∈ tb0.l.take (t3 + 1), 0 ≤ y ∧ y ≤ 1000000) := fun y hy => by
        rw [List.take_add_one, HX3.out, List.mem_append] at hy
        rcases hy with hy | hy
        ·exact HPT.out y hy
        ·have : y = x := by simpa using hy
         rw [this]; exact HB5.out
       go_wp2_with fail
       go_roundw
       case rel => exact ⟨t3 + 1, by go_num, HL3.out, HP5, by trivial⟩
       case measure => have := HL3.out; simp [intOf]; omega
      ·obtain rfl : t3 = 6 := by omega
       have HPT6 : Hid (∀ x ∈ tb0.l, 0 ≤ x ∧ x ≤ 1000000) := fun x hx => HPT.out x (by rw [List.take_of_length_le (by simp [Tb.l])]; exact hx)
       clear hd3 ht3
       go_wp2_with fail
       go_ret
       refine ⟨by rw [HE.out, okR_iff.2 (HI.out.2 ⟨HKB.out.1, HKB.out.2, HB.out.1, HB.out.2.1, HB.out.2.2, HNS.out, (fun x hx => by have h0 : r.sids = [] := List.eq_nil_of_length_eq_zero (by have := HNS.out; omega); rw [h0] at hx; cases hx), by have := HNL.out; omega, HPL3.out, by have := HT.out; omega, by have := HT.out; omega, by have := HT.out; omega, by have := HT.out; omega, by have := HT.out; omega, by have := HT.out; omega⟩)]; rfl, U8.out⟩

end Go.Proofs.YtpdkcpjofofkoaaDoor
set_option maxRecDepth 100000
namespace Go.Proofs.YtpdkcpjofofkoaaDoor
open Go.RowKit
set_option linter.unusedVariables false
set_option maxHeartbeats 8000000 in
theorem rok2 (r : Rc) (sa la : Option Addr) (sc lc : Nat) (w : World) (hR : RH w r sa la) (hK : r.key.size ≤ 100000) (hk : r.kind = 2) :
  Calls Tryd.prog 11 #[rv r (.slice sa r.sids.length sc) (.slice la r.locs.length lc)] w fun e w' => e = .returned (.bool (okR r)) ∧ Up Nul w w' := by
 obtain ⟨R, HE0⟩ : ∃ R, R = okR r := ⟨_, rfl⟩
 rw [← HE0]
 have HE := hid HE0
 have HR := hid hR
 have HK1 := hid hk
 have HKS := hid hK
 have HI := hid (okF2 hk)
 clear hR hk hK HE0
 obtain ⟨W1, hW1⟩ : ∃ W, W = w.alloc (.cells (rcellsL r (.slice sa r.sids.length sc) (.slice la r.locs.length lc)) 27) := ⟨_, rfl⟩
 have U1 : Hid (Up Nul w W1) := by show Up _ _ _; rw [hW1]; exact (Up.refl Nul w).alloc _
 have B1 : Hid (RB W1 w.heap.size r (.slice sa r.sids.length sc) (.slice la r.locs.length lc)) := by show RB _ _ _ _ _; rw [hW1]; exact RB.new _ _ _ _
 go_enter Tryd.func11, Tryd.ntmps11
 go_upto_region 1 with fail
 rw [← hW1]
 clear hW1
 obtain ⟨p, hpe⟩ : ∃ p, p = w.heap.size := ⟨_, rfl⟩
 rw [← hpe] at B1 ⊢
 clear hpe
 have x0 := B1.out.cells.1
 have hk := HK1.out
 go_wp2_with fail
 refine (in_any _ _ _ _).mono ?_
 rintro e w2 ⟨rfl, rfl⟩
 rw [show spn 1 8 2 = true from by decide]
 go_wp2_with fail
 refine (names2 _).mono ?_
 rintro e w2 ⟨rfl, u2⟩
 go_upto_region 4 with fail
 obtain ⟨W4, hW4⟩ : ∃ W, W = w2.alloc (.cells #[.bool (nmB 2 0), .bool (nmB 2 1), .bool (nmB 2 2), .bool (nmB 2 3), .bool (nmB 2 4)] 63) := ⟨_, rfl⟩
 have u4 : Up Nul w2 W4 := by rw [hW4]; exact (Up.refl Nul w2).alloc _
 have hq : W4.heap[w2.heap.size]? = some (.cells #[.bool true, .bool false, .bool false, .bool false, .bool false] 63 (0, 0)) := by rw [hW4]; exact heap_alloc_new _ _
 have HQ : Hid (∀ W, Up Nul W4 W → W.heap[w2.heap.size]? = some (.cells #[.bool true, .bool false, .bool false, .bool false, .bool false] 63 (0, 0))) := fun W u => (u.block _ (Array.getElem?_eq_some_iff.1 hq).1 id).trans hq
 have B4 := hid (B1.out.nxt (u2.trans u4))
 have U4 := hid (U1.out.trans (u2.trans u4))
 rw [← hW4]
 clear hW4 hq u2 u4 B1 U1 x0
 generalize w2.heap.size = q at HQ ⊢
 obtain ⟨n0, n1, n2, n3, n4⟩ := b5_cells (HQ.out _ (Up.refl Nul W4))
 obtain ⟨x0, x1, x2, x3, x4, x5, x6, x7, x8, x9, x10, x11, x12⟩ := B4.out.cells
 go_wp2_with fail
 refine (keyok_any _ _ HKS.out).mono ?_
 rintro e w' ⟨rfl, rfl⟩
 cases hkb : kok r.key with
 | false =>
  have HKB := hid hkb
  go_wp2_with fail
  go_ret
  refine ⟨by rw [HE.out, okR_no (fun F => by obtain ⟨i1, i2, i3, i4, i5, i6, i7, i8, i9, i10, i11, i12, i13, i14, i15⟩ := HI.out.1 F; have := kok_iff.2 ⟨⟨by omega, by omega⟩, i2⟩; rw [HKB.out] at this; cases this)]; rfl, U4.out⟩
 | true =>
 have HKB := hid (kok_iff.1 hkb)
 clear hkb
 go_wp2_with fail
 all_goals first | (go_ret; refine ⟨by rw [HE.out, okR_no (fun F => by obtain ⟨i1, i2, i3, i4, i5, i6, i7, i8, i9, i10, i11, i12, i13, i14, i15⟩ := HI.out.1 F; first | omega | (have hz : r.key.size = 0 := (by omega); exact absurd (key_nil.2 hz) (by assumption)))]; rfl, U4.out⟩) | skip
 have HKB : Hid ((1 ≤ ((r.key.size : Nat) : Int) ∧ ((r.key.size : Nat) : Int) ≤ 16) ∧ ∀ c ∈ nums r.key, 33 ≤ c ∧ c ≤ 126) := ⟨⟨by have := HKB.out.1; omega, by have := HKB.out.1; omega⟩, HKB.out.2⟩
 refine (in_any _ _ _ _).mono ?_
 rintro e w' ⟨rfl, rfl⟩
 rw [show spn 0 2 0 = true from by decide]
 go_wp2_with fail
 have HB : Hid ((0 ≤ r.n ∧ r.n ≤ 0) ∧ (0 ≤ r.sid ∧ r.sid ≤ 0) ∧ (0 ≤ r.colour ∧ r.colour ≤ 0)) := ⟨⟨by omega, by omega⟩, ⟨by omega, by omega⟩, ⟨by omega, by omega⟩⟩
 have HT : Hid (r.t.hot = 0 ∧ r.t.warm = 0 ∧ r.t.gap = 0 ∧ r.t.add = 0 ∧ r.t.top = 0 ∧ r.t.half = 0) := ⟨by omega, by omega, by omega, by omega, by omega, by omega⟩
 refine (sids2 _).mono ?_
 rintro e w' ⟨rfl, rfl⟩
 rw [show sdN 2 = 0 from rfl, show lcN 2 = 0 from rfl]
 cases hb : (((r.sids.length : Nat) : Int) != 0) with
 | true =>
  have HNS : Hid (¬ ((r.sids.length : Nat) : Int) = 0) := by simpa [Hid] using hb
  go_wp2_with fail
  go_ret
  refine ⟨by rw [HE.out, okR_no (fun F => by obtain ⟨i1, i2, i3, i4, i5, i6, i7, i8, i9, i10, i11, i12, i13, i14, i15⟩ := HI.out.1 F; exact HNS.out i6)]; rfl, U4.out⟩
 | false =>
 have HNS : Hid (((r.sids.length : Nat) : Int) = 0) := by simpa [Hid] using hb
 go_wp2_with fail
 clear hb
 obtain ⟨ns, hns⟩ : ∃ ns, r.sids.length = ns := ⟨_, rfl⟩
 have HNN := hid hns
 rw [hns] at x4
 have hn3 : (ns : Int) ≤ 3 := by have := HNS.out; rw [hns] at this; omega
 clear hns
 go_loopw [5, 7] (fun l i wr => ∃ t : Nat, i = .int .i64 (t : Nat) ∧ t ≤ ns ∧ l = .int .i64 0 ∧ (∀ x ∈ r.sids.take t, 1 ≤ x ∧ x ≤ 2147483647) ∧ wr = w') (fun _ i _ => ns - (intOf i).toNat)
 case atStart => exact ⟨0, rfl, Nat.zero_le _, rfl, fun x hx => by simp at hx, by trivial⟩
 case round =>
  obtain ⟨t, rfl, ht, rfl, hp, rfl⟩ := hrel
  have HP := hid hp
  clear hp
  have i0 : (0 : Int) ≤ (t : Int) := by omega
  by_cases hd : t < ns
  ·have j1 : (t : Int) < (ns : Int) := by omega
   obtain ⟨x, hx⟩ : ∃ x, r.sids[t]? = some x := ⟨_, List.getElem?_eq_getElem (by rw [HNN.out]; exact hd)⟩
   rcases HR.out.s.nxt U4.out with e0 | ⟨g, o, rfl, hg, hrow⟩
   ·rw [e0] at hx; simp at hx
   have hcx := hrow t x hx
   have HX := hid hx
   have HL := hid hd
   clear hx hrow hg hd ht
   go_wp2_with fail
   refine (in_any _ _ _ _).mono ?_
   rintro e w'' ⟨rfl, rfl⟩
   cases hb : spn 1 2147483647 x with
   | false =>
    have HB2 := hid (spn_no hb)
    go_wp2_with fail
    go_ret
    refine ⟨by rw [HE.out, okR_no (fun F => by obtain ⟨i1, i2, i3, i4, i5, i6, i7, i8, i9, i10, i11, i12, i13, i14, i15⟩ := HI.out.1 F; have := i7 x (List.mem_of_getElem? HX.out); have := HB2.out; have h0 : r.sids = [] := List.eq_nil_of_length_eq_zero (by omega); rw [h0] at HX; exact absurd HX.out (by simp))]; rfl, U4.out⟩
   | true =>
    have HB2 := hid (spn_iff.1 hb)
    clear hb
    have HP2 : Hid (∀ y ∈ r.sids.take (t + 1), 1 ≤ y ∧ y ≤ 2147483647) := fun y hy => by
     rw [List.take_add_one, HX.out, List.mem_append] at hy
     rcases hy with hy | hy
     ·exact HP.out y hy
     ·have : y = x := by simpa using hy
      rw [this]; exact HB2.out
    go_wp2_with fail
    go_roundw
    case rel => exact ⟨t + 1, by go_num, HL.out, rfl, HP2.out, by trivial⟩
    case measure => have := HL.out; simp [intOf]; omega
  ·obtain rfl : t = ns := by omega
   have HP3 : Hid (∀ y ∈ r.sids, 1 ≤ y ∧ y ≤ 2147483647) := fun y hy => HP.out y (by rw [List.take_of_length_le (by rw [HNN.out]; omega)]; exact hy)
   skip
   have j1 : ¬ (t : Int) < (t : Int) := by omega
   clear hd
   cases hb : (((r.locs.length : Nat) : Int) != 0) with
   | true =>
    have HNL : Hid (¬ ((r.locs.length : Nat) : Int) = 0) := by simpa [Hid] using hb
    go_wp2_with fail
    go_ret
    refine ⟨by rw [HE.out, okR_no (fun F => by obtain ⟨i1, i2, i3, i4, i5, i6, i7, i8, i9, i10, i11, i12, i13, i14, i15⟩ := HI.out.1 F; exact HNL.out (by rw [i8]; omega))]; rfl, U4.out⟩
   | false =>
   have HNL : Hid (((r.locs.length : Nat) : Int) = 0) := by simpa [Hid] using hb
   go_wp2_with fail
   clear hb
   obtain ⟨nl, hnl⟩ : ∃ nl, r.locs.length = nl := ⟨_, rfl⟩
   have HNM := hid hnl
   have hl12 : (nl : Int) ≤ 12 := by have := HNL.out; rw [hnl] at this; omega
   clear hnl x0 x1 x2 x3 x4 x5 x6 x7 x8 x9 x10 x11 x12 n0 n1 n2 n3 n4
   go_loopw [8] (fun i wr => ∃ t : Nat, i = .int .i64 (t : Nat) ∧ t ≤ nl ∧ Hid (∀ l ∈ r.locs.take t, (0 ≤ l.d ∧ l.d ≤ 23) ∧ (0 ≤ l.s ∧ l.s ≤ 63) ∧ 1 ≤ l.i ∧ l.i ≤ 2147483647) ∧ RB wr p r (.slice sa r.sids.length sc) (.slice la r.locs.length lc) ∧ Up Nul w wr) (fun i _ => nl - (intOf i).toNat)
   case atStart => exact ⟨0, rfl, Nat.zero_le _, hid fun x hx => by simp at hx, B4.out, U4.out⟩
   case round =>
    obtain ⟨t2, rfl, ht2, HPL, hb2, hu2⟩ := hrel
    have B5 := hid hb2
    have U5 := hid hu2
    clear hb2 hu2
    have x6 := B5.out.cells.2.2.2.2.2.2.1
    rw [HNM.out] at x6
    have i2 : (0 : Int) ≤ (t2 : Int) := by omega
    have i3 : (t2 : Int) ≤ 12 := by omega
    by_cases hd2 : t2 < nl
    ·have j2 : (t2 : Int) < (nl : Int) := by omega
     obtain ⟨l, hl⟩ : ∃ l, r.locs[t2]? = some l := ⟨_, List.getElem?_eq_getElem (by rw [HNM.out]; exact hd2)⟩
     rcases HR.out.l.nxt U5.out with e0 | ⟨g, o, rfl, hg, hrow⟩
     ·rw [e0] at hl; simp at hl
     have y0 := hrow t2 l hl 0 (.int .i64 l.d) rfl
     have y1 := hrow t2 l hl 1 (.int .i64 l.s) rfl
     have y2 := hrow t2 l hl 2 (.int .i64 l.i) rfl
     simp only [Nat.add_zero] at y0
     have HX2 := hid hl
     have HL2 := hid hd2
     clear hl hrow hd2 ht2
     go_wp2_with fail
     refine (in_any _ _ _ _).mono ?_
     rintro e w6 ⟨rfl, rfl⟩
     cases hb : spn 0 23 l.d with
     | false =>
      have HB2 := hid (spn_no hb)
      go_wp2_with fail
      go_ret
      refine ⟨by rw [HE.out, okR_no (fun F => by obtain ⟨i1, i2, i3, i4, i5, i6, i7, i8, i9, i10, i11, i12, i13, i14, i15⟩ := HI.out.1 F; exact HB2.out (i9 l (List.mem_of_getElem? HX2.out)).1)]; rfl, U5.out.alloc _⟩
     | true =>
     have HB2 := hid (spn_iff.1 hb)
     clear hb
     go_wp2_with fail
     refine (in_any _ _ _ _).mono ?_
     rintro e w6 ⟨rfl, rfl⟩
     cases hb : spn 0 63 l.s with
     | false =>
      have HB3 := hid (spn_no hb)
      go_wp2_with fail
      go_ret
      refine ⟨by rw [HE.out, okR_no (fun F => by obtain ⟨i1, i2, i3, i4, i5, i6, i7, i8, i9, i10, i11, i12, i13, i14, i15⟩ := HI.out.1 F; exact HB3.out (i9 l (List.mem_of_getElem? HX2.out)).2.1)]; rfl, U5.out.alloc _⟩
     | true =>
     have HB3 := hid (spn_iff.1 hb)
     clear hb
     go_wp2_with fail
     refine (in_any _ _ _ _).mono ?_
     rintro e w6 ⟨rfl, rfl⟩
     cases hb : spn 1 2147483647 l.i with
     | false =>
      have HB4 := hid (spn_no hb)
      go_wp2_with fail
      go_ret
      refine ⟨by rw [HE.out, okR_no (fun F => by obtain ⟨i1, i2, i3, i4, i5, i6, i7, i8, i9, i10, i11, i12, i13, i14, i15⟩ := HI.out.1 F; exact HB4.out (i9 l (List.mem_of_getElem? HX2.out)).2.2)]; rfl, U5.out.alloc _⟩
     | true =>
     have HB4 := hid (spn_iff.1 hb)
     clear hb
     have HP2 : Hid (∀ y ∈ r.locs.take (t2 + 1), (0 ≤ y.d ∧ y.d ≤ 23) ∧ (0 ≤ y.s ∧ y.s ≤ 63) ∧ 1 ≤ y.i ∧ y.i ≤ 2147483647) := fun y hy => by
      rw [List.take_add_one, HX2.out, List.mem_append] at hy
      rcases hy with hy | hy
      ·exact HPL.out y hy
      ·have : y = l := by simpa using hy
       rw [this]; exact ⟨HB2.out, HB3.out, HB4.out⟩
     go_wp2_with fail
     go_roundw
     case rel => exact ⟨t2 + 1, by go_num, HL2.out, HP2, B5.out.nxt ((Up.refl Nul _).alloc _), U5.out.alloc _⟩
     case measure => have := HL2.out; simp [intOf]; omega
    ·obtain rfl : t2 = nl := by omega
     have HPL3 : Hid (∀ y ∈ r.locs, (0 ≤ y.d ∧ y.d ≤ 23) ∧ (0 ≤ y.s ∧ y.s ≤ 63) ∧ 1 ≤ y.i ∧ y.i ≤ 2147483647) := fun y hy => HPL.out y (by rw [List.take_of_length_le (by rw [HNM.out]; omega)]; exact hy)
     have j2 : ¬ (t2 : Int) < (t2 : Int) := by omega
     clear hd2 ht2
     obtain ⟨_, _, _, _, _, _, _, x7, x8, x9, x10, x11, x12⟩ := B5.out.cells
     go_wp2_with fail
     refine (tables_any tb0 _).mono ?_
     rintro e w7 ⟨rfl, u7⟩
     go_upto_region 30 with fail
     obtain ⟨W8, hW8⟩ : ∃ W, W = w7.alloc (.cells #[.int .i64 tb0.hot, .int .i64 tb0.warm, .int .i64 tb0.gap, .int .i64 tb0.add, .int .i64 tb0.top, .int .i64 tb0.half] 67) := ⟨_, rfl⟩
     have HC8 : Hid (∀ (i : Nat) (x : Int), tb0.l[i]? = some x → W8.cell? ⟨w7.heap.size, i, none⟩ = some (.int .i64 x)) := by rw [hW8]; exact i6_cells (heap_alloc_new _ _)
     have U8 : Hid (Up Nul w W8) := by show Up _ _ _; rw [hW8]; exact (U5.out.trans u7).alloc _
     first | rw [← hW8] | (have hW9 := hW8; simp only [tb0] at hW9; rw [← hW9]; clear hW9)
     clear hW8 u7 x6 x7 x8 x9 x10 x11 x12
     generalize w7.heap.size = q6 at HC8 ⊢
     go_wp2_with fail
     go_loopw [11] (fun i wr => ∃ t : Nat, i = .int .i64 (t : Nat) ∧ t ≤ 6 ∧ Hid (∀ x ∈ tb0.l.take t, 0 ≤ x ∧ x ≤ 1000000) ∧ wr = W8) (fun i _ => 6 - (intOf i).toNat)
     case atStart => exact ⟨0, rfl, by omega, hid fun x hx => by simp at hx, by trivial⟩
     case round =>
      obtain ⟨t3, rfl, ht3, HPT, rfl⟩ := hrel
      have i4 : (0 : Int) ≤ (t3 : Int) := by omega
      by_cases hd3 : t3 < 6
      ·have j3 : (t3 : Int) < 6 := by omega
       obtain ⟨x, hx⟩ : ∃ x, tb0.l[t3]? = some x := ⟨_, List.getElem?_eq_getElem (by simpa [Tb.l] using hd3)⟩
       have hcx := HC8.out t3 x hx
       have HX3 := hid hx
       have HL3 := hid hd3
       clear hx hd3 ht3
       go_wp2_with fail
       refine (in_any _ _ _ _).mono ?_
       rintro e w9 ⟨rfl, rfl⟩
       cases hb : spn 0 1000000 x with
       | false =>
        have HB5 := hid (spn_no hb)
        go_wp2_with fail
        go_ret
        refine ⟨by rw [HE.out, okR_no (fun F => by obtain ⟨i1, i2, i3, i4, i5, i6, i7, i8, i9, i10, i11, i12, i13, i14, i15⟩ := HI.out.1 F; have hm := List.mem_of_getElem? HX3.out; exact HB5.out (t0_bounds hm))]; rfl, U8.out⟩
       | true =>
       have HB5 := hid (spn_iff.1 hb)
       clear hb
       have HP5 : Hid (∀ y ∈ tb0.l.take (t3 + 1), 0 ≤ y ∧ y ≤ 1000000) := fun y hy => by
        rw [List.take_add_one, HX3.out, List.mem_append] at hy
        rcases hy with hy | hy
        ·exact HPT.out y hy
        ·have : y = x := by simpa using hy
         rw [this]; exact HB5.out
       go_wp2_with fail
       go_roundw
       case rel => exact ⟨t3 + 1, by go_num, HL3.out, HP5, by trivial⟩
       case measure => have := HL3.out; simp [intOf]; omega
      ·obtain rfl : t3 = 6 := by omega
       have HPT6 : Hid (∀ x ∈ tb0.l, 0 ≤ x ∧ x ≤ 1000000) := fun x hx => HPT.out x (by rw [List.take_of_length_le (by simp [Tb.l])]; exact hx)
       clear hd3 ht3
       go_wp2_with fail
       go_ret
       refine ⟨by rw [HE.out, okR_iff.2 (HI.out.2 ⟨HKB.out.1, HKB.out.2, HB.out.1, HB.out.2.1, HB.out.2.2, HNS.out, (fun x hx => by have h0 : r.sids = [] := List.eq_nil_of_length_eq_zero (by have := HNS.out; omega); rw [h0] at hx; cases hx), by have := HNL.out; omega, HPL3.out, by have := HT.out; omega, by have := HT.out; omega, by have := HT.out; omega, by have := HT.out; omega, by have := HT.out; omega, by have := HT.out; omega⟩)]; rfl, U8.out⟩

end Go.Proofs.YtpdkcpjofofkoaaDoor
set_option maxRecDepth 100000
namespace Go.Proofs.YtpdkcpjofofkoaaDoor
open Go.RowKit
set_option linter.unusedVariables false
set_option maxHeartbeats 8000000 in
theorem rok3 (r : Rc) (sa la : Option Addr) (sc lc : Nat) (w : World) (hR : RH w r sa la) (hK : r.key.size ≤ 100000) (hk : r.kind = 3) :
  Calls Tryd.prog 11 #[rv r (.slice sa r.sids.length sc) (.slice la r.locs.length lc)] w fun e w' => e = .returned (.bool (okR r)) ∧ Up Nul w w' := by
 obtain ⟨R, HE0⟩ : ∃ R, R = okR r := ⟨_, rfl⟩
 rw [← HE0]
 have HE := hid HE0
 have HR := hid hR
 have HK1 := hid hk
 have HKS := hid hK
 have HI := hid (okF3 hk)
 clear hR hk hK HE0
 obtain ⟨W1, hW1⟩ : ∃ W, W = w.alloc (.cells (rcellsL r (.slice sa r.sids.length sc) (.slice la r.locs.length lc)) 27) := ⟨_, rfl⟩
 have U1 : Hid (Up Nul w W1) := by show Up _ _ _; rw [hW1]; exact (Up.refl Nul w).alloc _
 have B1 : Hid (RB W1 w.heap.size r (.slice sa r.sids.length sc) (.slice la r.locs.length lc)) := by show RB _ _ _ _ _; rw [hW1]; exact RB.new _ _ _ _
 go_enter Tryd.func11, Tryd.ntmps11
 go_upto_region 1 with fail
 rw [← hW1]
 clear hW1
 obtain ⟨p, hpe⟩ : ∃ p, p = w.heap.size := ⟨_, rfl⟩
 rw [← hpe] at B1 ⊢
 clear hpe
 have x0 := B1.out.cells.1
 have hk := HK1.out
 go_wp2_with fail
 refine (in_any _ _ _ _).mono ?_
 rintro e w2 ⟨rfl, rfl⟩
 rw [show spn 1 8 3 = true from by decide]
 go_wp2_with fail
 refine (names3 _).mono ?_
 rintro e w2 ⟨rfl, u2⟩
 go_upto_region 4 with fail
 obtain ⟨W4, hW4⟩ : ∃ W, W = w2.alloc (.cells #[.bool (nmB 3 0), .bool (nmB 3 1), .bool (nmB 3 2), .bool (nmB 3 3), .bool (nmB 3 4)] 63) := ⟨_, rfl⟩
 have u4 : Up Nul w2 W4 := by rw [hW4]; exact (Up.refl Nul w2).alloc _
 have hq : W4.heap[w2.heap.size]? = some (.cells #[.bool true, .bool false, .bool true, .bool true, .bool false] 63 (0, 0)) := by rw [hW4]; exact heap_alloc_new _ _
 have HQ : Hid (∀ W, Up Nul W4 W → W.heap[w2.heap.size]? = some (.cells #[.bool true, .bool false, .bool true, .bool true, .bool false] 63 (0, 0))) := fun W u => (u.block _ (Array.getElem?_eq_some_iff.1 hq).1 id).trans hq
 have B4 := hid (B1.out.nxt (u2.trans u4))
 have U4 := hid (U1.out.trans (u2.trans u4))
 rw [← hW4]
 clear hW4 hq u2 u4 B1 U1 x0
 generalize w2.heap.size = q at HQ ⊢
 obtain ⟨n0, n1, n2, n3, n4⟩ := b5_cells (HQ.out _ (Up.refl Nul W4))
 obtain ⟨x0, x1, x2, x3, x4, x5, x6, x7, x8, x9, x10, x11, x12⟩ := B4.out.cells
 go_wp2_with fail
 refine (keyok_any _ _ HKS.out).mono ?_
 rintro e w' ⟨rfl, rfl⟩
 cases hkb : kok r.key with
 | false =>
  have HKB := hid hkb
  go_wp2_with fail
  go_ret
  refine ⟨by rw [HE.out, okR_no (fun F => by obtain ⟨i1, i2, i3, i4, i5, i6, i7, i8, i9, i10, i11, i12, i13, i14, i15⟩ := HI.out.1 F; have := kok_iff.2 ⟨⟨by omega, by omega⟩, i2⟩; rw [HKB.out] at this; cases this)]; rfl, U4.out⟩
 | true =>
 have HKB := hid (kok_iff.1 hkb)
 clear hkb
 go_wp2_with fail
 all_goals first | (go_ret; refine ⟨by rw [HE.out, okR_no (fun F => by obtain ⟨i1, i2, i3, i4, i5, i6, i7, i8, i9, i10, i11, i12, i13, i14, i15⟩ := HI.out.1 F; first | omega | (have hz : r.key.size = 0 := (by omega); exact absurd (key_nil.2 hz) (by assumption)))]; rfl, U4.out⟩) | skip
 have HKB : Hid ((1 ≤ ((r.key.size : Nat) : Int) ∧ ((r.key.size : Nat) : Int) ≤ 16) ∧ ∀ c ∈ nums r.key, 33 ≤ c ∧ c ≤ 126) := ⟨⟨by have := HKB.out.1; omega, by have := HKB.out.1; omega⟩, HKB.out.2⟩
 refine (in_any _ _ _ _).mono ?_
 rintro e w' ⟨rfl, rfl⟩
 cases hb : spn 1 2147483647 r.sid with
 | false =>
  have HB := hid (spn_no hb)
  go_wp2_with fail
  go_ret
  refine ⟨by rw [HE.out, okR_no (fun F => by obtain ⟨i1, i2, i3, i4, i5, i6, i7, i8, i9, i10, i11, i12, i13, i14, i15⟩ := HI.out.1 F; have := HB.out; omega)]; rfl, U4.out⟩
 | true =>
 have hc0 := spn_iff.1 hb
 clear hb
 go_wp2_with fail
 refine (in_any _ _ _ _).mono ?_
 rintro e w' ⟨rfl, rfl⟩
 cases hb : spn 0 2 r.colour with
 | false =>
  have HB := hid (spn_no hb)
  go_wp2_with fail
  go_ret
  refine ⟨by rw [HE.out, okR_no (fun F => by obtain ⟨i1, i2, i3, i4, i5, i6, i7, i8, i9, i10, i11, i12, i13, i14, i15⟩ := HI.out.1 F; have := HB.out; omega)]; rfl, U4.out⟩
 | true =>
 have hc1 := spn_iff.1 hb
 clear hb
 go_wp2_with fail
 have HB : Hid ((0 ≤ r.n ∧ r.n ≤ 0) ∧ (1 ≤ r.sid ∧ r.sid ≤ 2147483647) ∧ (0 ≤ r.colour ∧ r.colour ≤ 2)) := ⟨⟨by omega, by omega⟩, ⟨by omega, by omega⟩, ⟨by omega, by omega⟩⟩
 have HT : Hid (r.t.hot = 0 ∧ r.t.warm = 0 ∧ r.t.gap = 0 ∧ r.t.add = 0 ∧ r.t.top = 0 ∧ r.t.half = 0) := ⟨by omega, by omega, by omega, by omega, by omega, by omega⟩
 clear hc0
 clear hc1
 refine (sids3 _).mono ?_
 rintro e w' ⟨rfl, rfl⟩
 rw [show sdN 3 = 0 from rfl, show lcN 3 = 6 from rfl]
 cases hb : (((r.sids.length : Nat) : Int) != 0) with
 | true =>
  have HNS : Hid (¬ ((r.sids.length : Nat) : Int) = 0) := by simpa [Hid] using hb
  go_wp2_with fail
  go_ret
  refine ⟨by rw [HE.out, okR_no (fun F => by obtain ⟨i1, i2, i3, i4, i5, i6, i7, i8, i9, i10, i11, i12, i13, i14, i15⟩ := HI.out.1 F; exact HNS.out i6)]; rfl, U4.out⟩
 | false =>
 have HNS : Hid (((r.sids.length : Nat) : Int) = 0) := by simpa [Hid] using hb
 go_wp2_with fail
 clear hb
 obtain ⟨ns, hns⟩ : ∃ ns, r.sids.length = ns := ⟨_, rfl⟩
 have HNN := hid hns
 rw [hns] at x4
 have hn3 : (ns : Int) ≤ 3 := by have := HNS.out; rw [hns] at this; omega
 clear hns
 go_loopw [5, 7] (fun l i wr => ∃ t : Nat, i = .int .i64 (t : Nat) ∧ t ≤ ns ∧ l = .int .i64 6 ∧ (∀ x ∈ r.sids.take t, 1 ≤ x ∧ x ≤ 2147483647) ∧ wr = w') (fun _ i _ => ns - (intOf i).toNat)
 case atStart => exact ⟨0, rfl, Nat.zero_le _, rfl, fun x hx => by simp at hx, by trivial⟩
 case round =>
  obtain ⟨t, rfl, ht, rfl, hp, rfl⟩ := hrel
  have HP := hid hp
  clear hp
  have i0 : (0 : Int) ≤ (t : Int) := by omega
  by_cases hd : t < ns
  ·have j1 : (t : Int) < (ns : Int) := by omega
   obtain ⟨x, hx⟩ : ∃ x, r.sids[t]? = some x := ⟨_, List.getElem?_eq_getElem (by rw [HNN.out]; exact hd)⟩
   rcases HR.out.s.nxt U4.out with e0 | ⟨g, o, rfl, hg, hrow⟩
   ·rw [e0] at hx; simp at hx
   have hcx := hrow t x hx
   have HX := hid hx
   have HL := hid hd
   clear hx hrow hg hd ht
   go_wp2_with fail
   refine (in_any _ _ _ _).mono ?_
   rintro e w'' ⟨rfl, rfl⟩
   cases hb : spn 1 2147483647 x with
   | false =>
    have HB2 := hid (spn_no hb)
    go_wp2_with fail
    go_ret
    refine ⟨by rw [HE.out, okR_no (fun F => by obtain ⟨i1, i2, i3, i4, i5, i6, i7, i8, i9, i10, i11, i12, i13, i14, i15⟩ := HI.out.1 F; have := i7 x (List.mem_of_getElem? HX.out); have := HB2.out; have h0 : r.sids = [] := List.eq_nil_of_length_eq_zero (by omega); rw [h0] at HX; exact absurd HX.out (by simp))]; rfl, U4.out⟩
   | true =>
    have HB2 := hid (spn_iff.1 hb)
    clear hb
    have HP2 : Hid (∀ y ∈ r.sids.take (t + 1), 1 ≤ y ∧ y ≤ 2147483647) := fun y hy => by
     rw [List.take_add_one, HX.out, List.mem_append] at hy
     rcases hy with hy | hy
     ·exact HP.out y hy
     ·have : y = x := by simpa using hy
      rw [this]; exact HB2.out
    go_wp2_with fail
    go_roundw
    case rel => exact ⟨t + 1, by go_num, HL.out, rfl, HP2.out, by trivial⟩
    case measure => have := HL.out; simp [intOf]; omega
  ·obtain rfl : t = ns := by omega
   have HP3 : Hid (∀ y ∈ r.sids, 1 ≤ y ∧ y ≤ 2147483647) := fun y hy => HP.out y (by rw [List.take_of_length_le (by rw [HNN.out]; omega)]; exact hy)
   skip
   have j1 : ¬ (t : Int) < (t : Int) := by omega
   clear hd
   cases hb : (((r.locs.length : Nat) : Int) != 6) with
   | true =>
    have HNL : Hid (¬ ((r.locs.length : Nat) : Int) = 6) := by simpa [Hid] using hb
    go_wp2_with fail
    go_ret
    refine ⟨by rw [HE.out, okR_no (fun F => by obtain ⟨i1, i2, i3, i4, i5, i6, i7, i8, i9, i10, i11, i12, i13, i14, i15⟩ := HI.out.1 F; exact HNL.out (by rw [i8]; omega))]; rfl, U4.out⟩
   | false =>
   have HNL : Hid (((r.locs.length : Nat) : Int) = 6) := by simpa [Hid] using hb
   go_wp2_with fail
   clear hb
   obtain ⟨nl, hnl⟩ : ∃ nl, r.locs.length = nl := ⟨_, rfl⟩
   have HNM := hid hnl
   have hl12 : (nl : Int) ≤ 12 := by have := HNL.out; rw [hnl] at this; omega
   clear hnl x0 x1 x2 x3 x4 x5 x6 x7 x8 x9 x10 x11 x12 n0 n1 n2 n3 n4
   go_loopw [8] (fun i wr => ∃ t : Nat, i = .int .i64 (t : Nat) ∧ t ≤ nl ∧ Hid (∀ l ∈ r.locs.take t, (0 ≤ l.d ∧ l.d ≤ 23) ∧ (0 ≤ l.s ∧ l.s ≤ 63) ∧ 1 ≤ l.i ∧ l.i ≤ 2147483647) ∧ RB wr p r (.slice sa r.sids.length sc) (.slice la r.locs.length lc) ∧ Up Nul w wr) (fun i _ => nl - (intOf i).toNat)
   case atStart => exact ⟨0, rfl, Nat.zero_le _, hid fun x hx => by simp at hx, B4.out, U4.out⟩
   case round =>
    obtain ⟨t2, rfl, ht2, HPL, hb2, hu2⟩ := hrel
    have B5 := hid hb2
    have U5 := hid hu2
    clear hb2 hu2
    have x6 := B5.out.cells.2.2.2.2.2.2.1
    rw [HNM.out] at x6
    have i2 : (0 : Int) ≤ (t2 : Int) := by omega
    have i3 : (t2 : Int) ≤ 12 := by omega
    by_cases hd2 : t2 < nl
    ·have j2 : (t2 : Int) < (nl : Int) := by omega
     obtain ⟨l, hl⟩ : ∃ l, r.locs[t2]? = some l := ⟨_, List.getElem?_eq_getElem (by rw [HNM.out]; exact hd2)⟩
     rcases HR.out.l.nxt U5.out with e0 | ⟨g, o, rfl, hg, hrow⟩
     ·rw [e0] at hl; simp at hl
     have y0 := hrow t2 l hl 0 (.int .i64 l.d) rfl
     have y1 := hrow t2 l hl 1 (.int .i64 l.s) rfl
     have y2 := hrow t2 l hl 2 (.int .i64 l.i) rfl
     simp only [Nat.add_zero] at y0
     have HX2 := hid hl
     have HL2 := hid hd2
     clear hl hrow hd2 ht2
     go_wp2_with fail
     refine (in_any _ _ _ _).mono ?_
     rintro e w6 ⟨rfl, rfl⟩
     cases hb : spn 0 23 l.d with
     | false =>
      have HB2 := hid (spn_no hb)
      go_wp2_with fail
      go_ret
      refine ⟨by rw [HE.out, okR_no (fun F => by obtain ⟨i1, i2, i3, i4, i5, i6, i7, i8, i9, i10, i11, i12, i13, i14, i15⟩ := HI.out.1 F; exact HB2.out (i9 l (List.mem_of_getElem? HX2.out)).1)]; rfl, U5.out.alloc _⟩
     | true =>
     have HB2 := hid (spn_iff.1 hb)
     clear hb
     go_wp2_with fail
     refine (in_any _ _ _ _).mono ?_
     rintro e w6 ⟨rfl, rfl⟩
     cases hb : spn 0 63 l.s with
     | false =>
      have HB3 := hid (spn_no hb)
      go_wp2_with fail
      go_ret
      refine ⟨by rw [HE.out, okR_no (fun F => by obtain ⟨i1, i2, i3, i4, i5, i6, i7, i8, i9, i10, i11, i12, i13, i14, i15⟩ := HI.out.1 F; exact HB3.out (i9 l (List.mem_of_getElem? HX2.out)).2.1)]; rfl, U5.out.alloc _⟩
     | true =>
     have HB3 := hid (spn_iff.1 hb)
     clear hb
     go_wp2_with fail
     refine (in_any _ _ _ _).mono ?_
     rintro e w6 ⟨rfl, rfl⟩
     cases hb : spn 1 2147483647 l.i with
     | false =>
      have HB4 := hid (spn_no hb)
      go_wp2_with fail
      go_ret
      refine ⟨by rw [HE.out, okR_no (fun F => by obtain ⟨i1, i2, i3, i4, i5, i6, i7, i8, i9, i10, i11, i12, i13, i14, i15⟩ := HI.out.1 F; exact HB4.out (i9 l (List.mem_of_getElem? HX2.out)).2.2)]; rfl, U5.out.alloc _⟩
     | true =>
     have HB4 := hid (spn_iff.1 hb)
     clear hb
     have HP2 : Hid (∀ y ∈ r.locs.take (t2 + 1), (0 ≤ y.d ∧ y.d ≤ 23) ∧ (0 ≤ y.s ∧ y.s ≤ 63) ∧ 1 ≤ y.i ∧ y.i ≤ 2147483647) := fun y hy => by
      rw [List.take_add_one, HX2.out, List.mem_append] at hy
      rcases hy with hy | hy
      ·exact HPL.out y hy
      ·have : y = l := by simpa using hy
       rw [this]; exact ⟨HB2.out, HB3.out, HB4.out⟩
     go_wp2_with fail
     go_roundw
     case rel => exact ⟨t2 + 1, by go_num, HL2.out, HP2, B5.out.nxt ((Up.refl Nul _).alloc _), U5.out.alloc _⟩
     case measure => have := HL2.out; simp [intOf]; omega
    ·obtain rfl : t2 = nl := by omega
     have HPL3 : Hid (∀ y ∈ r.locs, (0 ≤ y.d ∧ y.d ≤ 23) ∧ (0 ≤ y.s ∧ y.s ≤ 63) ∧ 1 ≤ y.i ∧ y.i ≤ 2147483647) := fun y hy => HPL.out y (by rw [List.take_of_length_le (by rw [HNM.out]; omega)]; exact hy)
     have j2 : ¬ (t2 : Int) < (t2 : Int) := by omega
     clear hd2 ht2
     obtain ⟨_, _, _, _, _, _, _, x7, x8, x9, x10, x11, x12⟩ := B5.out.cells
     go_wp2_with fail
     refine (tables_any tb0 _).mono ?_
     rintro e w7 ⟨rfl, u7⟩
     go_upto_region 30 with fail
     obtain ⟨W8, hW8⟩ : ∃ W, W = w7.alloc (.cells #[.int .i64 tb0.hot, .int .i64 tb0.warm, .int .i64 tb0.gap, .int .i64 tb0.add, .int .i64 tb0.top, .int .i64 tb0.half] 67) := ⟨_, rfl⟩
     have HC8 : Hid (∀ (i : Nat) (x : Int), tb0.l[i]? = some x → W8.cell? ⟨w7.heap.size, i, none⟩ = some (.int .i64 x)) := by rw [hW8]; exact i6_cells (heap_alloc_new _ _)
     have U8 : Hid (Up Nul w W8) := by show Up _ _ _; rw [hW8]; exact (U5.out.trans u7).alloc _
     first | rw [← hW8] | (have hW9 := hW8; simp only [tb0] at hW9; rw [← hW9]; clear hW9)
     clear hW8 u7 x6 x7 x8 x9 x10 x11 x12
     generalize w7.heap.size = q6 at HC8 ⊢
     go_wp2_with fail
     go_loopw [11] (fun i wr => ∃ t : Nat, i = .int .i64 (t : Nat) ∧ t ≤ 6 ∧ Hid (∀ x ∈ tb0.l.take t, 0 ≤ x ∧ x ≤ 1000000) ∧ wr = W8) (fun i _ => 6 - (intOf i).toNat)
     case atStart => exact ⟨0, rfl, by omega, hid fun x hx => by simp at hx, by trivial⟩
     case round =>
      obtain ⟨t3, rfl, ht3, HPT, rfl⟩ := hrel
      have i4 : (0 : Int) ≤ (t3 : Int) := by omega
      by_cases hd3 : t3 < 6
      ·have j3 : (t3 : Int) < 6 := by omega
       obtain ⟨x, hx⟩ : ∃ x, tb0.l[t3]? = some x := ⟨_, List.getElem?_eq_getElem (by simpa [Tb.l] using hd3)⟩
       have hcx := HC8.out t3 x hx
       have HX3 := hid hx
       have HL3 := hid hd3
       clear hx hd3 ht3
       go_wp2_with fail
       refine (in_any _ _ _ _).mono ?_
       rintro e w9 ⟨rfl, rfl⟩
       cases hb : spn 0 1000000 x with
       | false =>
        have HB5 := hid (spn_no hb)
        go_wp2_with fail
        go_ret
        refine ⟨by rw [HE.out, okR_no (fun F => by obtain ⟨i1, i2, i3, i4, i5, i6, i7, i8, i9, i10, i11, i12, i13, i14, i15⟩ := HI.out.1 F; have hm := List.mem_of_getElem? HX3.out; exact HB5.out (t0_bounds hm))]; rfl, U8.out⟩
       | true =>
       have HB5 := hid (spn_iff.1 hb)
       clear hb
       have HP5 : Hid (∀ y ∈ tb0.l.take (t3 + 1), 0 ≤ y ∧ y ≤ 1000000) := fun y hy => by
        rw [List.take_add_one, HX3.out, List.mem_append] at hy
        rcases hy with hy | hy
        ·exact HPT.out y hy
        ·have : y = x := by simpa using hy
         rw [this]; exact HB5.out
       go_wp2_with fail
       go_roundw
       case rel => exact ⟨t3 + 1, by go_num, HL3.out, HP5, by trivial⟩
       case measure => have := HL3.out; simp [intOf]; omega
      ·obtain rfl : t3 = 6 := by omega
       have HPT6 : Hid (∀ x ∈ tb0.l, 0 ≤ x ∧ x ≤ 1000000) := fun x hx => HPT.out x (by rw [List.take_of_length_le (by simp [Tb.l])]; exact hx)
       clear hd3 ht3
       go_wp2_with fail
       go_ret
       refine ⟨by rw [HE.out, okR_iff.2 (HI.out.2 ⟨HKB.out.1, HKB.out.2, HB.out.1, HB.out.2.1, HB.out.2.2, HNS.out, (fun x hx => by have h0 : r.sids = [] := List.eq_nil_of_length_eq_zero (by have := HNS.out; omega); rw [h0] at hx; cases hx), by have := HNL.out; omega, HPL3.out, by have := HT.out; omega, by have := HT.out; omega, by have := HT.out; omega, by have := HT.out; omega, by have := HT.out; omega, by have := HT.out; omega⟩)]; rfl, U8.out⟩

end Go.Proofs.YtpdkcpjofofkoaaDoor
set_option maxRecDepth 100000
namespace Go.Proofs.YtpdkcpjofofkoaaDoor
open Go.RowKit
set_option linter.unusedVariables false
theorem rok_no (r : Rc) (sv lv : Value) (w : World) (h : spn 1 8 r.kind = false) :
  Calls Tryd.prog 11 #[rv r sv lv] w fun e w' => e = .returned (.bool false) ∧ Up Nul w w' := by
 have HK := hid h
 clear h
 obtain ⟨W1, hW1⟩ : ∃ W, W = w.alloc (.cells (rcellsL r sv lv) 27) := ⟨_, rfl⟩
 have U1 : Hid (Up Nul w W1) := by show Up _ _ _; rw [hW1]; exact (Up.refl Nul w).alloc _
 have x0 : W1.cell? ⟨w.heap.size, 0, none⟩ = some (.int .i64 r.kind) := by rw [hW1]; exact World.cell?_alloc_new _ _ _ 0
 go_enter Tryd.func11, Tryd.ntmps11
 go_upto_region 1 with fail
 rw [← hW1]
 clear hW1
 go_wp2_with fail
 refine (in_any _ _ _ _).mono ?_
 rintro e w2 ⟨rfl, rfl⟩
 rw [HK.out]
 go_wp2
 go_ret
 exact ⟨rfl, U1.out⟩
theorem rok_any (r : Rc) (sa la : Option Addr) (sc lc : Nat) (w : World) (hR : RH w r sa la) (hK : r.key.size ≤ 100000) :
  Calls Tryd.prog 11 #[rv r (.slice sa r.sids.length sc) (.slice la r.locs.length lc)] w fun e w' => e = .returned (.bool (okR r)) ∧ Up Nul w w' := by
 cases hb : spn 1 8 r.kind with
 | false =>
  rw [show okR r = false from okR_no fun F => by
   have := F.k1
   have := F.k8
   have hk := F.kk
   have := spn_no hb
   omega]
  exact rok_no r _ _ w hb
 | true =>
  have h := spn_iff.1 hb
  have hk : r.kind = 1 ∨ r.kind = 2 ∨ r.kind = 3 ∨ r.kind = 4 ∨ r.kind = 5 ∨ r.kind = 6 ∨ r.kind = 7 ∨ r.kind = 8 := by omega
  rcases hk with hk | hk | hk | hk | hk | hk | hk | hk
  ·exact rok1 r sa la sc lc w hR hK hk
  ·exact rok2 r sa la sc lc w hR hK hk
  ·exact rok3 r sa la sc lc w hR hK hk
  ·exact rok4 r sa la sc lc w hR hK hk
  ·exact rok5 r sa la sc lc w hR hK hk
  ·exact rok6 r sa la sc lc w hR hK hk
  ·exact rok7 r sa la sc lc w hR hK hk
  ·exact rok8 r sa la sc lc w hR hK hk
end Go.Proofs.YtpdkcpjofofkoaaDoor
