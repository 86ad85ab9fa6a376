/- The document's 'turn'. -/
import Derived.Test.YtepggchnhgpcnaaGreatDoorPkTidy
import Derived.Test.YtepggchnhgpcnaaGreatDoorPz20
namespace Go.Proofs.YtepggchnhgpcnaaGreatDoor
open Go.RowKit Go.Maps Go.Sort
set_option linter.unusedVariables false

theorem take_set6 {cur : Array Value} {m i : Nat} (a b c d e f : Value) :
  ((((((cur.setIfInBounds i a).setIfInBounds (i + 1) b).setIfInBounds (i + 2) c).setIfInBounds (i + 3) d).setIfInBounds (i + 4) e).setIfInBounds (i + 5) f).toList.take m = ((((((cur.toList.take m).set i a).set (i + 1) b).set (i + 2) c).set (i + 3) d).set (i + 4) e).set (i + 5) f := by
 simp only [Array.toList_setIfInBounds]
 rw [List.take_set, List.take_set, List.take_set, List.take_set, List.take_set, List.take_set]
theorem row_set6 {T : TypeId} {base g n c i : Nat} {W : World} {xs : List Value} (h : W.ownsRow base T 6 (.slice (some ⟨g, 0, none⟩) n c) n xs) (x0 x1 x2 x3 x4 x5 : Value) :
  (((((((W.setCell ⟨g, i, none⟩ x0).setCell ⟨g, i + 1, none⟩ x1).setCell ⟨g, i + 2, none⟩ x2).setCell ⟨g, i + 3, none⟩ x3).setCell ⟨g, i + 4, none⟩ x4).setCell ⟨g, i + 5, none⟩ x5)).ownsRow base T 6 (.slice (some ⟨g, 0, none⟩) n c) n ((((((xs.set i x0).set (i + 1) x1).set (i + 2) x2).set (i + 3) x3).set (i + 4) x4).set (i + 5) x5) := by
 rcases h.2 with ⟨e, _⟩ | ⟨g', cap, cur, e, h2, h3, h4, h5, h6, h7⟩
 ·exact absurd e (by intro e; injection e with e1; cases e1)
 ·have e1 : g = g' := by injection e with e1; injection e1 with e1; injection e1
  have e3 : c = cap := by injection e
  clear e
  subst e1 e3
  refine ⟨by simp only [List.length_set]; exact h.1, .inr ⟨g, c, _, rfl, h2, heap_set_same (heap_set_same (heap_set_same (heap_set_same (heap_set_same (heap_set_same h3 i x0) (i + 1) x1) (i + 2) x2) (i + 3) x3) (i + 4) x4) (i + 5) x5, h4, h5, by simp only [Array.size_setIfInBounds]; exact h6, ?_⟩⟩
  rw [take_set6, h7]
section
variable {F S : Nat → Prop} {w w' : World} {q n : Nat} {Q : Int → Value} {M : MM} {ks : List ByteArray} {is : List Int} {kv bv iv sv : Value}
theorem scells_turn {s : Int} {x : St} {v : Value} {i : Nat} (hp : is.Pairwise fun a b => a < b) (hi : is[i]? = some s) (l : Int) :
  scells { M with s := upd M.s s (some x) } (upd Q s v) is = ((((((scells M Q is).set (i * 6) (.int .i64 x.kind)).set (i * 6 + 1) (.int .i64 x.colour)).set (i * 6 + 2) (.string x.k0)).set (i * 6 + 3) (.string x.k1)).set (i * 6 + 4) (.string x.k2)).set (i * 6 + 5) v := by
 refine flat_upd6 (f := fun k => scl (M.sof k) (Q k)) (f' := fun y => scl (({ M with s := upd M.s s (some x) } : MM).sof y) (upd Q s v y)) (fun _ => rfl) is i s hi (fun j y hj hji => ?_) _ _ _ _ _ _ ?_
 ·have hxk : y ≠ s := fun e => by
   subst e
   have hjl := (List.getElem?_eq_some_iff.1 hj).1
   have hil := (List.getElem?_eq_some_iff.1 hi).1
   rw [List.pairwise_iff_getElem] at hp
   have ei := (List.getElem?_eq_some_iff.1 hi).2
   have ej := (List.getElem?_eq_some_iff.1 hj).2
   rcases Nat.lt_or_gt_of_ne hji with h | h
   ·have := hp j i hjl hil h; rw [ei, ej] at this; omega
   ·have := hp i j hil hjl h; rw [ei, ej] at this; omega
  show scl ((upd M.s s (some x) y).getD stz) (upd Q s v y) = scl ((M.s y).getD stz) (Q y)
  rw [upd_ne _ _ hxk, upd_ne _ _ hxk]
 ·show scl ((upd M.s s (some x) s).getD stz) (upd Q s v s) = _
  rw [upd_same, upd_same]; rfl
theorem turn_fin {w1 W : World} {s : Int} {x : St} {v : Value} {i N c g : Nat} (H1 : RM F w1 q n Q M ks is kv bv iv sv) (hF : ∀ k, F k → k < w.heap.size) (hu : Up Nul w w1) (hi : is[i]? = some s)
  (hv : OwnLo 0 w v x.locs) (hvF : ∀ g, v.ownBlock = some g → F g) (hl : ApS 46 6 w1 W (some ⟨g, 0, none⟩) N c ([] ++ scells M Q is)) (hN : is.length = N) :
  (∃ sv', RM (Gr F w ((((((((W.setCell ⟨g, i * 6, none⟩ (.int .i64 x.kind)).setCell ⟨g, i * 6 + 1, none⟩ (.int .i64 x.colour)).setCell ⟨g, i * 6 + 2, none⟩ (.string x.k0)).setCell ⟨g, i * 6 + 3, none⟩ (.string x.k1)).setCell ⟨g, i * 6 + 4, none⟩ (.string x.k2)).setCell ⟨g, i * 6 + 5, none⟩ v)).setCell ⟨q, 3, none⟩ (.slice (some ⟨g, 0, none⟩) N c))) ((((((((W.setCell ⟨g, i * 6, none⟩ (.int .i64 x.kind)).setCell ⟨g, i * 6 + 1, none⟩ (.int .i64 x.colour)).setCell ⟨g, i * 6 + 2, none⟩ (.string x.k0)).setCell ⟨g, i * 6 + 3, none⟩ (.string x.k1)).setCell ⟨g, i * 6 + 4, none⟩ (.string x.k2)).setCell ⟨g, i * 6 + 5, none⟩ v)).setCell ⟨q, 3, none⟩ (.slice (some ⟨g, 0, none⟩) N c)) q n (upd Q s v) { M with s := upd M.s s (some x) } ks is kv bv iv sv') ∧
  Up (fun k => k = q) w ((((((((W.setCell ⟨g, i * 6, none⟩ (.int .i64 x.kind)).setCell ⟨g, i * 6 + 1, none⟩ (.int .i64 x.colour)).setCell ⟨g, i * 6 + 2, none⟩ (.string x.k0)).setCell ⟨g, i * 6 + 3, none⟩ (.string x.k1)).setCell ⟨g, i * 6 + 4, none⟩ (.string x.k2)).setCell ⟨g, i * 6 + 5, none⟩ v)).setCell ⟨q, 3, none⟩ (.slice (some ⟨g, 0, none⟩) N c)) := by
 have h6 := row_set6 (i := i * 6) hl.own (.int .i64 x.kind) (.int .i64 x.colour) (.string x.k0) (.string x.k1) (.string x.k2) v
 have hgw : w1.heap.size ≤ g := (hl.lt g 0 rfl).1
 have u6 : Up Nul w1 (((((((W.setCell ⟨g, i * 6, none⟩ (.int .i64 x.kind)).setCell ⟨g, i * 6 + 1, none⟩ (.int .i64 x.colour)).setCell ⟨g, i * 6 + 2, none⟩ (.string x.k0)).setCell ⟨g, i * 6 + 3, none⟩ (.string x.k1)).setCell ⟨g, i * 6 + 4, none⟩ (.string x.k2)).setCell ⟨g, i * 6 + 5, none⟩ v)) :=
  (((((hl.up.setCell (.inl hgw) _).setCell (.inl hgw) _).setCell (.inl hgw) _).setCell (.inl hgw) _).setCell (.inl hgw) _).setCell (.inl hgw) _
 generalize (((((((W.setCell ⟨g, i * 6, none⟩ (.int .i64 x.kind)).setCell ⟨g, i * 6 + 1, none⟩ (.int .i64 x.colour)).setCell ⟨g, i * 6 + 2, none⟩ (.string x.k0)).setCell ⟨g, i * 6 + 3, none⟩ (.string x.k1)).setCell ⟨g, i * 6 + 4, none⟩ (.string x.k2)).setCell ⟨g, i * 6 + 5, none⟩ v)) = W6 at h6 u6 ⊢
 rw [List.nil_append, ← scells_turn (x := x) (v := v) H1.rr.ri.up hi 0] at h6
 obtain ⟨x1, x2, x3⟩ := head_set H1.hp (⟨h6, u6, _, rfl⟩ : ApS 46 6 w1 W6 (some ⟨g, 0, none⟩) N c _) 3
 generalize W6.setCell ⟨q, 3, none⟩ (.slice (some ⟨g, 0, none⟩) N c) = w' at x1 x2 x3 ⊢
 have rr1 := H1.rr.head H1.hp x3
 have hvw : OwnLo 0 w' v x.locs := lo_up (lo_up hv hu fun _ _ => id) x3 fun g e e' => row_ne (lo_up hv hu fun _ _ => id) H1.hp (by decide) (by rw [← e']; exact e)
 have hsm : (M.s s).isSome = true := (H1.rr.ri.mem s).1 (List.mem_of_getElem? hi)
 refine ⟨⟨.slice (some ⟨g, 0, none⟩) N c, ⟨x2, ⟨rr1.ko, rr1.bo, rr1.io, ?_, fun j y e => ?_, fun g e => .inl (rr1.fk g e), fun g e => .inl (rr1.fb g e), fun g e => .inl (rr1.fi g e), fun g e => ?_, ⟨H1.rr.rk.up, H1.rr.rk.mem⟩, H1.rr.ri.set hsm x⟩, .inl H1.fq, H1.nk, H1.ni⟩⟩, hu.nul.trans x3⟩
 ·rw [hN]; exact ownsRow.lower x1 (Nat.zero_le _)
 ·have e : upd M.s s (some x) j = some y := e
  by_cases hj : j = s
  ·subst hj
   rw [upd_same] at e ⊢
   cases e
   exact ⟨hvw, fun g e' => .inl (hvF g e')⟩
  ·rw [upd_ne _ _ hj] at e ⊢
   exact ⟨(rr1.lo j y e).1, fun g e' => .inl ((rr1.lo j y e).2 g e')⟩
 ·exact Gr.new hu.size (ownsRow.lt x1 g e).1 (ownsRow.lt x1 g e).2
set_option maxRecDepth 10000 in
theorem rturn_any (h : RM F w q n Q M ks is kv bv iv sv) (hF : ∀ k, F k → k < w.heap.size) (hn : n ≤ 90000) (s : Int) (x : St) (v : Value) (hs : (M.s s).isSome = true) (hv : OwnLo 0 w v x.locs) (hvF : ∀ g, v.ownBlock = some g → F g) :
  Calls Tryz.prog 32 #[.pointer (some ⟨q, 0, none⟩), .int .i64 s, stv x v] w fun e w' => e = .returned (.tuple #[]) ∧ (∃ sv', RM (Gr F w w') w' q n (upd Q s v) { M with s := upd M.s s (some x) } ks is kv bv iv sv') ∧ Up (fun k => k = q) w w' := by
 have HVF := hid hvF
 have HVL := hid hv
 obtain ⟨va, vc, hve⟩ := hv.shape
 obtain ⟨xk, xc, k0, k1, k2, xl⟩ := x
 dsimp only at hve
 obtain ⟨L, LL⟩ : ∃ L, Hid (xl.length = L) := ⟨_, rfl⟩
 rw [LL.out] at hve
 subst hve
 obtain ⟨w0, hw0⟩ : ∃ W, W = w.alloc (.cells #[.int .i64 xk, .int .i64 xc, .string k0, .string k1, .string k2, .slice va L vc] 46) := ⟨_, rfl⟩
 have u0 : Up Nul w w0 := by rw [hw0]; exact (Up.refl Nul w).alloc _
 have hb : w0.heap[w.heap.size]? = some (.cells #[.int .i64 xk, .int .i64 xc, .string k0, .string k1, .string k2, .slice va L vc] 46 (0, 0)) := by rw [hw0]; exact heap_alloc_new _ _
 have H0 := hid (h.nxt u0)
 have HU0 := hid u0
 have HB0 := hid hb
 have HF := hid hF
 have HK := hid (sid_yes H0.out (by omega) s hs)
 clear u0 h hF hs hb hv hvF
 go_enter Tryz.func32, Tryz.ntmps32
 go_upto_region 1 with fail
 rw [← hw0]
 clear hw0
 go_wp2_with fail
 ·refine HK.out.mono ?_
  rintro e w1 ⟨i, rfl, hi, hp, u1⟩
  have HI := hid hi
  have HU1 := hid (HU0.out.trans u1)
  have H1 := hid (H0.out.nxt u1)
  have hlb := (Array.getElem?_eq_some_iff.1 HB0.out).1
  have hb1 := (u1.block w.heap.size hlb id).trans HB0.out
  have hlb1 := (Array.getElem?_eq_some_iff.1 hb1).1
  have hil : i < is.length := (List.getElem?_eq_some_iff.1 hi).1
  have hnk := H1.out.ni
  obtain ⟨ra, rc, hsv, hnc, hr, hnone, _⟩ := ownsRow.rd H1.out.rr.so (scells_one M Q is H1.out.rr.qone)
  obtain ⟨N, NN⟩ : ∃ N, Hid (is.length = N) := ⟨_, rfl⟩
  have c1 := H1.out.cells.2.2.2.1
  have f1 := H1.out.froz 3
  rw [hsv] at c1
  rw [NN.out] at c1 hr hnone hnk hil
  have HA0 := ApS.start (T := 46) (s := 6) (Up.refl Nul w1)
  obtain ⟨a1, cc1, W1, hr1, HA1⟩ := HA0.app Tryz.underlying60 inf_stripe (by omega) (by omega) hr (c2 := rc) hnone (by omega) 60
  rw [Nat.zero_add] at hr1 HA1
  obtain ⟨g1, rfl⟩ := HA1.nn
  have c1a := (HA0.up.cell (p := ⟨q, 3, none⟩) H1.out.lt id).trans c1
  have c3 := (HA1.up.cell (p := ⟨q, 3, none⟩) H1.out.lt id).trans c1
  have f3 := (HA1.up.froz (p := ⟨q, 3, none⟩) H1.out.lt id).trans f1
  have hb2 := (HA1.up.block w.heap.size hlb1 id).trans hb1
  have z0 : W1.cell? ⟨w.heap.size, 0, none⟩ = some (.int .i64 xk) := by simp [World.cell?, hb2]
  have z1 : W1.cell? ⟨w.heap.size, 1, none⟩ = some (.int .i64 xc) := by simp [World.cell?, hb2]
  have z2 : W1.cell? ⟨w.heap.size, 2, none⟩ = some (.string k0) := by simp [World.cell?, hb2]
  have z3 : W1.cell? ⟨w.heap.size, 3, none⟩ = some (.string k1) := by simp [World.cell?, hb2]
  have z4 : W1.cell? ⟨w.heap.size, 4, none⟩ = some (.string k2) := by simp [World.cell?, hb2]
  have z5 : W1.cell? ⟨w.heap.size, 5, none⟩ = some (.slice va L vc) := by simp [World.cell?, hb2]
  have hqg : q ≠ g1 := fun e => by have := (HA1.lt g1 0 rfl).1; have := H1.out.lt; omega
  rcases HA1.own.2 with ⟨e, _⟩ | ⟨g', cap, cur, e, h2, h3, h4, h5, h6, h7⟩
  ·cases e
  ·have hgg : g1 = g' := by injection e with e1; injection e1 with e1; injection e1
   subst hgg
   have hcc : cc1 = cap := by injection e
   have hcs : i * 6 + 6 ≤ cur.size := by rw [h6]; omega
   have yy : ∀ j, j < 6 → ∃ v, W1.cell? ⟨g1, i * 6 + j, none⟩ = some v := fun j hj => by
    refine Option.isSome_iff_exists.1 ?_
    simp only [World.cell?, h3]
    rw [Array.getElem?_eq_getElem (by omega)]; rfl
   obtain ⟨y0, y0'⟩ := yy 0 (by omega)
   obtain ⟨y1, y1'⟩ := yy 1 (by omega)
   obtain ⟨y2, y2'⟩ := yy 2 (by omega)
   obtain ⟨y3, y3'⟩ := yy 3 (by omega)
   obtain ⟨y4, y4'⟩ := yy 4 (by omega)
   obtain ⟨y5, y5'⟩ := yy 5 (by omega)
   rw [Nat.add_zero] at y0'
   have f6 : ∀ o, W1.frozen? ⟨g1, o, none⟩ = false := fun o => by simp [World.frozen?, h3]
   have g0 := f6 (i * 6)
   have gg1 := f6 (i * 6 + 1)
   have g2 := f6 (i * 6 + 2)
   have g3 := f6 (i * 6 + 3)
   have g4 := f6 (i * 6 + 4)
   have g5 := f6 (i * 6 + 5)
   have HA := hid HA1
   have hgq : ¬ g1 = q := fun e => hqg e.symm
   clear hi hp u1 HK H0 hb1 hb2 hlb hlb1 hr hnone hnc HA0 HA1 h2 h3 h4 h5 h6 h7 hcs yy f6 e hcc c1 f1 hsv
   go_wp2_with (first
    | (at_builtin; refine wpList_append_eqv rfl (.tmp 15) (.tmp 19) 60 rfl _ _ _ rfl rfl hr1 ?_)
    | go_in)
   go_end0
   exact ⟨rfl, turn_fin (x := ⟨xk, xc, k0, k1, k2, xl⟩) H1.out HF.out HU1.out HI.out (by rw [← LL.out] at *; exact HVL.out) HVF.out HA.out NN.out⟩
end
end Go.Proofs.YtepggchnhgpcnaaGreatDoor
