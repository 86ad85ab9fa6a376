/- The document's 'set', of a key that is there; any 'set'. -/
import Derived.Test.YtepggchnhgpcnaaGreatDoorPkTidy
import Derived.Test.YtepggchnhgpcnaaGreatDoorPz17
import Derived.StillTailTactics
namespace Go.Proofs.YtepggchnhgpcnaaGreatDoor
open Go.RowKit Go.Maps Go.Sort
set_option linter.unusedVariables false

theorem take_set3 {cur : Array Value} {m i : Nat} (h : i + 3 ≤ m) (a b c : Value) :
  (((cur.setIfInBounds i a).setIfInBounds (i + 1) b).setIfInBounds (i + 2) c).toList.take m = (((cur.toList.take m).set i a).set (i + 1) b).set (i + 2) c := by
 simp only [Array.toList_setIfInBounds]
 rw [List.take_set, List.take_set, List.take_set]
section
variable {F S : Nat → Prop} {w w' : World} {q n : Nat} {Q : Int → Value} {M : MM} {ks : List ByteArray} {is : List Int} {kv bv iv sv : Value}
theorem set_fin2 {w1 w2 : World} {k : ByteArray} {b : Bl} {i g c : Nat} {cur : Array Value} (H1 : RM F w1 q n Q M ks is kv bv iv sv) (hF : ∀ k, F k → k < w.heap.size) (hu : Up Nul w w1) (hi : ks[i]? = some k)
  (hb : bv = .slice (some ⟨g, 0, none⟩) ks.length c) (hg : w1.heap[g]? = some (.cells cur 51 (0, 0))) (hx : w2.heap[g]? = some (.cells (((cur.setIfInBounds (i * 3) (.int .i64 b.n)).setIfInBounds (i * 3 + 1) (.int .i64 b.sid)).setIfInBounds (i * 3 + 2) (.int .i64 b.part)) 51 (0, 0)))
  (hux : Up (fun k => k = g) w1 w2) : RM (Gr F w w2) w2 q (n + 1) Q { M with b := upd M.b k (some b) } ks is kv bv iv sv ∧ Up (fun k => k = q ∨ bv.ownBlock = some k) w w2 := by
 have hFg : F g := H1.rr.fb g (by rw [hb]; rfl)
 have hil : i < ks.length := (List.getElem?_eq_some_iff.1 hi).1
 have hne : ∀ {T s m} {v : Value} {xs : List Value}, w1.ownsRow 0 T s v m xs → T ≠ 51 → ∀ g', v.ownBlock = some g' → ¬ g' = g := fun h hT g' e e' => row_ne h hg hT (by rw [← e']; exact e)
 have hqg : ¬ q = g := fun e => by
  have := H1.hp
  rw [e, hg] at this
  injection this with this
  injection this with _ h2
  exact absurd h2 (by decide)
 refine ⟨⟨(hux.block q H1.lt hqg).trans H1.hp, ⟨ownsRow.up H1.rr.ko hux (hne H1.rr.ko (by decide)), ?_, ownsRow.up H1.rr.io hux (hne H1.rr.io (by decide)), ownsRow.up H1.rr.so hux (hne H1.rr.so (by decide)), fun j s e => ⟨lo_up (H1.rr.lo j s e).1 hux (hne (H1.rr.lo j s e).1 (by decide)), fun g' e' => .inl ((H1.rr.lo j s e).2 g' e')⟩, fun g' e => .inl (H1.rr.fk g' e), fun g' e => .inl (H1.rr.fb g' e), fun g' e => .inl (H1.rr.fi g' e), fun g' e => .inl (H1.rr.fs g' e), H1.rr.rk.set ((H1.rr.rk.mem k).1 (List.mem_of_getElem? hi)) b, ⟨H1.rr.ri.up, H1.rr.ri.mem⟩⟩, .inl H1.fq, Nat.le_succ_of_le H1.nk, Nat.le_succ_of_le H1.ni⟩, hu.nul.trans (hux.mono fun j _ e => .inr (by rw [hb, e]; rfl))⟩
 have hbo := H1.rr.bo
 rw [hb] at hbo ⊢
 rcases hbo.2 with ⟨e, _⟩ | ⟨g', cap, cur', e, h2, h3, h4, h5, h6, h7⟩
 ·cases e
 ·injection e with e1 e2 e3
  injection e1 with e1
  injection e1 with e1
  subst e1 e3
  rw [hg] at h3
  injection h3 with h3
  injection h3 with h3
  subst h3
  have hl3 : (bcells M ks).length = ks.length * 3 := hbo.1
  have e9 : bcells { M with b := upd M.b k (some b) } ks = (((bcells M ks).set (i * 3) (.int .i64 b.n)).set (i * 3 + 1) (.int .i64 b.sid)).set (i * 3 + 2) (.int .i64 b.part) := by
   refine flat_upd3 (f := fun k => bcl (M.bof k)) (f' := fun x => bcl (({ M with b := upd M.b k (some b) } : MM).bof x)) (fun _ => rfl) ks i k hi (fun j x hj hji => ?_) _ _ _ ?_
   ·have hxk : x ≠ k := fun e => by
     subst e
     have hp := H1.rr.rk.up
     have hjl := (List.getElem?_eq_some_iff.1 hj).1
     rw [List.pairwise_iff_getElem] at hp
     have ei := (List.getElem?_eq_some_iff.1 hi).2
     have ej := (List.getElem?_eq_some_iff.1 hj).2
     rcases Nat.lt_or_gt_of_ne hji with h | h
     ·have := hp j i hjl hil h; rw [ei, ej] at this; exact kl_irr _ this
     ·have := hp i j hil hjl h; rw [ei, ej] at this; exact kl_irr _ this
    show bcl _ = bcl _
    unfold MM.bof
    show bcl ((upd M.b k (some b) x).getD blz) = _
    rw [upd_ne _ _ hxk]
   ·show bcl ((upd M.b k (some b) k).getD blz) = _
    rw [upd_same]; rfl
  refine ⟨by rw [e9]; simp only [List.length_set]; exact hl3, .inr ⟨g, c, _, rfl, Nat.zero_le _, hx, h4, h5, by simp only [Array.size_setIfInBounds]; exact h6, ?_⟩⟩
  rw [take_set3 (by omega), h7, e9]
set_option maxRecDepth 10000 in
theorem rset_yes (h : RM F w q n Q M ks is kv bv iv sv) (hF : ∀ k, F k → k < w.heap.size) (hn : n ≤ 90000) (k : ByteArray) (b : Bl) (hk : (M.b k).isSome = true) :
  Calls Tryz.prog 28 #[.pointer (some ⟨q, 0, none⟩), .string k, blv b] w fun e w' => e = .returned (.tuple #[]) ∧ (∃ ks' kv' bv', RM (Gr F w w') w' q (n + 1) Q { M with b := upd M.b k (some b) } ks' is kv' bv' iv sv) ∧ Up (fun k => k = q ∨ bv.ownBlock = some k) w w' := by
 obtain ⟨bn, bs_, bp⟩ := b
 have u0 : Up Nul w (w.alloc (.cells #[.int .i64 bn, .int .i64 bs_, .int .i64 bp] 51)) := (Up.refl Nul w).alloc _
 have HB : Hid ((w.alloc (.cells #[.int .i64 bn, .int .i64 bs_, .int .i64 bp] 51)).heap[w.heap.size]? = some (.cells #[.int .i64 bn, .int .i64 bs_, .int .i64 bp] 51 (0, 0))) := heap_alloc_new _ _
 have HLT : Hid (w.heap.size < (w.alloc (.cells #[.int .i64 bn, .int .i64 bs_, .int .i64 bp] 51)).heap.size) := by show _ < _; rw [World.size_alloc]; omega
 have H := hid (h.nxt u0)
 have HU := hid u0
 have HK := hid (key_yes H.out (by omega) k hk)
 have HF := hid hF
 clear u0 h hF hk
 go_enter Tryz.func28, Tryz.ntmps28
 go_wp2_with fail
 ·refine HK.out.mono ?_
  rintro e w1 ⟨i, rfl, hi, hp, u1⟩
  have HI := hid hi
  have HU1 := hid (HU.out.trans u1)
  have hb := (u1.block w.heap.size HLT.out id).trans HB.out
  have H1 := hid (H.out.nxt u1)
  have z0 : w1.cell? ⟨w.heap.size, 0, none⟩ = some (.int .i64 bn) := by simp [World.cell?, hb]
  have z1 : w1.cell? ⟨w.heap.size, 1, none⟩ = some (.int .i64 bs_) := by simp [World.cell?, hb]
  have z2 : w1.cell? ⟨w.heap.size, 2, none⟩ = some (.int .i64 bp) := by simp [World.cell?, hb]
  have hil : i < ks.length := (List.getElem?_eq_some_iff.1 hi).1
  have c1 := H1.out.cells.2.1
  rcases H1.out.rr.bo.2 with ⟨e, e0⟩ | ⟨g, cap, cur, e, h2, h3, h4, h5, h6, h7⟩
  ·exfalso; omega
  ·have HE : Hid (bv = .slice (some ⟨g, 0, none⟩) ks.length cap) := e
   rw [e] at c1
   have HG := hid h3
   have hcs : i * 3 + 3 ≤ cur.size := by rw [h6]; omega
   have y0 : (w1.cell? ⟨g, i * 3, none⟩).isSome = true := by simp only [World.cell?, h3]; rw [Array.getElem?_eq_getElem (by omega)]; rfl
   have y1 : (w1.cell? ⟨g, i * 3 + 1, none⟩).isSome = true := by simp only [World.cell?, h3]; rw [Array.getElem?_eq_getElem (by omega)]; rfl
   have y2 : (w1.cell? ⟨g, i * 3 + 2, none⟩).isSome = true := by simp only [World.cell?, h3]; rw [Array.getElem?_eq_getElem (by omega)]; rfl
   obtain ⟨v0, y0⟩ := Option.isSome_iff_exists.1 y0
   obtain ⟨v1, y1⟩ := Option.isSome_iff_exists.1 y1
   obtain ⟨v2, y2⟩ := Option.isSome_iff_exists.1 y2
   have f0 : w1.frozen? ⟨g, i * 3, none⟩ = false := by simp [World.frozen?, h3]
   have f1 : w1.frozen? ⟨g, i * 3 + 1, none⟩ = false := by simp [World.frozen?, h3]
   have f2 : w1.frozen? ⟨g, i * 3 + 2, none⟩ = false := by simp [World.frozen?, h3]
   clear hi hp u1 hb HK H HB e h2 h3 h4 h5 h6 h7 hcs
   obtain ⟨N, NN⟩ : ∃ N, Hid (ks.length = N) := ⟨_, rfl⟩
   rw [NN.out] at c1 hil
   go_wp2_with fail
   go_still_tail 7, (by kernel_rfl)
   go_wp2_with fail
   refine bodyPost_ret (results_none rfl _ _ _) rfl ?_
   have hx : (((((w1.setCell ⟨g, i * 3, none⟩ (.int .i64 bn)).setCell ⟨g, i * 3 + 1, none⟩ (.int .i64 bs_)).setCell ⟨g, i * 3 + 2, none⟩ (.int .i64 bp)).drew)).heap[g]? = _ := heap_set_same (heap_set_same (heap_set_same HG.out (i * 3) (.int .i64 bn)) (i * 3 + 1) (.int .i64 bs_)) (i * 3 + 2) (.int .i64 bp)
   have hux : Up (fun k => k = g) w1 ((((w1.setCell ⟨g, i * 3, none⟩ (.int .i64 bn)).setCell ⟨g, i * 3 + 1, none⟩ (.int .i64 bs_)).setCell ⟨g, i * 3 + 2, none⟩ (.int .i64 bp)).drew) := ((((Up.refl (fun k => k = g) w1).put rfl _ _).put rfl _ _).put rfl _ _).drew
   obtain ⟨r1, r2⟩ := set_fin2 (b := ⟨bn, bs_, bp⟩) H1.out HF.out HU1.out HI.out HE.out HG.out hx hux
   exact ⟨rfl, ⟨ks, kv, bv, r1⟩, r2⟩
theorem rset_any (h : RM F w q n Q M ks is kv bv iv sv) (hF : ∀ k, F k → k < w.heap.size) (hn : n ≤ 90000) (k : ByteArray) (b : Bl) :
  Calls Tryz.prog 28 #[.pointer (some ⟨q, 0, none⟩), .string k, blv b] w fun e w' => e = .returned (.tuple #[]) ∧ (∃ ks' kv' bv', RM (Gr F w w') w' q (n + 1) Q { M with b := upd M.b k (some b) } ks' is kv' bv' iv sv) ∧ Up (fun k => k = q ∨ bv.ownBlock = some k) w w' := by
 cases hk : M.b k with
 | none => exact rset_no h hF hn k b hk
 | some x => exact rset_yes h hF hn k b (by rw [hk]; rfl)
end
end Go.Proofs.YtepggchnhgpcnaaGreatDoor
