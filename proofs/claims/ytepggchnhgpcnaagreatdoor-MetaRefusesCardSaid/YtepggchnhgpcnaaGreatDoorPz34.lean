/- The document's 'Apply' of any record. -/
import Derived.Test.YtepggchnhgpcnaaGreatDoorPkTidy
import Derived.Test.YtepggchnhgpcnaaGreatDoorPz33
import Derived.Test.YtepggchnhgpcnaaGreatDoorPz27
import Derived.Test.YtepggchnhgpcnaaGreatDoorPz32
import Derived.Test.YtepggchnhgpcnaaGreatDoorPz29
namespace Go.Proofs.YtepggchnhgpcnaaGreatDoor
open Go.RowKit Go.Maps Go.Sort
set_option linter.unusedVariables false

section
variable {F S : Nat → Prop} {w w' : World} {q n : Nat} {Q : Int → Value} {M : MM} {ks : List ByteArray} {is : List Int} {kv bv iv sv : Value}
set_option maxRecDepth 10000 in
set_option maxHeartbeats 3000000 in
theorem rapply_bad (h : RMx F w q n M) (r : Rc) (sa la : Option Addr) (sc lc : Nat) (hr : RH w r sa la) (hk : r.key.size ≤ 100000) (hok : okR r = false) :
  Calls Tryz.prog 10 #[.pointer (some ⟨q, 0, none⟩), rv r (.slice sa r.sids.length sc) (.slice la r.locs.length lc)] w fun e w' => ∃ x, e = .returned (.int .i64 x) ∧ RMx (Gr F w w') w' q n M ∧ Up F w w' := by
 obtain ⟨Q, ks, is, kv, bv, iv, sv, h⟩ := h
 obtain ⟨W1, hW1⟩ : ∃ W, W = w.alloc (.cells (rcellsL r (.slice sa r.sids.length sc) (.slice la r.locs.length lc)) 28) := ⟨_, rfl⟩
 have u1 : Up Nul w W1 := by rw [hW1]; exact (Up.refl Nul w).alloc _
 have b1 : RB W1 w.heap.size r (.slice sa r.sids.length sc) (.slice la r.locs.length lc) := by rw [hW1]; exact RB.new _ _ _ _
 have HU1 := hid u1
 have HM0 := hid h
 have hokr := rok_any r sa la sc lc W1 (hr.nxt u1) hk
 rw [hok] at hokr
 have HROK := hid hokr
 obtain ⟨x0, x1, x2, x3, x4, x5, x6, x7, x8, x9, x10, x11, x12⟩ := b1.cells
 clear h hr hk hok u1 b1 hokr
 go_enter Tryz.func10, Tryz.ntmps10
 go_upto_region 1 with fail
 rw [← hW1]
 clear hW1
 go_wp2_with fail
 refine HROK.out.mono ?_
 rintro e w2 ⟨rfl, u2⟩
 have HU2 := hid (HU1.out.trans u2)
 clear u2 HROK
 go_wp2_with fail
 go_ret
 exact ⟨_, rfl, RMx.wide ⟨_, _, _, _, _, _, _, HM0.out.nxt HU2.out⟩ fun k hk => .inl hk, HU2.out.nul⟩
theorem rapply_any (h : RMx F w q n M) (hF : ∀ k, F k → k < w.heap.size) (hn : n ≤ 70000) (hI : M.Inv3) (r : Rc) (sa la : Option Addr) (sc lc : Nat) (hr : RH w r sa la) (hk : r.key.size ≤ 100000) (hv : OwnLo 0 w (.slice la r.locs.length lc) r.locs) (hvF : ∀ g, (Value.slice la r.locs.length lc).ownBlock = some g → F g)
  (hsq : r.sids ≠ [] → ∀ g o, sa = some ⟨g, o, none⟩ → ¬ F g) (hsc : r.sids.length ≤ sc ∧ (sc : Int) ≤ 9223372036854775807) :
  Calls Tryz.prog 10 #[.pointer (some ⟨q, 0, none⟩), rv r (.slice sa r.sids.length sc) (.slice la r.locs.length lc)] w fun e w' => ∃ x, e = .returned (.int .i64 x) ∧ RMx (Gr F w w') w' q (n + 7) (M.step r).2 ∧ Up F w w' := by
 cases hok : okR r with
 | false =>
  have e : M.step r = (1, M) := by unfold MM.step MM.app; rw [hok]; rfl
  rw [e]
  refine (rapply_bad h r sa la sc lc hr hk hok).mono ?_
  rintro e w' ⟨x, rfl, h', u⟩
  exact ⟨x, rfl, h'.mono (by omega), u⟩
 | true =>
  have hf := okR_iff.1 hok
  have h1 := hf.k1
  have h8 := hf.k8
  have hkk := hf.kk
  have hc : r.kind = 1 ∨ r.kind = 2 ∨ r.kind = 3 ∨ r.kind = 4 ∨ r.kind = 5 ∨ r.kind = 6 ∨ r.kind = 7 ∨ r.kind = 8 := by omega
  rcases hc with hc | hc | hc | hc | hc | hc | hc | hc
  ·exact rapply_1 h hF hn hI r sa la sc lc hr hf hc hv hvF hsq hsc
  ·exact rapply_2 h hF hn hI r sa la sc lc hr hf hc hv hvF hsq hsc
  ·exact rapply_3 h hF hn hI r sa la sc lc hr hf hc hv hvF hsq hsc
  ·exact rapply_4 h hF hn hI r sa la sc lc hr hf hc hv hvF hsq hsc
  ·exact rapply_5 h hF hn hI r sa la sc lc hr hf hc hv hvF hsq hsc
  ·exact rapply_6 h hF hn hI r sa la sc lc hr hf hc hv hvF hsq hsc
  ·exact rapply_7 h hF hn hI r sa la sc lc hr hf hc hv hvF hsq hsc
  ·exact rapply_8 h hF hn hI r sa la sc lc hr hf hc hv hvF hsq hsc
end
set_option maxRecDepth 10000 in
set_option maxHeartbeats 3000000 in
theorem rnew_any (w : World) :
  Calls Tryz.prog 6 #[] w fun e w' => ∃ q, e = .returned (.pointer (some ⟨q, 0, none⟩)) ∧ w.heap.size ≤ q ∧ q < w'.heap.size ∧ RMx (fun k => k = q) w' q 0 MM.new ∧ Up Nul w w' := by
 go_enter Tryz.func6, Tryz.ntmps6
 go_wp2_with fail
 obtain ⟨w1, hw1⟩ : ∃ W, W = w.alloc (.cells (rhead (.slice none 0 0) (.slice none 0 0) (.slice none 0 0) (.slice none 0 0) 1 tb0) 62) := ⟨_, rfl⟩
 have hb : w1.heap[w.heap.size]? = some (.cells (rhead (.slice none 0 0) (.slice none 0 0) (.slice none 0 0) (.slice none 0 0) 1 tb0) 62 (0, 0)) := by rw [hw1]; exact heap_alloc_new _ _
 have hu : Up Nul w w1 := by rw [hw1]; exact (Up.refl Nul w).alloc _
 have HB := hid hb
 have HU := hid hu
 clear hb hu
 go_ret
 have hw2 : w1 = w.alloc (.cells #[.slice none 0 0, .slice none 0 0, .slice none 0 0, .slice none 0 0, .int .i64 1, .int .i64 0, .int .i64 0, .int .i64 0, .int .i64 0, .int .i64 0, .int .i64 0] 62) := hw1
 rw [← hw2]
 refine ⟨_, rfl, Nat.le_refl _, lt_of_heap HB.out, ⟨fun _ => .slice none 0 0, [], [], .slice none 0 0, .slice none 0 0, .slice none 0 0, .slice none 0 0, HB.out, ?_, rfl, Nat.le_refl _, Nat.le_refl _⟩, HU.out⟩
 refine ⟨World.ownsRow_nil _ _ _ _, World.ownsRow_nil _ _ _ _, World.ownsRow_nil _ _ _ _, World.ownsRow_nil _ _ _ _, fun i s e => (by cases e), fun g e => (by cases e), fun g e => (by cases e), fun g e => (by cases e), fun g e => (by cases e), ⟨List.Pairwise.nil, fun k => ⟨fun e => (by cases e), fun e => (by cases e)⟩⟩, ⟨List.Pairwise.nil, fun k => ⟨fun e => (by cases e), fun e => (by cases e)⟩⟩⟩
structure OfS (wb W : World) (po : Nat) (c : Nat → Value) (z : Nat → List Int) (m : Nat) : Prop where
 hd : W.heap[po]? = some (.cells #[c 0, c 1, c 2] 66 (0, 0))
 row : ∀ t, t < 3 → W.ownsRow wb.heap.size 3 1 (c t) (z t).length (intV (z t))
 dis : ∀ s t, s < 3 → t < 3 → s ≠ t → ∀ g, (c s).ownBlock = some g → (c t).ownBlock ≠ some g
 len : ∀ t, t < 3 → (z t).length ≤ m
 lt : wb.heap.size ≤ po
 up : Up Nul wb W
section
variable {wb W W' : World} {po m : Nat} {c : Nat → Value} {z : Nat → List Int}
theorem OfS.new (wb : World) : OfS wb (wb.alloc (.cells #[.slice none 0 0, .slice none 0 0, .slice none 0 0] 66)) wb.heap.size (fun _ => .slice none 0 0) (fun _ => []) 0 :=
 ⟨heap_alloc_new _ _, fun t _ => World.ownsRow_nil _ _ _ _, fun s t _ _ _ g e => (by cases e), fun t _ => Nat.le_refl _, Nat.le_refl _, (Up.refl _ _).alloc _⟩
theorem OfS.nxt (h : OfS wb W po c z m) (u : Up Nul W W') : OfS wb W' po c z m :=
 ⟨u.keep h.hd id, fun t ht => ownsRow.up (h.row t ht) u fun _ _ => id, h.dis, h.len, h.lt, h.up.trans u⟩
theorem OfS.mono (h : OfS wb W po c z m) {n : Nat} (hn : m ≤ n) : OfS wb W po c z n := ⟨h.hd, h.row, h.dis, fun t ht => Nat.le_trans (h.len t ht) hn, h.lt, h.up⟩
theorem OfS.cell (h : OfS wb W po c z m) (t : Nat) (ht : t < 3) : W.cell? ⟨po, t, none⟩ = some (c t) := by
 have h1 : t = 0 ∨ t = 1 ∨ t = 2 := by omega
 rcases h1 with rfl | rfl | rfl <;> simp [World.cell?, h.hd]
theorem OfS.froz (h : OfS wb W po c z m) (t : Nat) : W.frozen? ⟨po, t, none⟩ = false := by simp [World.frozen?, h.hd]
theorem OfS.shape (h : OfS wb W po c z m) (t : Nat) (ht : t < 3) : ∃ a k, c t = .slice a (z t).length k ∧ RdR 1 W a (z t).length (intV (z t)) := by
 obtain ⟨a, k, e, _, hr, _⟩ := ownsRow.rd (h.row t ht) (intV_one _)
 exact ⟨a, k, e, hr⟩
abbrev updN {α : Type} (f : Nat → α) (t : Nat) (v : α) : Nat → α := fun s => if s = t then v else f s
theorem OfS.app (h : OfS wb W po c z m) (t : Nat) (ht : t < 3) (x : Int) (hm : m ≤ 50000) (W1 : World) (u1 : Up Nul W W1) {a2 : Option Addr} {k2 : Nat} (hr : RdR 1 W1 a2 1 [.int .i64 x]) (ty : TypeId) :
  ∃ a' k' W2, (Builtin.append_ #[23, 23] ty #[c t, .slice a2 1 k2]).run Tryz.prog W1 = .ok (.slice a' ((z t).length + 1) k') W2 ∧ W2.cell? ⟨po, t, none⟩ = some (c t) ∧ W2.frozen? ⟨po, t, none⟩ = false ∧ Up Nul wb W2 ∧ (∀ V, Up Nul W2 V → OfS wb (V.setCell ⟨po, t, none⟩ (.slice a' ((z t).length + 1) k')) po (updN c t (.slice a' ((z t).length + 1) k')) (updN z t (z t ++ [x])) (m + 1)) := by
 have h1 := h.nxt u1
 have hl := h.len t ht
 obtain ⟨v', W2, hrun, ho, hg, hw⟩ := app_r (T := 3) Tryz.underlying23 inf_int (by omega) (by omega) (h1.row t ht) hr (c := k2) (fun e => by
  obtain ⟨g, o, e1, _⟩ := hr.row (by omega)
  rw [e] at e1; cases e1) (by omega) h1.up.size ty
 have hpo : po < W1.heap.size := lt_of_heap h1.hd
 have hb : ∀ k, (c t).ownBlock = some k → wb.heap.size ≤ k ∧ k < W1.heap.size := fun k e => ownsRow.lt (h1.row t ht) k e
 have hne : (c t).ownBlock ≠ some po := row_ne (h1.row t ht) h1.hd (by decide)
 have u2 : Up Nul wb W2 := h1.up.app hg fun k e => .inl (hb k e).1
 have u12 : Up (fun k => (c t).ownBlock = some k) W1 W2 := (Up.refl _ _).app hg fun k e => .inr e
 obtain ⟨a', k', hsh, _⟩ := ownsRow.rd ho (by
  intro u hu
  rcases List.mem_append.1 hu with hu | hu
  ·exact intV_one _ u hu
  ·have hu : u = .int .i64 x := by simpa using hu
   rw [hu]; rfl)
 have hd2 := u12.keep h1.hd hne
 have hcell : W2.cell? ⟨po, t, none⟩ = some (c t) := by
  have h3 : t = 0 ∨ t = 1 ∨ t = 2 := by omega
  rcases h3 with rfl | rfl | rfl <;> simp [World.cell?, hd2]
 refine ⟨a', k', W2, by rw [hrun, hsh], hcell, by simp [World.frozen?, hd2], u2, fun V uV => ?_⟩
 rw [← hsh]
 have hdV := uV.keep (u12.keep h1.hd hne) id
 have uP : Up (One po) V (V.setCell ⟨po, t, none⟩ v') := (Up.refl (One po) V).put rfl t _
 have hv' : v'.ownBlock ≠ some po := fun e => by
  rcases hw with e1 | e1
  ·rw [e1] at e; exact hne e
  ·rw [e1] at e; injection e with e; omega
 have hvs : ∀ s, s < 3 → s ≠ t → ∀ g, (c s).ownBlock = some g → v'.ownBlock ≠ some g := fun s hs hst g e e' => by
  rcases hw with e1 | e1
  ·rw [e1] at e'; exact h.dis s t hs ht hst g e e'
  ·have := (ownsRow.lt (h1.row s hs) g e).2
   rw [e1] at e'; injection e' with e'; omega
 refine ⟨?_, fun s hs => ?_, fun s s' hs hs' hss g e => ?_, fun s hs => ?_, h.lt, ?_⟩
 ·have h3 : t = 0 ∨ t = 1 ∨ t = 2 := by omega
  rcases h3 with rfl | rfl | rfl
  ·exact heap_set_same hdV 0 v'
  ·exact heap_set_same hdV 1 v'
  ·exact heap_set_same hdV 2 v'
 ·by_cases hst : s = t
  ·subst hst
   show World.ownsRow _ wb.heap.size 3 1 (updN c s v' s) (updN z s (z s ++ [x]) s).length (intV (updN z s (z s ++ [x]) s))
   have e1 : updN c s v' s = v' := if_pos rfl
   have e2 : updN z s (z s ++ [x]) s = z s ++ [x] := if_pos rfl
   rw [e1, e2]
   have h4 := ownsRow.up (ownsRow.up ho uV fun _ _ => id) uP fun g e e' => hv' (by have e' : g = po := e'; rw [← e']; exact e)
   rw [List.length_append]
   have e5 : intV (z s ++ [x]) = intV (z s) ++ [.int .i64 x] := by unfold intV; rw [List.map_append]; rfl
   rw [e5]
   exact h4
  ·have e1 : updN c t v' s = c s := if_neg hst
   have e2 : updN z t (z t ++ [x]) s = z s := if_neg hst
   show World.ownsRow _ wb.heap.size 3 1 (updN c t v' s) (updN z t (z t ++ [x]) s).length (intV (updN z t (z t ++ [x]) s))
   rw [e1, e2]
   exact ownsRow.up (ownsRow.up (ownsRow.up (h1.row s hs) u12 fun g e e' => h.dis s t hs ht hst g e e') uV fun _ _ => id) uP fun g e e' => row_ne (h1.row s hs) h1.hd (by decide) (by have e' : g = po := e'; rw [← e']; exact e)
 ·have f : ∀ s, updN c t v' s = if s = t then v' else c s := fun _ => rfl
  rw [f] at e ⊢
  by_cases h5 : s = t
  ·rw [if_pos h5] at e
   rw [if_neg (fun e6 => hss (by rw [h5, e6]))]
   exact fun e7 => hvs s' hs' (fun e6 => hss (by rw [h5, e6])) g e7 e
  ·rw [if_neg h5] at e
   by_cases h6 : s' = t
   ·rw [if_pos h6]; exact hvs s hs h5 g e
   ·rw [if_neg h6]; exact h.dis s s' hs hs' hss g e
 ·by_cases hst : s = t
  ·have e2 : updN z t (z t ++ [x]) s = z t ++ [x] := if_pos hst
   rw [e2, List.length_append]
   exact Nat.add_le_add_right hl 1
  ·have e2 : updN z t (z t ++ [x]) s = z s := if_neg hst
   rw [e2]
   exact Nat.le_succ_of_le (h.len s hs)
 ·exact (u2.trans uV).setCell (.inl h.lt) _
end
end Go.Proofs.YtepggchnhgpcnaaGreatDoor
namespace Go.Proofs.YtepggchnhgpcnaaGreatDoor
end Go.Proofs.YtepggchnhgpcnaaGreatDoor
namespace Go.Proofs.YtepggchnhgpcnaaGreatDoor
open Go.RowKit Go.Maps Go.Sort
set_option linter.unusedVariables false

theorem came_nx {w w' : World} {a : Option Addr} {len cap : Nat} {zs : List Int} (h : CameI w a len cap zs) (u : Up Nul w w') : CameI w' a len cap zs := by
 rcases h with h | ⟨x, e, hl, hm, hz, hc, hw⟩
 ·exact .inl h
 ·exact .inr ⟨x, e, hl, hm, hz, fun i hi => (u.cell (p := x.add i) (lt_of_cell (hc i hi)) id).trans (hc i hi), hw⟩
theorem OkF.sidl {r : Rc} (h : OkF r) : r.sids.length ≤ 3 := by
 have h1 := h.ns
 have h2 := h.k1
 have h3 := h.k8
 have : ∀ k, 1 ≤ k → k ≤ 8 → sh k 8 ≤ 3 := fun k a b => by
  have : k = 1 ∨ k = 2 ∨ k = 3 ∨ k = 4 ∨ k = 5 ∨ k = 6 ∨ k = 7 ∨ k = 8 := by omega
  rcases this with rfl | rfl | rfl | rfl | rfl | rfl | rfl | rfl <;> decide
 have := this (kn r) h2 h3
 omega
theorem RM.c4 {F : Nat → Prop} {w : World} {q n : Nat} {Q : Int → Value} {M : MM} {ks : List ByteArray} {is : List Int} {kv bv iv sv : Value} (h : RM F w q n Q M ks is kv bv iv sv) : w.cell? ⟨q, 4, none⟩ = some (.int .i64 (M.last + 1)) := by
 simp [World.cell?, h.hp]
theorem RM.c0 {F : Nat → Prop} {w : World} {q n : Nat} {Q : Int → Value} {M : MM} {ks : List ByteArray} {is : List Int} {kv bv iv sv : Value} (h : RM F w q n Q M ks is kv bv iv sv) : w.cell? ⟨q, 0, none⟩ = some kv := by
 simp [World.cell?, h.hp]
theorem RM.c2 {F : Nat → Prop} {w : World} {q n : Nat} {Q : Int → Value} {M : MM} {ks : List ByteArray} {is : List Int} {kv bv iv sv : Value} (h : RM F w q n Q M ks is kv bv iv sv) : w.cell? ⟨q, 2, none⟩ = some iv := by
 simp [World.cell?, h.hp]
theorem RM.c3 {F : Nat → Prop} {w : World} {q n : Nat} {Q : Int → Value} {M : MM} {ks : List ByteArray} {is : List Int} {kv bv iv sv : Value} (h : RM F w q n Q M ks is kv bv iv sv) : w.cell? ⟨q, 3, none⟩ = some sv := by
 simp [World.cell?, h.hp]
abbrev zrec : Array Value := #[.int .i64 0, .string ⟨#[]⟩, .int .i64 0, .int .i64 0, .slice none 0 0, .int .i64 0, .slice none 0 0, .int .i64 0, .int .i64 0, .int .i64 0, .int .i64 0, .int .i64 0, .int .i64 0]
structure FS (w0 W : World) (p : Nat) (K : Int) (r : Rc) (sa : Option Addr) (sc : Nat) (la : Option Addr) (lc : Nat) : Prop where
 rb : RB W p r (.slice sa r.sids.length sc) (.slice la r.locs.length lc)
 ro : RO w0.heap.size W r sa la lc
 up : Up Nul w0 W
 lt : w0.heap.size ≤ p
 key : r.key.size ≤ 16
 s3 : r.kind = 5 → r.sids.length = 3
 cs : sc = r.sids.length ∧ r.sids.length ≤ 3
 ll : r.locs.length ≤ 100000
 kk : r.kind = K
 res : W.heap[w0.heap.size]? = some (.cells zrec 28 (0, 0))
 ne : w0.heap.size ≠ p
section
variable {w0 W W' : World} {p : Nat} {K : Int} {r : Rc} {sa la : Option Addr} {sc lc : Nat}
theorem RO.nxt {B : Nat} (h : RO B W r sa la lc) (u : Up Nul W W') : RO B W' r sa la lc :=
 ⟨h.s.imp id fun ⟨g, e, hb, hg⟩ => ⟨g, e, hb, u.keep hg id⟩, ownsRow.up h.l u fun _ _ => id⟩
theorem RO.put {B : Nat} (h : RO B W r sa la lc) {c : Array Value} (hb : W.heap[p]? = some (.cells c 28 (0, 0))) (u : Up (One p) W W') : RO B W' r sa la lc :=
 ⟨h.s.imp id fun ⟨g, e, hB, hg⟩ => ⟨g, e, hB, u.keep hg fun e' => by
  have e' : g = p := e'
  rw [← e', hg] at hb
  injection hb with h2
  injection h2 with _ h2
  exact absurd h2 (by decide)⟩, ownsRow.up h.l u fun g e e' => row_ne h.l hb (by decide) (by have e' : g = p := e'; rw [← e']; exact e)⟩
theorem FS.nxt (h : FS w0 W p K r sa sc la lc) (u : Up Nul W W') : FS w0 W' p K r sa sc la lc :=
 ⟨h.rb.nxt u, h.ro.nxt u, h.up.trans u, h.lt, h.key, h.s3, h.cs, h.ll, h.kk, u.keep h.res id, h.ne⟩
theorem FS.sid (h : FS w0 W p K r sa sc la lc) (s : Int) : FS w0 (W.setCell ⟨p, 3, none⟩ (.int .i64 s)) p K { r with sid := s } sa sc la lc := by
 have u : Up (One p) W (W.setCell ⟨p, 3, none⟩ (.int .i64 s)) := (Up.refl (One p) W).put rfl 3 _
 have ho := h.ro.put h.rb u
 exact ⟨heap_set_same h.rb 3 _, ⟨ho.s, ho.l⟩, h.up.setCell (.inl h.lt) _, h.lt, h.key, h.s3, h.cs, h.ll, h.kk, u.keep h.res fun e => h.ne e, h.ne⟩
theorem FS.key1 (h : FS w0 W p K r sa sc la lc) (s : ByteArray) (hs : s.size ≤ 16) : FS w0 (W.setCell ⟨p, 1, none⟩ (.string s)) p K { r with key := s } sa sc la lc := by
 have u : Up (One p) W (W.setCell ⟨p, 1, none⟩ (.string s)) := (Up.refl (One p) W).put rfl 1 _
 have ho := h.ro.put h.rb u
 exact ⟨heap_set_same h.rb 1 _, ⟨ho.s, ho.l⟩, h.up.setCell (.inl h.lt) _, h.lt, hs, h.s3, h.cs, h.ll, h.kk, u.keep h.res fun e => h.ne e, h.ne⟩
theorem FS.cz (h : FS w0 W p K r sa sc la lc) (o : Nat) (v : Value) (e : zrec[o]? = some v) : W.cell? ⟨w0.heap.size, o, none⟩ = some v := by
 simp only [World.cell?, h.res]; exact e
theorem FS.fz (h : FS w0 W p K r sa sc la lc) (o : Nat) : W.frozen? ⟨w0.heap.size, o, none⟩ = false := by simp [World.frozen?, h.res]
theorem FS.fin (h : FS w0 W p K r sa sc la lc) (u : Up (One w0.heap.size) W W') : RO w0.heap.size W' r sa la lc ∧ r.key.size ≤ 16 ∧ (sc = r.sids.length ∧ r.sids.length ≤ 3) ∧ r.locs.length ≤ 100000 ∧ Up Nul w0 W' := by
 exact ⟨h.ro.put h.res u, h.key, h.cs, h.ll, h.up.thn u fun j e => .inr (by have e : j = w0.heap.size := e; omega)⟩
end
section
variable {w0 W W' : World} {p g : Nat} {K : Int} {r : Rc} {la : Option Addr} {sc lc : Nat}
theorem FS.gat (h : FS w0 W p K r (some ⟨g, 0, none⟩) sc la lc) (h0 : r.sids ≠ []) : W.heap[g]? = some (.cells (intV r.sids).toArray 3 (0, 0)) ∧ w0.heap.size ≤ g := by
 obtain ⟨g', e, hb, hg⟩ := h.ro.s.resolve_left h0
 injection e with e
 injection e with e
 subst e
 exact ⟨hg, hb⟩
theorem intV_set (zs : List Int) (j : Nat) (x : Int) : intV (zs.set j x) = (intV zs).set j (.int .i64 x) := by
 unfold intV
 rw [List.map_set]
theorem blk_ne {a b : Nat} {c d : Array Value} {T T' : TypeId} {f f' : Nat × Nat} (h1 : W.heap[a]? = some (.cells c T f)) (h2 : W.heap[b]? = some (.cells d T' f')) (hT : T ≠ T') : a ≠ b := fun e => by
 rw [e, h2] at h1
 injection h1 with h1
 injection h1 with _ h1
 exact hT h1.symm
theorem FS.set (h : FS w0 W p K r (some ⟨g, 0, none⟩) sc la lc) (h0 : r.sids ≠ []) (j : Nat) (x : Int) : FS w0 (W.setCell ⟨g, j, none⟩ (.int .i64 x)) p K { r with sids := r.sids.set j x } (some ⟨g, 0, none⟩) sc la lc := by
 obtain ⟨hg, hB⟩ := h.gat h0
 have u : Up (One g) W (W.setCell ⟨g, j, none⟩ (.int .i64 x)) := (Up.refl (One g) W).put rfl j _
 have hp : p ≠ g := blk_ne h.rb hg (by decide)
 have hr : w0.heap.size ≠ g := blk_ne h.res hg (by decide)
 have hl : (r.sids.set j x).length = r.sids.length := List.length_set ..
 have hb : RB (W.setCell ⟨g, j, none⟩ (.int .i64 x)) p { r with sids := r.sids.set j x } (.slice (some ⟨g, 0, none⟩) (r.sids.set j x).length sc) (.slice la r.locs.length lc) := by
  rw [hl]
  exact u.keep h.rb fun e => hp e
 have hs : (W.setCell ⟨g, j, none⟩ (.int .i64 x)).heap[g]? = some (.cells (intV (r.sids.set j x)).toArray 3 (0, 0)) := by
  rw [heap_set_same hg j _, intV_set]
  simp
 exact ⟨hb, ⟨.inr ⟨g, rfl, hB, hs⟩, ownsRow.up h.ro.l u fun k e e' => row_ne h.ro.l hg (by decide) (by have e' : k = g := e'; rw [← e']; exact e)⟩, h.up.setCell (.inl hB) _, h.lt, h.key, fun e => by show (r.sids.set j x).length = 3; rw [hl]; exact h.s3 e, by show sc = (r.sids.set j x).length ∧ (r.sids.set j x).length ≤ 3; rw [hl]; exact h.cs, h.ll, h.kk, u.keep h.res fun e => hr e, h.ne⟩
structure OfV (W : World) (po g : Nat) (z : Nat → List Int) : Prop where
 at_ : ∀ t, t < 3 → ∃ a k, W.cell? ⟨po, t, none⟩ = some (.slice a (z t).length k) ∧ RdR 1 W a (z t).length (intV (z t)) ∧ ∀ b o, a = some ⟨b, o, none⟩ → b ≠ g
 ne : po ≠ g
theorem OfV.of {wb : World} {po m : Nat} {c : Nat → Value} {z : Nat → List Int} (h : OfS wb W po c z m) (hg : g < wb.heap.size) : OfV W po g z := by
 refine ⟨fun t ht => ?_, fun e => by have := h.lt; omega⟩
 obtain ⟨a, k, e, _, hr, _, hb⟩ := ownsRow.rd (h.row t ht) (intV_one _)
 refine ⟨a, k, by rw [← e]; exact h.cell t ht, hr, fun b o e1 e2 => ?_⟩
 have := (ownsRow.lt (h.row t ht) b (by rw [e]; rw [e] at hb; exact hb b o e1)).1
 omega
theorem OfV.up {po : Nat} {z : Nat → List Int} (h : OfV W po g z) (u : Up (One g) W W') : OfV W' po g z := by
 refine ⟨fun t ht => ?_, h.ne⟩
 obtain ⟨a, k, h1, h2, h3⟩ := h.at_ t ht
 exact ⟨a, k, (u.cell (p := ⟨po, t, none⟩) (lt_of_cell h1) fun e => h.ne e).trans h1, h2.up u fun b o e e' => h3 b o e e', h3⟩
theorem OfV.put {po : Nat} {z : Nat → List Int} (h : OfV W po g z) (j : Nat) (v : Value) : OfV (W.setCell ⟨g, j, none⟩ v) po g z := h.up ((Up.refl (One g) W).put rfl j v)
theorem OfV.nxt {po : Nat} {z : Nat → List Int} (h : OfV W po g z) (u : Up Nul W W') : OfV W' po g z := h.up (u.mono fun _ _ e => e.elim)
end
section
variable {w0 W W' : World} {p g : Nat} {K : Int} {r : Rc} {sa la : Option Addr} {sc lc : Nat}
theorem FS.split (h : FS w0 W p K r sa sc la lc) (u : Up Nul W W') (hg : W'.heap[g]? = some (.cells #[.int .i64 0, .int .i64 0, .int .i64 0] 3 (0, 0))) (hgw : W.heap.size ≤ g) (x : Int) :
  FS w0 (((W'.setCell ⟨p, 3, none⟩ (.int .i64 x)).setCell ⟨p, 4, none⟩ (.slice (some ⟨g, 0, none⟩) 3 3)).setCell ⟨p, 6, none⟩ (.slice none 0 0)) p K { r with sid := x, sids := [0, 0, 0], locs := [] } (some ⟨g, 0, none⟩) 3 none 0 := by
 have h1 := h.nxt u
 have v : Up (One p) W' (((W'.setCell ⟨p, 3, none⟩ (.int .i64 x)).setCell ⟨p, 4, none⟩ (.slice (some ⟨g, 0, none⟩) 3 3)).setCell ⟨p, 6, none⟩ (.slice none 0 0)) := (((Up.refl (One p) W').put rfl 3 _).put rfl 4 _).put rfl 6 _
 have hb := heap_set_same (heap_set_same (heap_set_same h1.rb 3 (.int .i64 x)) 4 (.slice (some ⟨g, 0, none⟩) 3 3)) 6 (.slice none 0 0)
 have hp : g ≠ p := blk_ne hg h1.rb (by decide)
 have hB : w0.heap.size ≤ g := Nat.le_trans h.up.size hgw
 refine ⟨hb, ⟨.inr ⟨g, rfl, hB, v.keep hg fun e => hp e⟩, OwnLo.nil _ _⟩, h1.up.thn v fun j e => .inr (by have e : j = p := e; have := h.lt; omega), h.lt, h.key, fun _ => rfl, ⟨rfl, Nat.le_refl _⟩, Nat.zero_le _, h.kk, v.keep h1.res fun e => h.ne e, h.ne⟩
theorem FS.app (h : FS w0 W p K r sa sc la lc) {W1 : World} (u : Up Nul W W1) (a : Option Addr) (c : Nat) (xs : List Lo) (hr : RowL W1 a xs) (hx : xs ≠ []) (hl : r.locs.length ≤ 1000) (hl2 : xs.length ≤ 1000) :
  ∃ a' c' W2, (Builtin.append_ #[24, 24] 24 #[.slice la r.locs.length lc, .slice a xs.length c]).run Tryz.prog W1 = .ok (.slice a' (r.locs.length + xs.length) c') W2 ∧ W2.cell? ⟨p, 6, none⟩ = some (.slice la r.locs.length lc) ∧ W2.frozen? ⟨p, 6, none⟩ = false ∧
   (∀ (T : TypeId) (b : Nat) (c : Array Value) (f : Nat × Nat), W1.heap[b]? = some (.cells c T f) → T ≠ 64 → W2.heap[b]? = some (.cells c T f)) ∧
   FS w0 (W2.setCell ⟨p, 6, none⟩ (.slice a' (r.locs.length + xs.length) c')) p K { r with locs := r.locs ++ xs } sa sc a' c' := by
 have h1 := h.nxt u
 obtain ⟨v', W2, hrun, ho, hg, _⟩ := h1.ro.l.apps a c hr hx hl hl2 h1.up.size
 obtain ⟨a', c', rfl⟩ := ho.shape
 rw [List.length_append] at hrun ho
 have hkb : ∀ k, (Value.slice la r.locs.length lc).ownBlock = some k → w0.heap.size ≤ k ∧ k < W1.heap.size := fun k e => ownsRow.lt h1.ro.l k e
 have u12 : Up (fun k => (Value.slice la r.locs.length lc).ownBlock = some k) W1 W2 := (Up.refl _ _).app hg fun k e => .inr e
 have hk : ∀ (T : TypeId) (q : Nat) (c : Array Value) (f : Nat × Nat), W1.heap[q]? = some (.cells c T f) → T ≠ 64 → W2.heap[q]? = some (.cells c T f) := fun T q c f hq hT => u12.keep hq fun e => row_ne h1.ro.l hq (fun e => hT e.symm) e
 have hb2 := hk _ _ _ _ h1.rb (by decide)
 have v : Up (One p) W2 (W2.setCell ⟨p, 6, none⟩ (.slice a' (r.locs.length + xs.length) c')) := (Up.refl (One p) W2).put rfl 6 _
 have hb : RB (W2.setCell ⟨p, 6, none⟩ (.slice a' (r.locs.length + xs.length) c')) p { r with locs := r.locs ++ xs } (.slice sa r.sids.length sc) (.slice a' (r.locs ++ xs).length c') := by
  rw [List.length_append]
  exact heap_set_same hb2 6 _
 refine ⟨a', c', W2, hrun, by simp [World.cell?, hb2], by simp [World.frozen?, hb2], fun T b c f hq hT => hk T b c f hq hT, ?_⟩
 refine ⟨hb, ⟨h1.ro.s.imp id fun ⟨g, e, hB, hg'⟩ => ⟨g, e, hB, v.keep (hk _ _ _ _ hg' (by decide)) fun e' => blk_ne (hk _ _ _ _ hg' (by decide)) hb2 (by decide) e'⟩, ?_⟩, (h1.up.app hg fun k e => .inl (hkb k e).1).thn v fun j e => .inr (by have e : j = p := e; have := h.lt; omega), h.lt, h.key, h.s3, h.cs, by show (r.locs ++ xs).length ≤ 100000; rw [List.length_append]; omega, h.kk, v.keep (hk _ _ _ _ h1.res (by decide)) fun e => h.ne e, h.ne⟩
 show OwnLo w0.heap.size _ (.slice a' (r.locs ++ xs).length c') (r.locs ++ xs)
 rw [List.length_append]
 exact ownsRow.up ho v fun k e e' => row_ne ho hb2 (by decide) (by have e' : k = p := e'; rw [← e']; exact e)
theorem two_locs (W : World) (a b c d e f : Int) : RowL (W.alloc (.cells #[.int .i64 a, .int .i64 b, .int .i64 c, .int .i64 d, .int .i64 e, .int .i64 f] 64)) (some ⟨W.heap.size, 0, none⟩) [⟨a, b, c⟩, ⟨d, e, f⟩] := by
 refine .inr ⟨W.heap.size, 0, rfl, by rw [World.size_alloc]; omega, fun i l hi j x hx => ?_⟩
 have hb := heap_alloc_new W (.cells #[.int .i64 a, .int .i64 b, .int .i64 c, .int .i64 d, .int .i64 e, .int .i64 f] 64)
 have h2 : i = 0 ∨ i = 1 := by
  rcases Nat.lt_or_ge i 2 with h | h
  ·omega
  ·rw [List.getElem?_eq_none (by simpa using h)] at hi; cases hi
 have h3 : ∀ y : Lo, y.cells[j]? = some x → j = 0 ∨ j = 1 ∨ j = 2 := fun y hy => by
  rcases Nat.lt_or_ge j 3 with h | h
  ·omega
  ·rw [List.getElem?_eq_none (by simpa [Lo.cells] using h)] at hy; cases hy
 rcases h2 with rfl | rfl
 ·have hi : (⟨a, b, c⟩ : Lo) = l := by injection hi
  subst hi
  rcases h3 _ hx with rfl | rfl | rfl <;> (simp only [World.cell?, hb]; exact hx)
 ·have hi : (⟨d, e, f⟩ : Lo) = l := by injection hi
  subst hi
  rcases h3 _ hx with rfl | rfl | rfl <;> (simp only [World.cell?, hb]; exact hx)
end
section
variable {F : Nat → Prop} {w : World} {q n : Nat} {Q : Int → Value} {M : MM} {ks : List ByteArray} {is : List Int} {kv bv iv sv : Value}
theorem rstripe_x (h : RM F w q n Q M ks is kv bv iv sv) (hn : n ≤ 100000) (k : Int) :
  Calls Tryz.prog 20 #[.pointer (some ⟨q, 0, none⟩), .int .i64 k] w fun e w' => ∃ kd co k0 k1 k2 a l c ok, e = .returned (.tuple #[.agg #[.int .i64 kd, .int .i64 co, .string k0, .string k1, .string k2, .slice a l c], .bool ok]) ∧ Up Nul w w' := by
 cases hs : M.s k with
 | none =>
  refine (rstripe_no h hn k hs).mono ?_
  rintro e w' ⟨rfl, u⟩
  exact ⟨_, _, _, _, _, _, _, _, _, rfl, u⟩
 | some s =>
  refine (rstripe_yes h hn k s hs).mono ?_
  rintro e w' ⟨rfl, u⟩
  obtain ⟨a, c, e⟩ := (h.rr.lo k s hs).1.shape
  unfold stv
  rw [e]
  exact ⟨_, _, _, _, _, _, _, _, _, rfl, u⟩
end
def FitC : Prop := ∀ {F : Nat → Prop} {w : World} {q n : Nat} {Q : Int → Value} {M : MM} {ks : List ByteArray} {is : List Int} {kv bv iv sv : Value}, RM F w q n Q M ks is kv bv iv sv → (∀ k, F k → k < w.heap.size) → n ≤ 10000 → M.Inv3 → ∀ (a : Option Addr) (len cap : Nat) (z0 : List Int), CameI w a len cap z0 →
  Calls Tryz.prog 8 #[.pointer (some ⟨q, 0, none⟩), .slice a len cap] w fun e w' => ∃ (r : Rc) (sa : Option Addr) (sc : Nat) (la : Option Addr) (lc : Nat), e = .returned (rv r (.slice sa r.sids.length sc) (.slice la r.locs.length lc)) ∧ RO w.heap.size w' r sa la lc ∧ r.key.size ≤ 16 ∧ (sc = r.sids.length ∧ r.sids.length ≤ 3) ∧ r.locs.length ≤ 100000 ∧ Up Nul w w'
end Go.Proofs.YtepggchnhgpcnaaGreatDoor
namespace Go.Proofs.YtepggchnhgpcnaaGreatDoor
open Go.RowKit Go.Maps
set_option linter.unusedVariables false

section
variable {F : Nat → Prop} {w : World} {p bm bs n : Nat} {Q : Int → Value} {M : MM}
theorem MT.setLo (h : MT F w p bm bs n Q M) {i : Int} {s : St} (hs : M.s i = some s) {g c sl kn : Nat} {lo : Lo} (hq : Q i = .slice (some ⟨g, 0, none⟩) s.locs.length c) {W : World} (u : Up (One g) w W)
  (ho : OwnLo 0 W (.slice (some ⟨g, 0, none⟩) sl c) (s.locs.set kn lo)) (hsl : s.locs.length = sl := by assumption) : MT F W p bm bs n Q { M with s := upd M.s i (some { s with locs := s.locs.set kn lo }) } where
 hp := (u.block p h.lt fun e => h.rp hs (by rw [hq]; have e : p = g := e; rw [e]; rfl)).trans h.hp
 mb := h.mb.up u fun e => (h.rm hs).1 (by rw [hq]; have e : bm = g := e; rw [e]; rfl)
 ms := by
  have h1 := h.ms.up u fun e => (h.rm hs).2 (by rw [hq]; have e : bs = g := e; rw [e]; rfl)
  have e : (fun j => (upd M.s i (some { s with locs := s.locs.set kn lo }) j).map fun s => stv s (Q j)) = fun j => (M.s j).map fun s => stv s (Q j) := by
   funext j
   by_cases e : j = i
   ·subst e; rw [upd_same, hs]; rfl
   ·rw [upd_ne _ _ e]
  show MapI W bs n fun j => (upd M.s i (some { s with locs := s.locs.set kn lo }) j).map fun s => stv s (Q j)
  rw [e]; exact h1
 row j y e := by
  have e : upd M.s i (some { s with locs := s.locs.set kn lo }) j = some y := e
  by_cases hj : j = i
  ·subst hj
   rw [upd_same] at e
   injection e with e
   subst e
   obtain ⟨g', c', e1, e2, _⟩ := h.row j s hs
   rw [hq] at e1
   have e3 : g = g' := by injection e1 with e1; injection e1 with e1; injection e1
   refine ⟨g, c, by rw [hq]; show _ = Value.slice _ (s.locs.set kn lo).length _; rw [List.length_set], by rw [e3]; exact e2, ?_⟩
   rw [hq, hsl]; exact ho
  ·rw [upd_ne _ _ hj] at e
   obtain ⟨g', c', e1, e2, e3⟩ := h.row j y e
   exact ⟨g', c', e1, e2, lo_up e3 u fun k hk e4 => h.dis j i y s e hs hj (by rw [hk, hq]; have e4 : k = g := e4; rw [e4]; rfl)⟩
 dis j k y y' hj hk hne := by
  have f : ∀ j y, upd M.s i (some { s with locs := s.locs.set kn lo }) j = some y → ∃ z, M.s j = some z := fun j y e => by
   by_cases hj : j = i
   ·exact ⟨s, by rw [hj]; exact hs⟩
   ·rw [upd_ne _ _ hj] at e; exact ⟨y, e⟩
  obtain ⟨z, hz⟩ := f j y hj
  obtain ⟨z', hz'⟩ := f k y' hk
  exact h.dis j k z z' hz hz' hne
 fp := h.fp
 fm := h.fm
 fs := h.fs
 nb := h.nb
set_option maxRecDepth 10000 in
set_option maxHeartbeats 4000000 in
theorem move_any (h : MT F w p bm bs n Q M) (hFw : ∀ k, F k → k < w.heap.size) (hI : M.Inv3) (r : Rc) (sv : Value) (la : Option Addr) (lc : Nat) (hr : RowL w la r.locs) (hll : r.locs.length = 1) (hs0 : 1 ≤ r.sid ∧ r.sid ≤ 2147483647) (hnb : 0 ≤ r.n ∧ r.n ≤ 15) :
  Calls Tryz.prog 70 #[.pointer (some ⟨p, 0, none⟩), rv r sv (.slice la r.locs.length lc)] w fun e w' => e = .returned (.int .i64 (M.move r).1) ∧
   (∃ Q', MT F w' p bm bs n Q' (M.move r).2) ∧ Up F w w' := by
 obtain ⟨w1, hw1⟩ : ∃ W, W = w.alloc (.cells (rcellsL r sv (.slice la r.locs.length lc)) 28) := ⟨_, rfl⟩
 have u1 : Up Nul w w1 := by rw [hw1]; exact (Up.refl _ _).alloc _
 have b1 : w1.heap[w.heap.size]? = some (.cells (rcellsL r sv (.slice la r.locs.length lc)) 28 (0, 0)) := by rw [hw1]; exact heap_alloc_new _ _
 have x2 : w1.cell? ⟨w.heap.size, 2, none⟩ = some (.int .i64 r.n) := by simp [World.cell?, b1, rcellsL]
 have x3 : w1.cell? ⟨w.heap.size, 3, none⟩ = some (.int .i64 r.sid) := by simp [World.cell?, b1, rcellsL]
 have x6 : w1.cell? ⟨w.heap.size, 6, none⟩ = some (.slice la r.locs.length lc) := by simp [World.cell?, b1, rcellsL]
 obtain ⟨lo, hlo⟩ : ∃ lo, r.locs = [lo] := by
  match hh : r.locs, hll with
  | [a], _ => exact ⟨a, rfl⟩
 obtain ⟨kn, hkn⟩ : ∃ kn : Nat, r.n = (kn : Int) := ⟨r.n.toNat, by omega⟩
 have h1 := h.nxt u1
 obtain ⟨c0, c1, _⟩ := h1.cells
 have uA : Up Nul w1 (w1.alloc (.cells #[.int .i64 0, .int .i64 0, .string ⟨#[]⟩, .string ⟨#[]⟩, .string ⟨#[]⟩, .slice none 0 0] 46)) := (Up.refl _ _).alloc _
 obtain ⟨e0, e1, _⟩ := (h1.nxt uA).cells
 have HZ : w.heap.size < w1.heap.size := (Array.getElem?_eq_some_iff.1 b1).1
 have y2 := (uA.cell (p := ⟨w.heap.size, 2, none⟩) HZ id).trans x2
 have y3 := (uA.cell (p := ⟨w.heap.size, 3, none⟩) HZ id).trans x3
 have y6 := (uA.cell (p := ⟨w.heap.size, 6, none⟩) HZ id).trans x6
 have HM0 := hid h
 have HM := hid h1
 have HU1 := hid u1
 have HB1 := hid b1
 have HF := hid hFw
 have HRL := hid hr
 have HLO := hid hlo
 have HKN := hid hkn
 have hwf := wfI (x := r.sid) (by omega) hs0.2
 cases hs : M.s r.sid with
 | none =>
  have hlk : ∀ W, Up Nul w1 W → (Instr.lookup 56 (.map (some bs)) (.int .i64 r.sid) true).run Tryz.prog W = .ok (.tuple #[.agg #[.int .i64 0, .int .i64 0, .string ⟨#[]⟩, .string ⟨#[]⟩, .string ⟨#[]⟩, .slice none 0 0], .bool false]) W := fun W u => by
   have := (h1.nxt u).ms.look2 Tryz.underlying56 (zero_st _) hwf
   rw [hs] at this
   exact this
  have HE : Hid (M.move r = (11, M)) := by show _ = _; unfold MM.move; rw [hs]
  have lA := hlk _ (uA.drew)
  have lB := hlk _ ((Up.refl Nul w1).drew)
  rw [HE.out]
  clear h h1 hFw hI hr hll hs0 hnb hlo hkn hs hlk hwf
  go_enter Tryz.func70, Tryz.ntmps70
  go_upto_region 1 with fail
  rw [← hw1]
  clear hw1
  go_region
  all_goals
   have HU2 : Hid (Up Nul w (w1.alloc (.cells #[.int .i64 0, .int .i64 0, .string ⟨#[]⟩, .string ⟨#[]⟩, .string ⟨#[]⟩, .slice none 0 0] 46)).drew) := HU1.out.trans (((Up.refl _ _).alloc _).drew)
   generalize (w1.alloc (.cells #[.int .i64 0, .int .i64 0, .string ⟨#[]⟩, .string ⟨#[]⟩, .string ⟨#[]⟩, .slice none 0 0] 46)).drew = w2 at HU2 ⊢
   clear lA lB uA e0 e1 y2 y3 y6 x2 x3 x6 c0 c1 b1 u1
   go_wp2_with fail
   go_ret
   exact ⟨rfl, ⟨Q, HM0.out.nxt HU2.out⟩, HU2.out.nul⟩
 | some s =>
  obtain ⟨g, c, hq, hFg, ho⟩ := h.row r.sid s hs
  have hlk : ∀ W, Up Nul w1 W → (Instr.lookup 56 (.map (some bs)) (.int .i64 r.sid) true).run Tryz.prog W = .ok (.tuple #[.agg #[.int .i64 s.kind, .int .i64 s.colour, .string s.k0, .string s.k1, .string s.k2, .slice (some ⟨g, 0, none⟩) s.locs.length c], .bool true]) W := fun W u => by
   have := (h1.nxt u).ms.look2 Tryz.underlying56 (zero_st _) hwf
   rw [hs] at this
   simp only [Option.map_some, Option.getD_some, Option.isSome_some, hq, stv] at this
   exact this
  have HN15 : Hid (s.locs.length ≤ 16) := by
   have := (hI.s _ _ hs).2.1
   have h1 := this.kind
   have h2 := this.locs
   unfold locsOfKind at h2
   show s.locs.length ≤ 16
   rcases h1 with e | e | e <;> rw [e] at h2 <;> simp at h2 <;> omega
  have HQ := hid hq
  have HFG := hid hFg
  have HOW := hid ho
  have HSS := hid hs
  obtain ⟨RES, HRES⟩ : ∃ R, Hid (M.move r = R) := ⟨_, rfl⟩
  rw [HRES.out]
  obtain ⟨sl, SL⟩ : ∃ x, Hid (s.locs.length = x) := ⟨_, rfl⟩
  rw [SL.out] at hlk HN15
  have lA := hlk _ (uA.drew)
  have lB := hlk _ ((Up.refl Nul w1).drew)
  have HLL := hid hll
  clear h h1 hFw hI hr hs0 hnb hlo hkn hll hs hlk hwf hq hFg ho
  go_enter Tryz.func70, Tryz.ntmps70
  go_upto_region 1 with fail
  rw [← hw1]
  clear hw1
  go_region
  all_goals
   obtain ⟨w2, hw2⟩ : ∃ W, W = (w1.alloc (.cells #[.int .i64 s.kind, .int .i64 s.colour, .string s.k0, .string s.k1, .string s.k2, .slice (some ⟨g, 0, none⟩) sl c] 46)).drew := ⟨_, rfl⟩
   have u2 : Up Nul w1 w2 := by rw [hw2]; exact ((Up.refl _ _).alloc _).drew
   have b2 : w2.heap[w1.heap.size]? = some (.cells #[.int .i64 s.kind, .int .i64 s.colour, .string s.k0, .string s.k1, .string s.k2, .slice (some ⟨g, 0, none⟩) sl c] 46 (0, 0)) := by rw [hw2]; exact heap_alloc_new w1 _
   rw [← hw2]
   clear hw2 lA lB uA e0 e1 y2 y3 y6 c0 c1 u1
   have z5 : w2.cell? ⟨w1.heap.size, 5, none⟩ = some (.slice (some ⟨g, 0, none⟩) sl c) := by simp [World.cell?, b2]
   have x2 := (u2.cell (p := ⟨w.heap.size, 2, none⟩) HZ id).trans x2
   have x6 := (u2.cell (p := ⟨w.heap.size, 6, none⟩) HZ id).trans x6
   rw [HKN.out] at x2
   have HU2 : Hid (Up Nul w w2) := HU1.out.trans u2
   clear u2 b2 b1 x3
   by_cases hge : (sl : Int) ≤ (kn : Int)
   ·have HE : Hid (RES = (1, M)) := by
     show _ = _
     rw [← HRES.out]
     unfold MM.move; rw [HSS.out]; dsimp only; rw [if_pos (by rw [SL.out, HKN.out]; exact hge)]
    go_wp2_with fail
    go_ret
    rw [HE.out]
    exact ⟨rfl, ⟨Q, HM0.out.nxt HU2.out⟩, HU2.out.nul⟩
   ·have HE : Hid (RES = (0, { M with s := upd M.s r.sid (some { s with locs := s.locs.set kn lo }) })) := by
     show _ = _
     rw [← HRES.out]
     unfold MM.move
     rw [HSS.out]
     dsimp only
     rw [if_neg (by rw [SL.out, HKN.out]; exact hge), HKN.out, HLO.out]; rfl
    have hlt : kn < sl := by omega
    have hlt2 : (kn : Int) < (sl : Int) := by omega
    have HLT := hid hlt
    have ho2 : OwnLo 0 w2 (Q r.sid) s.locs := lo_up HOW.out HU2.out fun _ _ => id
    rw [HQ.out] at ho2
    have HO2 := hid ho2
    -- the row of the record
    have hrow2 := HRL.out.nxt HU2.out
    rw [HLO.out] at hrow2
    obtain ⟨gl, ol, rfl, hgl, hcl⟩ := hrow2.resolve_left (by simp)
    have k0 := hcl 0 lo rfl 0 _ rfl
    have k1 := hcl 0 lo rfl 1 _ rfl
    have k2 := hcl 0 lo rfl 2 _ rfl
    rw [show ol + 0 * 3 + 0 = ol from by omega] at k0
    rw [show ol + 0 * 3 + 1 = ol + 1 from by omega] at k1
    rw [show ol + 0 * 3 + 2 = ol + 2 from by omega] at k2
    rw [HLL.out] at x6
    have hcs : ∃ cur, w2.heap[g]? = some (.cells cur 64 (0, 0)) ∧ kn * 3 + 3 ≤ cur.size := by
     rcases ho2.2 with ⟨e, _⟩ | ⟨g', cap, cur, e, h2, h3, h4, h5, h6, h7⟩
     ·exact absurd e (by intro e; injection e with e1; cases e1)
     ·have e1 : g = g' := by injection e with e1; injection e1 with e1; injection e1
      subst e1
      have := SL.out
      exact ⟨cur, h3, by rw [h6]; omega⟩
    obtain ⟨cur, hcur, hcs⟩ := hcs
    have yy : ∀ j, j < 3 → ∃ v, w2.cell? ⟨g, kn * 3 + j, none⟩ = some v := fun j hj => by
     refine Option.isSome_iff_exists.1 ?_
     simp only [World.cell?, hcur]
     rw [Array.getElem?_eq_getElem (by omega)]; rfl
    obtain ⟨v0, v0'⟩ := yy 0 (by omega)
    obtain ⟨v1, v1'⟩ := yy 1 (by omega)
    obtain ⟨v2, v2'⟩ := yy 2 (by omega)
    rw [Nat.add_zero] at v0'
    have ff : ∀ o, w2.frozen? ⟨g, o, none⟩ = false := fun o => by simp [World.frozen?, hcur]
    have f0 := ff (kn * 3)
    have f1 := ff (kn * 3 + 1)
    have f2 := ff (kn * 3 + 2)
    have i0 : (0 : Int) ≤ (kn : Int) := by omega
    clear hge hlt ho2 hrow2 hgl hcl hcur hcs yy ff
    go_upto_region 6 with fail
    go_still_tail 9, (by kernel_rfl)
    go_wp2_with fail
    have h9r := row_set3 (i := kn * 3) HO2.out (.int .i64 lo.d) (.int .i64 lo.s) (.int .i64 lo.i)
    rw [← loV_set s.locs kn (by rw [SL.out]; exact HLT.out) lo] at h9r
    have u9 : Up (One g) w2 (((w2.setCell ⟨g, kn * 3, none⟩ (.int .i64 lo.d)).setCell ⟨g, kn * 3 + 1, none⟩ (.int .i64 lo.s)).setCell ⟨g, kn * 3 + 2, none⟩ (.int .i64 lo.i)) :=
     (((Up.refl (One g) w2).put rfl _ _).put rfl _ _).put rfl _ _
    obtain ⟨w9, hw9⟩ : ∃ W, W = (((w2.setCell ⟨g, kn * 3, none⟩ (.int .i64 lo.d)).setCell ⟨g, kn * 3 + 1, none⟩ (.int .i64 lo.s)).setCell ⟨g, kn * 3 + 2, none⟩ (.int .i64 lo.i)) := ⟨_, rfl⟩
    rw [← hw9] at h9r u9 ⊢
    have H9 : Hid (MT F w9 p bm bs n Q { M with s := upd M.s r.sid (some { s with locs := s.locs.set kn lo }) }) :=
     (HM0.out.nxt HU2.out).setLo HSS.out HQ.out u9 (by
      unfold OwnLo
      rw [List.length_set]
      rw [SL.out] at h9r ⊢
      exact ownsRow.lower h9r (Nat.zero_le _)) SL.out
    have HU9 : Hid (Up F w w9) := HU2.out.nul.trans (u9.mono fun j _ e => by have e : j = g := e; rw [e]; exact HFG.out)
    have HE2 : Hid (∀ W : World, W = w9 ∨ W = w9.drew → Up Nul w9 W) := fun W e => by
     rcases e with e | e
     ·rw [e]; exact Up.refl _ _
     ·rw [e]; exact (Up.refl _ _).drew
    clear hw9 h9r u9 k0 k1 k2 v0' v1' v2' f0 f1 f2 i0 x2 x6 z5
    go_wp2_with fail
    go_ret
    rw [HE.out]
    exact ⟨rfl, ⟨Q, H9.out.nxt (HE2.out _ (by first | exact .inl rfl | exact .inr rfl))⟩, HU9.out.trans (HE2.out _ (by first | exact .inl rfl | exact .inr rfl)).nul⟩
end
section
variable {F : Nat → Prop} {w : World} {p bm bs n : Nat} {Q : Int → Value} {M : MM}
theorem MT.setT (h : MT F w p bm bs n Q M) (t : Tb) {W : World} (hp : W.heap[p]? = some (.cells (mhead bm bs M.last t) 58 (0, 0))) (u : Up (One p) w W) : MT F W p bm bs n Q { M with t := t } where
 hp := hp
 mb := h.mb.up u fun e => h.pm (by have e : bm = p := e; exact e.symm)
 ms := h.ms.up u fun e => h.ps (by have e : bs = p := e; exact e.symm)
 row i s e := by
  obtain ⟨g, c, e1, e2, e3⟩ := h.row i s e
  exact ⟨g, c, e1, e2, lo_up e3 u fun k hk e4 => h.rp e (by have e4 : k = p := e4; rw [hk, e4])⟩
 dis := h.dis
 fp := h.fp
 fm := h.fm
 fs := h.fs
 nb := h.nb
set_option maxRecDepth 10000 in
set_option maxHeartbeats 4000000 in
theorem change_8 (h : MT F w p bm bs n Q M) (hFw : ∀ k, F k → k < w.heap.size) (r : Rc) (h1 : r.kind = 8) (sa la : Option Addr) (sl sc ll lc : Nat) :
  Calls Tryz.prog 23 #[.pointer (some ⟨p, 0, none⟩), rv r (.slice sa sl sc) (.slice la ll lc)] w fun e w' => e = .returned (.int .i64 0) ∧ MT F w' p bm bs n Q { M with t := r.t } ∧ Up F w w' := by
 obtain ⟨w1, hw1⟩ : ∃ W, W = w.alloc (.cells (rcellsL r (.slice sa sl sc) (.slice la ll lc)) 28) := ⟨_, rfl⟩
 have u1 : Up Nul w w1 := by rw [hw1]; exact (Up.refl _ _).alloc _
 have b1 : w1.heap[w.heap.size]? = some (.cells (rcellsL r (.slice sa sl sc) (.slice la ll lc)) 28 (0, 0)) := by rw [hw1]; exact heap_alloc_new _ _
 have hx : ∀ o v, (rcellsL r (.slice sa sl sc) (.slice la ll lc))[o]? = some v → w1.cell? ⟨w.heap.size, o, none⟩ = some v := fun o v e => by simp only [World.cell?, b1]; exact e
 have g0 : w1.cell? ⟨w.heap.size, 0, none⟩ = some (.int .i64 r.kind) := hx 0 _ rfl
 have g7 : w1.cell? ⟨w.heap.size, 7, none⟩ = some (.int .i64 r.t.hot) := hx 7 _ rfl
 have g8 : w1.cell? ⟨w.heap.size, 8, none⟩ = some (.int .i64 r.t.warm) := hx 8 _ rfl
 have g9 : w1.cell? ⟨w.heap.size, 9, none⟩ = some (.int .i64 r.t.gap) := hx 9 _ rfl
 have g10 : w1.cell? ⟨w.heap.size, 10, none⟩ = some (.int .i64 r.t.add) := hx 10 _ rfl
 have g11 : w1.cell? ⟨w.heap.size, 11, none⟩ = some (.int .i64 r.t.top) := hx 11 _ rfl
 have g12 : w1.cell? ⟨w.heap.size, 12, none⟩ = some (.int .i64 r.t.half) := hx 12 _ rfl
 have h2 := h.nxt u1
 have hy : ∀ o v, (mhead bm bs M.last M.t)[o]? = some v → w1.cell? ⟨p, o, none⟩ = some v := fun o v e => by simp only [World.cell?, h2.hp]; exact e
 have q3 : w1.cell? ⟨p, 3, none⟩ = some (.int .i64 M.t.hot) := hy 3 _ rfl
 have q4 : w1.cell? ⟨p, 4, none⟩ = some (.int .i64 M.t.warm) := hy 4 _ rfl
 have q5 : w1.cell? ⟨p, 5, none⟩ = some (.int .i64 M.t.gap) := hy 5 _ rfl
 have q6 : w1.cell? ⟨p, 6, none⟩ = some (.int .i64 M.t.add) := hy 6 _ rfl
 have q7 : w1.cell? ⟨p, 7, none⟩ = some (.int .i64 M.t.top) := hy 7 _ rfl
 have q8 : w1.cell? ⟨p, 8, none⟩ = some (.int .i64 M.t.half) := hy 8 _ rfl
 have ff : ∀ o, w1.frozen? ⟨p, o, none⟩ = false := fun o => by simp [World.frozen?, h2.hp]
 have f3 := ff 3
 have f4 := ff 4
 have f5 := ff 5
 have f6 := ff 6
 have f7 := ff 7
 have f8 := ff 8
 have HM := hid h2
 have HU1 := hid u1
 have hne : w.heap.size ≠ p := fun e => by have := hFw _ h.fp; omega
 rw [h1] at g0
 show Calls Tryz.prog 23 #[.pointer (some ⟨p, 0, none⟩), .agg #[.int .i64 r.kind, .string r.key, .int .i64 r.n, .int .i64 r.sid, .slice sa sl sc, .int .i64 r.colour, .slice la ll lc, .int .i64 r.t.hot, .int .i64 r.t.warm, .int .i64 r.t.gap, .int .i64 r.t.add, .int .i64 r.t.top, .int .i64 r.t.half]] w _
 clear h h2 u1 b1 hx hy ff hFw
 have hw2 : w1 = w.alloc (.cells #[.int .i64 r.kind, .string r.key, .int .i64 r.n, .int .i64 r.sid, .slice sa sl sc, .int .i64 r.colour, .slice la ll lc, .int .i64 r.t.hot, .int .i64 r.t.warm, .int .i64 r.t.gap, .int .i64 r.t.add, .int .i64 r.t.top, .int .i64 r.t.half] 28) := hw1
 rw [h1] at hw2 ⊢
 clear hw1 h1
 go_enter Tryz.func23, Tryz.ntmps23
 go_upto_region 1 with fail
 rw [← hw2]
 clear hw2
 go_wp2_with fail
 obtain ⟨w9, hw9⟩ : ∃ W, W = (((((w1.setCell ⟨p, 3, none⟩ (.int .i64 r.t.hot)).setCell ⟨p, 4, none⟩ (.int .i64 r.t.warm)).setCell ⟨p, 5, none⟩ (.int .i64 r.t.gap)).setCell ⟨p, 6, none⟩ (.int .i64 r.t.add)).setCell ⟨p, 7, none⟩ (.int .i64 r.t.top)).setCell ⟨p, 8, none⟩ (.int .i64 r.t.half) := ⟨_, rfl⟩
 rw [← hw9]
 have hh : w9.heap[p]? = some (.cells (mhead bm bs M.last r.t) 58 (0, 0)) := by
  rw [hw9]
  exact heap_set_same (heap_set_same (heap_set_same (heap_set_same (heap_set_same (heap_set_same HM.out.hp 3 (.int .i64 r.t.hot)) 4 (.int .i64 r.t.warm)) 5 (.int .i64 r.t.gap)) 6 (.int .i64 r.t.add)) 7 (.int .i64 r.t.top)) 8 (.int .i64 r.t.half)
 have hu : Up (One p) w1 w9 := by
  rw [hw9]
  exact ((((((Up.refl (One p) w1).put rfl 3 (.int .i64 r.t.hot)).put rfl 4 (.int .i64 r.t.warm)).put rfl 5 (.int .i64 r.t.gap)).put rfl 6 (.int .i64 r.t.add)).put rfl 7 (.int .i64 r.t.top)).put rfl 8 (.int .i64 r.t.half)
 clear hw9
 go_ret
 exact ⟨rfl, HM.out.setT r.t hh hu, HU1.out.nul.trans (hu.mono fun j _ e => by have e : j = p := e; rw [e]; exact HM.out.fp)⟩
theorem apply_78 (h : MT F w p bm bs n Q M) (hFw : ∀ k, F k → k < w.heap.size) (hI : M.Inv3) (hS : Shp w) (r : Rc) (hk7 : r.kind = 7 ∨ r.kind = 8) (sa la : Option Addr) (sc lc : Nat) (hr : RH w r sa la) (hk : r.key.size ≤ 100000) :
  Calls Tryz.prog 9 #[.pointer (some ⟨p, 0, none⟩), rv r (.slice sa r.sids.length sc) (.slice la r.locs.length lc)] w fun e w' => e = .returned (.int .i64 (M.step r).1) ∧ (∃ Q', MT (Gr F w w') w' p bm bs n Q' (M.step r).2) ∧ Up F w w' := by
 refine apply_all h hFw hS r sa la sc lc hr hk n (by omega) (fun hf W u => ?_) (fun hf W u => ?_)
 ·have e1 : newS r = [] := by unfold newS; rw [if_neg (by omega), if_neg (by omega)]
  rw [e1]
  obtain ⟨kind, key, rn, sid, sids, colour, locs, ⟨a, b, c, d, e, f⟩⟩ := r
  exact sids_none kind key rn sid _ colour _ a b c d e f W (.inr hk7)
 ·have hW := h.nxt u
  have hFW : ∀ k, F k → k < W.heap.size := fun k hk => Nat.lt_of_lt_of_le (hFw k hk) u.size
  rcases hk7 with h7 | h8
  ·obtain ⟨o1, o2, o3⟩ := okf_move hf h7
   have ec : M.chg r = M.move r := by unfold MM.chg; rw [if_neg (by omega), if_neg (by omega), if_neg (by omega), if_neg (by omega), if_neg (by omega), if_neg (by omega), if_pos h7]
   rw [ec]
   refine change_7 p W r h7 _ _ ⟨_, _, _, rfl⟩ ⟨_, _, _, rfl⟩ (fun x w' => x = (M.move r).1 ∧ (∃ Q', MT (Gr F W w') w' p bm bs n Q' (M.move r).2) ∧ Up F W w') (fun V uV => ?_)
   refine (move_any (hW.nxt uV) (fun k hk => Nat.lt_of_lt_of_le (hFW k hk) uV.size) hI r _ la lc (hr.l.nxt (u.trans uV)) o2 o1 o3).mono ?_
   rintro e w' ⟨rfl, ⟨Q', h'⟩, u'⟩
   exact ⟨_, rfl, rfl, ⟨Q', h'.wide fun k hk => .inl hk⟩, uV.nul.trans u'⟩
  ·have ec : M.chg r = (0, { M with t := r.t }) := by unfold MM.chg; rw [if_neg (by omega), if_neg (by omega), if_neg (by omega), if_neg (by omega), if_neg (by omega), if_neg (by omega), if_neg (by omega)]
   rw [ec]
   refine (change_8 hW hFW r h8 sa la r.sids.length sc r.locs.length lc).mono ?_
   rintro e w' ⟨rfl, h', u'⟩
   exact ⟨_, rfl, rfl, ⟨Q, h'.wide fun k hk => .inl hk⟩, u'⟩
theorem apply_any (h : MT F w p bm bs n Q M) (hFw : ∀ k, F k → k < w.heap.size) (hI : M.Inv3) (hS : Shp w) (r : Rc) (sa la : Option Addr) (sc lc : Nat) (hr : RH w r sa la) (hk : r.key.size ≤ 100000)
  (hcs : r.sids.length ≤ sc ∧ (sc : Int) ≤ 9223372036854775807) (hcl : r.locs.length ≤ lc ∧ (lc : Int) ≤ 9223372036854775807) (hn : n ≤ 50000) :
  Calls Tryz.prog 9 #[.pointer (some ⟨p, 0, none⟩), rv r (.slice sa r.sids.length sc) (.slice la r.locs.length lc)] w fun e w' => e = .returned (.int .i64 (M.step r).1) ∧ (∃ Q', MT (Gr F w w') w' p bm bs (n + 12) Q' (M.step r).2) ∧ Up F w w' := by
 cases hok : okR r with
 | false =>
  have e : M.step r = (1, M) := by unfold MM.step MM.app; rw [hok]; rfl
  rw [e]
  refine (apply_bad h hS r sa la sc lc hr hk hok).mono ?_
  rintro e w' ⟨rfl, u⟩
  exact ⟨rfl, ⟨Q, ((h.nxt u).wide fun k hk => .inl hk).mono (by omega)⟩, u.nul⟩
 | true =>
  have hf := okR_iff.1 hok
  have h1 := hf.k1
  have h8 := hf.k8
  have hkk := hf.kk
  have hc : (r.kind = 1 ∨ r.kind = 2) ∨ (3 ≤ r.kind ∧ r.kind ≤ 6) ∨ (r.kind = 7 ∨ r.kind = 8) := by omega
  rcases hc with hc | hc | hc
  ·refine (apply_12 h hFw hI hS r hc sa la sc lc hr hk hn).mono ?_
   rintro e w' ⟨rfl, ⟨Q', h'⟩, u'⟩
   exact ⟨rfl, ⟨Q', h'.mono (by omega)⟩, u'⟩
  ·exact apply_36 h hFw hI hS r hc sa la sc lc hr hk hcs hcl hn
  ·refine (apply_78 h hFw hI hS r hc sa la sc lc hr hk).mono ?_
   rintro e w' ⟨rfl, ⟨Q', h'⟩, u'⟩
   exact ⟨rfl, ⟨Q', h'.mono (by omega)⟩, u'⟩
end
theorem inv_move {M : MM} {L : Int} (h : InvX M (fun _ => False) L) (r : Rc) : InvX (M.move r).2 (fun _ => False) L := by
 unfold MM.move
 cases hs : M.s r.sid with
 | none => exact h
 | some s =>
  dsimp only
  split
  ·exact h
  ·have hk : ∀ t, St.key { s with locs := s.locs.set r.n.toNat (r.locs.getD 0 ⟨0, 0, 0⟩) } t = s.key t := fun t => rfl
   have fw : ∀ i y, upd M.s r.sid (some { s with locs := s.locs.set r.n.toNat (r.locs.getD 0 ⟨0, 0, 0⟩) }) i = some y → ∃ z, M.s i = some z ∧ (∀ t, y.key t = z.key t) ∧ (StOk z → StOk y) := fun i y e => by
    by_cases hi : i = r.sid
    ·subst hi
     rw [upd_same] at e
     injection e with e
     subst e
     exact ⟨s, hs, fun t => hk t, fun o => ⟨o.kind, by show (s.locs.set _ _).length = _; rw [List.length_set]; exact o.locs, o.co, o.one, o.live⟩⟩
    ·rw [upd_ne _ _ hi] at e
     exact ⟨y, e, fun _ => rfl, id⟩
   refine ⟨fun k x hb => ?_, fun i y hy => ?_, h.e, h.l⟩
   ·obtain ⟨a1, a2⟩ := h.b k x hb
    refine ⟨a1, fun hn => ?_⟩
    obtain ⟨t, ht, hp, s', hs', hkk⟩ := a2 hn
    refine ⟨t, ht, hp, ?_⟩
    by_cases hi : x.sid = r.sid
    ·rw [hi, hs] at hs'
     injection hs' with hs'
     subst hs'
     exact ⟨{ s with locs := s.locs.set r.n.toNat (r.locs.getD 0 ⟨0, 0, 0⟩) }, by show upd M.s r.sid _ x.sid = _; rw [hi, upd_same], hkk⟩
    ·exact ⟨s', by show upd M.s r.sid _ x.sid = _; rw [upd_ne _ _ hi]; exact hs', hkk⟩
   ·obtain ⟨z, hz, hkz, ho⟩ := fw i y hy
    obtain ⟨a1, a2, a3⟩ := h.s i z hz
    exact ⟨a1, ho a2, fun t ht hn => by
     rw [hkz t] at hn ⊢
     exact a3 t ht hn⟩
theorem inv_any {M : MM} (h : M.Inv3) (r : Rc) : (M.step r).2.Inv3 := by
 cases hok : okR r with
 | false => unfold MM.step MM.app; rw [hok]; exact h
 | true =>
  have hf := okR_iff.1 hok
  have h1 := hf.k1
  have h8 := hf.k8
  have hkk := hf.kk
  have hc : (r.kind = 1 ∨ r.kind = 2) ∨ (3 ≤ r.kind ∧ r.kind ≤ 6) ∨ r.kind = 7 ∨ r.kind = 8 := by omega
  rcases hc with hc | hc | h7 | h8
  ·exact inv_12 h r hc
  ·exact inv_36 h r hc
  ·have ec : M.chg r = M.move r := by unfold MM.chg; rw [if_neg (by omega), if_neg (by omega), if_neg (by omega), if_neg (by omega), if_neg (by omega), if_neg (by omega), if_pos h7]
   have e1 : newS r = [] := by unfold newS; rw [if_neg (by omega), if_neg (by omega)]
   refine step_inv h r (fun _ l hr _ => ?_) (fun h0 => ?_)
   ·rw [e1] at hr
    have hr : some M.last = some l := hr
    injection hr with hr
    rw [ec, ← hr]
    exact inv_move h r
   ·rw [ec] at h0 ⊢
    unfold MM.move at h0 ⊢
    cases hs : M.s r.sid with
    | none => rfl
    | some s =>
     rw [hs] at h0
     dsimp only at h0 ⊢
     split
     ·rfl
     ·rename_i hx; rw [if_neg hx] at h0; exact absurd rfl h0
  ·have ec : M.chg r = (0, { M with t := r.t }) := by unfold MM.chg; rw [if_neg (by omega), if_neg (by omega), if_neg (by omega), if_neg (by omega), if_neg (by omega), if_neg (by omega), if_neg (by omega)]
   have e1 : newS r = [] := by unfold newS; rw [if_neg (by omega), if_neg (by omega)]
   refine step_inv h r (fun _ l hr _ => ?_) (fun h0 => ?_)
   ·rw [e1] at hr
    have hr : some M.last = some l := hr
    injection hr with hr
    rw [ec, ← hr]
    exact ⟨h.b, h.s, h.e, h.l⟩
   ·rw [ec] at h0; exact absurd rfl h0
end Go.Proofs.YtepggchnhgpcnaaGreatDoor
namespace Go.Proofs.YtepggchnhgpcnaaGreatDoor
open Go.RowKit Go.Maps Go.Sort
set_option linter.unusedVariables false

section
variable {w0 W W' : World} {F1 F2 S : Nat → Prop} {p bm bs q n B : Nat} {M : MM} {r : Rc} {sa la : Option Addr} {sc lc : Nat}
theorem RO.upS (h : RO B W r sa la lc) (u : Up S W W') (hs : ∀ k, B ≤ k → ¬ S k) : RO B W' r sa la lc :=
 ⟨h.s.imp id fun ⟨g, e, hb, hg⟩ => ⟨g, e, hb, u.keep hg (hs g hb)⟩, ownsRow.up h.l u fun g e => hs g (ownsRow.lt h.l g e).1⟩
theorem RO.rh (h : RO B W r sa la lc) (h1 : r.sids.length ≤ 100000) (h2 : r.locs.length ≤ 100000) : RH W r sa la := by
 refine ⟨?_, ?_, h1, h2⟩
 ·rcases h.s with e | ⟨g, e, _, hg⟩
  ·exact .inl e
  ·refine .inr ⟨g, 0, e, lt_of_heap hg, fun i x hi => ?_⟩
   rw [Nat.zero_add]
   simp [World.cell?, hg, intV, hi]
 ·obtain ⟨a, c, e, hr⟩ := OwnLo.row h.l
  injection e with e
  rw [e]
  exact hr
theorem RO.lcap (h : RO B W r sa la lc) : r.locs.length ≤ lc ∧ (lc : Int) ≤ 9223372036854775807 := by
 rcases h.l.2 with ⟨e, _⟩ | ⟨g, cap, cur, e, _, _, h1, h2, _⟩
 ·injection e with e1 e2 e3
  omega
 ·injection e with e1 e2 e3
  unfold maxLen at h2
  omega
structure BB (w0 W : World) (F1 F2 : Nat → Prop) (p bm bs q n : Nat) (M : MM) : Prop where
 m : ∃ Q, MT F1 W p bm bs n Q M
 r : RMx F2 W q n M
 i : M.Inv3
 l1 : ∀ k, F1 k → w0.heap.size ≤ k ∧ k < W.heap.size
 l2 : ∀ k, F2 k → w0.heap.size ≤ k ∧ k < W.heap.size
 d : ∀ k, F1 k → ¬ F2 k
 up : Up Nul w0 W
theorem BB.nxt (h : BB w0 W F1 F2 p bm bs q n M) (u : Up Nul W W') : BB w0 W' F1 F2 p bm bs q n M := by
 obtain ⟨Q, hm⟩ := h.m
 exact ⟨⟨Q, hm.nxt u⟩, h.r.nxt u, h.i, fun k hk => ⟨(h.l1 k hk).1, Nat.lt_of_lt_of_le (h.l1 k hk).2 u.size⟩, fun k hk => ⟨(h.l2 k hk).1, Nat.lt_of_lt_of_le (h.l2 k hk).2 u.size⟩, h.d, h.up.trans u⟩
theorem BB.mono (h : BB w0 W F1 F2 p bm bs q n M) {m : Nat} (hm : n ≤ m) : BB w0 W F1 F2 p bm bs q m M := by
 obtain ⟨Q, hm'⟩ := h.m
 exact ⟨⟨Q, hm'.mono hm⟩, h.r.mono hm, h.i, h.l1, h.l2, h.d, h.up⟩
structure Rx (W W1 : World) (r : Rc) (sa : Option Addr) (sc : Nat) (la : Option Addr) (lc : Nat) : Prop where
 ro : RO W.heap.size W1 r sa la lc
 key : r.key.size ≤ 16
 cs : sc = r.sids.length ∧ r.sids.length ≤ 3
 ll : r.locs.length ≤ 100000
 up : Up Nul W W1
theorem Rx.nxt {W1 : World} (h : Rx W W1 r sa sc la lc) (u : Up Nul W1 W') : Rx W W' r sa sc la lc := ⟨h.ro.upS u fun _ _ => id, h.key, h.cs, h.ll, h.up.trans u⟩
theorem BB.mapply {W1 : World} (h : BB w0 W F1 F2 p bm bs q n M) (hS : Shp w0) (hx : Rx W W1 r sa sc la lc) (hn : n ≤ 50000) :
  Calls Tryz.prog 9 #[.pointer (some ⟨p, 0, none⟩), rv r (.slice sa r.sids.length sc) (.slice la r.locs.length lc)] W1 fun e w' => e = .returned (.int .i64 (M.step r).1) ∧ (∃ Q, MT (Gr F1 W1 w') w' p bm bs (n + 12) Q (M.step r).2) ∧ RMx F2 w' q n M ∧ Up F1 W1 w' ∧ RO W.heap.size w' r sa la lc := by
 have h1 := h.nxt hx.up
 obtain ⟨Q, hm⟩ := h1.m
 have hrh := hx.ro.rh (by have := hx.cs; omega) hx.ll
 refine (apply_any hm (fun k hk => (h1.l1 k hk).2) h.i (hS.nxt h1.up) r sa la sc lc hrh (by have := hx.key; omega) ⟨by have := hx.cs; omega, by have := hx.cs; omega⟩ hx.ro.lcap hn).mono ?_
 rintro e w' ⟨rfl, hm', u⟩
 exact ⟨rfl, hm', h1.r.up u fun k hk h1k => h.d k h1k hk, u, hx.ro.upS u fun k hk h1k => by have := (h.l1 k h1k).2; omega⟩
theorem BB.both {W1 W2 : World} (h : BB w0 W F1 F2 p bm bs q n M) (hx : Rx W W1 r sa sc la lc) (hm : ∃ Q, MT (Gr F1 W1 W2) W2 p bm bs (n + 12) Q (M.step r).2) (hr : RMx F2 W2 q n M) (u : Up F1 W1 W2) (ho : RO W.heap.size W2 r sa la lc) (hn : n ≤ 50000) :
  Calls Tryz.prog 10 #[.pointer (some ⟨q, 0, none⟩), rv r (.slice sa r.sids.length sc) (.slice la r.locs.length lc)] W2 fun e w' => ∃ x F1' F2', e = .returned (.int .i64 x) ∧ BB w0 w' F1' F2' p bm bs q (n + 12) (M.step r).2 ∧ ∀ k, k < W2.heap.size → w0.heap.size ≤ k → ¬ F2 k → (∀ g, (Value.slice la r.locs.length lc).ownBlock = some g → k ≠ g) → w'.heap[k]? = W2.heap[k]? := by
 have hsz : W.heap.size ≤ W1.heap.size := hx.up.size
 have hsz2 : W1.heap.size ≤ W2.heap.size := u.size
 have hlb : ∀ g, (Value.slice la r.locs.length lc).ownBlock = some g → W.heap.size ≤ g ∧ g < W1.heap.size := fun g e => ownsRow.lt hx.ro.l g e
 refine (rapply_any (F := fun k => F2 k ∨ (Value.slice la r.locs.length lc).ownBlock = some k) (hr.wide fun k hk => .inl hk) (fun k hk => ?_) (by omega) h.i r sa la sc lc (ho.rh (by have := hx.cs; omega) hx.ll) (by have := hx.key; omega) (ownsRow.lower ho.l (Nat.zero_le _)) (fun g e => .inr e) (fun h0 g o e hF => ?_) ⟨by have := hx.cs; omega, by have := hx.cs; omega⟩).mono ?_
 ·rcases hk with hk | hk
  ·have := (h.l2 k hk).2; omega
  ·have := (hlb k hk).2; omega
 ·obtain ⟨g', e', hb, hg⟩ := ho.s.resolve_left h0
  rw [e'] at e
  injection e with e
  injection e with e
  subst e
  rcases hF with hF | hF
  ·have := (h.l2 g' hF).2; omega
  ·exact row_ne ho.l hg (by decide) hF
 ·rintro e w' ⟨x, rfl, hr', u'⟩
  have hs' := u'.size
  obtain ⟨Q, hm⟩ := hm
  have hd : ∀ k, Gr F1 W1 W2 k → ¬ (F2 k ∨ (Value.slice la r.locs.length lc).ownBlock = some k) := fun k hk hF => by
   rcases hk with hk | hk
   ·have := h.l1 k hk
    rcases hF with hF | hF
    ·exact h.d k hk hF
    ·have := hlb k hF; omega
   ·rcases hF with hF | hF
    ·have := (h.l2 k hF).2; have := hk.1; omega
    ·have := hlb k hF; have := hk.1; omega
  have hB : w0.heap.size ≤ W.heap.size := h.up.size
  refine ⟨x, Gr F1 W1 W2, Gr (fun k => F2 k ∨ (Value.slice la r.locs.length lc).ownBlock = some k) W2 w', rfl, ⟨⟨Q, hm.up u' hd⟩, hr'.mono (by omega), inv_any h.i r, fun k hk => ?_, fun k hk => ?_, fun k hk hk' => ?_, ?_⟩, fun k hk hk0 hk2 hkl => u'.block k hk fun e => ?_⟩
  ·rcases hk with hk | hk
   ·have := h.l1 k hk; omega
   ·have := hk.1; have := hk.2; omega
  ·rcases hk with (hk | hk) | hk
   ·have := h.l2 k hk; omega
   ·have := hlb k hk; omega
   ·have := hk.1; have := hk.2; omega
  ·rcases hk' with hk' | hk'
   ·exact hd k hk hk'
   ·rcases hk with hk | hk
    ·have := h.l1 k hk; have := hk'.1; omega
    ·have := hk.2; have := hk'.1; omega
  ·refine ((h.up.trans hx.up).thn u fun j e => .inr (h.l1 j e).1).thn u' fun j e => .inr ?_
   rcases e with e | e
   ·exact (h.l2 j e).1
   ·have := hlb j e; omega
  ·rcases e with e | e
   ·exact hk2 e
   ·exact hkl k e rfl
end
theorem ownK {b : Nat} {w : World} {v : Value} {ks : List ByteArray} (h : OwnV 9 b w v (ks.map Value.string)) : w.ownsRow b 9 1 v ks.length (kcells ks) := by
 unfold OwnV at h
 rw [List.length_map] at h
 exact h
theorem ownIs {b : Nat} {w : World} {v : Value} {zs : List Int} (h : OwnI b w v zs) : w.ownsRow b 3 1 v zs.length (intV zs) := by
 have h : OwnV 3 b w v (intV zs) := h
 unfold OwnV at h
 have e : (intV zs).length = zs.length := by unfold intV; rw [List.length_map]
 rw [e] at h
 exact h
theorem bl_neq (W : World) (a b c : Int) : (binOp .neq 51 (.agg #[.int .i64 a, .int .i64 b, .int .i64 c]) (.agg #[.int .i64 a, .int .i64 b, .int .i64 c])).run Tryz.prog W = .ok (.bool false) W := by
 rw [run_neq_struct]
 go_simp
theorem str_geq (W : World) (a b : ByteArray) (h : Op.bytesLess a.toList b.toList = true) : (binOp .geq 9 (.string a) (.string b)).run Tryz.prog W = .ok (.bool false) W := by
 simp [binOp, Op.stringOp, h]
theorem blob_is {F : Nat → Prop} {w : World} {p bm bs n : Nat} {Q : Int → Value} {M : MM} (h : MT F w p bm bs n Q M) {k : ByteArray} {x y z : Int} (hb : M.b k = some ⟨x, y, z⟩) (hk : k.size ≤ maxLen) :
  Calls Tryz.prog 18 #[.pointer (some ⟨p, 0, none⟩), .string k] w fun e w' => e = .returned (.tuple #[.agg #[.int .i64 x, .int .i64 y, .int .i64 z], .bool true]) ∧ Up Nul w w' := by
 refine (blob_any h k hk).mono ?_
 rintro e w' ⟨rfl, u⟩
 rw [hb]
 exact ⟨rfl, u⟩
end Go.Proofs.YtepggchnhgpcnaaGreatDoor
namespace Go.Proofs.YtepggchnhgpcnaaGreatDoor
open Go.RowKit Go.Maps
set_option linter.unusedVariables false

theorem chg_same {M : MM} {r : Rc} (h : (M.chg r).1 ≠ 0) : (M.chg r).2 = M := by
 unfold MM.chg at h ⊢
 by_cases h1 : r.kind = 1
 ·rw [if_pos h1] at h; exact absurd rfl h
 rw [if_neg h1] at h ⊢
 by_cases h2 : r.kind = 2
 ·rw [if_pos h2] at h ⊢
  unfold MM.drop at h ⊢
  cases hb : M.b r.key with
  | none => rfl
  | some x =>
   rw [hb] at h
   dsimp only at h ⊢
   cases hs : M.s x.sid with
   | none => rw [hs] at h; exact absurd rfl h
   | some s => rw [hs] at h; exact absurd rfl h
 rw [if_neg h2] at h ⊢
 have sw : ∀ a b, (M.swap r a b).1 ≠ 0 → (M.swap r a b).2 = M := fun a b h => by
  unfold MM.swap at h ⊢
  cases hb : M.b r.key with
  | none => rfl
  | some x =>
   rw [hb] at h
   dsimp only at h ⊢
   cases hs : M.s x.sid with
   | none => first | rfl | (rw [hs] at h; exact absurd rfl h)
   | some s =>
    rw [hs] at h
    dsimp only at h ⊢
    split
    ·rfl
    ·rename_i hx; rw [if_neg hx] at h; exact absurd rfl h
 by_cases h3 : r.kind = 3
 ·rw [if_pos h3] at h ⊢; exact sw 1 2 h
 rw [if_neg h3] at h ⊢
 by_cases h4 : r.kind = 4
 ·rw [if_pos h4] at h ⊢; exact sw 2 1 h
 rw [if_neg h4] at h ⊢
 by_cases h5 : r.kind = 5
 ·rw [if_pos h5] at h ⊢; exact merge_same h
 rw [if_neg h5] at h ⊢
 by_cases h6 : r.kind = 6
 ·rw [if_pos h6] at h ⊢; exact split_same h
 rw [if_neg h6] at h ⊢
 by_cases h7 : r.kind = 7
 ·rw [if_pos h7] at h ⊢
  unfold MM.move at h ⊢
  cases hs : M.s r.sid with
  | none => rfl
  | some s =>
   rw [hs] at h
   dsimp only at h ⊢
   split
   ·rfl
   ·rename_i hx; rw [if_neg hx] at h; exact absurd rfl h
 rw [if_neg h7] at h
 exact absurd rfl h
theorem step_same {M : MM} {r : Rc} (h : (M.step r).1 ≠ 0) : (M.step r).2 = M := by
 unfold MM.step MM.app at h ⊢
 cases hok : okR r with
 | false => rfl
 | true =>
  rw [hok] at h
  rw [if_neg (by simp)] at h ⊢
  cases hr : rise M.last (newS r) with
  | none => rfl
  | some l =>
   rw [hr] at h
   dsimp only at h ⊢
   rw [if_neg h]
   exact chg_same h
theorem step_ok {M : MM} {r : Rc} (h : (M.step r).1 = 0) : okR r = true := by
 cases hok : okR r with
 | true => rfl
 | false =>
  unfold MM.step MM.app at h
  rw [hok] at h
  have h : (1 : Int) = 0 := h
  omega
end Go.Proofs.YtepggchnhgpcnaaGreatDoor
