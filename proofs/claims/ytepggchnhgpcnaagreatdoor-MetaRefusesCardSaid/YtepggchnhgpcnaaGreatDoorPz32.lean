/- What 'Apply' asks of records, beside the walks. -/
import Derived.Test.YtepggchnhgpcnaaGreatDoorPkTidy
import Derived.Test.YtepggchnhgpcnaaGreatDoorPz31
import Derived.Test.YtepggchnhgpcnaaGreatDoorPz12
import Derived.Test.YtepggchnhgpcnaaGreatDoorPz14
import Derived.Test.YtepggchnhgpcnaaGreatDoorPz11
namespace Go.Proofs.YtepggchnhgpcnaaGreatDoor
open Go.RowKit Go.Maps Go.Sort
set_option linter.unusedVariables false

theorem step_none {M : MM} {r : Rc} (hf : OkF r) (h : rise M.last (newS r) = none) : (M.step r).2 = M := by
 unfold MM.step MM.app
 rw [if_neg (by rw [okR_iff.2 hf]; simp), h]
theorem step_some {M : MM} {r : Rc} {l : Int} (hf : OkF r) (h : rise M.last (newS r) = some l) : (M.step r).2 = if (M.chg r).1 = 0 then { (M.chg r).2 with last := l } else (M.chg r).2 := by
 unfold MM.step MM.app
 rw [if_neg (by rw [okR_iff.2 hf]; simp), h]
theorem lay_one {M : MM} {sid : Int} {k : ByteArray} {x : Bl} (hk : k ≠ noK) (hb : M.b k = some x) (hn : M.b noK = none) (kd co : Int) (ls : List Lo) :
  M.lay sid ⟨kd, co, k, noK, noK, ls⟩ = { M with b := upd M.b k (some ⟨x.n, sid, 0⟩), s := upd M.s sid (some ⟨kd, co, k, noK, noK, ls⟩) } := by
 unfold MM.lay
 have hn2 : upd M.b k (some ⟨x.n, sid, 0⟩) noK = none := by rw [upd_ne _ _ fun e => hk e.symm]; exact hn
 have l0 : lay1 M.b k sid 0 = upd M.b k (some ⟨x.n, sid, 0⟩) := lay1_upd hb
 have l1 : ∀ p, lay1 (upd M.b k (some ⟨x.n, sid, 0⟩)) noK sid p = upd M.b k (some ⟨x.n, sid, 0⟩) := fun p => by unfold lay1; rw [hn2]
 dsimp only
 rw [l0, l1, l1]
theorem inv_nok {M : MM} (h : M.Inv3) : M.b noK = none := by
 cases hc : M.b noK with
 | none => rfl
 | some y => exact absurd rfl (h.b noK y hc).1.1
theorem swap_again {M : MM} (h : M.Inv3) (r : Rc) (fr tk : Int) (hk : r.key ≠ noK) : (if (M.swap r fr tk).1 = 0 then { (M.swap r fr tk).2 with last := r.sid } else (M.swap r fr tk).2) = (M.again r fr ⟨tk, r.colour, r.key, noK, noK, r.locs⟩).2 := by
 cases hb : M.b r.key with
 | none =>
  have e1 : M.swap r fr tk = (9, M) := by unfold MM.swap; rw [hb]
  have e2 : M.again r fr ⟨tk, r.colour, r.key, noK, noK, r.locs⟩ = (9, M) := by unfold MM.again; rw [hb]
  rw [e1, e2]; rfl
 | some b =>
  cases hs : M.s b.sid with
  | none =>
   have e1 : M.swap r fr tk = (12, M) := by unfold MM.swap; rw [hb]; dsimp only; rw [hs]
   have e2 : M.again r fr ⟨tk, r.colour, r.key, noK, noK, r.locs⟩ = (12, M) := by unfold MM.again; rw [hb]; dsimp only; rw [hs]
   rw [e1, e2]; rfl
  | some s =>
   by_cases hf : s.kind ≠ fr
   ·have e1 : M.swap r fr tk = (12, M) := by unfold MM.swap; rw [hb]; dsimp only; rw [hs]; dsimp only; rw [if_pos hf]
    have e2 : M.again r fr ⟨tk, r.colour, r.key, noK, noK, r.locs⟩ = (12, M) := by unfold MM.again; rw [hb]; dsimp only; rw [hs]; dsimp only; rw [if_pos hf]
    rw [e1, e2]; rfl
   ·have e1 : M.swap r fr tk = (0, ({ M with s := upd M.s b.sid none } : MM).lay r.sid ⟨tk, r.colour, r.key, noK, noK, r.locs⟩) := by unfold MM.swap; rw [hb]; dsimp only; rw [hs]; dsimp only; rw [if_neg hf]
    have e2 : M.again r fr ⟨tk, r.colour, r.key, noK, noK, r.locs⟩ = (0, { M with b := upd M.b r.key (some ⟨b.n, r.sid, 0⟩), s := upd (upd M.s b.sid none) r.sid (some ⟨tk, r.colour, r.key, noK, noK, r.locs⟩), last := r.sid }) := by unfold MM.again; rw [hb]; dsimp only; rw [hs]; dsimp only; rw [if_neg hf]
    rw [e1, e2, if_pos rfl, lay_one (M := { M with s := upd M.s b.sid none }) hk hb (show M.b noK = none from inv_nok h)]
theorem rdrop_b {M : MM} {k k' : ByteArray} : (M.drop k).2.b k' = if k' = k then none else M.b k' := by
 unfold MM.drop
 cases hb : M.b k with
 | none =>
  dsimp only
  split
  ·rename_i e; rw [e, hb]
  ·rfl
 | some x =>
  dsimp only
  cases hs : M.s x.sid with
  | none => rfl
  | some s => rfl
theorem drop_s {M : MM} {k : ByteArray} {i : Int} {y : St} (h : (M.drop k).2.s i = some y) : ∃ y', M.s i = some y' := by
 unfold MM.drop at h
 cases hb : M.b k with
 | none => rw [hb] at h; exact ⟨y, h⟩
 | some x =>
  rw [hb] at h
  dsimp only at h
  cases hs : M.s x.sid with
  | none => rw [hs] at h; exact ⟨y, h⟩
  | some s =>
   rw [hs] at h
   by_cases e : i = x.sid
   ·exact ⟨s, by rw [e]; exact hs⟩
   ·refine ⟨y, ?_⟩
    have h : upd M.s x.sid (if (s.off x.part).dead then none else some (s.off x.part)) i = some y := h
    rw [upd_ne _ _ e] at h; exact h
def putM (M : MM) (r : Rc) : MM := { (M.drop r.key).2 with b := upd (M.drop r.key).2.b r.key (some ⟨r.n, r.sid, 0⟩), s := upd (M.drop r.key).2.s r.sid (some ⟨1, 0, r.key, noK, noK, r.locs⟩), last := r.sid }
theorem upd_twice {α β : Type} [DecidableEq α] (f : α → β) (k : α) (a b : β) : upd (upd f k a) k b = upd f k b := by
 funext x
 unfold upd
 split <;> rfl
theorem put_eq {M : MM} (h : M.Inv3) (r : Rc) (hk : r.key ≠ noK) : (if (M.put r).1 = 0 then { (M.put r).2 with last := r.sid } else (M.put r).2) = putM M r := by
 have hn : (upd (M.drop r.key).2.b r.key (some ⟨r.n, 0, 0⟩)) noK = none := by
  rw [upd_ne _ _ fun e => hk e.symm, rdrop_b, if_neg fun e => hk e.symm]; exact inv_nok h
 unfold MM.put putM
 rw [if_pos rfl, lay_one (M := { (M.drop r.key).2 with b := upd (M.drop r.key).2.b r.key (some ⟨r.n, 0, 0⟩) }) hk (upd_same _ _ _) hn]
 dsimp only
 rw [upd_twice]
theorem okf_nil {r : Rc} (h : OkF r) {k : Nat} (hk : r.kind = (k : Int)) (h0 : sh k 8 = 0) : r.sids = [] := by
 have e := sh_k h hk
 have h1 := h.ns
 rw [e, h0] at h1
 exact List.length_eq_zero_iff.1 (by omega)
theorem okf_move {r : Rc} (h : OkF r) (hk : r.kind = 7) : (1 ≤ r.sid ∧ r.sid ≤ 2147483647) ∧ r.locs.length = 1 ∧ (0 ≤ r.n ∧ r.n ≤ 15) := by
 have e := sh_k h (k := 7) hk
 have h1 := h.n
 have h2 := h.nl
 have h3 := h.sid
 rw [e] at h1 h2 h3
 have : sh 7 2 = 0 ∧ sh 7 3 = 15 ∧ sh 7 11 = 1 ∧ sh 7 12 = 0 ∧ sh 7 4 = 1 ∧ sh 7 5 = 2147483647 := by decide
 obtain ⟨a0, a1, a2, a3, a4, a5⟩ := this
 rw [a0, a1] at h1
 rw [a2, a3] at h2
 rw [a4, a5] at h3
 exact ⟨h3, by omega, h1⟩
theorem okf_col {r : Rc} (h : OkF r) (hk : r.kind = 4) : r.colour = 0 := by
 have e := sh_k h (k := 4) hk
 have h1 := h.co
 rw [e] at h1
 have : sh 4 6 = 0 ∧ sh 4 7 = 0 := by decide
 rw [this.1, this.2] at h1
 omega
theorem drop_last (M : MM) (k : ByteArray) : ({ (M.drop k).2 with last := M.last } : MM) = (M.drop k).2 := by
 unfold MM.drop
 cases hb : M.b k with
 | none => rfl
 | some x =>
  dsimp only
  cases hs : M.s x.sid with
  | none => rfl
  | some s => rfl
theorem merge_same {M : MM} {r : Rc} (h : (M.merge r).1 ≠ 0) : (M.merge r).2 = M := by
 unfold MM.merge at h ⊢
 cases hm : M.mchk r.sids 0 r.sids with
 | some e => rfl
 | none => rw [hm] at h; exact absurd rfl h
theorem split_same {M : MM} {r : Rc} (h : (M.split r).1 ≠ 0) : (M.split r).2 = M := by
 unfold MM.split at h ⊢
 cases hs : M.s r.sid with
 | none => rfl
 | some s =>
  rw [hs] at h
  dsimp only at h ⊢
  split
  ·rfl
  ·rename_i h1
   rw [if_neg h1] at h
   split
   ·rfl
   ·rename_i h2
    rw [if_neg h2] at h
    exact absurd rfl h
theorem loV_set (ls : List Lo) : ∀ (i : Nat), i < ls.length → ∀ x : Lo, loV (ls.set i x) = (((loV ls).set (i * 3) (.int .i64 x.d)).set (i * 3 + 1) (.int .i64 x.s)).set (i * 3 + 2) (.int .i64 x.i) := by
 induction ls with
 | nil => intro i hi; cases hi
 | cons l ls ih =>
  intro i hi x
  have e0 : ∀ (y : Lo) (t : List Lo), loV (y :: t) = .int .i64 y.d :: .int .i64 y.s :: .int .i64 y.i :: loV t := fun y t => rfl
  cases i with
  | zero => rw [List.set_cons_zero, e0, e0]; rfl
  | succ i =>
   rw [List.set_cons_succ, e0, e0, ih i (by simpa using hi) x]
   have e3 : (i + 1) * 3 = i * 3 + 3 := by omega
   rw [e3]
   simp only [List.set_cons_succ, show i * 3 + 3 + 1 = (i * 3 + 1) + 3 from by omega, show i * 3 + 3 + 2 = (i * 3 + 2) + 3 from by omega]
theorem row_set3 {T : TypeId} {base g n c i : Nat} {W : World} {xs : List Value} (h : W.ownsRow base T 3 (.slice (some ⟨g, 0, none⟩) n c) n xs) (x0 x1 x2 : Value) :
  ((((W.setCell ⟨g, i, none⟩ x0).setCell ⟨g, i + 1, none⟩ x1).setCell ⟨g, i + 2, none⟩ x2)).ownsRow base T 3 (.slice (some ⟨g, 0, none⟩) n c) n (((xs.set i x0).set (i + 1) x1).set (i + 2) x2) := by
 rcases h.2 with ⟨e, _⟩ | ⟨g', cap, cur, e, h2, h3, h4, h5, h6, h7⟩
 ·exact absurd e (by intro e; injection e with e1; cases e1)
 ·have e1 : g = g' := by injection e with e1; injection e1 with e1; injection e1
  have e3 : c = cap := by injection e
  clear e
  subst e1 e3
  refine ⟨by simp only [List.length_set]; exact h.1, .inr ⟨g, c, _, rfl, h2, heap_set_same (heap_set_same (heap_set_same h3 i x0) (i + 1) x1) (i + 2) x2, h4, h5, by simp only [Array.size_setIfInBounds]; exact h6, ?_⟩⟩
  simp only [Array.toList_setIfInBounds]
  rw [List.take_set, List.take_set, List.take_set, h7]
end Go.Proofs.YtepggchnhgpcnaaGreatDoor
namespace Go.Proofs.YtepggchnhgpcnaaGreatDoor
open Go.RowKit Go.Maps
set_option linter.unusedVariables false

theorem mono_lt {F : Nat → Prop} {w w' : World} (h : ∀ k, F k → k < w.heap.size) (u : w.heap.size ≤ w'.heap.size) : ∀ k, Gr F w w' k → k < w'.heap.size := fun k hk => by
 rcases hk with hk | ⟨_, hk⟩
 ·exact Nat.lt_of_lt_of_le (h k hk) u
 ·exact hk
theorem Shp.up {F : Nat → Prop} {w w' : World} (h : Shp w) (u : Up F w w') (h0 : ¬ F 0) : Shp w' := ⟨fun k j hk hj => (u.cell (p := ⟨0, k * 15 + j, none⟩) h.lt h0).trans (h.c k j hk hj)⟩
structure MtL (w0 w : World) (p n : Nat) (M : MM) (bm bs : Nat) (Q : Int → Value) (F : Nat → Prop) : Prop where
 m : MT F w p bm bs n Q M
 lt : ∀ k, F k → k < w.heap.size
 ge : ∀ k, F k → w0.heap.size ≤ k
 up : Up Nul w0 w
theorem MtL.nxt {w0 w w' : World} {p n : Nat} {M : MM} {bm bs : Nat} {Q : Int → Value} {F : Nat → Prop} (h : MtL w0 w p n M bm bs Q F) (u : Up Nul w w') : MtL w0 w' p n M bm bs Q F :=
 ⟨h.m.nxt u, fun k hk => Nat.lt_of_lt_of_le (h.lt k hk) u.size, h.ge, h.up.trans u⟩
theorem MtL.go {w0 w w' : World} {p n m : Nat} {M M' : MM} {bm bs : Nat} {Q Q' : Int → Value} {F : Nat → Prop} (h : MtL w0 w p n M bm bs Q F) (h' : MT (Gr F w w') w' p bm bs m Q' M') (u : Up F w w') : MtL w0 w' p m M' bm bs Q' (Gr F w w') :=
 ⟨h', mono_lt h.lt u.size, fun k hk => by
  rcases hk with hk | ⟨hk, _⟩
  ·exact h.ge k hk
  ·exact Nat.le_trans h.up.size hk, h.up.thn u fun j hj => .inr (h.ge j hj)⟩
theorem Shp.l {w0 w : World} {p n : Nat} {M : MM} {bm bs : Nat} {Q : Int → Value} {F : Nat → Prop} (hS : Shp w0) (h : MtL w0 w p n M bm bs Q F) : Shp w := hS.nxt h.up
theorem step12_any {w0 w : World} {p n : Nat} {M : MM} {bm bs : Nat} {Q : Int → Value} {F : Nat → Prop} (hS : Shp w0) (h : MtL w0 w p n M bm bs Q F) (hI : M.Inv3) (r : Rc) (h12 : r.kind = 1 ∨ r.kind = 2) (sa la : Option Addr) (sc lc : Nat) (hr : RH w r sa la) (hk : r.key.size ≤ 100000) (hn : n ≤ 50000) :
  Calls Tryz.prog 9 #[.pointer (some ⟨p, 0, none⟩), rv r (.slice sa r.sids.length sc) (.slice la r.locs.length lc)] w fun e w' => e = .returned (.int .i64 (M.step r).1) ∧ (∃ Q' F', MtL w0 w' p (n + 6) (M.step r).2 bm bs Q' F' ∧ (∀ k, F' k → F k ∨ w.heap.size ≤ k)) ∧ Up F w w' := by
 refine (apply_12 h.m h.lt hI (hS.l h) r h12 sa la sc lc hr hk hn).mono ?_
 rintro e w' ⟨rfl, ⟨Q', h'⟩, u⟩
 exact ⟨rfl, ⟨Q', _, h.go h' u, fun k hk => by rcases hk with hk | ⟨hk, _⟩; exact .inl hk; exact .inr hk⟩, u⟩
theorem rowL3 {W : World} {g : Nat} (h : W.heap[g]? = some (.cells #[.int .i64 0, .int .i64 0, .int .i64 1, .int .i64 0, .int .i64 0, .int .i64 2, .int .i64 0, .int .i64 0, .int .i64 3] 64 (0, 0))) : RowL W (some ⟨g, 0, none⟩) locs3 :=
 .inr ⟨g, 0, rfl, (Array.getElem?_eq_some_iff.1 h).1, fun i l hi j v hj => by
  have c : ∀ j, W.cell? ⟨g, j, none⟩ = #[Value.int .i64 0, .int .i64 0, .int .i64 1, .int .i64 0, .int .i64 0, .int .i64 2, .int .i64 0, .int .i64 0, .int .i64 3][j]? := fun j => by simp [World.cell?, h]
  have hi3 : i < 3 := by
   rcases Nat.lt_or_ge i 3 with h | h
   ·exact h
   ·rw [List.getElem?_eq_none (by exact h)] at hi; cases hi
  have hj3 : j < 3 := by
   rcases Nat.lt_or_ge j 3 with h | h
   ·exact h
   ·rw [List.getElem?_eq_none (by exact h)] at hj; cases hj
  rw [c]
  have e1 : i = 0 ∨ i = 1 ∨ i = 2 := by omega
  have e2 : j = 0 ∨ j = 1 ∨ j = 2 := by omega
  rcases e1 with rfl | rfl | rfl <;> cases hi <;> rcases e2 with rfl | rfl | rfl <;> cases hj <;> rfl⟩
set_option maxRecDepth 10000 in
set_option maxHeartbeats 4000000 in
theorem awake_any (w : World) (hS : Shp w) : Calls Tryz.prog 7 #[] w fun e w' => e = .returned (.bool true) ∧ Up Nul w w' := by
 have HS := hid hS
 clear hS
 go_enter Tryz.func7, Tryz.ntmps7
 go_wp2_with fail
 refine (new_any w).mono ?_
 rintro e w1 ⟨p, bm, bs, rfl, h1, u1⟩
 have H1 : Hid (MtL w w1 p 0 MM.new bm bs (fun _ => undef) (Fresh w w1)) := ⟨h1, fun k hk => hk.2, fun k hk => hk.1, u1⟩
 clear h1 u1
 go_wp2_with fail
 obtain ⟨w2, hw2⟩ : ∃ W, W = w1.alloc (.cells #[.int .i64 0, .int .i64 0, .int .i64 1, .int .i64 0, .int .i64 0, .int .i64 2, .int .i64 0, .int .i64 0, .int .i64 3] 64) := ⟨_, rfl⟩
 have u2 : Up Nul w1 w2 := by rw [hw2]; exact (Up.refl _ _).alloc _
 have b2 : w2.heap[w1.heap.size]? = some (.cells #[.int .i64 0, .int .i64 0, .int .i64 1, .int .i64 0, .int .i64 0, .int .i64 2, .int .i64 0, .int .i64 0, .int .i64 3] 64 (0, 0)) := by rw [hw2]; exact heap_alloc_new _ _
 have H2 := hid (H1.out.nxt u2)
 rw [← hw2]
 clear hw2
 have HGF : Hid (¬ Fresh w w1 w1.heap.size) := fun e => Nat.lt_irrefl _ e.2
 generalize w1.heap.size = g at b2 HGF ⊢
 have HG2 := hid b2
 have HGL : Hid (g < w2.heap.size) := (Array.getElem?_eq_some_iff.1 b2).1
 clear b2 u2
 refine (step12_any HS.out H2.out inv_new ra1 (.inl rfl) none (some ⟨g, 0, none⟩) 0 3 ⟨.inl rfl, rowL3 HG2.out, by decide, by decide⟩ (by decide) (by omega)).mono ?_
 rintro e w3 ⟨rfl, ⟨Q3, F3, h3, hF3⟩, u3⟩
 have HG3 : Hid (w3.heap[g]? = some (.cells #[.int .i64 0, .int .i64 0, .int .i64 1, .int .i64 0, .int .i64 0, .int .i64 2, .int .i64 0, .int .i64 0, .int .i64 3] 64 (0, 0))) := (u3.block g HGL.out HGF.out).trans HG2.out
 have HNF3 : Hid (¬ F3 g) := fun e => by
  rcases hF3 g e with e | e
  ·exact HGF.out e
  ·have := HGL.out; omega
 have HG3L : Hid (g < w3.heap.size) := Nat.lt_of_lt_of_le HGL.out u3.size
 have H3 : Hid (MtL w w3 p 6 ma1 bm bs Q3 F3) := h3
 have HI3 : Hid ma1.Inv3 := inv_12 inv_new ra1 (.inl rfl)
 rw [ma1_is.1]
 clear h3 hF3 u3
 go_wp2_with fail
 refine (step12_any HS.out H3.out HI3.out ra2 (.inl rfl) none (some ⟨g, 0, none⟩) 0 3 ⟨.inl rfl, rowL3 HG3.out, by decide, by decide⟩ (by decide) (by omega)).mono ?_
 rintro e w4 ⟨rfl, ⟨Q4, F4, h4, hF4⟩, u4⟩
 rw [ma1_two] at h4 ⊢
 have H4 := hid h4
 clear h4 hF4 u4
 go_wp2_with fail
 refine (step12_any HS.out H4.out HI3.out ra3 (.inr rfl) none none 0 0 ⟨.inl rfl, .inl rfl, by decide, by decide⟩ (by decide) (by omega)).mono ?_
 rintro e w5 ⟨rfl, ⟨Q5, F5, h5, hF5⟩, u5⟩
 rw [ma1_three] at h5 ⊢
 have H5 := hid h5
 clear h5 hF5 u5
 go_wp2_with fail
 have HB := hid (blob_any H5.out.m ⟨#[98]⟩ (by unfold maxLen; decide))
 rw [ma1_is.2.2, upd_same] at HB
 refine HB.out.mono ?_
 rintro e w6 ⟨rfl, u6⟩
 have H6 := hid (H5.out.nxt (u6.trans ((Up.refl _ _).alloc (.cells #[.int .i64 5, .int .i64 1, .int .i64 0] 51))))
 have b6 := heap_alloc_new w6 (.cells #[.int .i64 5, .int .i64 1, .int .i64 0] 51)
 clear HB u6
 go_wp2_with fail
 have HNX := hid (next_any H6.out.m (by rw [ma1_is.2.1]; omega))
 rw [ma1_is.2.1] at HNX
 clear b6
 refine HNX.out.mono ?_
 rintro e w7 ⟨rfl, rfl⟩
 have HKY := hid (keys_any H6.out.m (by omega))
 clear HNX
 go_wp2_with fail
 refine HKY.out.mono ?_
 rintro e w8 ⟨v, l, rfl, ho, hk, _, u8⟩
 have hl := ma1_keys hk
 obtain ⟨a, c, hv⟩ := OwnV.shape ho
 rw [List.length_map, hl] at hv
 subst hv
 have HU8 := hid (H6.out.up.trans u8)
 clear ho hk hl u8 HKY
 go_wp2
 go_ret
 exact ⟨rfl, HU8.out⟩
theorem StOk.few {s : St} (h : StOk s) : 1 ≤ s.locs.length ∧ s.locs.length ≤ 16 := by
 rcases h.kind with e | e | e <;> (rw [h.locs, e]; decide)
def St.live (s : St) : List ByteArray := [s.key 0, s.key 1, s.key 2].filter fun k => decide (k ≠ noK)
def St.cnt (s : St) : Nat → Nat
 | 0 => 0
 | t + 1 => s.cnt t + if s.key t = noK then 0 else 1
theorem St.cnt_le (s : St) : ∀ t, s.cnt t ≤ t
 | 0 => Nat.le_refl _
 | t + 1 => by
  have := St.cnt_le s t
  show s.cnt t + (if s.key t = noK then 0 else 1) ≤ t + 1
  split <;> omega
theorem St.cnt_live (s : St) : s.cnt 3 = s.live.length := by
 unfold St.live
 show ((0 + (if s.key 0 = noK then 0 else 1)) + (if s.key 1 = noK then 0 else 1)) + (if s.key 2 = noK then 0 else 1) = _
 by_cases h0 : s.key 0 = noK <;> by_cases h1 : s.key 1 = noK <;> by_cases h2 : s.key 2 = noK <;> simp [h0, h1, h2]
theorem St.mem_live {s : St} {k : ByteArray} : k ∈ s.live ↔ ∃ t, t < 3 ∧ s.key t = k ∧ k ≠ noK := by
 unfold St.live
 rw [List.mem_filter]
 constructor
 ·rintro ⟨h, hk⟩
  have hk : k ≠ noK := by simpa using hk
  simp only [List.mem_cons, List.not_mem_nil, or_false] at h
  rcases h with h | h | h
  ·exact ⟨0, by omega, h.symm, hk⟩
  ·exact ⟨1, by omega, h.symm, hk⟩
  ·exact ⟨2, by omega, h.symm, hk⟩
 ·rintro ⟨t, ht, h, hk⟩
  refine ⟨?_, by simpa using hk⟩
  have : t = 0 ∨ t = 1 ∨ t = 2 := by omega
  rcases this with rfl | rfl | rfl <;> simp [h]
def MM.cntAll (M : MM) : List Int → Nat
 | [] => 0
 | i :: l => ((M.s i).map St.live).getD [] |>.length |> (· + MM.cntAll M l)
def MM.lives (M : MM) (l : List Int) : List ByteArray := l.flatMap fun i => ((M.s i).map St.live).getD []
theorem MM.cntAll_len (M : MM) (l : List Int) : M.cntAll l = (M.lives l).length := by
 induction l with
 | nil => rfl
 | cons i l ih =>
  show (((M.s i).map St.live).getD []).length + M.cntAll l = _
  unfold MM.lives at ih ⊢
  rw [List.flatMap_cons, List.length_append, ih]
theorem MM.cntAll_next (M : MM) {l : List Int} {t : Nat} (h : t < l.length) {s : St} (hs : M.s l[t] = some s) : M.cntAll (l.take (t + 1)) = M.cntAll (l.take t) + s.cnt 3 := by
 rw [MM.cntAll_len, MM.cntAll_len, List.take_succ_eq_append_getElem h]
 unfold MM.lives
 rw [List.flatMap_append, List.length_append, St.cnt_live]
 simp [hs]
theorem nodup_le {α : Type} [DecidableEq α] : ∀ (a b : List α), a.Nodup → (∀ x ∈ a, x ∈ b) → a.length ≤ b.length
 | [], b, _, _ => Nat.zero_le _
 | x :: a, b, hn, hs => by
  have hx : x ∈ b := hs x (by simp)
  have hn := List.nodup_cons.1 hn
  have := nodup_le a (b.erase x) hn.2 fun y hy => by
   have hne : y ≠ x := fun e => hn.1 (by rw [← e]; exact hy)
   exact (List.mem_erase_of_ne hne).2 (hs y (by simp [hy]))
  rw [List.length_erase_of_mem hx] at this
  have hp := List.length_pos_of_mem hx
  simp only [List.length_cons]
  omega
section
variable {M : MM} {is : List Int} {ks : List ByteArray}
theorem IS.st (hI : M.Inv3) (h : IS M is) {i : Int} (hi : i ∈ is) : ∃ s, M.s i = some s := by
 have := (h.mem i (h.wf i hi)).1 hi
 exact Option.isSome_iff_exists.1 this
theorem wf_small {i : Int} (h : 0 ≤ i) (h2 : i ≤ 2147483647) : (Lit.int .i64 i).wf = true := WalkArith.wf_i64 (by omega)
theorem key_once (hI : M.Inv3) {i j : Int} {s s' : St} (hs : M.s i = some s) (hs' : M.s j = some s') {t u : Nat} (ht : t < 3) (hu : u < 3) (hk : s.key t ≠ noK) (he : s.key t = s'.key u) : i = j ∧ t = u := by
 obtain ⟨_, x, x1, x2, x3⟩ := (hI.s i s hs).2.2 t ht hk
 obtain ⟨_, y, y1, y2, y3⟩ := (hI.s j s' hs').2.2 u hu (by rw [← he]; exact hk)
 rw [he, y1] at x1
 cases x1
 exact ⟨by rw [← x2, y2], by omega⟩
theorem live_nodup (hI : M.Inv3) {i : Int} {s : St} (hs : M.s i = some s) : s.live.Nodup := by
 unfold St.live List.Nodup
 rw [List.pairwise_filter]
 have key : ∀ t u, t < 3 → u < 3 → t ≠ u → decide (s.key t ≠ noK) = true → decide (s.key u ≠ noK) = true → s.key t ≠ s.key u := fun t u ht hu hne h1 _ e => hne (key_once hI hs hs ht hu (by simpa using h1) e).2
 refine List.Pairwise.cons (fun a ha => ?_) (List.Pairwise.cons (fun a ha => ?_) (List.pairwise_singleton _ _))
 ·simp only [List.mem_cons, List.not_mem_nil, or_false] at ha
  rcases ha with rfl | rfl
  ·exact key 0 1 (by omega) (by omega) (by omega)
  ·exact key 0 2 (by omega) (by omega) (by omega)
 ·simp only [List.mem_cons, List.not_mem_nil, or_false] at ha
  subst ha
  exact key 1 2 (by omega) (by omega) (by omega)
theorem lives_nodup (hI : M.Inv3) (h : IS M is) : (M.lives is).Nodup := by
 unfold MM.lives List.Nodup
 rw [List.pairwise_flatMap]
 refine ⟨fun i hi => ?_, ?_⟩
 ·obtain ⟨s, hs⟩ := h.st hI hi
  rw [hs]
  exact live_nodup hI hs
 ·refine h.nd.imp_of_mem fun {i j} hi hj hne x hx y hy e => ?_
  obtain ⟨s, hs⟩ := h.st hI hi
  obtain ⟨s', hs'⟩ := h.st hI hj
  rw [hs] at hx
  rw [hs'] at hy
  have hx : x ∈ s.live := hx
  have hy : y ∈ s'.live := hy
  obtain ⟨t, ht, h1, h2⟩ := St.mem_live.1 hx
  obtain ⟨u, hu, h3, h4⟩ := St.mem_live.1 hy
  exact hne (key_once hI hs hs' ht hu (by rw [h1]; exact h2) (by rw [h1, h3, e])).1
theorem lives_mem (hI : M.Inv3) (h : IS M is) {k : ByteArray} : k ∈ M.lives is ↔ (M.b k).isSome = true := by
 unfold MM.lives
 rw [List.mem_flatMap]
 constructor
 ·rintro ⟨i, hi, hk⟩
  obtain ⟨s, hs⟩ := h.st hI hi
  rw [hs] at hk
  have hk : k ∈ s.live := hk
  obtain ⟨t, ht, h1, h2⟩ := St.mem_live.1 hk
  obtain ⟨_, x, x1, _⟩ := (hI.s i s hs).2.2 t ht (by rw [h1]; exact h2)
  rw [← h1, x1]; rfl
 ·intro hk
  obtain ⟨x, hx⟩ := Option.isSome_iff_exists.1 hk
  obtain ⟨⟨h1, _⟩, h2⟩ := hI.b k x hx
  obtain ⟨t, ht, _, s, hs, hkt⟩ := h2 id
  have hl := (hI.s _ _ hs).1
  have hL := hI.l
  refine ⟨x.sid, (h.mem _ (wf_small (by omega) (by omega))).2 (by rw [hs]; rfl), ?_⟩
  rw [hs]
  exact St.mem_live.2 ⟨t, ht, hkt, h1⟩
theorem cnt_keys (hI : M.Inv3) (h : IS M is) (hk : KS M ks) : M.cntAll is = ks.length := by
 rw [MM.cntAll_len]
 have hb : ∀ k, (M.b k).isSome = true → k.size ≤ maxLen := fun k hk => by
  obtain ⟨x, hx⟩ := Option.isSome_iff_exists.1 hk
  have := (hI.b k x hx).1.2
  unfold maxLen
  omega
 have h1 := nodup_le (M.lives is) ks (lives_nodup hI h) fun x hx => by
  have := (lives_mem hI h).1 hx
  exact (hk.mem x (hb x this)).2 this
 have h2 := nodup_le ks (M.lives is) hk.nd fun x hx => (lives_mem hI h).2 ((hk.mem x (hk.sz x hx)).1 hx)
 omega
theorem IS.lt (h : IS M is) {i : Nat} (hi : i + 1 < is.length) : is[i] < is[i + 1] := by
 have h1 := List.pairwise_iff_getElem.1 h.up i (i + 1) (by omega) hi (by omega)
 have h2 := List.pairwise_iff_getElem.1 h.nd i (i + 1) (by omega) hi (by omega)
 omega
theorem KS.lt (h : KS M ks) {i : Nat} (hi : i + 1 < ks.length) : ks[i].data.toList < ks[i + 1].data.toList := by
 have h1 := List.pairwise_iff_getElem.1 h.up i (i + 1) (by omega) hi (by omega)
 have h2 := List.pairwise_iff_getElem.1 h.nd i (i + 1) (by omega) hi (by omega)
 refine Std.lt_of_le_of_ne h1 fun e => h2 ?_
 exact ByteArray.ext (Array.toList_inj.1 e)
end
theorem info_st : (Tryz.prog.info? 46).map (·.size) = some 6 := by kernel_rfl
section
variable {F : Nat → Prop} {w : World} {p bm bs n : Nat} {Q : Int → Value} {M : MM}
set_option maxRecDepth 10000 in
set_option maxHeartbeats 4000000 in
theorem stripe_some (h : MT F w p bm bs n Q M) (sid : Int) (hx : (Lit.int .i64 sid).wf = true) (s : St) (hs : M.s sid = some s) (hl : 1 ≤ s.locs.length ∧ s.locs.length ≤ 1000) :
  Calls Tryz.prog 16 #[.pointer (some ⟨p, 0, none⟩), .int .i64 sid] w fun e w' => ∃ g c, e = .returned (.tuple #[stv s (.slice (some ⟨g, 0, none⟩) s.locs.length c), .bool true]) ∧ w.heap.size ≤ g ∧ g < w'.heap.size ∧ OwnLo 0 w' (.slice (some ⟨g, 0, none⟩) s.locs.length c) s.locs ∧ Up Nul w w' := by
 obtain ⟨g, c, hq, hF, ho⟩ := h.row sid s hs
 have hlk : ∀ W, Up Nul w W → (Instr.lookup 56 (.map (some bs)) (.int .i64 sid) true).run Tryz.prog W = .ok (.tuple #[.agg #[.int .i64 s.kind, .int .i64 s.colour, .string s.k0, .string s.k1, .string s.k2, .slice (some ⟨g, 0, none⟩) s.locs.length c], .bool true]) W := fun W u => by
  have := (h.nxt u).ms.look2 Tryz.underlying56 (zero_st _) hx
  rw [hs] at this
  simp only [Option.map_some, Option.getD_some, Option.isSome_some, hq, stv] at this
  exact this
 have HR : Hid (RowL w (some ⟨g, 0, none⟩) s.locs) := by
  rw [hq] at ho
  obtain ⟨a, c', e, h⟩ := ho.row
  injection e with e
  rw [e]; exact h
 have HH := hid h
 have HLK := hid hlk
 have HL := hid hl
 obtain ⟨sl, SL⟩ : ∃ x, Hid (s.locs.length = x) := ⟨_, rfl⟩
 rw [SL.out] at HLK HL ⊢
 have uA : Up Nul w (w.alloc (.cells #[.int .i64 0, .int .i64 0, .string ⟨#[]⟩, .string ⟨#[]⟩, .string ⟨#[]⟩, .slice none 0 0] 46)) := (Up.refl _ _).alloc _
 obtain ⟨c0, c1, _⟩ := h.cells
 obtain ⟨e0, e1, _⟩ := (h.nxt uA).cells
 have lA := HLK.out _ uA
 have lB := HLK.out _ (Up.refl _ _)
 clear h hlk hs hq hF ho hl
 go_enter Tryz.func16, Tryz.ntmps16
 go_wp2_with fail
 obtain ⟨wa, hwa⟩ : ∃ W, W = w.alloc (.cells #[.int .i64 0, .int .i64 0, .string ⟨#[]⟩, .string ⟨#[]⟩, .string ⟨#[]⟩, .slice none 0 0] 46) := ⟨_, rfl⟩
 obtain ⟨wb, hwb⟩ : ∃ W, W = wa.alloc (.cells #[.int .i64 s.kind, .int .i64 s.colour, .string s.k0, .string s.k1, .string s.k2, .slice (some ⟨g, 0, none⟩) sl c] 46) := ⟨_, rfl⟩
 rw [← hwa, ← hwb]
 have za : wa.heap.size = w.heap.size + 1 := by rw [hwa]; exact World.size_alloc _ _
 have ua : Up Nul w wa := by rw [hwa]; exact uA
 have ub : Up Nul wa wb := by rw [hwb]; exact (Up.refl _ _).alloc _
 have ba : wb.heap[w.heap.size]? = some (.cells #[.int .i64 0, .int .i64 0, .string ⟨#[]⟩, .string ⟨#[]⟩, .string ⟨#[]⟩, .slice none 0 0] 46 (0, 0)) := (ub.block w.heap.size (by omega) id).trans (by rw [hwa]; exact heap_alloc_new _ _)
 have bb : wb.heap[w.heap.size + 1]? = some (.cells #[.int .i64 s.kind, .int .i64 s.colour, .string s.k0, .string s.k1, .string s.k2, .slice (some ⟨g, 0, none⟩) sl c] 46 (0, 0)) := by rw [← za, hwb]; exact heap_alloc_new _ _
 have HCL := hid (clone_sh wb (some ⟨g, 0, none⟩) c s.locs (HR.out.nxt (ua.trans ub)) (fun e => by have := HL.out; have := SL.out; rw [e] at this; simp at this; omega) (by rw [SL.out]; exact HL.out.2))
 rw [SL.out] at HCL
 have HU : Hid (Up Nul w wb) := ua.trans ub
 obtain ⟨pr, PR⟩ : ∃ x, Hid (w.heap.size = x) := ⟨_, rfl⟩
 obtain ⟨pb, PB⟩ : ∃ x, Hid (w.heap.size + 1 = x) := ⟨_, rfl⟩
 rw [PB.out] at bb
 rw [PB.out, PR.out]
 rw [PR.out] at ba
 have hpr : pr ≠ pb := by have := PB.out; have := PR.out; omega
 have HBA := hid ba
 have HBB := hid bb
 clear ba bb ua ub hwa hwb za c0 c1 e0 e1 lA lB uA
 refine HCL.out.mono ?_
 rintro e wc ⟨g2, c2, rfl, hg2, hgl2, ho2, u2⟩
 have b1 := (u2.block pr (Array.getElem?_eq_some_iff.1 HBA.out).1 id).trans HBA.out
 have b2 := (u2.block pb (Array.getElem?_eq_some_iff.1 HBB.out).1 id).trans HBB.out
 obtain ⟨wd, hwd⟩ : ∃ W, W = wc.setCell ⟨pb, 5, none⟩ (.slice (some ⟨g2, 0, none⟩) sl c2) := ⟨_, rfl⟩
 have hg2b : pb < wb.heap.size := (Array.getElem?_eq_some_iff.1 HBB.out).1
 have hg2a : pr < wb.heap.size := (Array.getElem?_eq_some_iff.1 HBA.out).1
 have ud : Up (One pb) wc wd := by rw [hwd]; exact (Up.refl (One pb) wc).put rfl 5 _
 have d2 : wd.heap[pb]? = some (.cells #[.int .i64 s.kind, .int .i64 s.colour, .string s.k0, .string s.k1, .string s.k2, .slice (some ⟨g2, 0, none⟩) sl c2] 46 (0, 0)) := by rw [hwd]; exact heap_set_same b2 5 _
 have d1 := (ud.block pr (Array.getElem?_eq_some_iff.1 b1).1 (fun e => hpr e)).trans b1
 have hod : OwnLo 0 wd (.slice (some ⟨g2, 0, none⟩) sl c2) s.locs := lo_up ho2 ud (fun k hk e => by
  have e1 : g2 = k := by injection hk
  have e2 : k = pb := e
  omega)
 have HOD := hid hod
 have HU2 : Hid (Up Nul w wd) := (HU.out.trans u2).thn ud (fun j e => .inr (by have e : j = pb := e; have := PB.out; omega))
 have HG2 : Hid (w.heap.size ≤ g2 ∧ pr < g2 ∧ pb < g2 ∧ g2 < wd.heap.size) := ⟨by have := HU.out.size; omega, by omega, by omega, Nat.lt_of_lt_of_le hgl2 ud.size⟩
 have f5 : wc.frozen? ⟨pb, 5, none⟩ = false := by simp [World.frozen?, b2]
 have t5 : wc.cell? ⟨pb, 5, none⟩ = some (.slice (some ⟨g, 0, none⟩) sl c) := by simp [World.cell?, b2]
 have y0 : wc.cell? ⟨pb, 0, none⟩ = some (.int .i64 s.kind) := by simp [World.cell?, b2]
 have y1 : wc.cell? ⟨pb, 1, none⟩ = some (.int .i64 s.colour) := by simp [World.cell?, b2]
 have y2 : wc.cell? ⟨pb, 2, none⟩ = some (.string s.k0) := by simp [World.cell?, b2]
 have y3 : wc.cell? ⟨pb, 3, none⟩ = some (.string s.k1) := by simp [World.cell?, b2]
 have y4 : wc.cell? ⟨pb, 4, none⟩ = some (.string s.k2) := by simp [World.cell?, b2]
 have z0 : wc.cell? ⟨pr, 0, none⟩ = some (.int .i64 0) := by simp [World.cell?, b1]
 have fz0 : wc.frozen? ⟨pr, 0, none⟩ = false := by simp [World.frozen?, b1]
 have z1 : wc.cell? ⟨pr, 1, none⟩ = some (.int .i64 0) := by simp [World.cell?, b1]
 have fz1 : wc.frozen? ⟨pr, 1, none⟩ = false := by simp [World.frozen?, b1]
 have z2 : wc.cell? ⟨pr, 2, none⟩ = some (.string ⟨#[]⟩) := by simp [World.cell?, b1]
 have fz2 : wc.frozen? ⟨pr, 2, none⟩ = false := by simp [World.frozen?, b1]
 have z3 : wc.cell? ⟨pr, 3, none⟩ = some (.string ⟨#[]⟩) := by simp [World.cell?, b1]
 have fz3 : wc.frozen? ⟨pr, 3, none⟩ = false := by simp [World.frozen?, b1]
 have z4 : wc.cell? ⟨pr, 4, none⟩ = some (.string ⟨#[]⟩) := by simp [World.cell?, b1]
 have fz4 : wc.frozen? ⟨pr, 4, none⟩ = false := by simp [World.frozen?, b1]
 have z5 : wc.cell? ⟨pr, 5, none⟩ = some (.slice none 0 0) := by simp [World.cell?, b1]
 have fz5 : wc.frozen? ⟨pr, 5, none⟩ = false := by simp [World.frozen?, b1]
 have hpr2 : pb ≠ pr := fun e => hpr e.symm
 have HWD := hid hwd
 have HD1 := hid d1
 have HD2 := hid d2
 clear ho2 u2 b1 b2 hwd ud d1 d2 hod hg2 hgl2 hg2b hg2a
 go_wp2_with fail
 rw [← HWD.out]
 have q1 := heap_set_same HD1.out 0 (.int .i64 s.kind)
 have q2 := heap_set_same q1 1 (.int .i64 s.colour)
 have q3 := heap_set_same q2 2 (.string s.k0)
 have q4 := heap_set_same q3 3 (.string s.k1)
 have q5 := heap_set_same q4 4 (.string s.k2)
 have q6 : _ = some (Obj.cells #[.int .i64 s.kind, .int .i64 s.colour, .string s.k0, .string s.k1, .string s.k2, .slice (some ⟨g2, 0, none⟩) sl c2] 46 (0, 0)) := heap_set_same q5 5 (.slice (some ⟨g2, 0, none⟩) sl c2)
 have ue : Up (One pr) wd _ := (((((((Up.refl (One pr) wd).put rfl 0 (.int .i64 s.kind)).put rfl 1 (.int .i64 s.colour)).put rfl 2 (.string s.k0)).put rfl 3 (.string s.k1)).put rfl 4 (.string s.k2)).put rfl 5 (.slice (some ⟨g2, 0, none⟩) sl c2))
 revert q6 ue
 generalize ((((((wd.setCell ⟨pr, 0, none⟩ (.int .i64 s.kind)).setCell ⟨pr, 1, none⟩ (.int .i64 s.colour)).setCell ⟨pr, 2, none⟩ (.string s.k0)).setCell ⟨pr, 3, none⟩ (.string s.k1)).setCell ⟨pr, 4, none⟩ (.string s.k2)).setCell ⟨pr, 5, none⟩ (.slice (some ⟨g2, 0, none⟩) sl c2)) = we
 intro q6 ue
 have hld := run_loadVar_row (P := Tryz.prog) _ _ _ 46 _ _ _ q6 Tryz.underlying46 rfl info_st
 refine bodyPost_ret (v := .tuple #[.agg #[.int .i64 s.kind, .int .i64 s.colour, .string s.k0, .string s.k1, .string s.k2, .slice (some ⟨g2, 0, none⟩) sl c2], .bool true]) (by rw [results_cell_tmp rfl]; simp [asAddr, hld, Result.andThen]) rfl ?_
 have hg := HG2.out
 refine ⟨g2, c2, rfl, hg.1, Nat.lt_of_lt_of_le hg.2.2.2 ue.size, lo_up HOD.out ue (fun k hk e => by
  have e1 : g2 = k := by injection hk
  have e2 : k = pr := e
  omega), HU2.out.thn ue (fun j e => .inr (by have e : j = pr := e; have := PR.out; omega))⟩
end
end Go.Proofs.YtepggchnhgpcnaaGreatDoor
