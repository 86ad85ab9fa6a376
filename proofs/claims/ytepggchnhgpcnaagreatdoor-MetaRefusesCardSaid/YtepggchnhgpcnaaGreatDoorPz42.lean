/- What 'Same' asks, further: SameStripe, Table; keys and Sids told alike by both. -/
import Derived.Test.YtepggchnhgpcnaaGreatDoorPkTidy
import Derived.Test.YtepggchnhgpcnaaGreatDoorPz41
import Derived.Test.YtepggchnhgpcnaaGreatDoorPz15
namespace Go.Proofs.YtepggchnhgpcnaaGreatDoor
open Go.RowKit Go.Maps Go.Sort
set_option linter.unusedVariables false

theorem asc_eq {α : Type} {R : α → α → Prop} (hR : ∀ x y, R x y → ¬ R y x) : ∀ a b : List α, a.Pairwise R → b.Pairwise R → (∀ x, x ∈ a ↔ x ∈ b) → a = b
 | [], [], _, _, _ => rfl
 | [], y :: b, _, _, h => by have := (h y).2 (by simp); cases this
 | x :: a, [], _, _, h => by have := (h x).1 (by simp); cases this
 | x :: a, y :: b, ha, hb, h => by
  obtain ⟨ha1, ha2⟩ := List.pairwise_cons.1 ha
  obtain ⟨hb1, hb2⟩ := List.pairwise_cons.1 hb
  have e : x = y := by
   rcases List.mem_cons.1 ((h x).1 (by simp)) with e | e
   ·exact e
   ·rcases List.mem_cons.1 ((h y).2 (by simp)) with e' | e'
    ·exact e'.symm
    ·exact absurd (ha1 y e') (hR _ _ (hb1 x e))
  subst e
  rw [asc_eq hR a b ha2 hb2 fun z => ⟨fun hz => by
   rcases List.mem_cons.1 ((h z).1 (by simp [hz])) with e | e
   ·subst e; exact absurd (ha1 z hz) (hR _ _ (ha1 z hz))
   ·exact e, fun hz => by
   rcases List.mem_cons.1 ((h z).2 (by simp [hz])) with e | e
   ·subst e; exact absurd (hb1 z hz) (hR _ _ (hb1 z hz))
   ·exact e⟩]
section
variable {M : MM} {w : World}
theorem is_eq (hI : M.Inv3) {a b : List Int} (h1 : IS M a) (h2 : RI M b) : a = b := by
 refine asc_eq (R := fun x y : Int => x < y) (fun x y h h' => by omega) a b (List.pairwise_iff_getElem.2 fun i j hi hj hij => ?_) h2.up fun x => ?_
 ·have h3 := List.pairwise_iff_getElem.1 h1.up i j hi hj hij
  have h4 := List.pairwise_iff_getElem.1 h1.nd i j hi hj hij
  omega
 ·rw [h2.mem x]
  constructor
  ·exact fun hx => (h1.mem x (h1.wf x hx)).1 hx
  ·intro hx
   obtain ⟨s, hs⟩ := Option.isSome_iff_exists.1 hx
   have h3 := (hI.s x s hs).1
   have h4 := hI.l
   exact (h1.mem x (wf_small (by omega) (by omega))).2 hx
theorem ks_eq (hI : M.Inv3) {a b : List ByteArray} (h1 : KS M a) (h2 : RK M b) : a = b := by
 refine asc_eq (R := kl) (fun x y h h' => ?_) a b (List.pairwise_iff_getElem.2 fun i j hi hj hij => ?_) h2.up fun x => ?_
 ·rw [kl_iff] at h h'
  exact List.lt_irrefl _ (List.lt_trans h h')
 ·have h3 := List.pairwise_iff_getElem.1 h1.up i j hi hj hij
  have h4 := List.pairwise_iff_getElem.1 h1.nd i j hi hj hij
  rw [kl_iff]
  refine Std.lt_of_le_of_ne h3 fun e => h4 ?_
  exact ByteArray.ext (Array.toList_inj.1 e)
 ·rw [h2.mem x]
  constructor
  ·exact fun hx => (h1.mem x (h1.sz x hx)).1 hx
  ·intro hx
   obtain ⟨y, hy⟩ := Option.isSome_iff_exists.1 hx
   have h3 := (hI.b x y hy).1.2
   exact (h1.mem x (by unfold maxLen; omega)).2 hx
theorem rowI_rd {W : World} {a : Option Addr} {n : Nat} {zs : List Int} (h : RdR 1 W a n (intV zs)) : RowI W a zs := by
 rcases zs with _ | ⟨z, zs⟩
 ·exact .inl rfl
 ·have hn : 0 < n := by have := h.len; simp [intV] at this; omega
  obtain ⟨g, o, e, hg, hc⟩ := h.row hn
  exact .inr ⟨g, o, e, hg, fun i x hi => hc i _ (by unfold intV; rw [List.getElem?_map, hi]; rfl)⟩
theorem sstripe_any (W : World) (s : St) (a1 a2 : Option Addr) (c1 c2 : Nat) (h1 : RowL W a1 s.locs) (h2 : RowL W a2 s.locs) (hl : s.locs.length ≤ 1000) :
  Calls Tryz.prog 45 #[stv s (.slice a1 s.locs.length c1), stv s (.slice a2 s.locs.length c2)] W fun e w' => e = .returned (.bool true) ∧ Up Nul W w' := by
 have hsl : ∀ V, Up Nul W V → Calls Tryz.prog 42 #[.slice a1 s.locs.length c1, .slice a2 s.locs.length c2] V fun e w' => e = .returned (.bool true) ∧ Up Nul V w' := fun V u => by
  have := slocs_any V a1 a2 c1 c2 s.locs s.locs (h1.nxt u) (h2.nxt u) (by omega) (by omega)
  rw [decide_eq_true rfl] at this
  exact this
 have HSL := hid hsl
 have heq : ∀ W : World, (binOp .eql 44 (.agg #[.string s.k0, .string s.k1, .string s.k2]) (.agg #[.string s.k0, .string s.k1, .string s.k2])).run Tryz.prog W = .ok (.bool true) W := fun W => eq3s _ _ _ W
 obtain ⟨kd, co, k0, k1, k2, ls⟩ := s
 dsimp only at HSL heq
 obtain ⟨ll, LL⟩ : ∃ x, Hid (ls.length = x) := ⟨_, rfl⟩
 rw [LL.out] at HSL
 show Calls Tryz.prog 45 #[.agg #[.int .i64 kd, .int .i64 co, .string k0, .string k1, .string k2, .slice a1 ls.length c1], .agg #[.int .i64 kd, .int .i64 co, .string k0, .string k1, .string k2, .slice a2 ls.length c2]] W _
 rw [LL.out]
 clear h1 h2 hl hsl
 go_enter Tryz.func45, Tryz.ntmps45
 go_wp2_with fail
 refine (HSL.out _ (((Up.refl Nul W).alloc _).alloc _)).mono ?_
 rintro e w2 ⟨rfl, u2⟩
 have HU : Hid (Up Nul W w2) := (((Up.refl Nul W).alloc _).alloc _).trans u2
 clear u2
 go_wp2_with fail
 go_ret
 exact ⟨rfl, HU.out⟩
theorem mtable_any {F : Nat → Prop} {p bm bs n : Nat} {Q : Int → Value} (h : MT F w p bm bs n Q M) :
  Calls Tryz.prog 41 #[.pointer (some ⟨p, 0, none⟩)] w fun e w' => e = .returned (.agg #[.int .i64 M.t.hot, .int .i64 M.t.warm, .int .i64 M.t.gap, .int .i64 M.t.add, .int .i64 M.t.top, .int .i64 M.t.half]) ∧ Up Nul w w' := by
 have hpl := h.lt
 obtain ⟨w1, hw1⟩ : ∃ W, W = w.alloc (.cells #[.int .i64 0, .int .i64 0, .int .i64 0, .int .i64 0, .int .i64 0, .int .i64 0] 26) := ⟨_, rfl⟩
 have u1 : Up Nul w w1 := by rw [hw1]; exact (Up.refl _ _).alloc _
 have b1 : w1.heap[w.heap.size]? = some (.cells #[.int .i64 0, .int .i64 0, .int .i64 0, .int .i64 0, .int .i64 0, .int .i64 0] 26 (0, 0)) := by rw [hw1]; exact heap_alloc_new _ _
 have h1 := h.nxt u1
 have hy : ∀ o v, (mhead bm bs M.last M.t)[o]? = some v → w1.cell? ⟨p, o, none⟩ = some v := fun o v e => by simp only [World.cell?, h1.hp]; exact e
 have q3 : w1.cell? ⟨p, 3, none⟩ = some (.int .i64 M.t.hot) := hy 3 _ rfl
 have q4 : w1.cell? ⟨p, 4, none⟩ = some (.int .i64 M.t.warm) := hy 4 _ rfl
 have q5 : w1.cell? ⟨p, 5, none⟩ = some (.int .i64 M.t.gap) := hy 5 _ rfl
 have q6 : w1.cell? ⟨p, 6, none⟩ = some (.int .i64 M.t.add) := hy 6 _ rfl
 have q7 : w1.cell? ⟨p, 7, none⟩ = some (.int .i64 M.t.top) := hy 7 _ rfl
 have q8 : w1.cell? ⟨p, 8, none⟩ = some (.int .i64 M.t.half) := hy 8 _ rfl
 obtain ⟨r, RR0⟩ : ∃ x, Hid (w.heap.size = x) := ⟨_, rfl⟩
 rw [RR0.out] at b1
 have HB1 := hid b1
 have HU1 := hid u1
 have hz : ∀ o v, (#[Value.int .i64 0, .int .i64 0, .int .i64 0, .int .i64 0, .int .i64 0, .int .i64 0] : Array Value)[o]? = some v → w1.cell? ⟨r, o, none⟩ = some v := fun o v e => by simp only [World.cell?, b1]; exact e
 have z0 : w1.cell? ⟨r, 0, none⟩ = some (.int .i64 0) := hz 0 _ rfl
 have z1 : w1.cell? ⟨r, 1, none⟩ = some (.int .i64 0) := hz 1 _ rfl
 have z2 : w1.cell? ⟨r, 2, none⟩ = some (.int .i64 0) := hz 2 _ rfl
 have z3 : w1.cell? ⟨r, 3, none⟩ = some (.int .i64 0) := hz 3 _ rfl
 have z4 : w1.cell? ⟨r, 4, none⟩ = some (.int .i64 0) := hz 4 _ rfl
 have z5 : w1.cell? ⟨r, 5, none⟩ = some (.int .i64 0) := hz 5 _ rfl
 have ff : ∀ o, w1.frozen? ⟨r, o, none⟩ = false := fun o => by simp [World.frozen?, b1]
 have f0 := ff 0
 have f1 := ff 1
 have f2 := ff 2
 have f3 := ff 3
 have f4 := ff 4
 have f5 := ff 5
 have hw2 : w.alloc (.cells #[.int .i64 0, .int .i64 0, .int .i64 0, .int .i64 0, .int .i64 0, .int .i64 0] 26) = w1 := hw1.symm
 have hr2 : w.heap.size = r := RR0.out
 clear h h1 hw1 b1 u1 hy hz ff hpl
 go_enter Tryz.func41, Tryz.ntmps41
 go_wp2_with fail
 have hh := set6 HB1.out (.int .i64 M.t.hot) (.int .i64 M.t.warm) (.int .i64 M.t.gap) (.int .i64 M.t.add) (.int .i64 M.t.top) (.int .i64 M.t.half)
 refine bodyPost_ret (results_cell_row (P := Tryz.prog) (ty := 26) rfl _ _ r _ _ _ _ rfl hh Tryz.underlying26 rfl (by kernel_rfl)) rfl ?_
 exact ⟨rfl, up6 HU1.out r (.inl (by have := RR0.out; omega)) _ _ _ _ _ _⟩
end
end Go.Proofs.YtepggchnhgpcnaaGreatDoor
