/- MetaWay: where the law stands. -/
import Derived.Test.YtmhmlfgikmeejaaDoorMtWayM
import Derived.Test.YtmhmlfgikmeejaaDoorMtAwakeW
import Derived.Test.YtmhmlfgikmeejaaDoorMtStripe
namespace Go.Proofs.YtmhmlfgikmeejaaDoor
open Go.RowKit Go.Maps
set_option linter.unusedVariables false

theorem is_perm {M : MM} {is l : List Int} (h : IS M is) (hs : ∀ i, (M.s i).isSome = true ↔ i ∈ l) (hl : l.Nodup) (hw : ∀ i ∈ l, (Lit.int .i64 i).wf = true) : is.Perm l :=
  (List.perm_ext_iff_of_nodup h.nd hl).2 fun i => ⟨fun hi => (hs i).1 ((h.mem i (h.wf i hi)).1 hi), fun hi => (h.mem i (hw i hi)).2 ((hs i).2 hi)⟩
theorem allLocs_perm {M : MM} {is l : List Int} (h : is.Perm l) : (M.allLocs is).length = (M.allLocs l).length := (List.Perm.flatMap_right _ h).length_eq
section
variable {ka kb kc : ByteArray} {x y z : Option Bl} {l : Int} {is : List Int}
theorem some_7 (i : Int) : (sF (S7 ka kb kc) i).isSome = true ↔ i ∈ [(7 : Int)] := by
  simp only [sF, upd, List.mem_singleton]
  repeat' split
  all_goals simp_all
theorem some_8 (i : Int) : (sF (S8 ka kb kc) i).isSome = true ↔ i ∈ [(7 : Int)] := by
  simp only [sF, upd, List.mem_singleton]
  repeat' split
  all_goals simp_all
theorem some_10 (i : Int) : (sF (S10 ka kb kc) i).isSome = true ↔ i ∈ [(8 : Int), 9] := by
  by_cases e7 : i = 7 <;> by_cases e8 : i = 8 <;> by_cases e9 : i = 9 <;> by_cases e10 : i = 10 <;> simp_all [sF, upd]
theorem some_12 (i : Int) : (sF (S12 ka kb kc) i).isSome = true ↔ i ∈ [(10 : Int)] := by
  by_cases e7 : i = 7 <;> by_cases e8 : i = 8 <;> by_cases e9 : i = 9 <;> by_cases e10 : i = 10 <;> simp_all [sF, upd]
theorem is_7 (h : IS (mkM ka kb kc x y z (S7 ka kb kc) l) is) : is.length = 1 := (is_perm h (fun i => some_7 i) (by decide) (by decide)).length_eq
theorem al_8 (h : IS (mkM ka kb kc x y z (S8 ka kb kc) l) is) : ((mkM ka kb kc x y z (S8 ka kb kc) l).allLocs is).length = 16 := (allLocs_perm (is_perm h (fun i => some_8 i) (by decide) (by decide))).trans rfl
theorem al_10 (h : IS (mkM ka kb kc x y z (S10 ka kb kc) l) is) : ((mkM ka kb kc x y z (S10 ka kb kc) l).allLocs is).length = 12 := (allLocs_perm (is_perm h (fun i => some_10 i) (by decide) (by decide))).trans rfl
theorem al_12 (h : IS (mkM ka kb kc x y z (S12 ka kb kc) l) is) : ((mkM ka kb kc x y z (S12 ka kb kc) l).allLocs is).length = 3 := (allLocs_perm (is_perm h (fun i => some_12 i) (by decide) (by decide))).trans rfl
theorem ks_12 (hs : ka.size ≤ maxLen) {b : Bl} {S : List (Int × Option St)} {ks : List ByteArray} (h : KS (mkM ka kb kc (some b) none none S l) ks) : ks = [ka] := by
  have hm : ∀ k, k ∈ ks ↔ k = ka := fun k => by
    constructor
    · intro hk
      have := (h.mem k (h.sz k hk)).1 hk
      have : (bF ka kb kc (some b) none none k).isSome = true := this
      unfold bF at this
      by_cases e : k = ka
      · exact e
      · rw [if_neg e] at this
        split at this
        · cases this
        · split at this <;> cases this
    · rintro rfl
      refine (h.mem k hs).2 ?_
      show (bF k kb kc (some b) none none k).isSome = true
      unfold bF
      rw [if_pos rfl]; rfl
  have hp : ks.Perm [ka] := (List.perm_ext_iff_of_nodup h.nd (by simp)).2 fun k => by rw [hm]; simp
  exact List.perm_singleton.1 hp
end
theorem rowI3 (w : World) (a b c : Int) : RowI (w.alloc (.cells #[.int .i64 a, .int .i64 b, .int .i64 c] 3)) (some ⟨w.heap.size, 0, none⟩) [a, b, c] := by
  have hb := heap_alloc_new w (.cells #[.int .i64 a, .int .i64 b, .int .i64 c] 3)
  generalize w.alloc (.cells #[.int .i64 a, .int .i64 b, .int .i64 c] 3) = w1 at hb ⊢
  refine .inr ⟨_, 0, rfl, (Array.getElem?_eq_some_iff.1 hb).1, fun i x hi => ?_⟩
  have hi3 : i < 3 := by
    rcases Nat.lt_or_ge i 3 with h | h
    · exact h
    · rw [List.getElem?_eq_none (by exact h)] at hi; cases hi
  have e1 : i = 0 ∨ i = 1 ∨ i = 2 := by omega
  rcases e1 with rfl | rfl | rfl <;> cases hi <;> simp [World.cell?, hb]
theorem rowI_by {w w' : World} {pi g : Nat} {l : List Int} (h : RowI w (some ⟨g, 0, none⟩) l) (u : Up (One pi) w w') (hg : g ≠ pi) : RowI w' (some ⟨g, 0, none⟩) l := by
  rcases h with e | ⟨g', o, e, hl, hc⟩
  · exact .inl e
  · injection e with e
    injection e with e1 e2
    subst e1 e2
    exact .inr ⟨g, 0, rfl, Nat.lt_of_lt_of_le hl u.size, fun i x hi => (u.cell (p := ⟨g, 0 + i, none⟩) hl hg).trans (hc i x hi)⟩
/-- Where the law stands: its Meta, its counter at block pi, and blocks X that none of the Meta's calls turns. -/
structure WL (w0 w : World) (p bm bs n : Nat) (M : MM) (pi v : Nat) (X : Nat → Prop) : Prop where
  m : ∃ Q F, MtL w0 w p n M bm bs Q F ∧ ∀ k, X k → ¬ F k
  i : M.Inv3
  id : w.heap[pi]? = some (.cells #[.int .i64 (v : Nat)] 3 (0, 0))
  ge : w0.heap.size ≤ pi
  xp : X pi
  lt : ∀ k, X k → k < w.heap.size
section
variable {w0 w w' : World} {p bm bs n pi v : Nat} {M : MM} {X : Nat → Prop}
theorem WL.nxt (h : WL w0 w p bm bs n M pi v X) (u : Up Nul w w') : WL w0 w' p bm bs n M pi v X := by
  obtain ⟨Q, F, h1, h2⟩ := h.m
  exact ⟨⟨Q, F, h1.nxt u, h2⟩, h.i, (u.block pi (h.lt pi h.xp) (fun e => e)).trans h.id, h.ge, h.xp, fun k hk => Nat.lt_of_lt_of_le (h.lt k hk) u.size⟩
theorem WL.up (h : WL w0 w p bm bs n M pi v X) : Up Nul w0 w := by
  obtain ⟨Q, F, h1, h2⟩ := h.m
  exact h1.up
/-- A new block besides. -/
theorem WL.with (h : WL w0 w p bm bs n M pi v X) (u : Up Nul w w') {g : Nat} (hg : w.heap.size ≤ g) (hg2 : g < w'.heap.size) : WL w0 w' p bm bs n M pi v (fun k => X k ∨ k = g) := by
  obtain ⟨Q, F, h1, h2⟩ := h.m
  have h' := h.nxt u
  refine ⟨⟨Q, F, h1.nxt u, fun k hk hF => ?_⟩, h.i, h'.id, h.ge, .inl h.xp, fun k hk => ?_⟩
  · rcases hk with hk | rfl
    · exact h2 k hk hF
    · have := h1.lt k hF; omega
  · rcases hk with hk | rfl
    · exact h'.lt k hk
    · exact hg2
theorem WL.locs (h : WL w0 w p bm bs n M pi v X) (k : Nat) (hk : 1 ≤ k ∧ k ≤ 6) (hv : v ≤ 100) :
    Calls Tryd.prog 10 #[.int .i64 (k : Nat), .pointer (some ⟨pi, 0, none⟩)] w fun e w' => ∃ g c, e = .returned (.slice (some ⟨g, 0, none⟩) k c) ∧ (k ≤ c ∧ (c : Int) ≤ 9223372036854775807) ∧ RowL w' (some ⟨g, 0, none⟩) (wlocs v k) ∧ WL w0 w' p bm bs n M pi (v + k) X ∧ Up (One pi) w w' := by
  refine (wlocs_any w pi v k hk hv h.id).mono ?_
  rintro e w' ⟨g, c, rfl, _, _, h3, h4, h5, h6⟩
  obtain ⟨Q, F, h1, h2⟩ := h.m
  refine ⟨g, c, rfl, h3, h4, ⟨⟨Q, F, ⟨h1.m.up h5 (fun j hj e => h2 pi h.xp (by have e : j = pi := e; rw [← e]; exact hj)), fun j hj => Nat.lt_of_lt_of_le (h1.lt j hj) h5.size, h1.ge, h1.up.thn h5 fun j hj => .inr (by have hj : j = pi := hj; rw [hj]; exact h.ge)⟩, h2⟩, h.i, h6, h.ge, h.xp, fun j hj => Nat.lt_of_lt_of_le (h.lt j hj) h5.size⟩, h5⟩
theorem WL.step (h : WL w0 w p bm bs n M pi v X) (hS : Shp w0) (r : Rc) {c : Int} {M' : MM} (hst : M.step r = (c, M')) (hk6 : 1 ≤ r.kind ∧ r.kind ≤ 6) (sa la : Option Addr) (ns nl sc lc : Nat) (hns : r.sids.length = ns) (hnl : r.locs.length = nl) (hr : RH w r sa la) (hk : r.key.size ≤ 100000)
    (hcs : ns ≤ sc ∧ (sc : Int) ≤ 9223372036854775807) (hcl : nl ≤ lc ∧ (lc : Int) ≤ 9223372036854775807) (hn : n ≤ 50000) :
    Calls Tryd.prog 7 #[.pointer (some ⟨p, 0, none⟩), rv r (.slice sa ns sc) (.slice la nl lc)] w fun e w' => e = .returned (.int .i64 c) ∧ WL w0 w' p bm bs (n + 12) M' pi v X ∧ Up (fun k => ¬ X k) w w' := by
  obtain ⟨Q, F, h1, h2⟩ := h.m
  subst hns hnl
  have hstep : Calls Tryd.prog 7 #[.pointer (some ⟨p, 0, none⟩), rv r (.slice sa r.sids.length sc) (.slice la r.locs.length lc)] w fun e w' => e = .returned (.int .i64 (M.step r).1) ∧ (∃ Q', MT (Gr F w w') w' p bm bs (n + 12) Q' (M.step r).2) ∧ Up F w w' := by
    by_cases h12 : r.kind = 1 ∨ r.kind = 2
    · refine (apply_12 h1.m h1.lt h.i (hS.l h1) r h12 sa la sc lc hr hk hn).mono ?_
      rintro e w' ⟨e1, ⟨Q', h'⟩, u⟩
      exact ⟨e1, ⟨Q', h'.mono (by omega)⟩, u⟩
    · exact apply_36 h1.m h1.lt h.i (hS.l h1) r (by omega) sa la sc lc hr hk hcs hcl hn
  have hinv : (M.step r).2.Inv3 := by
    by_cases h12 : r.kind = 1 ∨ r.kind = 2
    · exact inv_12 h.i r h12
    · exact inv_36 h.i r (by omega)
  rw [hst] at hstep hinv
  refine hstep.mono ?_
  rintro e w' ⟨rfl, ⟨Q', h'⟩, u⟩
  refine ⟨rfl, ⟨⟨Q', _, h1.go h' u, fun k hk hF => ?_⟩, hinv, (u.block pi (h.lt pi h.xp) (h2 pi h.xp)).trans h.id, h.ge, h.xp, fun k hk => Nat.lt_of_lt_of_le (h.lt k hk) u.size⟩, u.mono fun k _ hF hX => h2 k hX hF⟩
  rcases hF with hF | ⟨hF, _⟩
  · exact h2 k hk hF
  · have := h.lt k hk; omega
theorem inv_len {i : Int} {s : St} (h : M.Inv3) (hs : M.s i = some s) : 1 ≤ s.locs.length := by
  rw [(h.s i s hs).2.1.locs]
  unfold locsOfKind
  split
  · omega
  · split <;> omega
theorem WL.len_locs (h : WL w0 w p bm bs n M pi v X) (hn : n ≤ 100000) (T : Nat) (hT : T ≤ 1000) (hl : ∀ is, IS M is → (M.allLocs is).length = T) :
    Calls Tryd.prog 14 #[.pointer (some ⟨p, 0, none⟩)] w fun e w' => ∃ a c, e = .returned (.slice a T c) ∧ Up Nul w w' := by
  obtain ⟨Q, F, h1, h2⟩ := h.m
  refine (locs_any h1.m hn (fun i s hs => inv_len h.i hs) (fun is hi => by rw [hl is hi]; exact hT)).mono ?_
  rintro e w' ⟨v, is, rfl, hi, ho, u⟩
  obtain ⟨a, c, hv⟩ := ho.shape
  rw [hl is hi] at hv
  exact ⟨a, c, by rw [hv], u⟩
theorem WL.len_sids (h : WL w0 w p bm bs n M pi v X) (hn : n ≤ 100000) (T : Nat) (hl : ∀ is, IS M is → is.length = T) :
    Calls Tryd.prog 13 #[.pointer (some ⟨p, 0, none⟩)] w fun e w' => ∃ a c, e = .returned (.slice a T c) ∧ Up Nul w w' := by
  obtain ⟨Q, F, h1, h2⟩ := h.m
  refine (sids_any h1.m hn).mono ?_
  rintro e w' ⟨v, is, rfl, ho, hi, _, u⟩
  obtain ⟨a, c, hv⟩ := ho.shape
  rw [hl is hi] at hv
  exact ⟨a, c, by rw [hv], u⟩
theorem WL.key_keys (h : WL w0 w p bm bs n M pi v X) (hn : n ≤ 100000) (k : ByteArray) (hl : ∀ ks, KS M ks → ks = [k]) :
    Calls Tryd.prog 15 #[.pointer (some ⟨p, 0, none⟩)] w fun e w' => ∃ g c, e = .returned (.slice (some ⟨g, 0, none⟩) 1 c) ∧ w'.cell? ⟨g, 0, none⟩ = some (.string k) ∧ Up Nul w w' := by
  obtain ⟨Q, F, h1, h2⟩ := h.m
  refine (keys_any h1.m hn).mono ?_
  rintro e w' ⟨v, ks, rfl, ho, hi, _, u⟩
  rw [hl ks hi] at ho
  rcases ho.2 with ⟨e, e0⟩ | ⟨g, cap, cur, e, _, hb, e4, e5, e6, e7⟩
  · cases e0
  · refine ⟨g, cap, by rw [e]; rfl, ?_, u⟩
    have : cur.toList[0]? = some (.string k) := by
      have h7 : cur.toList.take 1 = [Value.string k] := e7
      have := congrArg (fun l => l[0]?) h7
      simpa [List.getElem?_take] using this
    simp only [World.cell?, hb]
    simpa using this
end
end Go.Proofs.YtmhmlfgikmeejaaDoor
