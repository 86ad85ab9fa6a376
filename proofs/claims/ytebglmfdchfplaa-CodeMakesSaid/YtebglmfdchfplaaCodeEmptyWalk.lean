/- The law CodeEmpty, walked. -/
import Derived.Test.YtebglmfdchfplaaCodeAwake
namespace Go.Proofs.Ytebglmfdchfplaa
open Go.RowKit
set_option linter.unusedVariables false

/-- Where a law stands behind its Code. -/
structure CS (w0 : World) (FS : List Nat) (w : World) (V gx cx gy cy c F k r pp pq sp sq : Nat) (at_ : Int) : Prop where
  ls : LS w0 FS w
  lc : LC FS w V gx cx gy cy k r (mdX at_ k) (mdY at_ k r)
  cd : CD FS w c F k r pp pq sp sq (coefZ k r (mdX at_ k) (mdY at_ k r))
theorem CS.nxt {w0 : World} {FS : List Nat} {w w' : World} {V gx cx gy cy c F k r pp pq sp sq : Nat} {at_ : Int} (h : CS w0 FS w V gx cx gy cy c F k r pp pq sp sq at_) (n : Nxt FS w w') : CS w0 FS w' V gx cx gy cy c F k r pp pq sp sq at_ :=
  ⟨h.ls.nxt n, h.lc.nxt n, h.cd.nxt n⟩
theorem mdX_small (at_ : Int) (k : Nat) : ∀ i, (mdX at_ k).getD i 0 < 256 := small_getD (tab_small fun _ => mdB_lt _ _)
theorem mdY_small (at_ : Int) (k r : Nat) : ∀ i, (mdY at_ k r).getD i 0 < 256 := small_getD (tab_small fun _ => mdB_lt _ _)
theorem codeL {w0 w : World} {FS : List Nat} {F V gx cx gy cy k r : Nat} {at_ : Int} (h : LS w0 FS w) (hF : F ∈ FS) (hc : LC FS w V gx cx gy cy k r (mdX at_ k) (mdY at_ k r)) (k1 : 1 ≤ k) (k14 : k ≤ 14) (r1 : 1 ≤ r) (r4 : r ≤ 4) :
    Calls Try.prog 10 #[.pointer (some ⟨F, 0, none⟩), .slice (some ⟨gx, 0, none⟩) k cx, .slice (some ⟨gy, 0, none⟩) r cy] w
      fun e w' => ∃ c pp pq sp sq, e = .returned (.tuple #[.pointer (some ⟨c, 0, none⟩), .int .i64 0]) ∧ CS w0 FS w' V gx cx gy cy c F k r pp pq sp sq at_ ∧ Nxt FS w w' := by
  refine (new_code FS w0 w F gx 0 gy 0 k r cx cy (mdX at_ k) (mdY at_ k r) h hF hc.x hc.y (mdX_length _ _) (mdY_length _ _ _) k1 k14 r1 r4 (md_dst (by omega))).mono ?_
  rintro e w' ⟨c, pp, pq, sp, sq, h1, h2, h3⟩
  exact ⟨c, pp, pq, sp, sq, h1, ⟨h.nxt h3, hc.nxt h3, h2⟩, h3⟩
theorem md_regular {k r : Nat} {at_ : Int} (S : Nat → Option (List Nat)) (h : k + r ≤ 18) (hk : k ≤ (Tl S (k + r)).length) :
    ∃ M, GfM.run k (GfM.beside k (cz k (pickZ k k (unitZ k ++ coefZ k r (mdX at_ k) (mdY at_ k r)) fun i => (Tl S (k + r)).getD i 0))) k = some M :=
  Tl_regular S (mdX_length _ _) (mdY_length _ _ _) (md_dst h) (mdX_small _ _) (mdY_small _ _ _) hk

/-- Shards that are appended one by one. -/
def LA (FS : List Nat) (base : Nat) (w : World) (v : Value) (i : Nat) (S : Nat → Option (List Nat)) : Prop :=
  ∃ ys : List Value, OwnV 22 base w v ys ∧ ys.length = i ∧ ∀ t, t < i → ∃ u, ys[t]? = some u ∧ Shd FS w u (S t)

theorem Shd.grow0 {FS : List Nat} {w w2 : World} {u : Value} {x : Option (List Nat)} (h : Shd FS w u x) (h0 : x = none ∨ x = some []) (hs : w.heap.size ≤ w2.heap.size) : Shd FS w2 u x := by
  rcases h0 with rfl | rfl
  · exact h
  · obtain ⟨b, o, cap, e, r⟩ := h
    exact ⟨b, o, cap, e, ⟨fun i hi => absurd hi (Nat.not_lt_zero _), r.row.small⟩, Nat.lt_of_lt_of_le r.lt hs, r.b⟩
theorem LS.grown {w0 w wr w2 : World} {FS : List Nat} {row : Option Nat} (h : LS w0 FS w) (n : Nxt FS w wr) (g : wr.grownBy w2 row) (hr : ∀ k, row = some k → w.heap.size ≤ k) : Nxt FS w w2 :=
  ⟨n.up.grown g hr, fun F hF => (n.fld F hF).up (Up.ofg g) fun e => by have := hr F e.symm; have := (h.fld F hF).lt; omega⟩
set_option maxRecDepth 100000 in
set_option maxHeartbeats 3200000 in
theorem empty_walk (a0 a1 a2 a3 : Int) (w : World) (h3 : 0 ≤ a3) :
    Calls Try.prog 4 #[.int .i64 a0, .int .i64 a1, .int .i64 a2, .int .u64 a3] w fun e w' => e = .returned (.bool true) ∧ Below w.heap.size w w' := by
  obtain ⟨y, k, hk1, hk2, hk3, k1, k14, hy⟩ := md_k a0
  obtain ⟨r, hr, r1, r4⟩ := i64_and3 a1
  have HK := hid (And.intro hk1 (And.intro hk2 (And.intro hk3 (And.intro hy hr))))
  clear hk1 hk2 hk3 hy hr
  go_enter Try.func4, Try.ntmps4
  go_wp2_with fail
  refine (madeL (LS.start w) HK.out.1 HK.out.2.1 HK.out.2.2.1 k1 k14 HK.out.2.2.2.1 HK.out.2.2.2.2 r1 r4).mono ?_
  rintro e w1 ⟨gx, cx, gy, cy, rfl, rx, ry, n1⟩
  have hl := (LS.start w).nxt n1
  have H1 := hid (And.intro (hl.nxt (hl.alloc (.cells #[.slice (some ⟨gx, 0, none⟩) k cx, .slice (some ⟨gy, 0, none⟩) r cy] 25))) (LC.new (k := k) (r := r) (cx := cx) (cy := cy) hl rx ry 25))
  clear hl rx ry n1
  go_wp2_with fail
  generalize (w1.alloc (.cells #[.slice (some ⟨gx, 0, none⟩) k cx, .slice (some ⟨gy, 0, none⟩) r cy] 25)) = w2 at *
  generalize w1.heap.size = V at *
  have HD : Hid (LS w [] w2.drew ∧ LC [] w2.drew V gx cx gy cy k r (mdX a2 k) (mdY a2 k r)) := ⟨H1.out.1.nxt H1.out.1.drew, H1.out.2.nxt H1.out.1.drew⟩
  have s1 : w2.cell? ⟨V, 0, none⟩ = some (.slice (some ⟨gx, 0, none⟩) k cx) := H1.out.2.c0
  have s2 : w2.cell? ⟨V, 1, none⟩ = some (.slice (some ⟨gy, 0, none⟩) r cy) := H1.out.2.c1
  go_region_held3 (fun w' => w'.cell? ⟨V, 0, none⟩ = some (.slice (some ⟨gx, 0, none⟩) k cx) ∧ w'.cell? ⟨V, 1, none⟩ = some (.slice (some ⟨gy, 0, none⟩) r cy)) (first | exact ⟨by assumption, by assumption⟩ | go_keep)
    ((first
      | (go_at_call 11; (with_reducible refine (gfNewF _).mono ?_); rintro e w3 ⟨F, rfl, n3⟩; have H3 := hid (And.intro (HD.out.1.newF n3) (HD.out.2.newF n3)); have t1 := H3.out.2.c0; have t2 := H3.out.2.c1; clear n3)
      | (go_at_call 10; (with_reducible refine (codeL H3.out.1 (List.mem_cons_self ..) H3.out.2 k1 k14 r1 r4).mono ?_); rintro e w4 ⟨c, pp, pq, sp, sq, rfl, cs, n4⟩; have H4 := hid cs; have t3 := H4.out.lc.c0; have t4 := H4.out.lc.c1; clear cs n4)))
  clear s1 s2 t1 t2 H1 H3 HD
  go_wp2_with fail
  obtain ⟨E, HE⟩ : ∃ E : Nat → Option (List Nat), Hid (E = fun t => if (bits .and .u64 (a3 / 2 ^ t) 1 == 1) = true then none else some []) := ⟨_, rfl⟩
  go_loopw [13, 14, 15] (fun v l i wr => ∃ t q : Nat, t ≤ k + r ∧ i = .int .i64 t ∧ l = .int .i64 q ∧ q + (Tl E t).length = t ∧ LA [F] w4.heap.size wr v t E ∧ Nxt [F] w4 wr) (fun _ _ i _ => (k + r) - (intOf i).toNat)
  case atStart => exact ⟨0, 0, by omega, rfl, rfl, rfl, ⟨[], OwnV.nil _ _ _, rfl, fun _ h => absurd h (Nat.not_lt_zero _)⟩, H4.out.ls.refl⟩
  case round =>
    obtain ⟨t, q, ht, rfl, rfl, hq, hla, hn⟩ := hrel
    have HLA := hid hla
    have HN := hid hn
    have HQ := hid hq
    clear hla hn hq
    by_cases hlt : t < k + r
    · obtain ⟨ys, ho, hyl, hys⟩ := HLA.out
      have HO := hid (And.intro ho (And.intro hyl hys))
      have h00 : Hid (∀ t, E t = none ∨ E t = some []) := fun t => by
        rw [HE.out]
        show (if _ then _ else _) = none ∨ (if _ then _ else _) = some []
        split
        · exact .inl rfl
        · exact .inr rfl
      have hyl2 : ys.length + 1 ≤ 1000000 := by omega
      have hq18 : q ≤ 18 := by have := HQ.out; omega
      clear ho hyl hys
      by_cases hb : (bits .and .u64 (a3 / 2 ^ t) 1 == 1) = true
      · have hE : Hid (E t = none) := by show _ = _; rw [HE.out]; exact if_pos hb
        go_wp2_with (first
          | (at_builtin; refine wpList_append_vals Try.underlying33 info_sl rfl (by omega) rfl (.tmp 59) (.tmp 60) rfl w4.heap.size u13 ys rfl (HO.out.1.alloc _) ⟨wr.heap.size, 0, none⟩ 1 1 [.slice none 0 0] rfl (fun j u hj => by
              match j, hj with
              | 0, hj => cases hj; exact World.cell?_alloc_new wr _ _ 0) (fun u hu => by cases hu with | head => rfl | tail _ h => cases h) rfl hyl2 (by have := HN.out.up.size; simp; omega) ?_; intro v2 w5 G1 G2)
          | go_in)
        go_roundw
        case rel => exact ⟨t + 1, q + 1, by omega, by go_num, by go_num, by have := HQ.out; rw [Tl_none hE.out]; omega, ⟨ys ++ [.slice none 0 0], G1.out, by rw [List.length_append, HO.out.2.1]; rfl, fun s hs => by
          by_cases e : s = t
          · subst e
            exact ⟨.slice none 0 0, by rw [List.getElem?_append_right (by rw [HO.out.2.1]; exact Nat.le_refl _), HO.out.2.1, Nat.sub_self]; rfl, by rw [hE.out]; exact rfl⟩
          · obtain ⟨u, h1, h2⟩ := HO.out.2.2 s (by omega)
            exact ⟨u, by rw [List.getElem?_append_left (by rw [HO.out.2.1]; omega)]; exact h1, h2.grow0 (h00.out s) (by have := G2.out.size; simp at this; omega)⟩⟩,
          H4.out.ls.grown (HN.out.trans ((H4.out.ls.nxt HN.out).alloc _)) G2.out fun q hq => HO.out.1.base q hq⟩
        case measure => simp [intOf]; omega
      · have hb' : (bits .and .u64 (a3 / 2 ^ t) 1 == 1) = false := by simpa using hb
        have hE : Hid (E t = some []) := by show _ = _; rw [HE.out]; exact if_neg hb
        clear hb
        go_wp2_with (first
          | (at_builtin; refine wpList_append_vals Try.underlying33 info_sl rfl (by omega) rfl (.tmp 64) (.tmp 66) rfl w4.heap.size u13 ys rfl ((HO.out.1.alloc _).alloc _) ⟨wr.heap.size + 1, 0, none⟩ 1 1 [.slice (some ⟨wr.heap.size, 0, none⟩) 0 0] rfl (fun j u hj => by
              match j, hj with
              | 0, hj => cases hj; have h := World.cell?_alloc_new (wr.alloc (.cells #[] 5)) #[.slice (some ⟨wr.heap.size, 0, none⟩) 0 0] 22 0; rw [show (wr.alloc (.cells #[] 5)).heap.size = wr.heap.size + 1 by simp] at h; exact h) (fun u hu => by cases hu with | head => rfl | tail _ h => cases h) rfl hyl2 (by have := HN.out.up.size; simp; omega) ?_; intro v2 w5 G1 G2)
          | go_in)
        go_roundw
        case rel => exact ⟨t + 1, q, by omega, by go_num, rfl, by have := HQ.out; rw [Tl_some hE.out, List.length_append]; simp; omega, ⟨ys ++ [.slice (some ⟨wr.heap.size, 0, none⟩) 0 0], G1.out, by rw [List.length_append, HO.out.2.1]; rfl, fun s hs => by
          by_cases e : s = t
          · subst e
            exact ⟨_, by rw [List.getElem?_append_right (by rw [HO.out.2.1]; exact Nat.le_refl _), HO.out.2.1, Nat.sub_self]; rfl, by
              rw [hE.out]
              exact ⟨wr.heap.size, 0, 0, rfl, ⟨fun i hi => absurd hi (Nat.not_lt_zero _), fun i => by simp⟩, by have := G2.out.size; simp at this; omega, (H4.out.ls.nxt HN.out).lt (Nat.le_refl _)⟩⟩
          · obtain ⟨u, h1, h2⟩ := HO.out.2.2 s (by omega)
            exact ⟨u, by rw [List.getElem?_append_left (by rw [HO.out.2.1]; omega)]; exact h1, h2.grow0 (h00.out s) (by have := G2.out.size; simp at this; omega)⟩⟩,
          H4.out.ls.grown ((HN.out.trans ((H4.out.ls.nxt HN.out).alloc _)).trans (((H4.out.ls.nxt HN.out).nxt ((H4.out.ls.nxt HN.out).alloc _)).alloc _)) G2.out fun q hq => HO.out.1.base q hq⟩
        case measure => simp [intOf]; omega
    · obtain rfl : t = k + r := by omega
      obtain ⟨ys, ho, hyl, hys⟩ := HLA.out
      obtain ⟨gl, capl, rfl, l1, l2, l3, l4, l5⟩ := OwnV.row ho (by omega)
      rw [hyl]
      have hcs := H4.out.nxt HN.out
      have hll : LL [F] wr gl 0 (k + r) E := ⟨fun i hi => by
        obtain ⟨u, h1, h2⟩ := hys i hi
        exact ⟨u, by rw [Nat.zero_add]; exact l3 i u h1, h2⟩, l2, H4.out.ls.lt l1⟩
      have HC := hid (And.intro hcs hll)
      have HFI : Hid (Fine E (k + r) 0) := fun i hi z e => by
        rw [HE.out] at e
        simp only at e
        split at e
        · cases e
        · cases e; rfl
      have HCAP := hid l5
      clear ho hyl hys l1 l2 l3 l4 l5 hcs hll HLA HN H4 t3 t4
      by_cases hT : k ≤ (Tl E (k + r)).length
      · obtain ⟨M, hM⟩ := md_regular (k := k) (r := r) (at_ := a2) E (by omega) hT
        have hq : q ≤ r := by have := HQ.out; omega
        have HD := hid (decode_good [F] w wr c F k r pp pq sp sq _ gl 0 (k + r) capl 0 E M HC.out.1.ls HC.out.1.cd HC.out.2 rfl HFI.out (by omega) hT hM)
        clear hT hM HQ HFI HE
        go_wp2_with fail
        refine HD.out.mono ?_
        rintro e w5 ⟨h, capw, b, rfl, h1, h2⟩
        have n5 := HC.out.1.ls.one (List.mem_cons_self ..) h1.up h2
        have H5 := hid (And.intro (HC.out.1.nxt n5) (And.intro (h1.ll HC.out.1.ls) (h1.lens 0 (by omega))))
        clear n5 h1 h2 HD HC
        have hmk := make_slices w5 (k + r) (by omega)
        rw [show ((k + r : Nat) : Int) = (k : Int) + (r : Int) by simp] at hmk
        have i0 : ¬ ((k : Int) + (r : Int) < 0) := by omega
        have na := H5.out.1.ls.alloc (.cells (nilS (k + r)) 22)
        have lln := LL.mk1 (n := k + r) (S := fun _ => none) H5.out.1.ls (nilS (k + r)) 22 (fun i hi => ⟨_, nilS_at _ i hi, rfl⟩)
        have HD2 := hid (decode_lost [F] w _ c F k r pp pq sp sq _ w5.heap.size 0 (k + r) (k + r) 0 (fun _ => none) (H5.out.1.ls.nxt na) (H5.out.1.cd.nxt na) lln rfl (fun t ht z e => by cases e) (by omega) (by rw [show Tl (fun _ => none) (k + r) = [] by simp [Tl]]; exact k1))
        have HNA := hid na
        clear na lln
        go_wp2_with fail
        refine HD2.out.mono ?_
        rintro e w6 ⟨rfl, u6⟩
        have n6 := HNA.out.trans ((H5.out.1.ls.nxt HNA.out).nul u6)
        have H6 := hid (And.intro (H5.out.1.nxt n6) (And.intro (H5.out.2.1.nxt n6) H5.out.2.2))
        clear n6 u6 HD2 HNA H5 hmk
        go_wp2_with fail
        refine (decode_len [F] w w6 c F k r pp pq sp sq _ 0 0 none H6.out.1.ls H6.out.1.cd (by omega)).mono ?_
        rintro e w7 ⟨rfl, u7⟩
        have n7 := H6.out.1.ls.nul u7
        have H7 := hid (And.intro (H6.out.1.nxt n7) (H6.out.2.1.nxt n7))
        obtain ⟨b0, o0, k0, x0, _⟩ := H7.out.2.at (i := 0) (by omega) rfl
        rw [H6.out.2.2, Nat.add_zero] at x0
        have j1 : ¬ ((r : Int) < (q : Int)) := by omega
        have x1 := H7.out.1.lc.c1
        have j2 : (0 : Int) < (k : Int) + (r : Int) := by omega
        clear n7 u7 H6
        go_wp2_with fail
        refine (awakeL H7.out.1.ls).mono ?_
        rintro e w8 ⟨rfl, n8⟩
        have H8 := hid (H7.out.1.ls.nxt n8)
        clear n8
        go_wp2
        go_ret
        exact ⟨rfl, H8.out.below⟩
      · have hq : r < q := by have := HQ.out; omega
        have HD := hid (decode_lost [F] w wr c F k r pp pq sp sq _ gl 0 (k + r) capl 0 E HC.out.1.ls HC.out.1.cd HC.out.2 rfl HFI.out (by omega) (by omega))
        clear hT HQ HFI HE
        go_wp2_with fail
        refine HD.out.mono ?_
        rintro e w5 ⟨rfl, u5⟩
        have H5 := hid (And.intro (HC.out.1.nxt (HC.out.1.ls.nul u5)) trivial)
        clear u5 HD HC
        have hmk := make_slices w5 (k + r) (by omega)
        rw [show ((k + r : Nat) : Int) = (k : Int) + (r : Int) by simp] at hmk
        have i0 : ¬ ((k : Int) + (r : Int) < 0) := by omega
        have na := H5.out.1.ls.alloc (.cells (nilS (k + r)) 22)
        have lln := LL.mk1 (n := k + r) (S := fun _ => none) H5.out.1.ls (nilS (k + r)) 22 (fun i hi => ⟨_, nilS_at _ i hi, rfl⟩)
        have HD2 := hid (decode_lost [F] w _ c F k r pp pq sp sq _ w5.heap.size 0 (k + r) (k + r) 0 (fun _ => none) (H5.out.1.ls.nxt na) (H5.out.1.cd.nxt na) lln rfl (fun t ht z e => by cases e) (by omega) (by rw [show Tl (fun _ => none) (k + r) = [] by simp [Tl]]; exact k1))
        have HNA := hid na
        clear na lln
        go_wp2_with fail
        refine HD2.out.mono ?_
        rintro e w6 ⟨rfl, u6⟩
        have n6 := HNA.out.trans ((H5.out.1.ls.nxt HNA.out).nul u6)
        have H6 := hid (And.intro (H5.out.1.nxt n6) trivial)
        clear n6 u6 HD2 HNA H5 hmk
        go_wp2_with fail
        refine (decode_len [F] w w6 c F k r pp pq sp sq _ 0 0 none H6.out.1.ls H6.out.1.cd (by omega)).mono ?_
        rintro e w7 ⟨rfl, u7⟩
        have n7 := H6.out.1.ls.nul u7
        have H7 := hid (And.intro (H6.out.1.nxt n7) trivial)
        have j1 : (r : Int) < (q : Int) := by omega
        have x1 := H7.out.1.lc.c1
        have j2 : (0 : Int) < (k : Int) + (r : Int) := by omega
        clear n7 u7 H6
        go_wp2_with fail
        refine (awakeL H7.out.1.ls).mono ?_
        rintro e w8 ⟨rfl, n8⟩
        have H8 := hid (H7.out.1.ls.nxt n8)
        clear n8
        go_wp2
        go_ret
        exact ⟨rfl, H8.out.below⟩
end Go.Proofs.Ytebglmfdchfplaa
