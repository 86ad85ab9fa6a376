/- The law MatGroups, walked. -/
import Derived.Test.YtoibfpcobhopeaaMatUnitsWalk
import Derived.Test.YtoibfpcobhopeaaMatPick
import Derived.Test.YtoibfpcobhopeaaHand
namespace Go.Proofs.Ytoibfpcobhopeaa
open Go.RowKit
set_option linter.unusedVariables false

/-- The cells of rows of c. -/
def ce (c : Nat) (z : List Nat) : GfM.Mx := fun i j => z.getD (i * c + j) 0
theorem ce_tab {r c : Nat} {f : Nat → Nat → Nat} {i j : Nat} (hi : i < r) (hj : j < c) : ce c (tab (r * c) fun t => f (t / c) (t % c)) i j = f i j := by
  unfold ce
  have hlt : i * c + j < r * c := by
    have := Nat.mul_le_mul_right c (show i + 1 ≤ r from hi)
    rw [Nat.add_mul] at this
    omega
  rw [tab_at _ _ _ hlt, Nat.mul_comm i c, Nat.mul_add_mod, Nat.mod_eq_of_lt hj, Nat.mul_add_div (by omega), Nat.div_eq_of_lt hj, Nat.add_zero]
theorem tab_rc {r c : Nat} {f g : Nat → Nat → Nat} (h : ∀ i j, i < r → j < c → f i j = g i j) : (tab (r * c) fun t => f (t / c) (t % c)) = tab (r * c) fun t => g (t / c) (t % c) :=
  tab_congr fun t ht => by
    have hc : 0 < c := by
      rcases Nat.eq_zero_or_pos c with e | e
      · subst e; omega
      · exact e
    exact h _ _ ((Nat.div_lt_iff_lt_mul hc).2 ht) (Nat.mod_lt _ hc)
theorem prod_ce (r k c : Nat) (z z2 : List Nat) : prodZ r k c z z2 = tab (r * c) fun t => GfM.mm k (ce k z) (ce c z2) (t / c) (t % c) :=
  tab_congr fun t ht => GfM.xs_congr fun s hs => by
    unfold colOf ce
    rw [tab_at _ _ _ hs]
/-- Products of three, grouped either way. -/
theorem prod_groups (n k l o : Nat) (a b c : List Nat) : prodZ n l o (prodZ n k l a b) c = prodZ n k o a (prodZ k l o b c) := by
  rw [prod_ce n l o, prod_ce n k o]
  exact tab_rc fun i j hi hj => by
    have e1 : GfM.mm l (ce l (prodZ n k l a b)) (ce o c) i j = GfM.mm l (GfM.mm k (ce k a) (ce l b)) (ce o c) i j := GfM.mm_congr (fun s hs => by rw [prod_ce]; exact ce_tab hi hs) fun _ _ => rfl
    have e2 : GfM.mm k (ce k a) (ce o (prodZ k l o b c)) i j = GfM.mm k (ce k a) (GfM.mm l (ce l b) (ce o c)) i j := GfM.mm_congr (fun _ _ => rfl) fun s hs => by rw [prod_ce]; exact ce_tab hs hj
    rw [e1, e2]
    exact GfM.mm_assoc _ _ _ _ _ _ _
/-- A row that is picked of a product. -/
theorem prod_pick (n k l : Nat) (a b : List Nat) (f : Nat → Nat) (hf : f 0 < n) : prodZ 1 k l (pickZ 1 k a f) b = pickZ 1 l (prodZ n k l a b) f := by
  have e : pickZ 1 l (prodZ n k l a b) f = tab (1 * l) fun t => (fun i j => ce l (prodZ n k l a b) (f i) j) (t / l) (t % l) := rfl
  rw [prod_ce 1 k l, e]
  exact tab_rc (r := 1) (c := l) (f := GfM.mm k (ce k (pickZ 1 k a f)) (ce l b)) (g := fun i j => ce l (prodZ n k l a b) (f i) j) fun i j hi hj => by
    obtain rfl : i = 0 := by omega
    show GfM.mm k (ce k (pickZ 1 k a f)) (ce l b) 0 j = ce l (prodZ n k l a b) (f 0) j
    rw [prod_ce n k l, ce_tab hf hj]
    exact GfM.xs_congr fun s hs => by
      have : ce k (pickZ 1 k a f) 0 s = ce k a (f 0) s := ce_tab (f := fun i j => ce k a (f i) j) (by omega) hs
      rw [this]

set_option maxRecDepth 100000 in
theorem groups_long (n k l o r : Int) (a b c : Option Addr) (la ca lb cb lc cc : Nat) (w : World) (h : 60 < la ∨ 60 < lb ∨ 60 < lc) :
    Calls Try.prog 4 #[.int .i64 n, .int .i64 k, .int .i64 l, .int .i64 o, .slice a la ca, .slice b lb cb, .slice c lc cc, .int .i64 r] w fun e w' => e = .returned (.bool true) ∧ Below w.heap.size w w' := by
  by_cases h1 : 60 < la
  · clear h
    go_enter Try.func4, Try.ntmps4
    go_wp2_with ((go_at_call 16; (with_reducible refine (awakeL (LS.start w)).mono ?_); rintro e w1 ⟨rfl, k1⟩; have K := hid ((LS.start w).nxt k1); clear k1))
    go_ret
    exact ⟨rfl, K.out.below⟩
  by_cases h2 : 60 < lb
  · clear h
    go_enter Try.func4, Try.ntmps4
    go_wp2_with ((go_at_call 16; (with_reducible refine (awakeL (LS.start w)).mono ?_); rintro e w1 ⟨rfl, k1⟩; have K := hid ((LS.start w).nxt k1); clear k1))
    go_ret
    exact ⟨rfl, K.out.below⟩
  · have h3 : 60 < lc := by omega
    clear h
    go_enter Try.func4, Try.ntmps4
    go_wp2_with ((go_at_call 16; (with_reducible refine (awakeL (LS.start w)).mono ?_); rintro e w1 ⟨rfl, k1⟩; have K := hid ((LS.start w).nxt k1); clear k1))
    go_ret
    exact ⟨rfl, K.out.below⟩

/-- n & 0xff % 5 + 1. -/
theorem size5 (x : Int) : ∃ y n : Nat, bits .and .i64 x 255 = (y : Int) ∧ (y : Int).tmod 5 = (n : Int) - 1 ∧ (y : Int) % 5 = (n : Int) - 1 ∧ 1 ≤ n ∧ n ≤ 5 ∧ y < 256 := by
  obtain ⟨y, hy, h⟩ := i64_and255 x
  refine ⟨y, y % 5 + 1, hy, ?_, by omega, by omega, by omega, h⟩
  rw [Int.tmod_eq_emod_of_nonneg (by omega)]
  omega

/-- Three documents' matrices in variables, and their rows. -/
structure G3 (w0 : World) (FS : List Nat) (w : World) (n k l o X1 X2 X3 g1 g2 g3 : Nat) (v1 v2 v3 : Value) (z1 z2 z3 : List Nat) : Prop where
  ls : LS w0 FS w
  t1 : LT FS w X1 n k v1
  t2 : LT FS w X2 k l v2
  t3 : LT FS w X3 l o v3
  r1 : LR FS w g1 0 z1
  r2 : LR FS w g2 0 z2
  r3 : LR FS w g3 0 z3
theorem G3.nxt {w0 : World} {FS : List Nat} {w w' : World} {n k l o X1 X2 X3 g1 g2 g3 : Nat} {v1 v2 v3 : Value} {z1 z2 z3 : List Nat} (h : G3 w0 FS w n k l o X1 X2 X3 g1 g2 g3 v1 v2 v3 z1 z2 z3) (m : Nxt FS w w') : G3 w0 FS w' n k l o X1 X2 X3 g1 g2 g3 v1 v2 v3 z1 z2 z3 :=
  ⟨h.ls.nxt m, h.t1.nxt m, h.t2.nxt m, h.t3.nxt m, h.r1.nxt m, h.r2.nxt m, h.r3.nxt m⟩
theorem G3.newF {w0 : World} {FS : List Nat} {w w' : World} {F n k l o X1 X2 X3 g1 g2 g3 : Nat} {v1 v2 v3 : Value} {z1 z2 z3 : List Nat} (h : G3 w0 FS w n k l o X1 X2 X3 g1 g2 g3 v1 v2 v3 z1 z2 z3) (m : NewF w w' F) : G3 w0 (F :: FS) w' n k l o X1 X2 X3 g1 g2 g3 v1 v2 v3 z1 z2 z3 :=
  ⟨h.ls.newF m, h.t1.newF m, h.t2.newF m, h.t3.newF m, h.r1.newF m, h.r2.newF m, h.r3.newF m⟩
theorem G3.start {w0 : World} {FS : List Nat} {w : World} {n k l o g1 g2 g3 : Nat} {v1 v2 v3 : Value} {z1 z2 z3 : List Nat} (h : LS w0 FS w) (r1 : LR FS w g1 0 z1) (r2 : LR FS w g2 0 z2) (r3 : LR FS w g3 0 z3) (t : TypeId) :
    G3 w0 FS (((w.alloc (.cells #[.int .i64 n, .int .i64 k, v1] t)).alloc (.cells #[.int .i64 k, .int .i64 l, v2] t)).alloc (.cells #[.int .i64 l, .int .i64 o, v3] t)) n k l o w.heap.size (w.heap.size + 1) (w.heap.size + 1 + 1) g1 g2 g3 v1 v2 v3 z1 z2 z3 := by
  have a1 := h.alloc (.cells #[.int .i64 n, .int .i64 k, v1] t)
  have h1 := h.nxt a1
  have t1 := LT.new h n k v1 t
  have a2 := h1.alloc (.cells #[.int .i64 k, .int .i64 l, v2] t)
  have h2 := h1.nxt a2
  have t2 := LT.new h1 k l v2 t
  have a3 := h2.alloc (.cells #[.int .i64 l, .int .i64 o, v3] t)
  have h3 := h2.nxt a3
  have t3 := LT.new h2 l o v3 t
  rw [show (w.alloc (.cells #[.int .i64 n, .int .i64 k, v1] t)).heap.size = w.heap.size + 1 by simp] at t2
  rw [show ((w.alloc (.cells #[.int .i64 n, .int .i64 k, v1] t)).alloc (.cells #[.int .i64 k, .int .i64 l, v2] t)).heap.size = w.heap.size + 1 + 1 by simp] at t3
  exact ⟨h3, (t1.nxt a2).nxt a3, t2.nxt a3, t3, ((r1.nxt a1).nxt a2).nxt a3, ((r2.nxt a1).nxt a2).nxt a3, ((r3.nxt a1).nxt a2).nxt a3⟩

theorem cellsL {w0 w : World} {FS : List Nat} {p q F r c : Nat} {z : List Nat} (h : LS w0 FS w) (hm : LM FS w p q F r c z) :
    Calls Try.prog 18 #[.pointer (some ⟨p, 0, none⟩)] w fun e w' => ∃ g cap, e = .returned (.slice (some ⟨g, 0, none⟩) (r * c) cap) ∧ LR FS w' g 0 z ∧ z.length = r * c ∧ Nxt FS w w' :=
  (cells_any p q F r c z w hm.mat).mono fun e w' ⟨g, cap, h1, h2, h3, h4, h5⟩ => ⟨g, cap, h1, ⟨h2, h4, h.lt h3⟩, hm.mat.len, h.nul h5⟩
theorem pickL {w0 w : World} {FS : List Nat} {p q F r c fr cap : Nat} {z : List Nat} (h : LS w0 FS w) (hm : LM FS w p q F r c z) (hfr : fr < r) (t : TypeId) :
    Calls Try.prog 19 #[.pointer (some ⟨p, 0, none⟩), .slice (some ⟨w.heap.size, 0, none⟩) 1 cap] (w.alloc (.cells #[.int .i64 fr] t))
      fun e w' => ∃ p3 q3, e = .returned (.tuple #[.pointer (some ⟨p3, 0, none⟩), .int .i64 0]) ∧ LM FS w' p3 q3 F 1 c (pickZ 1 c z fun _ => fr) ∧ Nxt FS w w' := by
  have a1 := h.alloc (.cells #[.int .i64 fr] t)
  have h1 := h.nxt a1
  have m1 := hm.nxt a1
  have hrow : RowI (w.alloc (.cells #[.int .i64 fr] t)) w.heap.size 0 1 (fun _ => (fr : Int)) := fun i hi => by
    obtain rfl : i = 0 := by omega
    exact World.cell?_alloc_new w _ _ 0
  exact (pick_good p q F r c w.heap.size 0 1 cap z (fun _ => fr) _ m1.mat (h1.fld F hm.F).lt hrow (by simp) (fun _ _ => hfr) (by omega) (by omega)).mono fun e w' ⟨p3, q3, e1, e2, e3, e4, e5⟩ => ⟨p3, q3, e1, ⟨e2, hm.F, h1.lt e4, h1.lt e5⟩, a1.trans (h1.nul e3)⟩

set_option maxRecDepth 100000 in
set_option maxHeartbeats 20000000 in
theorem groups_short (n0 k0 l0 o0 r0 : Int) (a b c : Option Addr) (la ca lb cb lc cc : Nat) (za zb zc : List Nat) (w : World) (ha : SlN w a la za) (hb : SlN w b lb zb) (hc : SlN w c lc zc)
    (l1 : la ≤ 60) (l2 : lb ≤ 60) (l3 : lc ≤ 60) :
    Calls Try.prog 4 #[.int .i64 n0, .int .i64 k0, .int .i64 l0, .int .i64 o0, .slice a la ca, .slice b lb cb, .slice c lc cc, .int .i64 r0] w fun e w' => e = .returned (.bool true) ∧ Below w.heap.size w w' := by
  have hnot : ∀ (x : Bool) (w : World), (Op.unary .not (.bool x)).run Try.prog w = .ok (.bool (!x)) w := fun _ _ => rfl
  obtain ⟨yn, n, hn, hn1, hn2, n1, n5, yn8⟩ := size5 n0
  obtain ⟨yk, k, hk, hk1, hk2, k1, k5, yk8⟩ := size5 k0
  obtain ⟨yl, l, hl, hl1, hl2, l1', l5, yl8⟩ := size5 l0
  obtain ⟨yo, o, ho, ho1, ho2, o1, o5, yo8⟩ := size5 o0
  obtain ⟨yr, hr, yr8⟩ := i64_and255 r0
  obtain ⟨fr, hf1, hf2, fr8⟩ : ∃ fr : Nat, (yr : Int).tmod (n : Int) = (fr : Int) ∧ (yr : Int) % (n : Int) = (fr : Int) ∧ fr < n := ⟨yr % n, by rw [Int.tmod_eq_emod_of_nonneg (by omega)]; rfl, rfl, Nat.mod_lt _ n1⟩
  have HA := hid ha
  have HB := hid hb
  have HC := hid hc
  clear ha hb hc
  go_enter Try.func4, Try.ntmps4
  go_wp2_with fail
  refine (make1L (LS.start w) n1 (by omega) k1 (by omega) HA.out).mono ?_
  rintro e w1 ⟨g1, cap1, rfl, r1, _, _, m1⟩
  have H1 := hid (And.intro ((LS.start w).nxt m1) (And.intro r1 (And.intro (HB.out.up m1.up fun _ _ h => (List.not_mem_nil h).elim) (HC.out.up m1.up fun _ _ h => (List.not_mem_nil h).elim))))
  clear r1 m1
  go_wp2_with fail
  refine (make1L H1.out.1 k1 (by omega) l1' (by omega) H1.out.2.2.1).mono ?_
  rintro e w2 ⟨g2, cap2, rfl, r2, _, _, m2⟩
  have H2 := hid (And.intro (H1.out.1.nxt m2) (And.intro (H1.out.2.1.nxt m2) (And.intro r2 (H1.out.2.2.2.up m2.up fun _ _ h => (List.not_mem_nil h).elim))))
  clear r2 m2 H1
  go_wp2_with fail
  refine (make1L H2.out.1 l1' (by omega) o1 (by omega) H2.out.2.2.2).mono ?_
  rintro e w3 ⟨g3, cap3, rfl, r3, _, _, m3⟩
  have H3 := hid (And.intro (H2.out.1.nxt m3) (And.intro (H2.out.2.1.nxt m3) (And.intro (H2.out.2.2.1.nxt m3) r3)))
  clear r3 m3 H2
  have HG := hid (G3.start (n := n) (k := k) (l := l) (o := o) (v1 := (.slice (some ⟨g1, 0, none⟩) (n * k) cap1)) (v2 := (.slice (some ⟨g2, 0, none⟩) (k * l) cap2)) (v3 := (.slice (some ⟨g3, 0, none⟩) (l * o) cap3)) H3.out.1 H3.out.2.1 H3.out.2.2.1 H3.out.2.2.2 35)
  obtain ⟨z1, Z1⟩ : ∃ x, x = tab (n * k) (mk1 za) := ⟨_, rfl⟩
  obtain ⟨z2, Z2⟩ : ∃ x, x = tab (k * l) (mk1 zb) := ⟨_, rfl⟩
  obtain ⟨z3, Z3⟩ : ∃ x, x = tab (l * o) (mk1 zc) := ⟨_, rfl⟩
  have L1 : Hid (z1.length = n * k) := by show _ = _; rw [Z1]; exact tab_length _ _
  have L2 : Hid (z2.length = k * l) := by show _ = _; rw [Z2]; exact tab_length _ _
  have L3 : Hid (z3.length = l * o) := by show _ = _; rw [Z3]; exact tab_length _ _
  rw [← Z1, ← Z2, ← Z3] at HG
  clear Z1 Z2 Z3 H3
  go_wp2_with fail
  generalize (((w3.alloc (.cells #[.int .i64 n, .int .i64 k, (.slice (some ⟨g1, 0, none⟩) (n * k) cap1)] 35)).alloc (.cells #[.int .i64 k, .int .i64 l, (.slice (some ⟨g2, 0, none⟩) (k * l) cap2)] 35)).alloc (.cells #[.int .i64 l, .int .i64 o, (.slice (some ⟨g3, 0, none⟩) (l * o) cap3)] 35)) = w4 at *
  generalize w3.heap.size + 1 + 1 = X3 at *
  generalize w3.heap.size + 1 = X2 at *
  generalize w3.heap.size = X1 at *
  have s2 := HG.out.t1.st.c2
  have HD : Hid (G3 w [] w4.drew n k l o X1 X2 X3 g1 g2 g3 (.slice (some ⟨g1, 0, none⟩) (n * k) cap1) (.slice (some ⟨g2, 0, none⟩) (k * l) cap2) (.slice (some ⟨g3, 0, none⟩) (l * o) cap3) z1 z2 z3) := HG.out.nxt HG.out.ls.drew
  go_region_held3 (fun w' => w'.cell? ⟨X1, 2, none⟩ = some (.slice (some ⟨g1, 0, none⟩) (n * k) cap1)) (first | assumption | go_keep)
    ((first
      | (go_at_call 9; (with_reducible refine (gfNewF _).mono ?_); rintro e w5 ⟨F1, rfl, m5⟩; have H5 := hid (HD.out.newF m5); have s3 := H5.out.t1.st.c2; clear m5)
      | (go_at_call 11; (with_reducible refine (newL H5.out.ls (List.mem_cons_self ..) n1 (by omega) k1 (by omega) H5.out.r1 L1.out rfl).mono ?_); rintro e w6 ⟨p1, q1, rfl, n6, m6⟩; have H6 := hid (And.intro (H5.out.nxt m6) n6); have s4 := H6.out.1.t1.st.c2; clear m6 n6)))
  clear s2 s3 s4 HG HD H5
  go_wp2_with fail
  have s2 := H6.out.1.t2.st.c2
  have HD : Hid (G3 w [F1] w6.drew n k l o X1 X2 X3 g1 g2 g3 (.slice (some ⟨g1, 0, none⟩) (n * k) cap1) (.slice (some ⟨g2, 0, none⟩) (k * l) cap2) (.slice (some ⟨g3, 0, none⟩) (l * o) cap3) z1 z2 z3 ∧ LM [F1] w6.drew p1 q1 F1 n k z1) := ⟨H6.out.1.nxt H6.out.1.ls.drew, H6.out.2.nxt H6.out.1.ls.drew⟩
  go_region_held3 (fun w' => w'.cell? ⟨X2, 2, none⟩ = some (.slice (some ⟨g2, 0, none⟩) (k * l) cap2)) (first | assumption | go_keep)
    ((first
      | (go_at_call 9; (with_reducible refine (gfNewF _).mono ?_); rintro e w7 ⟨F2, rfl, m7⟩; have H7 := hid (And.intro (HD.out.1.newF m7) (HD.out.2.newF m7)); have s3 := H7.out.1.t2.st.c2; clear m7)
      | (go_at_call 11; (with_reducible refine (newL H7.out.1.ls (List.mem_cons_self ..) k1 (by omega) l1' (by omega) H7.out.1.r2 L2.out rfl).mono ?_); rintro e w8 ⟨p2, q2, rfl, n8, m8⟩; have H8 := hid (And.intro (H7.out.1.nxt m8) (And.intro (H7.out.2.nxt m8) n8)); have s4 := H8.out.1.t2.st.c2; clear m8 n8)))
  clear s2 s3 s4 H6 HD H7
  go_wp2_with fail
  have s2 := H8.out.1.t3.st.c2
  have HD : Hid (G3 w [F2, F1] w8.drew n k l o X1 X2 X3 g1 g2 g3 (.slice (some ⟨g1, 0, none⟩) (n * k) cap1) (.slice (some ⟨g2, 0, none⟩) (k * l) cap2) (.slice (some ⟨g3, 0, none⟩) (l * o) cap3) z1 z2 z3 ∧ LM [F2, F1] w8.drew p1 q1 F1 n k z1 ∧ LM [F2, F1] w8.drew p2 q2 F2 k l z2) := ⟨H8.out.1.nxt H8.out.1.ls.drew, H8.out.2.1.nxt H8.out.1.ls.drew, H8.out.2.2.nxt H8.out.1.ls.drew⟩
  go_region_held3 (fun w' => w'.cell? ⟨X3, 2, none⟩ = some (.slice (some ⟨g3, 0, none⟩) (l * o) cap3)) (first | assumption | go_keep)
    ((first
      | (go_at_call 9; (with_reducible refine (gfNewF _).mono ?_); rintro e w9 ⟨F3, rfl, m9⟩; have H9 := hid (And.intro (HD.out.1.newF m9) (And.intro (HD.out.2.1.newF m9) (HD.out.2.2.newF m9))); have s3 := H9.out.1.t3.st.c2; clear m9)
      | (go_at_call 11; (with_reducible refine (newL H9.out.1.ls (List.mem_cons_self ..) l1' (by omega) o1 (by omega) H9.out.1.r3 L3.out rfl).mono ?_); rintro e w10 ⟨p3, q3, rfl, n10, m10⟩; have H10 := hid (And.intro (H9.out.1.ls.nxt m10) (And.intro (H9.out.2.1.nxt m10) (And.intro (H9.out.2.2.nxt m10) n10))); have s4 := (H9.out.1.nxt m10).t3.st.c2; clear m10 n10)))
  clear s2 s3 s4 H8 HD H9
  go_wp2_with fail
  refine (mulL H10.out.1 H10.out.2.1 H10.out.2.2.1).mono ?_
  rintro e w11 ⟨p4, q4, rfl, n11, m11⟩
  have H11 := hid (And.intro (H10.out.1.nxt m11) (And.intro (H10.out.2.1.nxt m11) (And.intro (H10.out.2.2.1.nxt m11) (And.intro (H10.out.2.2.2.nxt m11) n11))))
  clear m11 n11 H10
  go_wp2_with fail
  refine (mulL H11.out.1 H11.out.2.2.1 H11.out.2.2.2.1).mono ?_
  rintro e w12 ⟨p5, q5, rfl, n12, m12⟩
  have H12 := hid (And.intro (H11.out.1.nxt m12) (And.intro (H11.out.2.1.nxt m12) (And.intro (H11.out.2.2.1.nxt m12) (And.intro (H11.out.2.2.2.1.nxt m12) (And.intro (H11.out.2.2.2.2.nxt m12) n12)))))
  clear m12 n12 H11
  go_wp2_with fail
  refine (mulL H12.out.1 H12.out.2.2.2.2.1 H12.out.2.2.2.1).mono ?_
  rintro e w13 ⟨p6, q6, rfl, n13, m13⟩
  have H13 := hid (And.intro (H12.out.1.nxt m13) (And.intro (H12.out.2.1.nxt m13) (And.intro (H12.out.2.2.1.nxt m13) (And.intro (H12.out.2.2.2.2.1.nxt m13) (And.intro (H12.out.2.2.2.2.2.nxt m13) n13)))))
  clear m13 n13 H12
  go_wp2_with fail
  refine (mulL H13.out.1 H13.out.2.1 H13.out.2.2.2.2.1).mono ?_
  rintro e w14 ⟨p7, q7, rfl, n14, m14⟩
  rw [← prod_groups] at n14
  have H14 := hid (And.intro (H13.out.1.nxt m14) (And.intro (H13.out.2.1.nxt m14) (And.intro (H13.out.2.2.1.nxt m14) (And.intro (H13.out.2.2.2.1.nxt m14) (And.intro (H13.out.2.2.2.2.2.nxt m14) n14)))))
  clear m14 n14 H13
  obtain ⟨zs, ZS⟩ : ∃ x, x = prodZ n l o (prodZ n k l z1 z2) z3 := ⟨_, rfl⟩
  rw [← ZS] at H14
  clear ZS
  go_wp2_with fail
  have HK := hid (And.intro n1 (And.intro hr (And.intro hf1 (And.intro hf2 fr8))))
  clear hn hn1 hn2 n1 n5 yn8 hk hk1 hk2 k1 k5 yk8 hl hl1 hl2 l1' l5 yl8 ho ho1 ho2 o1 o5 yo8 hr yr8 hf1 hf2 fr8 l1 l2 l3 HA HB HC L1 L2 L3 hnot
  have HD : Hid (LS w [F3, F2, F1] w14.drew ∧ LM [F3, F2, F1] w14.drew p6 q6 F1 n o zs ∧ LM [F3, F2, F1] w14.drew p7 q7 F1 n o zs) := ⟨H14.out.1.nxt H14.out.1.drew, H14.out.2.2.2.2.1.nxt H14.out.1.drew, H14.out.2.2.2.2.2.nxt H14.out.1.drew⟩
  refine wp_region_held_drew (S := (fun _ => True)) (by kernel_rfl) (by exact trivial) (fun hHeld => ?_)
  refine wpAnyH_take (i := 0) (oi := ⟨some 169, _, _, _, _, _⟩) (v := ?va1) rfl (by kernel_rfl) (by kernel_rfl) (by kernel_rfl) (fun _ _ _ h => h) (Or.inl ⟨by rfl, ?ya1⟩) (by assumption) ?ra1
  case ya1 => (intro w hSw; (try dsimp only at hSw); go_simp; try with_reducible rfl)
  try simp only [Act.put, List.setIfInBounds_toArray, List.set_cons_zero, List.set_cons_succ]
  refine wpAnyH_take (i := 1) (oi := ⟨some 170, _, _, _, _, _⟩) (v := ?va2) rfl (by kernel_rfl) (by kernel_rfl) (by kernel_rfl) (fun _ _ _ h => h) (Or.inl ⟨by rfl, ?ya2⟩) (by assumption) ?ra2
  case ya2 => (intro w hSw; (try dsimp only at hSw); go_simp; try with_reducible rfl)
  try simp only [Act.put, List.setIfInBounds_toArray, List.set_cons_zero, List.set_cons_succ]
  refine wpAnyH_take (i := 2) (oi := ⟨some 171, _, _, _, _, _⟩) (v := ?va3) rfl (by kernel_rfl) (by kernel_rfl) (by kernel_rfl) (fun _ _ _ h => h) (Or.inl ⟨by rfl, ?ya3⟩) (by assumption) ?ra3
  case ya3 => (intro w hSw; (try dsimp only at hSw); go_simp; try with_reducible rfl)
  try simp only [Act.put, List.setIfInBounds_toArray, List.set_cons_zero, List.set_cons_succ]
  refine wpAnyH_take (i := 3) (oi := ⟨some 172, _, _, _, _, _⟩) (v := ?va4) rfl (by kernel_rfl) (by kernel_rfl) (by kernel_rfl) (fun _ _ _ h => h) (Or.inl ⟨by rfl, ?ya4⟩) (by assumption) ?ra4
  case ya4 => (intro w hSw; (try dsimp only at hSw); go_simp; try with_reducible rfl)
  try simp only [Act.put, List.setIfInBounds_toArray, List.set_cons_zero, List.set_cons_succ]
  refine wpAnyH_take (i := 4) (oi := ⟨some 173, _, _, _, _, _⟩) (v := ?va5) rfl (by kernel_rfl) (by kernel_rfl) (by kernel_rfl) (fun _ _ _ h => h) (Or.inl ⟨by rfl, ?ya5⟩) (by assumption) ?ra5
  case ya5 => (intro w hSw; (try dsimp only at hSw); go_simp; try with_reducible rfl)
  try simp only [Act.put, List.setIfInBounds_toArray, List.set_cons_zero, List.set_cons_succ]
  refine wpAnyH_take (i := 5) (oi := ⟨some 174, _, _, _, _, _⟩) (v := ?va6) rfl (by kernel_rfl) (by kernel_rfl) (by kernel_rfl) (fun _ _ _ h => h) (Or.inl ⟨by rfl, ?ya6⟩) (by assumption) ?ra6
  case ya6 => (intro w hSw; (try dsimp only at hSw); go_simp; try with_reducible rfl)
  try simp only [Act.put, List.setIfInBounds_toArray, List.set_cons_zero, List.set_cons_succ]
  refine wpAnyH_take (i := 6) (oi := ⟨some 175, _, _, _, _, _⟩) (v := ?va7) rfl (by kernel_rfl) (by kernel_rfl) (by kernel_rfl) (fun _ _ _ h => h) (Or.inl ⟨by rfl, ?ya7⟩) (by assumption) ?ra7
  case ya7 => (intro w hSw; (try dsimp only at hSw); go_simp; try with_reducible rfl)
  try simp only [Act.put, List.setIfInBounds_toArray, List.set_cons_zero, List.set_cons_succ]
  refine wpAnyH_take (i := 7) (oi := ⟨some 176, _, _, _, _, _⟩) (v := ?va8) rfl (by kernel_rfl) (by kernel_rfl) (by kernel_rfl) (fun _ _ _ h => h) (Or.inl ⟨by rfl, ?ya8⟩) (by assumption) ?ra8
  case ya8 => (intro w hSw; (try dsimp only at hSw); go_simp; try with_reducible rfl)
  try simp only [Act.put, List.setIfInBounds_toArray, List.set_cons_zero, List.set_cons_succ]
  refine wpAnyH_take (i := 8) (oi := ⟨some 177, _, _, _, _, _⟩) (v := ?va9) rfl (by kernel_rfl) (by kernel_rfl) (by kernel_rfl) (fun _ _ _ h => h) (Or.inl ⟨by rfl, ?ya9⟩) (by assumption) ?ra9
  case ya9 => (intro w hSw; (try dsimp only at hSw); go_simp; try with_reducible rfl)
  try simp only [Act.put, List.setIfInBounds_toArray, List.set_cons_zero, List.set_cons_succ]
  refine wpAnyH_take (i := 9) (oi := ⟨some 178, _, _, _, _, _⟩) (v := ?va10) rfl (by kernel_rfl) (by kernel_rfl) (by kernel_rfl) (fun _ _ _ h => h) (Or.inl ⟨by rfl, ?ya10⟩) (by assumption) ?ra10
  case ya10 => (intro w hSw; (try dsimp only at hSw); go_simp; try with_reducible rfl)
  try simp only [Act.put, List.setIfInBounds_toArray, List.set_cons_zero, List.set_cons_succ]
  refine wpAnyH_take (i := 10) (oi := ⟨some 179, _, _, _, _, _⟩) (v := ?va11) rfl (by kernel_rfl) (by kernel_rfl) (by kernel_rfl) (fun _ _ _ h => h) (Or.inl ⟨by rfl, ?ya11⟩) (by assumption) ?ra11
  case ya11 => (intro w hSw; (try dsimp only at hSw); go_simp; try with_reducible rfl)
  try simp only [Act.put, List.setIfInBounds_toArray, List.set_cons_zero, List.set_cons_succ]
  refine wpAnyH_take (i := 11) (oi := ⟨some 180, _, _, _, _, _⟩) (v := ?va12) rfl (by kernel_rfl) (by kernel_rfl) (by kernel_rfl) (fun _ _ _ h => h) (Or.inl ⟨by rfl, ?ya12⟩) (by assumption) ?ra12
  case ya12 => (intro w hSw; (try dsimp only at hSw); go_simp; try with_reducible rfl)
  try simp only [Act.put, List.setIfInBounds_toArray, List.set_cons_zero, List.set_cons_succ]
  refine wpAnyH_take (i := 12) (oi := ⟨some 181, _, _, _, _, _⟩) (v := ?va13) rfl (by kernel_rfl) (by kernel_rfl) (by kernel_rfl) (fun _ _ _ h => h) (Or.inl ⟨by rfl, ?ya13⟩) (by assumption) ?ra13
  case ya13 => (intro w hSw; (try dsimp only at hSw); go_simp; try with_reducible rfl)
  try simp only [Act.put, List.setIfInBounds_toArray, List.set_cons_zero, List.set_cons_succ]
  refine wpAnyH_take (i := 13) (oi := ⟨some 182, _, _, _, _, _⟩) (v := ?va14) rfl (by kernel_rfl) (by kernel_rfl) (by kernel_rfl) (fun _ _ _ h => h) (Or.inl ⟨by rfl, ?ya14⟩) (by assumption) ?ra14
  case ya14 => (intro w hSw; (try dsimp only at hSw); go_simp; try with_reducible rfl)
  try simp only [Act.put, List.setIfInBounds_toArray, List.set_cons_zero, List.set_cons_succ]
  refine wpAnyH_take (i := 14) (oi := ⟨some 183, _, _, _, _, _⟩) (v := ?va15) rfl (by kernel_rfl) (by kernel_rfl) (by kernel_rfl) (fun _ _ _ h => h) (Or.inl ⟨by rfl, ?ya15⟩) (by assumption) ?ra15
  case ya15 => (intro w hSw; (try dsimp only at hSw); go_simp; try with_reducible rfl)
  try simp only [Act.put, List.setIfInBounds_toArray, List.set_cons_zero, List.set_cons_succ]
  refine wpAnyH_take (i := 15) (oi := ⟨some 184, _, _, _, _, _⟩) (v := ?va16) rfl (by kernel_rfl) (by kernel_rfl) (by kernel_rfl) (fun _ _ _ h => h) (Or.inl ⟨by rfl, ?ya16⟩) (by assumption) ?ra16
  case ya16 => (intro w hSw; (try dsimp only at hSw); go_simp; try with_reducible rfl)
  try simp only [Act.put, List.setIfInBounds_toArray, List.set_cons_zero, List.set_cons_succ]
  refine wpAnyH_take (i := 18) (oi := ⟨some 187, _, _, _, _, _⟩) (v := ?va17) rfl (by kernel_rfl) (by kernel_rfl) (by kernel_rfl) (fun _ _ _ h => h) (Or.inl ⟨by rfl, ?ya17⟩) (by assumption) ?ra17
  case ya17 => (intro w hSw; (try dsimp only at hSw); go_simp; try with_reducible rfl)
  try simp only [Act.put, List.setIfInBounds_toArray, List.set_cons_zero, List.set_cons_succ]
  refine wpAnyH_ready (rs := [16]) (by kernel_rfl) (by simp) ?_
  refine AllReadyH.cons (o := ⟨some 185, _, _, _, _, _⟩) rfl (fun K hK => ?_) AllReadyH.nil
  go_simp
  go_wp2_with (go_at_call 18; (with_reducible refine (cellsL HD.out.1 HD.out.2.1).mono ?_); rintro e w15 ⟨ga, capa, rfl, ra, la2, ma⟩)
  refine hK.out _ _ ?ka18 (fun hHeld => ?_)
  case ka18 => exact trivial
  clear hK K
  try simp only [Act.put, List.setIfInBounds_toArray, List.set_cons_zero, List.set_cons_succ]
  have hHelda19 : ((fun w' : World => (convert 24 9 (.slice (some ⟨ga, 0, none⟩) (n * o) capa)).run Try.prog w' = .ok (.string (strOf zs)) w')) _ := conv_row ra.row la2
  refine wpAnyH_sub (S := (fun w' : World => (convert 24 9 (.slice (some ⟨ga, 0, none⟩) (n * o) capa)).run Try.prog w' = .ok (.string (strOf zs)) w')) (fun _ _ => trivial) ?_
  refine wpAnyH_take (i := 17) (oi := ⟨some 186, _, _, _, _, _⟩) (v := ?va20) rfl (by kernel_rfl) (by kernel_rfl) (by kernel_rfl) (fun _ _ _ h => h) (Or.inl ⟨by rfl, ?ya20⟩) (by assumption) ?ra20
  case ya20 => (intro w hSw; (try dsimp only at hSw); go_simp; try with_reducible rfl)
  try simp only [Act.put, List.setIfInBounds_toArray, List.set_cons_zero, List.set_cons_succ]
  refine wpAnyH_ready (rs := [19]) (by kernel_rfl) (by simp) ?_
  refine AllReadyH.cons (o := ⟨some 188, _, _, _, _, _⟩) rfl (fun K hK => ?_) AllReadyH.nil
  go_simp
  go_wp2_with (go_at_call 18; (with_reducible refine (cellsL (HD.out.1.nxt ma) (HD.out.2.2.nxt ma)).mono ?_); rintro e w16 ⟨gb, capb, rfl, rb, lb2, mb⟩)
  refine hK.out _ _ ?ka21 (fun hHeld => ?_)
  case ka21 => exact conv_row (ra.nxt mb).row la2
  clear hK K
  try simp only [Act.put, List.setIfInBounds_toArray, List.set_cons_zero, List.set_cons_succ]
  have hHelda22 : ((fun w' : World => (convert 24 9 (.slice (some ⟨ga, 0, none⟩) (n * o) capa)).run Try.prog w' = .ok (.string (strOf zs)) w' ∧ (convert 24 9 (.slice (some ⟨gb, 0, none⟩) (n * o) capb)).run Try.prog w' = .ok (.string (strOf zs)) w')) _ := ⟨conv_row (ra.nxt mb).row la2, conv_row rb.row lb2⟩
  refine wpAnyH_sub (S := (fun w' : World => (convert 24 9 (.slice (some ⟨ga, 0, none⟩) (n * o) capa)).run Try.prog w' = .ok (.string (strOf zs)) w' ∧ (convert 24 9 (.slice (some ⟨gb, 0, none⟩) (n * o) capb)).run Try.prog w' = .ok (.string (strOf zs)) w')) (fun _ h => h.1) ?_
  refine wpAnyH_take (i := 20) (oi := ⟨some 189, _, _, _, _, _⟩) (v := ?va23) rfl (by kernel_rfl) (by kernel_rfl) (by kernel_rfl) (fun _ _ _ h => h) (Or.inl ⟨by rfl, ?ya23⟩) (by assumption) ?ra23
  case ya23 => (intro w hSw; (try dsimp only at hSw); go_simp; try with_reducible rfl)
  try simp only [Act.put, List.setIfInBounds_toArray, List.set_cons_zero, List.set_cons_succ]
  refine wpAnyH_take (i := 21) (oi := ⟨some 190, _, _, _, _, _⟩) (v := ?va24) rfl (by kernel_rfl) (by kernel_rfl) (by kernel_rfl) (fun _ _ _ h => h) (Or.inl ⟨by rfl, ?ya24⟩) (by assumption) ?ra24
  case ya24 => (intro w hSw; (try dsimp only at hSw); go_simp; try with_reducible rfl)
  try simp only [Act.put, List.setIfInBounds_toArray, List.set_cons_zero, List.set_cons_succ]
  refine wpAnyH_take (i := 22) (oi := ⟨some 191, _, _, _, _, _⟩) (v := ?va25) rfl (by kernel_rfl) (by kernel_rfl) (by kernel_rfl) (fun _ _ _ h => h) (Or.inl ⟨by rfl, ?ya25⟩) (by assumption) ?ra25
  case ya25 => (intro w hSw; (try dsimp only at hSw); go_simp; try with_reducible rfl)
  try simp only [Act.put, List.setIfInBounds_toArray, List.set_cons_zero, List.set_cons_succ]
  refine wpAnyH_done (by kernel_rfl) ?_ _
  obtain ⟨n1, hr, hf1, hf2, fr8⟩ := HK.out
  have D16 := hid (H14.out.1.drew.trans (ma.trans mb))
  have H16 := hid (And.intro (H14.out.1.nxt D16.out) (And.intro (H14.out.2.1.nxt D16.out) (And.intro (H14.out.2.2.1.nxt D16.out) (H14.out.2.2.2.1.nxt D16.out))))
  clear H14 HD D16 ma mb ra rb la2 lb2 hHelda19 hHelda22 hHeld
  go_wp2_with fail
  refine (pickL H16.out.1 H16.out.2.1 fr8 _).mono ?_
  rintro e w17 ⟨p8, q8, rfl, m17, n17⟩
  have H17 := hid (And.intro (H16.out.1.nxt n17) (And.intro (H16.out.2.2.1.nxt n17) (And.intro (H16.out.2.2.2.nxt n17) m17)))
  clear m17 n17 H16
  go_wp2_with fail
  refine (pickL H17.out.1 H17.out.2.2.1 fr8 _).mono ?_
  rintro e w18 ⟨p9, q9, rfl, m18, n18⟩
  have H18 := hid (And.intro (H17.out.1.nxt n18) (And.intro (H17.out.2.1.nxt n18) (And.intro (H17.out.2.2.2.nxt n18) m18)))
  clear m18 n18 H17
  go_wp2_with fail
  refine (mulL H18.out.1 H18.out.2.2.1 H18.out.2.1).mono ?_
  rintro e w19 ⟨p10, q10, rfl, m19, n19⟩
  rw [prod_pick n k l z1 z2 (fun _ => fr) fr8] at m19
  have H19 := hid (And.intro (H18.out.1.nxt n19) (And.intro (H18.out.2.2.2.nxt n19) m19))
  clear m19 n19 H18
  obtain ⟨zp, ZP⟩ : ∃ x, x = pickZ 1 l (prodZ n k l z1 z2) (fun _ => fr) := ⟨_, rfl⟩
  rw [← ZP] at H19
  clear ZP
  go_wp2_with fail
  have HD : Hid (LS w [F3, F2, F1] w19.drew ∧ LM [F3, F2, F1] w19.drew p9 q9 F1 1 l zp ∧ LM [F3, F2, F1] w19.drew p10 q10 F1 1 l zp) := ⟨H19.out.1.nxt H19.out.1.drew, H19.out.2.1.nxt H19.out.1.drew, H19.out.2.2.nxt H19.out.1.drew⟩
  clear H19 HK n1 hr hf1 hf2 fr8
  refine wp_region_held_drew (S := (fun _ => True)) (by kernel_rfl) (by exact trivial) (fun hHeld => ?_)
  refine wpAnyH_take (i := 0) (oi := ⟨some 232, _, _, _, _, _⟩) (v := ?vb1) rfl (by kernel_rfl) (by kernel_rfl) (by kernel_rfl) (fun _ _ _ h => h) (Or.inl ⟨by rfl, ?yb1⟩) (by assumption) ?rb1
  case yb1 => (intro w hSw; (try dsimp only at hSw); go_simp; try with_reducible rfl)
  try simp only [Act.put, List.setIfInBounds_toArray, List.set_cons_zero, List.set_cons_succ]
  refine wpAnyH_take (i := 1) (oi := ⟨some 233, _, _, _, _, _⟩) (v := ?vb2) rfl (by kernel_rfl) (by kernel_rfl) (by kernel_rfl) (fun _ _ _ h => h) (Or.inl ⟨by rfl, ?yb2⟩) (by assumption) ?rb2
  case yb2 => (intro w hSw; (try dsimp only at hSw); go_simp; try with_reducible rfl)
  try simp only [Act.put, List.setIfInBounds_toArray, List.set_cons_zero, List.set_cons_succ]
  refine wpAnyH_take (i := 2) (oi := ⟨some 234, _, _, _, _, _⟩) (v := ?vb3) rfl (by kernel_rfl) (by kernel_rfl) (by kernel_rfl) (fun _ _ _ h => h) (Or.inl ⟨by rfl, ?yb3⟩) (by assumption) ?rb3
  case yb3 => (intro w hSw; (try dsimp only at hSw); go_simp; try with_reducible rfl)
  try simp only [Act.put, List.setIfInBounds_toArray, List.set_cons_zero, List.set_cons_succ]
  refine wpAnyH_take (i := 3) (oi := ⟨some 235, _, _, _, _, _⟩) (v := ?vb4) rfl (by kernel_rfl) (by kernel_rfl) (by kernel_rfl) (fun _ _ _ h => h) (Or.inl ⟨by rfl, ?yb4⟩) (by assumption) ?rb4
  case yb4 => (intro w hSw; (try dsimp only at hSw); go_simp; try with_reducible rfl)
  try simp only [Act.put, List.setIfInBounds_toArray, List.set_cons_zero, List.set_cons_succ]
  refine wpAnyH_take (i := 4) (oi := ⟨some 236, _, _, _, _, _⟩) (v := ?vb5) rfl (by kernel_rfl) (by kernel_rfl) (by kernel_rfl) (fun _ _ _ h => h) (Or.inl ⟨by rfl, ?yb5⟩) (by assumption) ?rb5
  case yb5 => (intro w hSw; (try dsimp only at hSw); go_simp; try with_reducible rfl)
  try simp only [Act.put, List.setIfInBounds_toArray, List.set_cons_zero, List.set_cons_succ]
  refine wpAnyH_take (i := 5) (oi := ⟨some 237, _, _, _, _, _⟩) (v := ?vb6) rfl (by kernel_rfl) (by kernel_rfl) (by kernel_rfl) (fun _ _ _ h => h) (Or.inl ⟨by rfl, ?yb6⟩) (by assumption) ?rb6
  case yb6 => (intro w hSw; (try dsimp only at hSw); go_simp; try with_reducible rfl)
  try simp only [Act.put, List.setIfInBounds_toArray, List.set_cons_zero, List.set_cons_succ]
  refine wpAnyH_take (i := 6) (oi := ⟨some 238, _, _, _, _, _⟩) (v := ?vb7) rfl (by kernel_rfl) (by kernel_rfl) (by kernel_rfl) (fun _ _ _ h => h) (Or.inl ⟨by rfl, ?yb7⟩) (by assumption) ?rb7
  case yb7 => (intro w hSw; (try dsimp only at hSw); go_simp; try with_reducible rfl)
  try simp only [Act.put, List.setIfInBounds_toArray, List.set_cons_zero, List.set_cons_succ]
  refine wpAnyH_take (i := 7) (oi := ⟨some 239, _, _, _, _, _⟩) (v := ?vb8) rfl (by kernel_rfl) (by kernel_rfl) (by kernel_rfl) (fun _ _ _ h => h) (Or.inl ⟨by rfl, ?yb8⟩) (by assumption) ?rb8
  case yb8 => (intro w hSw; (try dsimp only at hSw); go_simp; try with_reducible rfl)
  try simp only [Act.put, List.setIfInBounds_toArray, List.set_cons_zero, List.set_cons_succ]
  refine wpAnyH_take (i := 10) (oi := ⟨some 242, _, _, _, _, _⟩) (v := ?vb9) rfl (by kernel_rfl) (by kernel_rfl) (by kernel_rfl) (fun _ _ _ h => h) (Or.inl ⟨by rfl, ?yb9⟩) (by assumption) ?rb9
  case yb9 => (intro w hSw; (try dsimp only at hSw); go_simp; try with_reducible rfl)
  try simp only [Act.put, List.setIfInBounds_toArray, List.set_cons_zero, List.set_cons_succ]
  refine wpAnyH_ready (rs := [8]) (by kernel_rfl) (by simp) ?_
  refine AllReadyH.cons (o := ⟨some 240, _, _, _, _, _⟩) rfl (fun K hK => ?_) AllReadyH.nil
  go_simp
  go_wp2_with (go_at_call 18; (with_reducible refine (cellsL HD.out.1 HD.out.2.2).mono ?_); rintro e w20 ⟨gc, capc, rfl, rc, lc2, mc⟩)
  refine hK.out _ _ ?kb10 (fun hHeld => ?_)
  case kb10 => exact trivial
  clear hK K
  try simp only [Act.put, List.setIfInBounds_toArray, List.set_cons_zero, List.set_cons_succ]
  have hHeldb11 : ((fun w' : World => (convert 24 9 (.slice (some ⟨gc, 0, none⟩) l capc)).run Try.prog w' = .ok (.string (strOf zp)) w')) _ := conv_row rc.row (lc2.trans (Nat.one_mul _))
  refine wpAnyH_sub (S := (fun w' : World => (convert 24 9 (.slice (some ⟨gc, 0, none⟩) l capc)).run Try.prog w' = .ok (.string (strOf zp)) w')) (fun _ _ => trivial) ?_
  refine wpAnyH_take (i := 9) (oi := ⟨some 241, _, _, _, _, _⟩) (v := ?vb12) rfl (by kernel_rfl) (by kernel_rfl) (by kernel_rfl) (fun _ _ _ h => h) (Or.inl ⟨by rfl, ?yb12⟩) (by assumption) ?rb12
  case yb12 => (intro w hSw; (try dsimp only at hSw); go_simp; try with_reducible rfl)
  try simp only [Act.put, List.setIfInBounds_toArray, List.set_cons_zero, List.set_cons_succ]
  refine wpAnyH_ready (rs := [11]) (by kernel_rfl) (by simp) ?_
  refine AllReadyH.cons (o := ⟨some 243, _, _, _, _, _⟩) rfl (fun K hK => ?_) AllReadyH.nil
  go_simp
  go_wp2_with (go_at_call 18; (with_reducible refine (cellsL (HD.out.1.nxt mc) (HD.out.2.1.nxt mc)).mono ?_); rintro e w21 ⟨gd, capd, rfl, rd, ld2, md⟩)
  refine hK.out _ _ ?kb13 (fun hHeld => ?_)
  case kb13 => exact conv_row (rc.nxt md).row (lc2.trans (Nat.one_mul _))
  clear hK K
  try simp only [Act.put, List.setIfInBounds_toArray, List.set_cons_zero, List.set_cons_succ]
  have hHeldb14 : ((fun w' : World => (convert 24 9 (.slice (some ⟨gc, 0, none⟩) l capc)).run Try.prog w' = .ok (.string (strOf zp)) w' ∧ (convert 24 9 (.slice (some ⟨gd, 0, none⟩) l capd)).run Try.prog w' = .ok (.string (strOf zp)) w')) _ := ⟨conv_row (rc.nxt md).row (lc2.trans (Nat.one_mul _)), conv_row rd.row (ld2.trans (Nat.one_mul _))⟩
  refine wpAnyH_sub (S := (fun w' : World => (convert 24 9 (.slice (some ⟨gc, 0, none⟩) l capc)).run Try.prog w' = .ok (.string (strOf zp)) w' ∧ (convert 24 9 (.slice (some ⟨gd, 0, none⟩) l capd)).run Try.prog w' = .ok (.string (strOf zp)) w')) (fun _ h => h.1) ?_
  refine wpAnyH_take (i := 12) (oi := ⟨some 244, _, _, _, _, _⟩) (v := ?vb15) rfl (by kernel_rfl) (by kernel_rfl) (by kernel_rfl) (fun _ _ _ h => h) (Or.inl ⟨by rfl, ?yb15⟩) (by assumption) ?rb15
  case yb15 => (intro w hSw; (try dsimp only at hSw); go_simp; try with_reducible rfl)
  try simp only [Act.put, List.setIfInBounds_toArray, List.set_cons_zero, List.set_cons_succ]
  refine wpAnyH_take (i := 13) (oi := ⟨some 245, _, _, _, _, _⟩) (v := ?vb16) rfl (by kernel_rfl) (by kernel_rfl) (by kernel_rfl) (fun _ _ _ h => h) (Or.inl ⟨by rfl, ?yb16⟩) (by assumption) ?rb16
  case yb16 => (intro w hSw; (try dsimp only at hSw); go_simp; try with_reducible rfl)
  try simp only [Act.put, List.setIfInBounds_toArray, List.set_cons_zero, List.set_cons_succ]
  refine wpAnyH_take (i := 14) (oi := ⟨some 246, _, _, _, _, _⟩) (v := ?vb17) rfl (by kernel_rfl) (by kernel_rfl) (by kernel_rfl) (fun _ _ _ h => h) (Or.inl ⟨by rfl, ?yb17⟩) (by assumption) ?rb17
  case yb17 => (intro w hSw; (try dsimp only at hSw); go_simp; try with_reducible rfl)
  try simp only [Act.put, List.setIfInBounds_toArray, List.set_cons_zero, List.set_cons_succ]
  refine wpAnyH_take (i := 15) (oi := ⟨some 247, _, _, _, _, _⟩) (v := ?vb18) rfl (by kernel_rfl) (by kernel_rfl) (by kernel_rfl) (fun _ _ _ h => h) (Or.inl ⟨by rfl, ?yb18⟩) (by assumption) ?rb18
  case yb18 => (intro w hSw; (try dsimp only at hSw); go_simp; try with_reducible rfl)
  try simp only [Act.put, List.setIfInBounds_toArray, List.set_cons_zero, List.set_cons_succ]
  refine wpAnyH_ready (rs := [16]) (by kernel_rfl) (by simp) ?_
  refine AllReadyH.cons (o := ⟨some 248, _, _, _, _, _⟩) rfl (fun K hK => ?_) AllReadyH.nil
  go_simp
  go_wp2_with (go_at_call 16; (with_reducible refine (awakeL ((HD.out.1.nxt mc).nxt md)).mono ?_); rintro e w22 ⟨rfl, me⟩)
  refine hK.out _ _ ?kb19 (fun hHeld => ?_)
  case kb19 => exact ⟨conv_row ((rc.nxt md).nxt me).row (lc2.trans (Nat.one_mul _)), conv_row (rd.nxt me).row (ld2.trans (Nat.one_mul _))⟩
  clear hK K
  try simp only [Act.put, List.setIfInBounds_toArray, List.set_cons_zero, List.set_cons_succ]
  refine wpAnyH_take (i := 17) (oi := ⟨some 249, _, _, _, _, _⟩) (v := ?vb20) rfl (by kernel_rfl) (by kernel_rfl) (by kernel_rfl) (fun _ _ _ h => h) (Or.inl ⟨by rfl, ?yb20⟩) (by assumption) ?rb20
  case yb20 => (intro w hSw; (try dsimp only at hSw); go_simp; try with_reducible rfl)
  try simp only [Act.put, List.setIfInBounds_toArray, List.set_cons_zero, List.set_cons_succ]
  refine wpAnyH_take (i := 18) (oi := ⟨some 16, _, _, _, _, _⟩) (v := ?vb21) rfl (by kernel_rfl) (by kernel_rfl) (by kernel_rfl) (fun _ _ _ h => h) (Or.inl ⟨by rfl, ?yb21⟩) (by assumption) ?rb21
  case yb21 => (intro w hSw; (try dsimp only at hSw); go_simp; try with_reducible rfl)
  try simp only [Act.put, List.setIfInBounds_toArray, List.set_cons_zero, List.set_cons_succ]
  refine wpAnyH_done (by kernel_rfl) ?_ _
  have HE := hid (((HD.out.1.nxt mc).nxt md).nxt me)
  clear mc md me rc rd lc2 ld2 HD
  go_wp2
  go_ret
  exact ⟨rfl, HE.out.below⟩
theorem groups_walk (a0 a1 a2 a3 : Int) (a4 : Option Addr) (len4 cap4 : Nat) (z4 : List Int) (a5 : Option Addr) (len5 cap5 : Nat) (z5 : List Int) (a6 : Option Addr) (len6 cap6 : Nat) (z6 : List Int) (a7 : Int) (w : World) (w4 : CameIn w a4 len4 cap4 z4) (w5 : CameIn w a5 len5 cap5 z5) (w6 : CameIn w a6 len6 cap6 z6) :
    Calls Try.prog 4 #[.int .i64 a0, .int .i64 a1, .int .i64 a2, .int .i64 a3, .slice a4 len4 cap4, .slice a5 len5 cap5, .slice a6 len6 cap6, .int .i64 a7] w fun e w' => e = .returned (.bool true) ∧ Below w.heap.size w w' := by
  by_cases h : 60 < len4 ∨ 60 < len5 ∨ 60 < len6
  · exact groups_long a0 a1 a2 a3 a7 a4 a5 a6 len4 cap4 len5 cap5 len6 cap6 w h
  · obtain ⟨y4, h4⟩ := SlN.of w4
    obtain ⟨y5, h5⟩ := SlN.of w5
    obtain ⟨y6, h6⟩ := SlN.of w6
    exact groups_short a0 a1 a2 a3 a7 a4 a5 a6 len4 cap4 len5 cap5 len6 cap6 y4 y5 y6 w h4 h5 h6 (by omega) (by omega) (by omega)
end Go.Proofs.Ytoibfpcobhopeaa
