/- 'Check', 'Rebuild' of a Code. -/
import Derived.Test.YtebglmfdchfplaaCodeDecode
namespace Go.Proofs.Ytebglmfdchfplaa
open Go.RowKit
set_option linter.unusedVariables false

theorem strOf_inj {y z : List Nat} (hy : ∀ i, y.getD i 0 < 256) (hz : ∀ i, z.getD i 0 < 256) (h : strOf y = strOf z) : y = z := by
  rw [← nums_strOf hy, ← nums_strOf hz, h]
theorem bytes_inj {a b : ByteArray} (h : a.toList = b.toList) : a = b := by
  rw [ByteArray.toList_eq, ByteArray.toList_eq] at h
  exact ByteArray.ext (Array.toList_inj.1 h)
theorem equal_any (b1 o1 n1 c1 b2 o2 n2 c2 : Nat) (y z : List Nat) (w : World) (r1 : Row w b1 o1 y) (r2 : Row w b2 o2 z) (l1 : y.length = n1) (l2 : z.length = n2) :
    Calls Try.prog 39 #[.slice (some ⟨b1, o1, none⟩) n1 c1, .slice (some ⟨b2, o2, none⟩) n2 c2] w fun e w' => e = .returned (.bool ((strOf y).toList == (strOf z).toList)) ∧ w' = w := by
  have e1 := conv_row (cap := c1) r1 l1
  have e2 := conv_row (cap := c2) r2 l2
  go_enter Try.func39, Try.ntmps39
  go_wp2
  go_ret
  exact ⟨rfl, rfl⟩
theorem equal_post (b1 o1 n1 c1 b2 o2 n2 c2 : Nat) (y z : List Nat) (w : World) (r1 : Row w b1 o1 y) (r2 : Row w b2 o2 z) (l1 : y.length = n1) (l2 : z.length = n2) :
    Calls Try.prog 39 #[.slice (some ⟨b1, o1, none⟩) n1 c1, .slice (some ⟨b2, o2, none⟩) n2 c2] w fun e w' => ((e = .returned (.bool true) ∧ y = z) ∨ (e = .returned (.bool false) ∧ y ≠ z)) ∧ w' = w := by
  refine (equal_any b1 o1 n1 c1 b2 o2 n2 c2 y z w r1 r2 l1 l2).mono ?_
  rintro e w' ⟨rfl, h⟩
  refine ⟨?_, h⟩
  by_cases hyz : y = z
  · exact .inl ⟨by rw [hyz]; simp, hyz⟩
  · refine .inr ⟨?_, hyz⟩
    have : ((strOf y).toList == (strOf z).toList) = false := by
      rw [beq_eq_false_iff_ne]
      exact fun e => hyz (strOf_inj r1.small r2.small (bytes_inj e))
    rw [this]

set_option maxHeartbeats 800000 in
theorem eqf_any (FS : List Nat) (w : World) (g1 o1 g2 o2 n c1 c2 : Nat) (A B : Nat → List Nat) (h1 : LL FS w g1 o1 n fun i => some (A i)) (h2 : LL FS w g2 o2 n fun i => some (B i)) (hn : n ≤ 1000) :
    Calls Try.prog 38 #[.slice (some ⟨g1, o1, none⟩) n c1, .slice (some ⟨g2, o2, none⟩) n c2, .func (.func 39) #[] #[]] w
      fun e w' => ((e = .returned (.bool true) ∧ ∀ i, i < n → A i = B i) ∨ (e = .returned (.bool false) ∧ ∃ i, i < n ∧ A i ≠ B i)) ∧ w' = w := by
  have hnot : ∀ (x : Bool) (w : World), (Op.unary .not (.bool x)).run Try.prog w = .ok (.bool (!x)) w := fun _ _ => rfl
  have HL := hid (And.intro h1 h2)
  clear h1 h2
  go_enter Try.func38, Try.ntmps38
  go_wp2_with fail
  go_loopw [17] (fun i wr => ∃ k : Nat, k ≤ n ∧ i = .int .i64 k ∧ wr = w ∧ ∀ i, i < k → A i = B i) (fun i _ => n - (intOf i).toNat)
  case atStart => exact ⟨0, by omega, rfl, rfl, fun _ h => absurd h (Nat.not_lt_zero _)⟩
  case round =>
    obtain ⟨k, hk, rfl, rfl, hg⟩ := hrel
    have HG := hid hg
    clear hg
    by_cases hlt : k < n
    · obtain ⟨b1, s1, p1, x1, r1⟩ := HL.out.1.at hlt rfl
      obtain ⟨b2, s2, p2, x2, r2⟩ := HL.out.2.at hlt rfl
      have HE := hid (equal_post b1 s1 (A k).length p1 b2 s2 (B k).length p2 (A k) (B k) _ r1.row r2.row rfl rfl)
      have i1 : (0 : Int) ≤ (k : Int) := by omega
      have i2 : (k : Int) < (n : Int) := by omega
      clear r1 r2
      generalize (A k).length = la at x1 HE
      generalize (B k).length = lb at x2 HE
      go_wp2_with fail
      refine HE.out.mono ?_
      rintro e w1 ⟨⟨rfl, he⟩ | ⟨rfl, he⟩, rfl⟩
      · have HK := hid he
        clear he HE
        go_wp2
        go_roundw
        case rel => exact ⟨k + 1, by omega, by go_num, trivial, fun i hi => by
          by_cases e : i = k
          · rw [e]; exact HK.out
          · exact HG.out i (by omega)⟩
        case measure => simp [intOf]; omega
      · have HK := hid he
        clear he HE
        go_wp2
        go_ret
        exact ⟨.inr ⟨rfl, k, hlt, HK.out⟩, rfl⟩
    · obtain rfl : n = k := by omega
      go_wp2
      go_ret
      exact ⟨.inl ⟨rfl, HG.out⟩, rfl⟩

theorem Tl_all {S : Nat → Option (List Nat)} {n : Nat} (h : ∀ t, t < n → (S t).isSome = true) : Tl S n = List.range n := by
  unfold Tl
  rw [List.filter_eq_self]
  intro t ht
  exact h t (List.mem_range.1 ht)
theorem check_len (FS : List Nat) (w0 w : World) (c F k r pp pq sp sq : Nat) (Z : List Nat) (n cap : Nat) (a : Option Addr) (hs : LS w0 FS w) (hc : CD FS w c F k r pp pq sp sq Z) (hn : n ≠ k + r) :
    Calls Try.prog 14 #[.pointer (some ⟨c, 0, none⟩), .slice a n cap] w
      fun e w' => e = .returned (.tuple #[.bool false, .int .i64 1]) ∧ Up Nul w w' := by
  have H := hid (there_len FS w0 w c F k r pp pq sp sq Z n cap a hs hc hn)
  clear hs hc hn
  go_enter Try.func14, Try.ntmps14
  go_wp2_with fail
  refine H.out.mono ?_
  rintro e w1 ⟨rfl, u⟩
  have HU := hid u
  clear u H
  go_wp2
  go_ret2
  exact ⟨rfl, HU.out⟩
theorem check_odd (FS : List Nat) (w0 w : World) (c F k r pp pq sp sq : Nat) (Z : List Nat) (g o n cap : Nat) (S : Nat → Option (List Nat)) (hs : LS w0 FS w) (hc : CD FS w c F k r pp pq sp sq Z) (hS : LL FS w g o n S) (hn : n = k + r) (ho : ∃ i, i < (Tl S n).length ∧ UL (lenT S n) i) :
    Calls Try.prog 14 #[.pointer (some ⟨c, 0, none⟩), .slice (some ⟨g, o, none⟩) n cap] w
      fun e w' => e = .returned (.tuple #[.bool false, .int .i64 1]) ∧ Up Nul w w' := by
  have H := hid (there_odd FS w0 w c F k r pp pq sp sq Z g o n cap S hs hc hS hn ho)
  clear hs hc hn hS ho
  go_enter Try.func14, Try.ntmps14
  go_wp2_with fail
  refine H.out.mono ?_
  rintro e w1 ⟨rfl, u⟩
  have HU := hid u
  clear u H
  go_wp2
  go_ret2
  exact ⟨rfl, HU.out⟩
theorem check_lost (FS : List Nat) (w0 w : World) (c F k r pp pq sp sq : Nat) (Z : List Nat) (g o n cap L : Nat) (S : Nat → Option (List Nat)) (hs : LS w0 FS w) (hc : CD FS w c F k r pp pq sp sq Z) (hS : LL FS w g o n S) (hn : n = k + r) (hf : Fine S n L) (hL : L ≤ 64) (hT : (Tl S n).length < n) :
    Calls Try.prog 14 #[.pointer (some ⟨c, 0, none⟩), .slice (some ⟨g, o, none⟩) n cap] w
      fun e w' => e = .returned (.tuple #[.bool false, .int .i64 3]) ∧ Up Nul w w' := by
  have H := hid (there_fine FS w0 w c F k r pp pq sp sq Z g o n cap L S hs hc hS hn hf hL)
  have hlt : (((Tl S n).length : Nat) : Int) < (n : Int) := by omega
  clear hs hc hn hS hf hT
  go_enter Try.func14, Try.ntmps14
  go_wp2_with fail
  refine H.out.mono ?_
  rintro e w1 ⟨⟨a, capm, rfl, _⟩, u⟩
  have HU := hid u
  clear u H
  go_wp2
  go_ret2
  exact ⟨rfl, HU.out⟩
theorem ret_bi {a b : Bool} (h : a = b) : Ending.returned (.tuple #[.bool a, .int .i64 0]) = .returned (.tuple #[.bool b, .int .i64 0]) := by rw [h]
set_option maxRecDepth 100000 in
set_option maxHeartbeats 1600000 in
theorem check_good (FS : List Nat) (w0 w : World) (c F k r pp pq sp sq : Nat) (Z : List Nat) (g o n cap L : Nat) (R : Nat → List Nat) (hs : LS w0 FS w) (hc : CD FS w c F k r pp pq sp sq Z) (hS : LL FS w g o n fun t => some (R t)) (hn : n = k + r) (hl : ∀ t, t < n → (R t).length = L) (hL : L ≤ 64) (hcap : n ≤ cap) :
    Calls Try.prog 14 #[.pointer (some ⟨c, 0, none⟩), .slice (some ⟨g, o, none⟩) n cap] w
      fun e w' => ((e = .returned (.tuple #[.bool true, .int .i64 0]) ∧ ∀ j, j < r → acrZ k L Z R j = R (k + j)) ∨ (e = .returned (.tuple #[.bool false, .int .i64 0]) ∧ ∃ j, j < r ∧ acrZ k L Z R j ≠ R (k + j))) ∧ Up (One F) w w' ∧ Fld F w' := by
  have H := hid (there_fine FS w0 w c F k r pp pq sp sq Z g o n cap L _ hs hc hS hn (fun t ht z e => by cases e; exact hl t ht) hL)
  rw [Tl_all (S := fun t => some (R t)) (n := n) fun _ _ => rfl, List.length_range] at H
  have k14 := hc.k14
  have r4 := hc.r4
  have c1 := hc.par.mat.c1
  have r1 := hc.par.mat.r1
  have HS := hid (And.intro hs (And.intro hc hS))
  have HF := hid (And.intro hn hl)
  have HFM := hid hc.par.F
  have i0 : ¬ ((n : Int) < (n : Int)) := by omega
  have i1 : (k : Int) ≤ (cap : Int) := by omega
  have i2 : (0 : Int) ≤ (k : Int) := by omega
  have i3 : (k : Int) ≤ (n : Int) := by omega
  have i4 : (n : Int) ≤ (cap : Int) := by omega
  have i5 : ¬ cap = k := by omega
  have i6 : ¬ ((k : Int) < 0) := by omega
  have hnr : n - k = r := by omega
  have hn18 : n ≤ 18 := by omega
  clear hs hc hn hS hl
  go_enter Try.func14, Try.ntmps14
  go_wp2_with fail
  refine H.out.mono ?_
  rintro e w1 ⟨⟨a, capm, rfl, _⟩, u1⟩
  have HU1 := hid u1
  have HN1 := hid (HS.out.1.nul u1)
  have x1 := (HS.out.2.1.nxt HN1.out).k0
  have HLL := hid ((HS.out.2.2.nxt HN1.out).sub 0 k (by omega))
  have HEN := hid (enc_good FS w0 w1 c F k r pp pq sp sq Z g o cap L R (HS.out.1.nxt HN1.out) (HS.out.2.1.nxt HN1.out) ((HLL.out).congr fun i hi => by rw [Nat.zero_add]) (fun i hi => HF.out.2 i (by omega)) hL)
  clear u1 H HLL
  go_wp2_with fail
  refine HEN.out.mono ?_
  rintro e w2 ⟨gl, b, rfl, h1, h2⟩
  have HE := hid (And.intro h1 h2)
  have HN2 := hid (HN1.out.trans ((HS.out.1.nxt HN1.out).one HFM.out h1.up h2))
  have x2 := (HS.out.2.1.nxt HN2.out).k0
  have HEQ := hid (eqf_any FS w2 gl 0 g (o + k) r r (cap - k) (acrZ k L Z R) (fun j => R (k + j)) (h1.ll (HS.out.1.nxt HN1.out)) ((HS.out.2.2.nxt HN2.out).sub k r (by rw [HF.out.1]; exact Nat.le_refl _)) (by omega))
  clear h1 h2 HEN x1
  go_wp2_with fail
  refine HEQ.out.mono ?_
  rintro e w3 ⟨⟨rfl, he⟩ | ⟨rfl, he⟩, rfl⟩
  · have HK := hid he
    clear he HEQ
    go_wp2
    go_ret2
    exact ⟨.inl ⟨rfl, HK.out⟩, HU1.out.nul.trans HE.out.1.up, HE.out.2⟩
  · have HK := hid he
    clear he HEQ
    go_wp2
    go_ret2
    exact ⟨.inr ⟨rfl, HK.out⟩, HU1.out.nul.trans HE.out.1.up, HE.out.2⟩
theorem LL.list {FS : List Nat} {w : World} {g o n : Nat} {S : Nat → Option (List Nat)} (h : LL FS w g o n S) : ∃ ys : List Value, ys.length = n ∧ ∀ i, i < n → ∃ v, ys[i]? = some v ∧ w.cell? ⟨g, o + i, none⟩ = some v ∧ Shd FS w v (S i) := by
  have key : ∀ m, m ≤ n → ∃ ys : List Value, ys.length = m ∧ ∀ i, i < m → ∃ v, ys[i]? = some v ∧ w.cell? ⟨g, o + i, none⟩ = some v ∧ Shd FS w v (S i) := by
    intro m
    induction m with
    | zero => exact fun _ => ⟨[], rfl, fun _ h => absurd h (Nat.not_lt_zero _)⟩
    | succ m ih =>
      intro hm
      obtain ⟨ys, hl, hy⟩ := ih (by omega)
      obtain ⟨v, hv, hs⟩ := h.cells m (by omega)
      refine ⟨ys ++ [v], by simp [hl], fun i hi => ?_⟩
      by_cases e : i = m
      · subst e
        exact ⟨v, by rw [List.getElem?_append_right (by omega), hl]; simp, hv, hs⟩
      · obtain ⟨u, h1, h2⟩ := hy i (by omega)
        exact ⟨u, by rw [List.getElem?_append_left (by omega)]; exact h1, h2⟩
  exact key n (Nat.le_refl _)
set_option maxRecDepth 100000 in
set_option maxHeartbeats 800000 in
/-- A copy of a row of shards. -/
theorem clone_s (FS : List Nat) (w0 w : World) (g o n cap : Nat) (S : Nat → Option (List Nat)) (hs : LS w0 FS w) (hS : LL FS w g o n S) (h0 : 1 ≤ n) (hn : n ≤ 1000) :
    Calls Try.prog 40 #[.slice (some ⟨g, o, none⟩) n cap] w
      fun e w' => ∃ h cap', e = .returned (.slice (some ⟨h, 0, none⟩) n cap') ∧ LL FS w' h 0 n S ∧ (∀ i, w'.frozen? ⟨h, i, none⟩ = false) ∧ w.heap.size ≤ h ∧ Up Nul w w' ∧ ∀ i, i < n → w'.cell? ⟨h, i, none⟩ = w.cell? ⟨g, o + i, none⟩ := by
  obtain ⟨ys, hyl, hy⟩ := hS.list
  have HS := hid (And.intro hs hS)
  have HY := hid (And.intro hyl hy)
  have HU := hid ((Up.refl Nul w).alloc (.cells #[] 22))
  have HO : Hid (OwnV 22 w.heap.size (w.alloc (.cells #[] 22)) (.slice (some ⟨w.heap.size, 0, none⟩) 0 0) []) := World.ownsRow_made w #[] 0 (Nat.le_refl _) (by unfold maxLen; omega) rfl
  have HC : Hid (∀ j u, ys[j]? = some u → (w.alloc (.cells #[] 22)).cell? ((⟨g, o, none⟩ : Addr).add j) = some u) := fun j u hj => by
    have hlt : j < n := by
      rcases Nat.lt_or_ge j n with h | h
      · exact h
      · rw [List.getElem?_eq_none (by omega)] at hj; cases hj
    obtain ⟨v, h1, h2, _⟩ := hy j hlt
    rw [h1] at hj
    cases hj
    have ea : Addr.add ⟨g, o, none⟩ j = ⟨g, o + j, none⟩ := by
      by_cases h0 : j = 0
      · subst h0; simp [Addr.add]
      · simp [Addr.add, h0]
    rw [ea]
    exact (HU.out.cell (p := ⟨g, o + j, none⟩) hS.lt id).trans h2
  have H1 : Hid (∀ u ∈ ys, u.oneCell' = true) := fun u hu => by
    obtain ⟨i, hi, rfl⟩ := List.mem_iff_getElem.1 hu
    obtain ⟨v, h1, _, h3⟩ := hy i (by omega)
    rw [List.getElem?_eq_getElem hi] at h1
    cases h1
    obtain ⟨a, m, c, e⟩ := h3.slice
    rw [e]
    rfl
  have heq : ∀ w, (binOp BinOp.eql 33 (.slice (some ⟨g, o, none⟩) n cap) (.slice none 0 0)).run Try.prog w = .ok (.bool false) w := fun _ => by kernel_rfl
  clear hs hS hyl hy
  go_enter Try.func40, Try.ntmps40
  go_wp2_with (first
    | (at_builtin; refine wpList_append_vals Try.underlying33 info_sl rfl (by omega) rfl (.tmp 5) (.tmp 6) rfl w.heap.size (.slice (some ⟨w.heap.size, 0, none⟩) 0 0) [] rfl HO.out ⟨g, o, none⟩ n cap ys rfl HC.out H1.out HY.out.1 (by simp; omega) HU.out.size ?_; intro v2 w2 G1 G2)
    | go_in)
  go_ret
  have hl : ([] ++ ys : List Value).length = n := by simp [HY.out.1]
  obtain ⟨h, cap2, rfl, e2, e3, e4, e5, _⟩ := G1.out.row (by omega)
  rw [hl]
  have hu2 : Up Nul w w2 := HU.out.grown G2.out fun q hq => HO.out.base q hq
  have hn2 := HS.out.1.nul hu2
  refine ⟨h, cap2, rfl, ⟨fun i hi => ?_, e3, HS.out.1.lt e2⟩, e5, e2, hu2, fun i hi => ?_⟩
  · obtain ⟨v, h1, h2, h3⟩ := HY.out.2 i hi
    exact ⟨v, by rw [Nat.zero_add]; exact e4 i v (by simpa using h1), h3.nxt hn2⟩
  · obtain ⟨v, h1, h2, h3⟩ := HY.out.2 i hi
    rw [h2]
    exact e4 i v (by simpa using h1)

/-! ### 'Rebuild' -/
theorem reb_len (FS : List Nat) (w0 w : World) (c F k r pp pq sp sq : Nat) (Z : List Nat) (n cap : Nat) (a : Option Addr) (i : Int) (hs : LS w0 FS w) (hc : CD FS w c F k r pp pq sp sq Z) (hn : n ≠ k + r) :
    Calls Try.prog 15 #[.pointer (some ⟨c, 0, none⟩), .slice a n cap, .int .i64 i] w
      fun e w' => e = .returned (.tuple #[.slice none 0 0, .int .i64 1]) ∧ Up Nul w w' := by
  have H := hid (there_len FS w0 w c F k r pp pq sp sq Z n cap a hs hc hn)
  clear hs hc hn
  go_enter Try.func15, Try.ntmps15
  go_wp2_with fail
  refine H.out.mono ?_
  rintro e w1 ⟨rfl, u⟩
  have HU := hid u
  clear u H
  go_wp2
  go_ret2
  exact ⟨rfl, HU.out⟩
theorem reb_odd (FS : List Nat) (w0 w : World) (c F k r pp pq sp sq : Nat) (Z : List Nat) (g o n cap : Nat) (S : Nat → Option (List Nat)) (i : Int) (hs : LS w0 FS w) (hc : CD FS w c F k r pp pq sp sq Z) (hS : LL FS w g o n S) (hn : n = k + r) (ho : ∃ i, i < (Tl S n).length ∧ UL (lenT S n) i) :
    Calls Try.prog 15 #[.pointer (some ⟨c, 0, none⟩), .slice (some ⟨g, o, none⟩) n cap, .int .i64 i] w
      fun e w' => e = .returned (.tuple #[.slice none 0 0, .int .i64 1]) ∧ Up Nul w w' := by
  have H := hid (there_odd FS w0 w c F k r pp pq sp sq Z g o n cap S hs hc hS hn ho)
  clear hs hc hn hS ho
  go_enter Try.func15, Try.ntmps15
  go_wp2_with fail
  refine H.out.mono ?_
  rintro e w1 ⟨rfl, u⟩
  have HU := hid u
  clear u H
  go_wp2
  go_ret2
  exact ⟨rfl, HU.out⟩
theorem reb_arg (FS : List Nat) (w0 w : World) (c F k r pp pq sp sq : Nat) (Z : List Nat) (g o n cap L : Nat) (S : Nat → Option (List Nat)) (i : Int) (hs : LS w0 FS w) (hc : CD FS w c F k r pp pq sp sq Z) (hS : LL FS w g o n S) (hn : n = k + r) (hf : Fine S n L) (hL : L ≤ 64) (hi : i < 0 ∨ (n : Int) ≤ i) :
    Calls Try.prog 15 #[.pointer (some ⟨c, 0, none⟩), .slice (some ⟨g, o, none⟩) n cap, .int .i64 i] w
      fun e w' => e = .returned (.tuple #[.slice none 0 0, .int .i64 1]) ∧ Up Nul w w' := by
  have H := hid (there_fine FS w0 w c F k r pp pq sp sq Z g o n cap L S hs hc hS hn hf hL)
  clear hs hc hn hS hf
  by_cases h0 : i < 0
  · clear hi
    go_enter Try.func15, Try.ntmps15
    go_wp2_with fail
    refine H.out.mono ?_
    rintro e w1 ⟨⟨a, capm, rfl, _⟩, u⟩
    have HU := hid u
    clear u H
    go_wp2
    go_ret2
    exact ⟨rfl, HU.out⟩
  · have h1 : (n : Int) ≤ i := by omega
    clear hi
    go_enter Try.func15, Try.ntmps15
    go_wp2_with fail
    refine H.out.mono ?_
    rintro e w1 ⟨⟨a, capm, rfl, _⟩, u⟩
    have HU := hid u
    clear u H
    go_wp2
    go_ret2
    exact ⟨rfl, HU.out⟩
/-- Shards, one of them left out. -/
def out1 (S : Nat → Option (List Nat)) (i t : Nat) : Option (List Nat) := if t = i then none else S t
theorem LL.out1 {FS : List Nat} {w : World} {h n i : Nat} {S : Nat → Option (List Nat)} (hl : LL FS w h 0 n S) (hh : ∀ t, t < n → ∀ z, S t = some z → ∀ b o, (∃ cap, w.cell? ⟨h, t, none⟩ = some (.slice (some ⟨b, o, none⟩) z.length cap)) → b ≠ h) (hi : i < n) : LL FS (w.setCell ⟨h, i, none⟩ (.slice none 0 0)) h 0 n (out1 S i) := by
  have hc : ∀ t, t ≠ i → (w.setCell ⟨h, i, none⟩ (.slice none 0 0)).cell? ⟨h, t, none⟩ = w.cell? ⟨h, t, none⟩ := fun t ht => World.cell?_setCell_other _ _ _ _ (by intro e; have := congrArg Addr.off e; simp at this; omega)
  refine ⟨fun t ht => ?_, by simpa using hl.lt, hl.b⟩
  unfold Go.Proofs.Ytebglmfdchfplaa.out1
  obtain ⟨v0, h0, hs0⟩ := hl.cells t ht
  rw [Nat.zero_add] at h0
  rw [Nat.zero_add]
  by_cases e : t = i
  · subst e
    exact ⟨_, World.cell?_setCell_same _ _ _ h0, by rw [if_pos rfl]; exact rfl⟩
  · rw [if_neg e, hc t e]
    refine ⟨v0, h0, ?_⟩
    cases es : S t with
    | none => rw [es] at hs0; exact hs0
    | some z =>
      rw [es] at hs0
      obtain ⟨b, o, cap, rfl, r⟩ := hs0
      have hb := hh t ht z es b o ⟨cap, h0⟩
      exact ⟨b, o, cap, rfl, ⟨⟨fun u hu => (World.cell?_of_block (w := w) (a := ⟨b, o + u, none⟩) (Below.heap_setCell _ _ _ _ hb)).trans (r.row.cells u hu), r.row.small⟩, by simpa using r.lt, r.b⟩⟩
set_option maxRecDepth 100000 in
set_option maxHeartbeats 1600000 in
theorem reb_any (FS : List Nat) (w0 w : World) (c F k r pp pq sp sq : Nat) (Z : List Nat) (g o n cap L i : Nat) (S : Nat → Option (List Nat)) (hs : LS w0 FS w) (hc : CD FS w c F k r pp pq sp sq Z) (hS : LL FS w g o n S) (hn : n = k + r) (hf : Fine S n L) (hL : L ≤ 64) (hi : i < n)
    (hM : k ≤ (Tl (out1 S i) n).length → ∃ M, GfM.run k (GfM.beside k (cz k (pickZ k k (unitZ k ++ Z) fun j => (Tl (out1 S i) n).getD j 0))) k = some M) :
    Calls Try.prog 15 #[.pointer (some ⟨c, 0, none⟩), .slice (some ⟨g, o, none⟩) n cap, .int .i64 i] w
      fun e w' => (((Tl (out1 S i) n).length < k ∧ e = .returned (.tuple #[.slice none 0 0, .int .i64 3])) ∨
        ∃ M b, GfM.run k (GfM.beside k (cz k (pickZ k k (unitZ k ++ Z) fun j => (Tl (out1 S i) n).getD j 0))) k = some M ∧ e = .returned (.tuple #[.slice (some ⟨b, 0, none⟩) L L, .int .i64 0]) ∧ Blk w' b (decZ k r L Z (out1 S i) M i) ∧ (decZ k r L Z (out1 S i) M i).length = L ∧ w.heap.size ≤ b) ∧ Up (One F) w w' ∧ Fld F w' := by
  have H := hid (there_fine FS w0 w c F k r pp pq sp sq Z g o n cap L S hs hc hS hn hf hL)
  have k14 := hc.k14
  have r4 := hc.r4
  have HS := hid (And.intro hs (And.intro hc hS))
  have HF := hid (And.intro hf hn)
  have HFM := hid hc.par.F
  have HMM := hid hM
  have hn18 : n ≤ 18 := by omega
  have i1 : ¬ ((i : Int) < 0) := by omega
  have i2 : ¬ ((n : Int) ≤ (i : Int)) := by omega
  have i3 : (0 : Int) ≤ (i : Int) := by omega
  have i4 : (i : Int) < (n : Int) := by omega
  clear hs hc hn hS hf hM
  go_enter Try.func15, Try.ntmps15
  go_wp2_with fail
  refine H.out.mono ?_
  rintro e w1 ⟨⟨a, capm, rfl, _⟩, u1⟩
  have HU1 := hid u1
  have HN1 := hid (HS.out.1.nul u1)
  have HCL := hid (clone_s FS w0 w1 g o n cap S (HS.out.1.nxt HN1.out) (HS.out.2.2.nxt HN1.out) (by omega) (by omega))
  clear u1 H
  go_wp2_with fail
  refine HCL.out.mono ?_
  rintro e w2 ⟨h, cap', rfl, c1, c2, c3, u2, c4⟩
  have HU2 := hid (HU1.out.trans u2)
  have x1 : ∃ v, w2.cell? ⟨h, i, none⟩ = some v := by
    obtain ⟨v, hv, _⟩ := c1.cells i hi
    rw [Nat.zero_add] at hv
    exact ⟨v, hv⟩
  obtain ⟨v, x1⟩ := x1
  have x2 := c2 i
  have HNH : Hid (∀ t, t < n → ∀ z, S t = some z → ∀ b o, (∃ cap, w2.cell? ⟨h, t, none⟩ = some (.slice (some ⟨b, o, none⟩) z.length cap)) → b ≠ h) := by
    intro t ht z ez b o2 ⟨cp, hx⟩
    obtain ⟨b', so, cp', hv, lr⟩ := (HS.out.2.2.nxt HN1.out).at ht ez
    rw [c4 t ht, hv] at hx
    injection hx with hx
    injection hx with hx _ _
    injection hx with hx
    injection hx with hx _ _
    have := lr.lt
    omega
  have HLL := hid (c1.out1 HNH.out hi)
  have HU3 : Hid (Up Nul w (w2.setCell ⟨h, i, none⟩ (.slice none 0 0))) := HU2.out.setCell (p := ⟨h, i, none⟩) (.inl (by have := HU1.out.size; show _ ≤ h; omega)) _
  have HN3 := hid (HS.out.1.nul HU3.out)
  clear c1 c2 c3 c4 u2 HCL HNH
  go_wp2_with fail
  generalize w2.setCell ⟨h, i, none⟩ (.slice none 0 0) = w3 at *
  have HFI : Hid (Fine (out1 S i) n L) := fun t ht z e => by
    unfold out1 at e
    split at e
    · cases e
    · exact HF.out.1 t ht z e
  by_cases hT : (Tl (out1 S i) n).length < k
  · have HDL := hid (decode_lost FS w0 w3 c F k r pp pq sp sq Z h 0 n cap' L (out1 S i) (HS.out.1.nxt HN3.out) (HS.out.2.1.nxt HN3.out) HLL.out HF.out.2 HFI.out hL hT)
    have HTT := hid hT
    clear hT x1 x2
    go_wp2_with fail
    refine HDL.out.mono ?_
    rintro e w4 ⟨rfl, u4⟩
    have HU4 := hid (HU3.out.trans u4)
    clear u4 HDL
    go_wp2
    go_ret2
    exact ⟨.inl ⟨HTT.out, rfl⟩, HU4.out.nul, (HS.out.1.fld F HFM.out).up HU4.out id⟩
  · obtain ⟨M, hM⟩ := HMM.out (by omega)
    have HDG := hid (decode_good FS w0 w3 c F k r pp pq sp sq Z h 0 n cap' L (out1 S i) M (HS.out.1.nxt HN3.out) (HS.out.2.1.nxt HN3.out) HLL.out HF.out.2 HFI.out hL (by omega) hM)
    have HMO := hid hM
    clear hT hM x1 x2
    go_wp2_with fail
    refine HDG.out.mono ?_
    rintro e w4 ⟨hh, capw, b, rfl, h1, h2⟩
    have x3 := h1.lin i hi
    have HE := hid (And.intro h1 h2)
    clear h1 h2 HDG
    go_wp2
    go_ret2
    exact ⟨.inr ⟨M, b i, HMO.out, rfl, HE.out.1.rows i hi, HE.out.1.lens i hi, Nat.le_trans HU3.out.size (HE.out.1.own i hi).1⟩, HU3.out.nul.trans HE.out.1.up, HE.out.2⟩
end Go.Proofs.Ytebglmfdchfplaa
