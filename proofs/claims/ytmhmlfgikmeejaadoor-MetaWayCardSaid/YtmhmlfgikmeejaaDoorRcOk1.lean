/- 'holds', 'isPlain', 'isNowhere', 'named', 'locsOf', 'tableNumbers', 'isKind'. -/
import Derived.Test.YtmhmlfgikmeejaaDoorRcIndex
import Derived.Lib.ConvBytes
namespace Go.Proofs.YtmhmlfgikmeejaaDoor
open Go.RowKit
set_option linter.unusedVariables false

theorem kind_any (k : Int) (w : World) : Calls Tryd.prog 24 #[.int .i64 k] w fun e w' => e = .returned (.bool (spn 1 8 k)) ∧ Up Nul w w' := by
  by_cases a : 1 ≤ k
  · by_cases b : k ≤ 8
    · have E : Hid (spn 1 8 k = true) := by show _ = _; unfold spn; rw [decide_eq_true a, decide_eq_true b]; rfl
      rw [E.out]; clear E
      go_enter Tryd.func24, Tryd.ntmps24
      go_wp2
      go_ret
      exact ⟨rfl, Up.refl _ _⟩
    · have E : Hid (spn 1 8 k = false) := by show _ = _; unfold spn; rw [decide_eq_false b]; simp
      have F := hid (decide_eq_false b)
      rw [E.out]; clear E
      go_enter Tryd.func24, Tryd.ntmps24
      go_wp2
      go_ret
      exact ⟨by first | rfl | exact congrArg (fun b => Ending.returned (.bool b)) F.out, Up.refl _ _⟩
  · have E : Hid (spn 1 8 k = false) := by show _ = _; unfold spn; rw [decide_eq_false a]; rfl
    have F := hid (decide_eq_false a)
    rw [E.out]; clear E
    go_enter Tryd.func24, Tryd.ntmps24
    go_wp2
    go_ret
    exact ⟨by first | rfl | exact congrArg (fun b => Ending.returned (.bool b)) F.out, Up.refl _ _⟩
theorem holds_any (lo hi : Int) (a : Option Addr) (c : Nat) (zs : List Int) (w : World) (h : RowI w a zs) (hl : zs.length ≤ 100000) :
    Calls Tryd.prog 25 #[.agg #[.int .i64 lo, .int .i64 hi], .slice a zs.length c] w fun e w' => e = .returned (.bool (zs.all (spn lo hi))) ∧ Up Nul w w' := by
  have HU := hid ((Up.refl Nul w).alloc (.cells #[.int .i64 lo, .int .i64 hi] 71))
  have HC := hid (icont_any (w.alloc (.cells #[.int .i64 lo, .int .i64 hi] 71)) a c zs (h.nxt HU.out) hl w.heap.size (fun x => ! spn lo hi x) (fun x _ W u => holds1_any w.heap.size lo hi x W
    ((u.cell (p := ⟨w.heap.size, 0, none⟩) (by simp) id).trans (World.cell?_alloc_new _ _ _ 0)) ((u.cell (p := ⟨w.heap.size, 1, none⟩) (by simp) id).trans (World.cell?_alloc_new _ _ _ 1))))
  have HE : Hid ((! zs.any fun x => ! spn lo hi x) = zs.all (spn lo hi)) := by
    show _ = _
    rw [List.all_eq_not_any_not]
  clear h hl
  generalize zs.any (fun x => ! spn lo hi x) = b at HC HE
  rw [← HE.out]
  clear HE
  generalize zs.length = n at HC ⊢
  go_enter Tryd.func25, Tryd.ntmps25
  go_wp2_with fail
  refine HC.out.mono ?_
  rintro e w1 ⟨rfl, u⟩
  have U1 := hid (HU.out.trans u)
  clear u
  go_wp2
  go_ret
  exact ⟨by first | rfl | simp, U1.out⟩
def pch (c : Nat) : Bool := decide (33 ≤ c) && decide (c ≤ 126)
theorem plain1_any (x : Nat) (w : World) : Calls Tryd.prog 48 #[.int .u8 (x : Nat)] w fun e w' => e = .returned (.bool (! pch x)) ∧ Up Nul w w' := by
  by_cases a : x < 33
  · have E : Hid ((! pch x) = true) := by show _ = _; unfold pch; rw [decide_eq_false (by omega : ¬ 33 ≤ x)]; rfl
    have i1 : (x : Int) < 33 := by omega
    rw [E.out]; clear E a
    go_enter Tryd.func48, Tryd.ntmps48
    go_wp2
    go_ret
    exact ⟨rfl, Up.refl _ _⟩
  · have i1 : ¬ (x : Int) < 33 := by omega
    by_cases b : 126 < x
    · have E : Hid ((! pch x) = true) := by show _ = _; unfold pch; rw [decide_eq_false (by omega : ¬ x ≤ 126)]; simp
      have i2 : 126 < (x : Int) := by omega
      rw [E.out]; clear E a b
      go_enter Tryd.func48, Tryd.ntmps48
      go_wp2
      go_ret
      exact ⟨rfl, Up.refl _ _⟩
    · have E : Hid ((! pch x) = false) := by show _ = _; unfold pch; rw [decide_eq_true (by omega : 33 ≤ x), decide_eq_true (by omega : x ≤ 126)]; rfl
      have i2 : ¬ 126 < (x : Int) := by omega
      have F := hid (decide_eq_false i2)
      rw [E.out]; clear E a b
      go_enter Tryd.func48, Tryd.ntmps48
      go_wp2
      go_ret
      exact ⟨by first | rfl | exact congrArg (fun b => Ending.returned (.bool b)) F.out, Up.refl _ _⟩
theorem plain_any (s : ByteArray) (w : World) (hs : s.size ≤ 100000) : Calls Tryd.prog 26 #[.string s] w fun e w' => e = .returned (.bool ((nums s).all pch)) ∧ Up Nul w w' := by
  have hcv := Lib.run_convert_string_bytes (P := Tryd.prog) w 9 90 5 s Tryd.underlying9 Tryd.underlying90 Tryd.underlying5
  have HU : Hid (Up Nul w (Lib.bytesWorld w 5 s)) := ⟨rfl, rfl, rfl, by rw [Lib.bytesWorld_size]; omega, fun k hk _ => Lib.bytesWorld_at_old w _ s k hk⟩
  have HR : RowB (Lib.bytesWorld w 5 s) (some ⟨w.heap.size, 0, none⟩) (nums s) := .inr ⟨w.heap.size, 0, rfl, by rw [Lib.bytesWorld_size]; omega, fun i x hi => by
    have hl : i < s.size := by
      rw [← nums_length]
      rcases Nat.lt_or_ge i (nums s).length with h | h
      · exact h
      · rw [List.getElem?_eq_none h] at hi; cases hi
    rw [Nat.zero_add, Lib.bytesWorld_cell w _ s i hl]
    have : x = (s.data.toList.getD i 0).toNat := by
      simp only [nums, List.getElem?_map, Option.map_eq_some_iff] at hi
      obtain ⟨y, hy, rfl⟩ := hi
      simp [List.getD_eq_getElem?_getD, hy]
    rw [this]⟩
  have HC := hid (bcont_any _ _ (grownCap w s.size 0 5) (nums s) HR (by rw [nums_length]; exact hs) (fun x => ! pch x) (fun x _ W u => plain1_any x W))
  rw [nums_length] at HC
  have HE : Hid ((! (nums s).any fun x => ! pch x) = (nums s).all pch) := by
    show _ = _
    rw [List.all_eq_not_any_not]
  clear HR
  generalize (nums s).any (fun x => ! pch x) = b at HC HE
  rw [← HE.out]
  clear HE
  generalize grownCap w s.size 0 5 = gc at HC hcv
  generalize Lib.bytesWorld w 5 s = w1 at HC hcv HU
  go_enter Tryd.func26, Tryd.ntmps26
  go_wp2_with fail
  refine HC.out.mono ?_
  rintro e w2 ⟨rfl, u⟩
  have U1 := hid (HU.out.trans u)
  clear u
  go_wp2
  go_ret
  exact ⟨by first | rfl | simp, U1.out⟩
def lok (l : Lo) : Bool := spn 0 23 l.d && spn 0 63 l.s && spn 1 2147483647 l.i
theorem nowhere_any (l : Lo) (w : World) : Calls Tryd.prog 29 #[lov l] w fun e w' => e = .returned (.bool (! lok l)) ∧ Up Nul w w' := by
  obtain ⟨d, s, i⟩ := l
  have HU := hid ((Up.refl Nul w).alloc (.cells #[.int .i64 d, .int .i64 s, .int .i64 i] 36))
  have key : ∀ b, (! lok ⟨d, s, i⟩) = b → (d < 0 ∧ b = true ∨ ¬ d < 0 ∧ (24 ≤ d ∧ b = true ∨ ¬ 24 ≤ d ∧ (s < 0 ∧ b = true ∨ ¬ s < 0 ∧ (64 ≤ s ∧ b = true ∨ ¬ 64 ≤ s ∧ (i < 1 ∧ b = true ∨ ¬ i < 1 ∧ b = decide (2147483647 < i)))))) := by
    rintro b rfl
    unfold lok spn
    by_cases h1 : d < 0
    · exact .inl ⟨h1, by simp [h1]⟩
    refine .inr ⟨h1, ?_⟩
    by_cases h2 : 24 ≤ d
    · exact .inl ⟨h2, by simp; omega⟩
    refine .inr ⟨h2, ?_⟩
    by_cases h3 : s < 0
    · exact .inl ⟨h3, by simp; omega⟩
    refine .inr ⟨h3, ?_⟩
    by_cases h4 : 64 ≤ s
    · exact .inl ⟨h4, by simp; omega⟩
    refine .inr ⟨h4, ?_⟩
    by_cases h5 : i < 1
    · exact .inl ⟨h5, by simp; omega⟩
    refine .inr ⟨h5, ?_⟩
    by_cases h6 : 2147483647 < i
    · simp [h6]
    · have a1 : 0 ≤ d := by omega
      have a2 : d ≤ 23 := by omega
      have a3 : 0 ≤ s := by omega
      have a4 : s ≤ 63 := by omega
      have a5 : 1 ≤ i := by omega
      have a6 : i ≤ 2147483647 := by omega
      simp [h6, a1, a2, a3, a4, a5, a6]
  show Calls Tryd.prog 29 #[.agg #[.int .i64 d, .int .i64 s, .int .i64 i]] w _
  generalize hb : (! lok ⟨d, s, i⟩) = b
  have key := key b hb
  clear hb
  rcases key with ⟨h1, rfl⟩ | ⟨h1, ⟨h2, rfl⟩ | ⟨h2, ⟨h3, rfl⟩ | ⟨h3, ⟨h4, rfl⟩ | ⟨h4, ⟨h5, rfl⟩ | ⟨h5, rfl⟩⟩⟩⟩⟩
  all_goals
    go_enter Tryd.func29, Tryd.ntmps29
    go_wp2
    go_ret
    exact ⟨by first | rfl | simp, HU.out⟩
theorem table_any (t : Tb) (w : World) : Calls Tryd.prog 30 #[tbv t] w fun e w' => ∃ g, e = .returned (.slice (some ⟨g, 0, none⟩) 6 6) ∧ RowI w' (some ⟨g, 0, none⟩) t.l ∧ Up Nul w w' := by
  obtain ⟨a, b, c, d, e, f⟩ := t
  have HU := hid ((Up.refl Nul w).alloc (.cells #[.int .i64 a, .int .i64 b, .int .i64 c, .int .i64 d, .int .i64 e, .int .i64 f] 31))
  have HR : Hid (∀ W : World, ∀ g, g = W.heap.size → RowI (W.alloc (.cells #[.int .i64 a, .int .i64 b, .int .i64 c, .int .i64 d, .int .i64 e, .int .i64 f] 3)) (some ⟨g, 0, none⟩) (Tb.l ⟨a, b, c, d, e, f⟩)) := fun W g hg => by
    subst hg
    refine .inr ⟨W.heap.size, 0, rfl, by simp, fun i x hi => ?_⟩
    rw [Nat.zero_add]
    match i, hi with
    | 0, hi => cases hi; exact World.cell?_alloc_new _ _ _ 0
    | 1, hi => cases hi; exact World.cell?_alloc_new _ _ _ 1
    | 2, hi => cases hi; exact World.cell?_alloc_new _ _ _ 2
    | 3, hi => cases hi; exact World.cell?_alloc_new _ _ _ 3
    | 4, hi => cases hi; exact World.cell?_alloc_new _ _ _ 4
    | 5, hi => cases hi; exact World.cell?_alloc_new _ _ _ 5
  show Calls Tryd.prog 30 #[.agg #[.int .i64 a, .int .i64 b, .int .i64 c, .int .i64 d, .int .i64 e, .int .i64 f]] w _
  go_enter Tryd.func30, Tryd.ntmps30
  go_wp2
  go_ret
  exact ⟨_, rfl, HR.out _ _ (by simp), HU.out.alloc _⟩
/-- How many of them are not 0. -/
def nz (zs : List Int) : Nat := (zs.filter fun z => decide (z ≠ 0)).length
theorem nz_le (zs : List Int) : nz zs ≤ zs.length := List.length_filter_le _ _
end Go.Proofs.YtmhmlfgikmeejaaDoor
