/- The program's Bay: 'Take', 'Used', 'Free', 'Write', 'Read'. -/
import Derived.Test.YtfmgbmpdifjliaaBayReal
namespace Go.Proofs.Ytfmgbmpdifjliaa
open Go.RowKit
set_option linter.unusedVariables false
section
variable {w w' : World} {q b ub n : Nat} {U : Nat → Bool} {F : Nat → Prop}
theorem pindex_any (h : PBr w q b ub n U) (hn : n ≤ 64) : Calls Try.prog 40 #[.slice (some ⟨ub, 0, none⟩) n n, .bool false] w fun e w' =>
    ((∃ i : Nat, fst0 U n 0 = some i ∧ i < n ∧ U i = false ∧ e = .returned (.int .i64 i)) ∨ (fst0 U n 0 = none ∧ e = .returned (.int .i64 (-1)))) ∧ w' = w := by
  have H := hid h
  have HLE := hid hn
  clear h hn
  go_enter Try.func40, Try.ntmps40
  go_wp2_with fail
  go_loopw [8] (fun i wr => ∃ t k : Nat, t + k = n ∧ i = .int .i64 (t : Nat) ∧ fst0 U n 0 = fst0 U k t ∧ wr = w) (fun i _ => n - (intOf i).toNat)
  case atStart => exact ⟨0, n, Nat.zero_add n, rfl, rfl, rfl⟩
  case round =>
    obtain ⟨t, k, ht, rfl, hf, rfl⟩ := hrel
    have HF := hid hf
    clear hf
    by_cases hlt : t < n
    · obtain ⟨k', rfl⟩ : ∃ k', k = k' + 1 := ⟨k - 1, by omega⟩
      have i0 : (0 : Int) ≤ (t : Int) := by omega
      have i1 : (t : Int) < (n : Int) := by omega
      have i2 : (t : Int) ≤ 64 := by have := HLE.out; omega
      have cu := H.out.row.cell hlt
      cases hu : U t with
      | true =>
        rw [hu] at cu
        have HN := hid (HF.out.trans (fst0_yes k' hu))
        clear hu
        go_wp2_with fail
        go_round
        case rel => exact ⟨t + 1, k', by omega, by go_num, HN.out, by first | rfl | trivial⟩
        case measure => simp [intOf]; omega
      | false =>
        rw [hu] at cu
        have HN := hid (HF.out.trans (fst0_no k' hu))
        have HT := hid (And.intro hlt hu)
        clear hu
        go_wp2
        go_ret
        exact ⟨.inl ⟨t, HN.out, HT.out.1, HT.out.2, rfl⟩, rfl⟩
    · obtain rfl : k = 0 := by omega
      have i1 : ¬ (t : Int) < (n : Int) := by omega
      clear hlt ht
      go_wp2
      go_ret
      exact ⟨.inr ⟨HF.out, rfl⟩, rfl⟩
theorem ptake_any (h : PBs w q b n U F) (hn : n ≤ 64) : Calls Try.prog 10 #[.pointer (some ⟨q, 0, none⟩)] w fun e w' =>
    (∃ i, fst0 U n 0 = some i ∧ e = .returned (.tuple #[.int .i64 (i : Nat), .bool true]) ∧ Did PBs w q b n (updB U i true) F w') ∨
    (fst0 U n 0 = none ∧ e = .returned (.tuple #[.int .i64 0, .bool false]) ∧ Up Nul w w') := by
  obtain ⟨ub, h1, h2⟩ := h
  have H := hid h1
  have H2 := hid h2
  have HI := hid (pindex_any h1 hn)
  have c1 := h1.c1
  clear h1 h2 hn
  go_enter Try.func10, Try.ntmps10
  go_wp2_with fail
  refine HI.out.mono ?_
  rintro e w1 ⟨⟨i, hf, hi, hu, rfl⟩ | ⟨hf, rfl⟩, rfl⟩
  · have HF := hid hf
    have HT := hid (pset_good H.out i true hi (by simpa using hu))
    clear hf hi hu
    go_wp2_with fail
    refine HT.out.mono ?_
    rintro e w2 ⟨rfl, p, u⟩
    have HP := hid (And.intro p u)
    clear p u
    go_wp2
    go_ret2
    exact .inl ⟨i, HF.out, rfl, PBs.did H2.out HP.out.1 HP.out.2⟩
  · have HF := hid hf
    have HT := hid (pset_bad H.out (-1) true (.inl (by omega)))
    clear hf
    go_wp2_with fail
    refine HT.out.mono ?_
    rintro e w2 ⟨rfl, u⟩
    have HP := hid u
    clear u
    go_wp2
    go_ret2
    exact .inr ⟨HF.out, rfl, HP.out⟩
set_option maxHeartbeats 800000 in
theorem pused_any (h : PBs w q b n U F) (hn : n ≤ 64) : Calls Try.prog 18 #[.pointer (some ⟨q, 0, none⟩)] w fun e w' => ∃ v, e = .returned v ∧ OwnV 3 w.heap.size w' v (usV U n) ∧ Up Nul w w' := by
  obtain ⟨ub, h1, _⟩ := h
  have H := hid h1
  have HLE := hid hn
  have c1 := h1.c1
  clear h1 hn
  go_enter Try.func18, Try.ntmps18
  go_wp2_with fail
  clear c1
  go_loopw [3, 11] (fun v i wr => ∃ t : Nat, t ≤ n ∧ i = .int .i64 (t : Nat) ∧ OwnV 3 w.heap.size wr v (usV U t) ∧ Up Nul w wr) (fun _ i _ => n - (intOf i).toNat)
  case atStart => exact ⟨0, Nat.zero_le _, rfl, OwnV.nil _ _ _, Up.refl _ _⟩
  case round =>
    obtain ⟨t, ht, rfl, ho, hu⟩ := hrel
    have HO := hid ho
    have HU := hid hu
    clear ho hu
    have i0 : (0 : Int) ≤ (t : Int) := by omega
    have i2 : (t : Int) ≤ 64 := by have := HLE.out; omega
    obtain ⟨va, vc, rfl⟩ := HO.out.shape
    by_cases hlt : t < n
    · have i1 : (t : Int) < (n : Int) := by omega
      have cu := (H.out.nxt HU.out).row.cell hlt
      cases hub : U t with
      | false =>
        rw [hub] at cu
        have HN : Hid (OwnV 3 w.heap.size wr (.slice va (usV U t).length vc) (usV U (t + 1))) := by show OwnV _ _ _ _ _; rw [usV_no hub]; exact HO.out
        have HT := hid hlt
        clear hub hlt ht
        generalize (usV U t).length = L at HO HN ⊢
        go_wp2_with fail
        go_roundw
        case rel => exact ⟨t + 1, HT.out, by go_num, HN.out, HU.out⟩
        case measure => have := HT.out; simp [intOf]; omega
      | true =>
        rw [hub] at cu
        have HY := hid (usV_yes hub)
        have HT := hid hlt
        have HL : Hid ((usV U t).length + 1 ≤ 1000000) := by show _ ≤ _; rw [usV_length]; have := us_length U t; omega
        have HOA := hid (HO.out.alloc (.cells #[.int .i64 (t : Nat)] 3))
        have HSZ : Hid (w.heap.size ≤ (wr.alloc (.cells #[.int .i64 (t : Nat)] 3)).heap.size) := (HU.out.alloc _).size
        clear hub hlt ht
        generalize (usV U t).length = L at HO HOA ⊢
        go_wp2_with (first
          | (at_builtin; refine wpList_append_int rfl (.tmp 17) (.tmp 19) rfl w.heap.size _ _ rfl HOA.out ⟨wr.heap.size, 0, none⟩ 1 (t : Int) rfl (World.cell?_alloc_new _ _ _ 0) HL.out HSZ.out ?_; intro v2 w2 H2 K2)
          | fail)
        have H3 : Hid (OwnV 3 w.heap.size w2 v2 (usV U (t + 1))) := by show OwnV _ _ _ _ _; rw [HY.out]; exact H2.out
        have U3 : Hid (Up Nul w w2) := (HU.out.alloc _).grown K2.out fun q hq => HO.out.base q hq
        clear HY H2 K2
        go_wp2_with fail
        go_roundw
        case rel => exact ⟨t + 1, HT.out, by go_num, H3.out, U3.out⟩
        case measure => have := HT.out; simp [intOf]; omega
    · obtain rfl : t = n := by omega
      go_wp2_with fail
      go_ret
      exact ⟨_, rfl, HO.out, HU.out⟩
theorem pfree_any (h : PBs w q b n U F) (hn : n ≤ 64) : Calls Try.prog 17 #[.pointer (some ⟨q, 0, none⟩)] w fun e w' => e = .returned (.int .i64 ((n : Int) - ((us U n).length : Nat))) ∧ Up Nul w w' := by
  have HL : Hid (∀ W, Up Nul w W → Calls Try.prog 18 #[.pointer (some ⟨q, 0, none⟩)] W fun e w' => ∃ a c, e = .returned (.slice a (us U n).length c) ∧ Up Nul W w') := fun W u => by
    refine (pused_any (h.keep fun g hg => u.block g (Array.getElem?_eq_some_iff.1 (h.ty g hg).choose_spec.choose_spec.1).1 id) hn).mono ?_
    rintro e w' ⟨v, rfl, ho, hu⟩
    obtain ⟨a, c, rfl⟩ := ho.shape
    rw [usV_length]
    exact ⟨a, c, rfl, hu⟩
  obtain ⟨ub, h1, _⟩ := h
  have HC : Hid (∀ W, Up Nul w W → W.cell? ⟨q, 1, none⟩ = some (.slice (some ⟨ub, 0, none⟩) n n)) := fun W u => (h1.nxt u).c1
  have hle := us_length U n
  generalize (us U n).length = L at HL hle ⊢
  have HR0 : Hid (Up Nul w w) := Up.refl _ _
  have i1 : (L : Int) ≤ (n : Int) := by omega
  have i2 : (n : Int) ≤ 64 := by omega
  have i3 : IntKind.i64.wrap ((n : Int) - (L : Int)) = (n : Int) - (L : Int) := IntWalk.i64_in _ (by omega)
  clear h1
  go_enter Try.func17, Try.ntmps17
  go_wp2_with fail
  go_region_held3 (fun W => Up Nul w W ∧ W.cell? ⟨q, 1, none⟩ = some (.slice (some ⟨ub, 0, none⟩) n n))
    (first | exact ⟨by assumption, HC.out _ (by assumption)⟩ | exact ⟨HR0.out.drew, HC.out _ HR0.out.drew⟩)
    ((go_at_call 18; (with_reducible refine (HL.out _ (by first | exact HR0.out.drew | assumption)).mono ?_); rintro e wb ⟨a, c, rfl, kb⟩; have ob : Up Nul w wb := (by first | exact HR0.out.drew.trans kb | exact Up.trans (by assumption) kb); clear kb))
  all_goals
    have OB := hid ob
    clear ob
    go_wp2_with fail
    go_ret
    exact ⟨rfl, OB.out⟩
/-! ### 'Read' -/
theorem pread_err (h : PBs w q b n U F) (x id code : Int) (hc : ¬ code = 0)
    (hr : Calls Try.prog 46 #[.pointer (some ⟨b, 0, none⟩), .int .i64 x] w (fun e w2 => ∃ a l c, e = .returned (.tuple #[.slice a l c, .int .i64 code]) ∧ Up Nul w w2)) :
    Calls Try.prog 25 #[.pointer (some ⟨q, 0, none⟩), .int .i64 x, .int .i64 id] w fun e w2 => ∃ a c, e = .returned (.tuple #[.slice a 0 c, .int .i64 code]) ∧ Up Nul w w2 := by
  obtain ⟨ub, h1, _⟩ := h
  have c0 := h1.c0
  have HR := hid hr
  have hcb : (code == 0) = false := by simp [hc]
  clear h1 hr
  go_enter Try.func25, Try.ntmps25
  go_wp2_with fail
  refine HR.out.mono ?_
  rintro e w1 ⟨a, l, c, rfl, u⟩
  have HU := hid u
  clear u
  go_wp2
  go_ret2
  exact ⟨_, _, rfl, HU.out⟩
theorem pread_ok (h : PBs w q b n U F) (x id : Int) (z : List Nat)
    (hr : Calls Try.prog 46 #[.pointer (some ⟨b, 0, none⟩), .int .i64 x] w (fun e w2 => ∃ a c, e = .returned (.tuple #[.slice a 96 c, .int .i64 0]) ∧ Got w w2 a 96 c z)) :
    Calls Try.prog 25 #[.pointer (some ⟨q, 0, none⟩), .int .i64 x, .int .i64 id] w fun e w2 =>
      ((∃ a l c, FrM.tk z = some (FrM.idOf z, FrM.datOf z) ∧ (FrM.idOf z : Int) = id ∧ e = .returned (.tuple #[.slice a l c, .int .i64 0]) ∧ SlN w2 a l (FrM.datOf z)) ∨
       (∃ a c, (FrM.tk z = none ∨ ¬ (FrM.idOf z : Int) = id) ∧ e = .returned (.tuple #[.slice a 0 c, .int .i64 6]))) ∧ Up Nul w w2 := by
  obtain ⟨ub, h1, _⟩ := h
  have c0 := h1.c0
  have HR := hid hr
  clear h1 hr
  go_enter Try.func25, Try.ntmps25
  go_wp2_with fail
  refine HR.out.mono ?_
  rintro e w1 ⟨a, c, rfl, g⟩
  have G := hid g
  clear g
  go_wp2_with fail
  refine (holds_any a 96 c z id w1 G.out.sl G.out.cap).mono ?_
  rintro e w2 (⟨a2, c2, h1, h2, rfl, g2⟩ | ⟨h1, rfl, u⟩)
  · have G2 := hid (And.intro h1 (And.intro h2 g2))
    clear h1 h2 g2
    go_wp2
    go_ret2
    exact ⟨.inl ⟨_, _, _, G2.out.1, G2.out.2.1, rfl, G2.out.2.2.sl⟩, G.out.up.trans G2.out.2.2.up⟩
  · have G2 := hid (And.intro h1 u)
    clear h1 u
    go_wp2
    go_ret2
    exact ⟨.inr ⟨_, _, G2.out.1, rfl⟩, G.out.up.trans G2.out.2⟩
end
end Go.Proofs.Ytfmgbmpdifjliaa
