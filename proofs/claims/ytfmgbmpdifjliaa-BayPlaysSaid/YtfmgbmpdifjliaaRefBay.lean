/- The document's Bay: 'List', 'Free', 'Read', 'Write', 'Scan'. -/
import Derived.Test.YtfmgbmpdifjliaaBayBase
import Derived.Deep.CutBlock
import Derived.BigQuiet
import Derived.Deep.QuietTactic
namespace Go.Proofs.Ytfmgbmpdifjliaa
open Go.RowKit
set_option linter.unusedVariables false

section
variable {w w' : World} {bb m ub n : Nat} {U : Nat → Bool}
set_option maxHeartbeats 800000 in
theorem rlist_any (w : World) (h : RB w bb m ub n U) :
    Calls Try.prog 38 #[.pointer (some ⟨bb, 0, none⟩)] w fun e w' => ∃ v, e = .returned v ∧ OwnV 3 w.heap.size w' v (usV U n) ∧ Up Nul w w' := by
  have H := hid h
  have HLE := hid h.le
  clear h
  go_enter Try.func38, Try.ntmps38
  go_wp2_with fail
  go_loopw [3, 4] (fun v i wr => ∃ t : Nat, t ≤ n ∧ i = .int .i64 (t : Nat) ∧ OwnV 3 w.heap.size wr v (usV U t) ∧ Up Nul w wr) (fun _ i _ => n - (intOf i).toNat)
  case atStart => exact ⟨0, Nat.zero_le _, rfl, OwnV.nil _ _ _, Up.refl _ _⟩
  case round =>
    obtain ⟨t, ht, rfl, ho, hu⟩ := hrel
    have HO := hid ho
    have HU := hid hu
    clear ho hu
    have c1 := (H.out.nxt HU.out).c1
    have i0 : (0 : Int) ≤ (t : Int) := by omega
    have i2 : (t : Int) ≤ 64 := by have := HLE.out; omega
    obtain ⟨va, vc, rfl⟩ := HO.out.shape
    by_cases hlt : t < n
    · have i1 : (t : Int) < (n : Int) := by omega
      have cu := (H.out.nxt HU.out).row.cell hlt
      cases hub : U t with
      | false =>
        rw [hub] at cu
        have HN : Hid (OwnV 3 w.heap.size wr (.slice va (usV U t).length vc) (usV U (t + 1))) := by show OwnV _ _ _ _ _; rw [usV_no hub]; exact HO.out
        have HT := hid hlt
        clear hub hlt ht
        generalize (usV U t).length = L at HO HN ⊢
        go_wp2_with fail
        go_roundw
        case rel => exact ⟨t + 1, HT.out, by go_num, HN.out, HU.out⟩
        case measure => have := HT.out; simp [intOf]; omega
      | true =>
        rw [hub] at cu
        have HY := hid (usV_yes hub)
        have HT := hid hlt
        have HL : Hid ((usV U t).length + 1 ≤ 1000000) := by show _ ≤ _; rw [usV_length]; have := us_length U t; omega
        have HOA := hid (HO.out.alloc (.cells #[.int .i64 (t : Nat)] 3))
        have HSZ : Hid (w.heap.size ≤ (wr.alloc (.cells #[.int .i64 (t : Nat)] 3)).heap.size) := (HU.out.alloc _).size
        clear hub hlt ht
        generalize (usV U t).length = L at HO HOA ⊢
        go_wp2_with (first
          | (at_builtin; refine wpList_append_int rfl (.tmp 21) (.tmp 23) rfl w.heap.size _ _ rfl HOA.out ⟨wr.heap.size, 0, none⟩ 1 (t : Int) rfl (World.cell?_alloc_new _ _ _ 0) HL.out HSZ.out ?_; intro v2 w2 H2 K2)
          | fail)
        have H3 : Hid (OwnV 3 w.heap.size w2 v2 (usV U (t + 1))) := by show OwnV _ _ _ _ _; rw [HY.out]; exact H2.out
        have U3 : Hid (Up Nul w w2) := (HU.out.alloc _).grown K2.out fun q hq => HO.out.base q hq
        clear HY H2 K2
        go_wp2_with fail
        go_roundw
        case rel => exact ⟨t + 1, HT.out, by go_num, H3.out, U3.out⟩
        case measure => have := HT.out; simp [intOf]; omega
    · obtain rfl : t = n := by omega
      go_wp2_with fail
      go_ret
      exact ⟨_, rfl, HO.out, HU.out⟩
/-! ### 'Free' -/
theorem rfree_any (w : World) (h : RB w bb m ub n U) :
    Calls Try.prog 36 #[.pointer (some ⟨bb, 0, none⟩)] w fun e w' => e = .returned (.int .i64 ((n : Int) - ((us U n).length : Nat))) ∧ Up Nul w w' := by
  have H := hid h
  have HC : Hid (∀ W, Up Nul w W → W.cell? ⟨bb, 1, none⟩ = some (.slice (some ⟨ub, 0, none⟩) n n)) := fun W u => (h.nxt u).c1
  have HL : Hid (∀ W, Up Nul w W → Calls Try.prog 38 #[.pointer (some ⟨bb, 0, none⟩)] W fun e w' => ∃ a c, e = .returned (.slice a (us U n).length c) ∧ Up Nul W w') := fun W u => by
    refine (rlist_any W (h.nxt u)).mono ?_
    rintro e w' ⟨v, rfl, ho, hu⟩
    obtain ⟨a, c, rfl⟩ := ho.shape
    rw [usV_length]
    exact ⟨a, c, rfl, hu⟩
  have hle := us_length U n
  have h64 := h.le
  generalize (us U n).length = L at HL hle ⊢
  have HR0 : Hid (Up Nul w w) := Up.refl _ _
  have i1 : (L : Int) ≤ (n : Int) := by omega
  have i2 : (n : Int) ≤ 64 := by omega
  have i3 : IntKind.i64.wrap ((n : Int) - (L : Int)) = (n : Int) - (L : Int) := IntWalk.i64_in _ (by omega)
  clear h
  go_enter Try.func36, Try.ntmps36
  go_wp2_with fail
  go_region_held3 (fun W => Up Nul w W ∧ W.cell? ⟨bb, 1, none⟩ = some (.slice (some ⟨ub, 0, none⟩) n n))
    (first | exact ⟨by assumption, HC.out _ (by assumption)⟩ | exact ⟨HR0.out.drew, HC.out _ HR0.out.drew⟩)
    ((go_at_call 38; (with_reducible refine (HL.out _ (by first | exact HR0.out.drew | assumption)).mono ?_); rintro e wb ⟨a, c, rfl, kb⟩; have ob : Up Nul w wb := (by first | exact HR0.out.drew.trans kb | exact Up.trans (by assumption) kb); clear kb))
  all_goals
    have OB := hid ob
    clear ob
    go_wp2_with fail
    go_ret
    exact ⟨rfl, OB.out⟩
/-! ### 'Read', 'Write' -/
theorem rbread_err (w : World) (h : RB w bb m ub n U) (x id : Int) (s : ByteArray) (code : Int) (hc : ¬ code = 0) (hr : Calls Try.prog 52 #[.pointer (some ⟨m, 0, none⟩), .int .i64 x] w fun e w' => e = .returned (.tuple #[.string s, .int .i64 code]) ∧ w' = w) :
    Calls Try.prog 26 #[.pointer (some ⟨bb, 0, none⟩), .int .i64 x, .int .i64 id] w fun e w' => e = .returned (.tuple #[.string ⟨#[]⟩, .int .i64 code]) ∧ w' = w := by
  have c0 := h.c0
  have HR := hid hr
  have hcb : (code == 0) = false := by simp [hc]
  clear h hr
  go_enter Try.func26, Try.ntmps26
  go_wp2_with fail
  refine HR.out.mono ?_
  rintro e w1 ⟨rfl, rfl⟩
  go_wp2
  go_ret2
  exact ⟨rfl, rfl⟩
theorem rbread_ok (w : World) (h : RB w bb m ub n U) (x id : Int) (z : List Nat) (hz : ∀ v ∈ z, v < 256) (hl : z.length ≤ 9223372036854775807) (hr : Calls Try.prog 52 #[.pointer (some ⟨m, 0, none⟩), .int .i64 x] w fun e w' => e = .returned (.tuple #[.string (strOf z), .int .i64 0]) ∧ w' = w) :
    Calls Try.prog 26 #[.pointer (some ⟨bb, 0, none⟩), .int .i64 x, .int .i64 id] w fun e w' =>
      ((FrM.tk z = some (FrM.idOf z, FrM.datOf z) ∧ (FrM.idOf z : Int) = id ∧ e = .returned (.tuple #[.string (strOf (FrM.datOf z)), .int .i64 0])) ∨
       ((FrM.tk z = none ∨ ¬ (FrM.idOf z : Int) = id) ∧ e = .returned (.tuple #[.string ⟨#[]⟩, .int .i64 6]))) ∧ Up Nul w w' := by
  have c0 := h.c0
  have HR := hid hr
  have HT := hid (rtake_any z w hz hl)
  unfold RTook at HT
  generalize strOf z = sz at HR HT
  clear h hr hz hl
  go_enter Try.func26, Try.ntmps26
  go_wp2_with fail
  refine HR.out.mono ?_
  rintro e w1 ⟨rfl, rfl⟩
  go_wp2_with fail
  refine HT.out.mono ?_
  rintro e w2 (⟨h1, rfl, u⟩ | ⟨h1, rfl, u⟩)
  · have H1 := hid (And.intro h1 u)
    clear h1 u
    by_cases e : (FrM.idOf z : Int) = id
    · have E := hid e
      have e2 : ((FrM.idOf z : Int) == id) = true := by simp [e]
      go_wp2
      go_ret2
      exact ⟨.inl ⟨H1.out.1, E.out, rfl⟩, H1.out.2⟩
    · have E := hid e
      have e2 : ((FrM.idOf z : Int) == id) = false := by simp [e]
      go_wp2
      go_ret2
      exact ⟨.inr ⟨.inr E.out, rfl⟩, H1.out.2⟩
  · have H1 := hid (And.intro h1 u)
    clear h1 u
    go_wp2
    go_ret2
    exact ⟨.inr ⟨.inl H1.out.1, rfl⟩, H1.out.2⟩
theorem rbwrite_bad (w : World) (h : RB w bb m ub n U) (x id : Int) (z : List Nat) (hz : ∀ v ∈ z, v < 256) (hl : z.length ≤ 9223372036854775807) (hx : x < 0 ∨ (n : Int) ≤ x ∨ U x.toNat = false ∨ id < 0 ∨ 4294967295 < id ∨ 64 < z.length) :
    Calls Try.prog 24 #[.pointer (some ⟨bb, 0, none⟩), .int .i64 x, .int .i64 id, .string (strOf z)] w fun e w' => e = .returned (.int .i64 1) ∧ Up Nul w w' := by
  have HF : Hid (Calls Try.prog 49 #[.int .i64 id, .string (strOf z)] w fun e w' => ∃ s ok, e = .returned (.tuple #[.string s, .bool ok]) ∧ Up Nul w w' ∧ (ok = false ∨ x < 0 ∨ (n : Int) ≤ x ∨ U x.toNat = false)) := by
    by_cases hg : 0 ≤ id ∧ id ≤ 4294967295 ∧ z.length ≤ 64
    · obtain ⟨i, rfl⟩ : ∃ i : Nat, id = i := ⟨id.toNat, by omega⟩
      refine (refFrame_good i z w (by omega) hz hg.2.2).mono ?_
      rintro e w' ⟨rfl, u⟩
      refine ⟨_, _, rfl, u, ?_⟩
      rcases hx with e | e | e | e | e | e
      · exact .inr (.inl e)
      · exact .inr (.inr (.inl e))
      · exact .inr (.inr (.inr e))
      · omega
      · omega
      · omega
    · refine (refFrame_bad id (strOf z) w (by rw [strOf_size]; exact hl) (by rw [strOf_size]; omega)).mono ?_
      rintro e w' ⟨rfl, rfl⟩
      exact ⟨_, _, rfl, Up.refl _ _, .inl rfl⟩
  have H := hid h
  generalize strOf z = sz at HF ⊢
  clear h hz hl hx
  go_enter Try.func24, Try.ntmps24
  go_wp2_with fail
  refine HF.out.mono ?_
  rintro e w1 ⟨s, ok, rfl, u, hk⟩
  have HU := hid u
  have H1 := hid (H.out.nxt u)
  have c1 := H1.out.c1
  clear u
  by_cases h0 : x < 0
  · clear hk
    go_wp2
    go_ret
    exact ⟨rfl, HU.out⟩
  · by_cases h1 : (n : Int) ≤ x
    · clear hk
      go_wp2
      go_ret
      exact ⟨rfl, HU.out⟩
    · obtain ⟨i, rfl⟩ : ∃ i : Nat, x = i := ⟨x.toNat, by omega⟩
      have hi : i < n := by omega
      have i1 : (i : Int) < (n : Int) := by omega
      have cu := H1.out.row.cell hi
      cases hu : U i with
      | false =>
        rw [hu] at cu
        clear hk h0 h1 hu
        go_wp2
        go_ret
        exact ⟨rfl, HU.out⟩
      | true =>
        rw [hu] at cu
        obtain rfl : ok = false := by
          rcases hk with e | e | e | e
          · exact e
          · exact absurd e h0
          · exact absurd e h1
          · simp [hu] at e
        clear hk h0 h1 hu
        go_wp2
        go_ret
        exact ⟨rfl, HU.out⟩
theorem rbwrite_good (P : World → Prop) (code : Int) (w : World) (h : RB w bb m ub n U) (i id : Nat) (z : List Nat) (hi : i < n) (hu : U i = true) (hid1 : id < 4294967296) (hz : ∀ v ∈ z, v < 256) (hl : z.length ≤ 64)
    (hw : ∀ w1, Up Nul w w1 → Calls Try.prog 50 #[.pointer (some ⟨m, 0, none⟩), .int .i64 (i : Nat), .string (strOf (FrM.fr id z))] w1 fun e w2 => e = .returned (.int .i64 code) ∧ P w2) :
    Calls Try.prog 24 #[.pointer (some ⟨bb, 0, none⟩), .int .i64 (i : Nat), .int .i64 (id : Nat), .string (strOf z)] w fun e w2 => e = .returned (.int .i64 code) ∧ P w2 := by
  have HF := hid (refFrame_good id z w hid1 hz hl)
  have HW := hid hw
  have H := hid h
  have HI := hid hi
  have HUU := hid hu
  generalize strOf z = sz at HF ⊢
  generalize strOf (FrM.fr id z) = sf at HF HW
  have i1 : (i : Int) < (n : Int) := by omega
  clear h hz hl hw hid1 hi hu
  go_enter Try.func24, Try.ntmps24
  go_wp2_with fail
  refine HF.out.mono ?_
  rintro e w1 ⟨rfl, u⟩
  have HU := hid u
  have H1 := hid (H.out.nxt u)
  have c1 := H1.out.c1
  have c0 := H1.out.c0
  have cu := H1.out.row.cell HI.out
  rw [HUU.out] at cu
  clear u
  go_wp2_with fail
  refine (HW.out w1 HU.out).mono ?_
  rintro e w2 ⟨rfl, hp⟩
  have HP := hid hp
  clear hp
  go_wp2
  go_ret
  exact ⟨rfl, HP.out⟩
end
end Go.Proofs.Ytfmgbmpdifjliaa
