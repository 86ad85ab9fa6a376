/- IndexFunc and ContainsFunc over ints, bytes, Locs. -/
import Derived.Test.YtmhmlfgikmeejaaDoorRcHolds
namespace Go.Proofs.YtmhmlfgikmeejaaDoor
open Go.RowKit
set_option linter.unusedVariables false


theorem iindex_any (w : World) (a : Option Addr) (c : Nat) (zs : List Int) (h : RowI w a zs) (hl : zs.length ≤ 100000) (p : Nat) (bad : Int → Bool)
    (hc : ∀ x, x ∈ zs → ∀ W, Up Nul w W → Calls Tryd.prog 46 #[.int .i64 x, .pointer (some ⟨p, 0, none⟩)] W fun e w' => e = .returned (.bool (bad x)) ∧ Up Nul W w') :
    Calls Tryd.prog 51 #[.slice a zs.length c, .func (.func 46) #[] #[.pointer (some ⟨p, 0, none⟩)]] w fun e w' => ∃ x : Int, e = .returned (.int .i64 x) ∧ decide (0 ≤ x) = zs.any bad ∧ Up Nul w w' := by
  have HR := hid h
  have HC := hid hc
  have HL := hid hl
  obtain ⟨n, N⟩ : ∃ n, Hid (zs.length = n) := ⟨_, rfl⟩
  rw [N.out] at HL ⊢
  clear h hc hl
  go_enter Tryd.func51, Tryd.ntmps51
  go_wp2_with fail
  go_loopw [8] (fun i wr => ∃ t : Nat, t ≤ n ∧ i = .int .i64 (t : Nat) ∧ (zs.take t).any bad = false ∧ Up Nul w wr) (fun i _ => n - (intOf i).toNat)
  case atStart => exact ⟨0, Nat.zero_le _, rfl, rfl, Up.refl _ _⟩
  case round =>
    obtain ⟨t, ht, rfl, hb, hu⟩ := hrel
    have HU := hid hu
    have HB := hid hb
    have i0 : (0 : Int) ≤ (t : Int) := by omega
    have i9 : (t : Int) ≤ 100000 := by have := HL.out; omega
    by_cases hlt : t < n
    · have htl : t < zs.length := by rw [N.out]; exact hlt
      obtain ⟨g, o, rfl, hg, hcell⟩ := (HR.out.nxt HU.out).resolve_left (fun e => by rw [e] at htl; cases htl)
      have x1 := hcell t _ (List.getElem?_eq_getElem htl)
      have HCI := hid (HC.out zs[t] (List.getElem_mem htl) _ HU.out)
      have HNX : Hid ((zs.take (t + 1)).any bad = bad zs[t]) := by
        show _ = _
        rw [List.take_succ_eq_append_getElem htl, List.any_append, HB.out]
        simp
      have HANY : Hid (zs.any bad = ((zs.take (t + 1)).any bad || (zs.drop (t + 1)).any bad)) := by
        show _ = _
        rw [← List.any_append, List.take_append_drop]
      generalize zs[t] = x at x1 HCI HNX
      have i2 : (t : Int) < (n : Int) := by omega
      have HT := hid hlt
      cases hbj : bad x with
      | true =>
        rw [hbj] at HCI HNX
        have HD : Hid (zs.any bad = true) := by show _ = _; rw [HANY.out, HNX.out]; rfl
        clear hbj hb hu ht hlt hg hcell htl HNX HANY
        go_wp2_with fail
        refine HCI.out.mono ?_
        rintro e w1 ⟨rfl, u1⟩
        have HU1 := hid (HU.out.trans u1)
        clear u1
        go_wp2
        go_ret
        exact ⟨_, rfl, by rw [HD.out]; simp, HU1.out⟩
      | false =>
        rw [hbj] at HCI HNX
        clear hbj hb hu ht hlt hg hcell htl HANY
        go_wp2_with fail
        refine HCI.out.mono ?_
        rintro e w1 ⟨rfl, u1⟩
        have HU1 := hid (HU.out.trans u1)
        clear u1
        go_wp2_with fail
        go_roundw
        case rel => exact ⟨t + 1, HT.out, by go_num, HNX.out, HU1.out⟩
        case measure => have := HT.out; simp [intOf]; omega
    · obtain rfl : t = n := by omega
      have HD : Hid (zs.any bad = false) := by
        have := HB.out
        rw [List.take_of_length_le (by rw [N.out]; exact Nat.le_refl _)] at this
        exact this
      clear hb hu ht hlt
      go_wp2
      go_ret
      exact ⟨_, rfl, by rw [HD.out]; rfl, HU.out⟩
theorem icont_any (w : World) (a : Option Addr) (c : Nat) (zs : List Int) (h : RowI w a zs) (hl : zs.length ≤ 100000) (p : Nat) (bad : Int → Bool)
    (hc : ∀ x, x ∈ zs → ∀ W, Up Nul w W → Calls Tryd.prog 46 #[.int .i64 x, .pointer (some ⟨p, 0, none⟩)] W fun e w' => e = .returned (.bool (bad x)) ∧ Up Nul W w') :
    Calls Tryd.prog 47 #[.slice a zs.length c, .func (.func 46) #[] #[.pointer (some ⟨p, 0, none⟩)]] w fun e w' => e = .returned (.bool (zs.any bad)) ∧ Up Nul w w' := by
  have H := hid (iindex_any w a c zs h hl p bad hc)
  clear hc hl h
  generalize zs.any bad = b at H ⊢
  generalize zs.length = n at H ⊢
  go_enter Tryd.func47, Tryd.ntmps47
  go_wp2_with fail
  refine H.out.mono ?_
  rintro e w1 ⟨x, rfl, hx, u⟩
  have HU := hid u
  cases b with
  | true =>
    have h1 : 0 ≤ x := of_decide_eq_true hx
    clear hx u
    go_wp2
    go_ret
    exact ⟨rfl, HU.out⟩
  | false =>
    have h1 : ¬ 0 ≤ x := of_decide_eq_false hx
    have HX := hid hx
    clear hx u
    go_wp2
    go_ret
    exact ⟨congrArg (fun b => Ending.returned (.bool b)) HX.out, HU.out⟩

theorem bindex_any (w : World) (a : Option Addr) (c : Nat) (zs : List Nat) (h : RowB w a zs) (hl : zs.length ≤ 100000) (bad : Nat → Bool)
    (hc : ∀ x, x ∈ zs → ∀ W, Up Nul w W → Calls Tryd.prog 48 #[.int .u8 (x : Nat)] W fun e w' => e = .returned (.bool (bad x)) ∧ Up Nul W w') :
    Calls Tryd.prog 60 #[.slice a zs.length c, .func (.func 48) #[] #[]] w fun e w' => ∃ x : Int, e = .returned (.int .i64 x) ∧ decide (0 ≤ x) = zs.any bad ∧ Up Nul w w' := by
  have HR := hid h
  have HC := hid hc
  have HL := hid hl
  obtain ⟨n, N⟩ : ∃ n, Hid (zs.length = n) := ⟨_, rfl⟩
  rw [N.out] at HL ⊢
  clear h hc hl
  go_enter Tryd.func60, Tryd.ntmps60
  go_wp2_with fail
  go_loopw [8] (fun i wr => ∃ t : Nat, t ≤ n ∧ i = .int .i64 (t : Nat) ∧ (zs.take t).any bad = false ∧ Up Nul w wr) (fun i _ => n - (intOf i).toNat)
  case atStart => exact ⟨0, Nat.zero_le _, rfl, rfl, Up.refl _ _⟩
  case round =>
    obtain ⟨t, ht, rfl, hb, hu⟩ := hrel
    have HU := hid hu
    have HB := hid hb
    have i0 : (0 : Int) ≤ (t : Int) := by omega
    have i9 : (t : Int) ≤ 100000 := by have := HL.out; omega
    by_cases hlt : t < n
    · have htl : t < zs.length := by rw [N.out]; exact hlt
      obtain ⟨g, o, rfl, hg, hcell⟩ := (HR.out.nxt HU.out).resolve_left (fun e => by rw [e] at htl; cases htl)
      have x1 := hcell t _ (List.getElem?_eq_getElem htl)
      have HCI := hid (HC.out zs[t] (List.getElem_mem htl) _ HU.out)
      have HNX : Hid ((zs.take (t + 1)).any bad = bad zs[t]) := by
        show _ = _
        rw [List.take_succ_eq_append_getElem htl, List.any_append, HB.out]
        simp
      have HANY : Hid (zs.any bad = ((zs.take (t + 1)).any bad || (zs.drop (t + 1)).any bad)) := by
        show _ = _
        rw [← List.any_append, List.take_append_drop]
      generalize zs[t] = x at x1 HCI HNX
      have i2 : (t : Int) < (n : Int) := by omega
      have HT := hid hlt
      cases hbj : bad x with
      | true =>
        rw [hbj] at HCI HNX
        have HD : Hid (zs.any bad = true) := by show _ = _; rw [HANY.out, HNX.out]; rfl
        clear hbj hb hu ht hlt hg hcell htl HNX HANY
        go_wp2_with fail
        refine HCI.out.mono ?_
        rintro e w1 ⟨rfl, u1⟩
        have HU1 := hid (HU.out.trans u1)
        clear u1
        go_wp2
        go_ret
        exact ⟨_, rfl, by rw [HD.out]; simp, HU1.out⟩
      | false =>
        rw [hbj] at HCI HNX
        clear hbj hb hu ht hlt hg hcell htl HANY
        go_wp2_with fail
        refine HCI.out.mono ?_
        rintro e w1 ⟨rfl, u1⟩
        have HU1 := hid (HU.out.trans u1)
        clear u1
        go_wp2_with fail
        go_roundw
        case rel => exact ⟨t + 1, HT.out, by go_num, HNX.out, HU1.out⟩
        case measure => have := HT.out; simp [intOf]; omega
    · obtain rfl : t = n := by omega
      have HD : Hid (zs.any bad = false) := by
        have := HB.out
        rw [List.take_of_length_le (by rw [N.out]; exact Nat.le_refl _)] at this
        exact this
      clear hb hu ht hlt
      go_wp2
      go_ret
      exact ⟨_, rfl, by rw [HD.out]; rfl, HU.out⟩
theorem bcont_any (w : World) (a : Option Addr) (c : Nat) (zs : List Nat) (h : RowB w a zs) (hl : zs.length ≤ 100000) (bad : Nat → Bool)
    (hc : ∀ x, x ∈ zs → ∀ W, Up Nul w W → Calls Tryd.prog 48 #[.int .u8 (x : Nat)] W fun e w' => e = .returned (.bool (bad x)) ∧ Up Nul W w') :
    Calls Tryd.prog 49 #[.slice a zs.length c, .func (.func 48) #[] #[]] w fun e w' => e = .returned (.bool (zs.any bad)) ∧ Up Nul w w' := by
  have H := hid (bindex_any w a c zs h hl bad hc)
  clear hc hl h
  generalize zs.any bad = b at H ⊢
  generalize zs.length = n at H ⊢
  go_enter Tryd.func49, Tryd.ntmps49
  go_wp2_with fail
  refine H.out.mono ?_
  rintro e w1 ⟨x, rfl, hx, u⟩
  have HU := hid u
  cases b with
  | true =>
    have h1 : 0 ≤ x := of_decide_eq_true hx
    clear hx u
    go_wp2
    go_ret
    exact ⟨rfl, HU.out⟩
  | false =>
    have h1 : ¬ 0 ≤ x := of_decide_eq_false hx
    have HX := hid hx
    clear hx u
    go_wp2
    go_ret
    exact ⟨congrArg (fun b => Ending.returned (.bool b)) HX.out, HU.out⟩

theorem lindex_any (w : World) (a : Option Addr) (c : Nat) (zs : List Lo) (h : RowL w a zs) (hl : zs.length ≤ 100000) (bad : Lo → Bool)
    (hc : ∀ x, x ∈ zs → ∀ W, Up Nul w W → Calls Tryd.prog 29 #[lov x] W fun e w' => e = .returned (.bool (bad x)) ∧ Up Nul W w') :
    Calls Tryd.prog 50 #[.slice a zs.length c, .func (.func 29) #[] #[]] w fun e w' => ∃ x : Int, e = .returned (.int .i64 x) ∧ decide (0 ≤ x) = zs.any bad ∧ Up Nul w w' := by
  have HR := hid h
  have HC := hid hc
  have HL := hid hl
  obtain ⟨n, N⟩ : ∃ n, Hid (zs.length = n) := ⟨_, rfl⟩
  rw [N.out] at HL ⊢
  clear h hc hl
  go_enter Tryd.func50, Tryd.ntmps50
  go_wp2_with fail
  go_loopw [8] (fun i wr => ∃ t : Nat, t ≤ n ∧ i = .int .i64 (t : Nat) ∧ (zs.take t).any bad = false ∧ Up Nul w wr) (fun i _ => n - (intOf i).toNat)
  case atStart => exact ⟨0, Nat.zero_le _, rfl, rfl, Up.refl _ _⟩
  case round =>
    obtain ⟨t, ht, rfl, hb, hu⟩ := hrel
    have HU := hid hu
    have HB := hid hb
    have i0 : (0 : Int) ≤ (t : Int) := by omega
    have i9 : (t : Int) ≤ 100000 := by have := HL.out; omega
    by_cases hlt : t < n
    · have htl : t < zs.length := by rw [N.out]; exact hlt
      obtain ⟨g, o, rfl, hg, hcell⟩ := (HR.out.nxt HU.out).resolve_left (fun e => by rw [e] at htl; cases htl)
      have x1 := hcell t _ (List.getElem?_eq_getElem htl) 0 _ rfl
      have x2 := hcell t _ (List.getElem?_eq_getElem htl) 1 _ rfl
      have x3 := hcell t _ (List.getElem?_eq_getElem htl) 2 _ rfl
      rw [Nat.add_zero] at x1
      have HCI := hid (HC.out zs[t] (List.getElem_mem htl) _ HU.out)
      have HNX : Hid ((zs.take (t + 1)).any bad = bad zs[t]) := by
        show _ = _
        rw [List.take_succ_eq_append_getElem htl, List.any_append, HB.out]
        simp
      have HANY : Hid (zs.any bad = ((zs.take (t + 1)).any bad || (zs.drop (t + 1)).any bad)) := by
        show _ = _
        rw [← List.any_append, List.take_append_drop]
      generalize zs[t] = x at x1 x2 x3 HCI HNX
      have i2 : (t : Int) < (n : Int) := by omega
      have HT := hid hlt
      cases hbj : bad x with
      | true =>
        rw [hbj] at HCI HNX
        have HD : Hid (zs.any bad = true) := by show _ = _; rw [HANY.out, HNX.out]; rfl
        clear hbj hb hu ht hlt hg hcell htl HNX HANY
        go_wp2_with fail
        refine HCI.out.mono ?_
        rintro e w1 ⟨rfl, u1⟩
        have HU1 := hid (HU.out.trans u1)
        clear u1
        go_wp2
        go_ret
        exact ⟨_, rfl, by rw [HD.out]; simp, HU1.out⟩
      | false =>
        rw [hbj] at HCI HNX
        clear hbj hb hu ht hlt hg hcell htl HANY
        go_wp2_with fail
        refine HCI.out.mono ?_
        rintro e w1 ⟨rfl, u1⟩
        have HU1 := hid (HU.out.trans u1)
        clear u1
        go_wp2_with fail
        go_roundw
        case rel => exact ⟨t + 1, HT.out, by go_num, HNX.out, HU1.out⟩
        case measure => have := HT.out; simp [intOf]; omega
    · obtain rfl : t = n := by omega
      have HD : Hid (zs.any bad = false) := by
        have := HB.out
        rw [List.take_of_length_le (by rw [N.out]; exact Nat.le_refl _)] at this
        exact this
      clear hb hu ht hlt
      go_wp2
      go_ret
      exact ⟨_, rfl, by rw [HD.out]; rfl, HU.out⟩
theorem lcont_any (w : World) (a : Option Addr) (c : Nat) (zs : List Lo) (h : RowL w a zs) (hl : zs.length ≤ 100000) (bad : Lo → Bool)
    (hc : ∀ x, x ∈ zs → ∀ W, Up Nul w W → Calls Tryd.prog 29 #[lov x] W fun e w' => e = .returned (.bool (bad x)) ∧ Up Nul W w') :
    Calls Tryd.prog 28 #[.slice a zs.length c, .func (.func 29) #[] #[]] w fun e w' => e = .returned (.bool (zs.any bad)) ∧ Up Nul w w' := by
  have H := hid (lindex_any w a c zs h hl bad hc)
  clear hc hl h
  generalize zs.any bad = b at H ⊢
  generalize zs.length = n at H ⊢
  go_enter Tryd.func28, Tryd.ntmps28
  go_wp2_with fail
  refine H.out.mono ?_
  rintro e w1 ⟨x, rfl, hx, u⟩
  have HU := hid u
  cases b with
  | true =>
    have h1 : 0 ≤ x := of_decide_eq_true hx
    clear hx u
    go_wp2
    go_ret
    exact ⟨rfl, HU.out⟩
  | false =>
    have h1 : ¬ 0 ≤ x := of_decide_eq_false hx
    have HX := hid hx
    clear hx u
    go_wp2
    go_ret
    exact ⟨congrArg (fun b => Ending.returned (.bool b)) HX.out, HU.out⟩
end Go.Proofs.YtmhmlfgikmeejaaDoor
