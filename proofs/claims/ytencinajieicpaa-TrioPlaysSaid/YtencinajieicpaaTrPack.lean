/- Rows of records: pack. -/
import Derived.Test.YtencinajieicpaaTrRows
namespace Go.Proofs.Ytencinajieicpaa
open Go.RowKit
set_option linter.unusedVariables false

theorem byte_sln (w : World) (n : Nat) (hn : n < 256) : SlN (w.alloc (.cells #[.int .u8 (n : Nat)] 5)) (some ⟨w.heap.size, 0, none⟩) 1 [n] :=
  ⟨rfl, .inr ⟨w.heap.size, 0, rfl, by simp, fun i hi => by
    match i, hi with
    | 0, _ => exact World.cell?_alloc_new w _ _ 0, fun i => by
    match i with
    | 0 => exact hn
    | i + 1 => simp⟩, by omega⟩
theorem flt_succ {l : List (List Nat)} {t : Nat} (h : t < l.length) : flt (l.take (t + 1)) = flt (l.take t) ++ [l[t].length] ++ l[t] := by
  rw [List.take_succ_eq_append_getElem h, flt_append, flt_one, List.append_assoc]
  rfl
set_option maxRecDepth 100000 in
set_option maxHeartbeats 1600000 in
theorem pack_any {w : World} {v : Value} {l : List (List Nat)} (h : RRs w v l) (hr : ∀ y ∈ l, y.length < 256) (hl : l.length ≤ 100000) (hn : (flt l).length ≤ 900000) :
    Calls Try.prog 42 #[v] w fun e w' => ∃ v', e = .returned v' ∧ OwnB w.heap.size w' v' (flt l) ∧ Up Nul w w' := by
  obtain ⟨a, c, rfl, h⟩ := h
  have HR := hid h
  have HN := hid hn
  have HS := hid hr
  obtain ⟨n, N⟩ : ∃ n, Hid (l.length = n) := ⟨_, rfl⟩
  have HNN : Hid (n ≤ 100000) := by show _ ≤ _; rw [← N.out]; exact hl
  have HE : Hid (flt (l.take n) = flt l) := by show _ = _; rw [← N.out, List.take_length]
  rw [N.out] at HR ⊢
  clear h hn hr hl
  go_enter Try.func42, Try.ntmps42
  go_wp2_with fail
  go_loopw [3, 8] (fun v i wr => ∃ t : Nat, t ≤ n ∧ i = .int .i64 (t : Nat) ∧ OwnB w.heap.size wr v (flt (l.take t)) ∧ Up Nul w wr) (fun _ i _ => n - (intOf i).toNat)
  case atStart => exact ⟨0, Nat.zero_le _, rfl, OwnB.nil _ _, Up.refl _ _⟩
  case round =>
    obtain ⟨t, ht, rfl, ho, hu⟩ := hrel
    have HO := hid ho
    have HU := hid hu
    clear ho hu
    have i1 : (0 : Int) ≤ (t : Int) := by omega
    have i3 : (t : Int) ≤ 100000 := by have := HNN.out; omega
    by_cases hlt : t < n
    · obtain ⟨g, o, rfl, hg, hc⟩ := HR.out.resolve_left (by omega)
      have htl : t < l.length := by rw [N.out]; exact hlt
      obtain ⟨ea, ec, x0, s1⟩ := hc t l[t] (List.getElem?_eq_getElem htl)
      have x1 := (HU.out.cell (p := ⟨g, o + t, none⟩) hg id).trans x0
      have HX := hid (flt_succ htl)
      have HZS := hid (HS.out l[t] (List.getElem_mem htl))
      have HB : Hid ((flt (l.take t)).length + 1 + l[t].length ≤ 900000) := by
        have := congrArg List.length HX.out
        obtain ⟨s, h2⟩ := flt_take l (t + 1)
        have h2 := congrArg List.length h2
        have := HN.out
        simp only [List.length_append, List.length_cons, List.length_nil] at *
        show _ ≤ _
        omega
      have HB2 : Hid ((flt (l.take t) ++ [l[t].length]).length + l[t].length ≤ 1000000) := by
        have := HB.out
        show _ ≤ _
        rw [List.length_append]
        simp only [List.length_cons, List.length_nil]
        omega
      generalize l[t] = y at x1 s1 HX HZS HB HB2
      have HSL := hid s1
      obtain ⟨k, K⟩ : ∃ k, Hid (y.length = k) := ⟨_, rfl⟩
      have lm : (k : Int) % 256 = (k : Int) := by have := HZS.out; have := K.out; omega
      rw [K.out] at x1 HX HZS HB HB2 HSL
      have i2 : (t : Int) < (n : Int) := by omega
      have HT := hid hlt
      clear s1 hc hg ht hlt x0 htl
      go_wp2_with (first
        | (at_builtin; refine wpList_append_sl rfl (.tmp 12) (.tmp 16) rfl w.heap.size _ (flt (l.take t)) rfl (HO.out.alloc _) (some ⟨wr.heap.size, 0, none⟩) 1 1 [k] rfl (byte_sln wr k HZS.out) (fun e => by cases e) (by have := HB.out; omega) (by have := HU.out.size; simp; omega) ?_
           intro v2 w2 G1 G2
           have HU2 : Hid (Up Nul w w2) := (HU.out.alloc _).grown G2.out fun q hq => HO.out.base q hq
           have HS2 := hid (HSL.out.nxt HU2.out)
           have HNL := hid HS2.out.nil0
           have HBS := hid HU2.out.size
           clear G2)
        | (at_builtin; refine wpList_append_sl rfl (.tmp 18) (.tmp 19) rfl w.heap.size _ (flt (l.take t) ++ [k]) rfl G1.out ea k ec y rfl HS2.out HNL.out HB2.out HBS.out ?_; intro v3 w3 G3 G4)
        | fail)
      have HU3 : Hid (Up Nul w w3) := HU2.out.grown G4.out fun q hq => G1.out.base q hq
      have HO3 : Hid (OwnB w.heap.size w3 v3 (flt (l.take (t + 1)))) := by show OwnB _ _ _ _; rw [HX.out]; exact G3.out
      clear G1 G3 G4
      go_wp2_with fail
      go_roundw
      case rel => exact ⟨t + 1, HT.out, by go_num, HO3.out, HU3.out⟩
      case measure => have := HT.out; simp [intOf]; omega
    · obtain rfl : t = n := by omega
      go_wp2_with fail
      go_ret
      exact ⟨_, rfl, by rw [← HE.out]; exact HO.out, HU.out⟩
end Go.Proofs.Ytencinajieicpaa
