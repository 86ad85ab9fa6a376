/- The document's own 'Strings' and 'Same'. -/
import Derived.Test.YtebglmfdchfplaaCodeTurn
namespace Go.Proofs.Ytebglmfdchfplaa
open Go.RowKit
set_option linter.unusedVariables false

theorem info_str : (Try.prog.info? 9).map (fun i => (i.zero, i.size, i.bytes)) = some (some (.string ByteArray.empty), 1, 16) := by kernel_rfl
/-- Rows as strings. -/
def strV (n : Nat) (R : Nat → List Nat) : List Value := (List.range n).map fun i => Value.string (strOf (R i))
theorem strV_length (n : Nat) (R : Nat → List Nat) : (strV n R).length = n := by simp [strV]
theorem strV_at {n i : Nat} {R : Nat → List Nat} (h : i < n) : (strV n R)[i]? = some (.string (strOf (R i))) := by simp [strV, h]
theorem strV_next (n : Nat) (R : Nat → List Nat) : strV (n + 1) R = strV n R ++ [.string (strOf (R n))] := by simp [strV, List.range_succ]
set_option maxRecDepth 100000 in
set_option maxHeartbeats 800000 in
theorem strings_any (FS : List Nat) (w0 w : World) (g o n cap : Nat) (R : Nat → List Nat) (hs : LS w0 FS w) (hR : LL FS w g o n fun i => some (R i)) (hn : n ≤ 100) :
    Calls Try.prog 18 #[.slice (some ⟨g, o, none⟩) n cap] w fun e w' => ∃ v, e = .returned v ∧ OwnV 9 w.heap.size w' v (strV n R) ∧ Up Nul w w' := by
  have HS := hid (And.intro hs hR)
  clear hs hR
  go_enter Try.func18, Try.ntmps18
  go_wp2_with fail
  go_loopw [3, 4] (fun v i wr => ∃ t : Nat, t ≤ n ∧ i = .int .i64 t ∧ OwnV 9 w.heap.size wr v (strV t R) ∧ Up Nul w wr) (fun _ i _ => n - (intOf i).toNat)
  case atStart => exact ⟨0, by omega, rfl, OwnV.nil _ _ _, Up.refl _ _⟩
  case round =>
    obtain ⟨t, ht, rfl, ho, hu⟩ := hrel
    have HO := hid (And.intro ho hu)
    clear ho hu
    by_cases hlt : t < n
    · obtain ⟨b, so, cp, x1, r1⟩ := (HS.out.2.nxt (HS.out.1.nul HO.out.2)).at hlt rfl
      have z1 := conv_row (cap := cp) r1.row rfl
      have HL : Hid ((strV t R).length + 1 ≤ 1000000) := by show _ ≤ _; rw [strV_length]; omega
      generalize HLR : (R t).length = lr at x1 z1
      generalize HSR : strOf (R t) = sr at z1
      have i1 : (0 : Int) ≤ (t : Int) := by omega
      have i2 : (t : Int) < (n : Int) := by omega
      clear r1
      go_wp2_with (first
        | (at_builtin; refine wpList_append_vals Try.underlying42 info_str rfl (by omega) rfl (.tmp 11) (.tmp 17) rfl w.heap.size u3 (strV t R) rfl (OwnV.alloc HO.out.1 _) ⟨wr.heap.size, 0, none⟩ 1 1 [.string sr] rfl (fun j u hj => by
            match j, hj with
            | 0, hj => cases hj; exact World.cell?_alloc_new wr _ _ 0) (fun u hu => by cases hu with | head => rfl | tail _ h => cases h) rfl HL.out (by have := HO.out.2.size; simp; omega) ?_; intro v2 w2 G1 G2)
        | go_in)
      go_roundw
      case rel => exact ⟨t + 1, by omega, by go_num, by rw [strV_next, HSR]; exact G1.out, (HO.out.2.alloc _).grown G2.out fun q hq => OwnV.base HO.out.1 q hq⟩
      case measure => simp [intOf]; omega
    · obtain rfl : n = t := by omega
      go_wp2
      go_ret
      exact ⟨_, rfl, HO.out⟩
/-- Two rows of the same strings. -/
structure St2 (w : World) (g n : Nat) (R : Nat → List Nat) : Prop where
  cells : ∀ i, i < n → w.cell? ⟨g, i, none⟩ = some (.string (strOf (R i)))
  lt : g < w.heap.size
theorem St2.up {w w' : World} {g n : Nat} {R : Nat → List Nat} (h : St2 w g n R) (u : Up Nul w w') : St2 w' g n R :=
  ⟨fun i hi => (u.cell (p := ⟨g, i, none⟩) h.lt id).trans (h.cells i hi), Nat.lt_of_lt_of_le h.lt u.size⟩
theorem stringsL {w0 w : World} {FS : List Nat} {g o n cap : Nat} {R : Nat → List Nat} (hs : LS w0 FS w) (hR : LL FS w g o n fun i => some (R i)) (h1 : 1 ≤ n) (hn : n ≤ 100) :
    Calls Try.prog 18 #[.slice (some ⟨g, o, none⟩) n cap] w fun e w' => ∃ h c, e = .returned (.slice (some ⟨h, 0, none⟩) n c) ∧ St2 w' h n R ∧ Up Nul w w' := by
  refine (strings_any FS w0 w g o n cap R hs hR hn).mono ?_
  rintro e w' ⟨v, rfl, ho, u⟩
  obtain ⟨h, c, e, e1, e2, e3, _, _⟩ := OwnV.row ho (by rw [strV_length]; omega)
  rw [strV_length] at e
  exact ⟨h, c, by rw [e], ⟨fun i hi => e3 i _ (strV_at hi), e2⟩, u⟩
set_option maxHeartbeats 800000 in
theorem same_yes (g1 g2 n c1 c2 : Nat) (R : Nat → List Nat) (w : World) (h1 : St2 w g1 n R) (h2 : St2 w g2 n R) (hn : n ≤ 100) :
    Calls Try.prog 17 #[.slice (some ⟨g1, 0, none⟩) n c1, .slice (some ⟨g2, 0, none⟩) n c2] w fun e w' => e = .returned (.bool true) ∧ Up Nul w w' := by
  have HS := hid (And.intro h1 h2)
  clear h1 h2
  go_enter Try.func17, Try.ntmps17
  go_wp2_with fail
  go_loopw [5] (fun i wr => ∃ t : Nat, t ≤ n ∧ i = .int .i64 t ∧ Up Nul w wr) (fun i _ => n - (intOf i).toNat)
  case atStart => exact ⟨0, by omega, rfl, Up.refl _ _⟩
  case round =>
    obtain ⟨t, ht, rfl, hu⟩ := hrel
    have HU := hid hu
    clear hu
    by_cases hlt : t < n
    · have x1 := (HS.out.1.up HU.out).cells t hlt
      have x2 := (HS.out.2.up HU.out).cells t hlt
      have hqq : ((strOf (R t)).toList == (strOf (R t)).toList) = true := by simp
      generalize strOf (R t) = sr at x1 x2 hqq
      have i1 : (0 : Int) ≤ (t : Int) := by omega
      have i2 : (t : Int) < (n : Int) := by omega
      go_wp2_with fail
      go_region
      go_wp2
      go_roundw
      case rel => exact ⟨t + 1, by omega, by go_num, HU.out.drewN _⟩
      case measure => simp [intOf]; omega
    · obtain rfl : n = t := by omega
      go_wp2
      go_ret
      exact ⟨rfl, HU.out⟩

/-! ### All shards, one behind the other -/
theorem whole_made2 {w w2 w3 w4 : World} {F gd gp k r L base : Nat} {bd bp : Nat → Nat} {D P : Nat → List Nat} {v : Value} (h1 : Elim w F gd k L bd D w3) (h2 : Elim w2 F gp r L bp P w3) (hlt : ∀ i, i < k → bd i < w2.heap.size) (u2 : Up (One F) w w2)
    (ho : OwnV 22 base w4 v (lnV k L bd ++ lnV r L bp)) (hb : w3.heap.size ≤ base) (u : Up Nul w3 w4) (hk : 1 ≤ k) :
    ∃ h cap, v = .slice (some ⟨h, 0, none⟩) (k + r) cap ∧ Elim w F h (k + r) L (two k bd bp) (two k D P) w4 ∧ k + r ≤ cap := by
  have hl : (lnV k L bd ++ lnV r L bp).length = k + r := by rw [List.length_append, lnV_length, lnV_length]
  obtain ⟨h, cap, e, hel⟩ := whole_made h1 h2 hlt u2 ho hb u hk
  obtain ⟨g, cap2, e2, _, _, _, _, e5⟩ := OwnV.row ho (by omega)
  rw [e, hl] at e2
  injection e2 with _ _ e3
  exact ⟨h, cap, e, hel, by omega⟩
theorem Tl_out1 {S : Nat → Option (List Nat)} {i : Nat} (hS : ∀ t, (S t).isSome = true) : ∀ n, (Tl (out1 S i) n).length = if i < n then n - 1 else n
  | 0 => by simp [Tl]
  | n + 1 => by
    have ih := Tl_out1 (i := i) hS n
    by_cases e : n = i
    · have h : out1 S i n = none := by unfold out1; rw [if_pos e]
      rw [Tl_none h, ih, if_neg (by omega), if_pos (by omega)]
      omega
    · obtain ⟨z, hz⟩ := Option.isSome_iff_exists.1 (hS n)
      have h : out1 S i n = some z := by unfold out1; rw [if_neg e, hz]
      rw [Tl_some h, List.length_append, ih]
      simp only [List.length_singleton]
      by_cases hi : i < n
      · rw [if_pos hi, if_pos (by omega)]; omega
      · rw [if_neg hi, if_neg (by omega)]
end Go.Proofs.Ytebglmfdchfplaa
