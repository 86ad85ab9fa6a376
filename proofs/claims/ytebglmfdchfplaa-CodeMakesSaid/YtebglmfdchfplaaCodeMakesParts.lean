/- The law CodeMakes, walked. -/
import Derived.Test.YtebglmfdchfplaaCodeRefEnc
namespace Go.Proofs.Ytebglmfdchfplaa
open Go.RowKit
set_option linter.unusedVariables false

theorem SlN.lr {w0 w : World} {FS : List Nat} {a : Option Addr} {n : Nat} {z : List Nat} (h : SlN w0 a n z) (hs : LS w0 FS w) (hn : 1 ≤ n) : ∃ b o, a = some ⟨b, o, none⟩ ∧ LR FS w b o z := by
  rcases h.row with e | ⟨b, o, e, hb, r⟩
  · omega
  · exact ⟨b, o, e, r.up hs.up hb id, Nat.lt_of_lt_of_le hb hs.up.size, fun hm => by have := hs.own b hm; omega⟩
/-- Which codes may be. -/
def May (X Y : List Nat) : Prop := (1 ≤ X.length ∧ X.length ≤ 14) ∧ (1 ≤ Y.length ∧ Y.length ≤ 4) ∧ Dst (X ++ Y)
theorem may_raw {w0 w : World} {FS : List Nat} {a1 a2 : Option Addr} {n1 c1 n2 c2 : Nat} {X Y : List Nat} (hs : LS w0 FS w) (hX : SlN w0 a1 n1 X) (hY : SlN w0 a2 n2 Y) :
    Calls Try.prog 19 #[.slice a1 n1 c1, .slice a2 n2 c2] w fun e w' => ((e = .returned (.bool true) ∧ May X Y) ∨ (e = .returned (.bool false) ∧ ¬ May X Y)) ∧ Nxt FS w w' := by
  by_cases h : (n1 < 1 ∨ 14 < n1) ∨ (n2 < 1 ∨ 4 < n2)
  · refine (may_long n1 c1 n2 c2 a1 a2 w h).mono ?_
    rintro e w' ⟨rfl, rfl⟩
    refine ⟨.inr ⟨rfl, fun hm => ?_⟩, hs.refl⟩
    have h1 := hm.1
    have h2 := hm.2.1
    rw [hX.len] at h1
    rw [hY.len] at h2
    omega
  · obtain ⟨b1, o1, rfl, r1⟩ := hX.lr hs (by omega)
    obtain ⟨b2, o2, rfl, r2⟩ := hY.lr hs (by omega)
    refine (may_any FS b1 o1 c1 b2 o2 c2 n1 n2 X Y w r1 r2 hX.len hY.len (by omega) (by omega) (by omega) (by omega)).mono ?_
    rintro e w' ⟨⟨rfl, hd⟩ | ⟨rfl, hd⟩, u⟩
    · exact ⟨.inl ⟨rfl, by rw [hX.len]; omega, by rw [hY.len]; omega, hd⟩, hs.nul u⟩
    · exact ⟨.inr ⟨rfl, fun hm => hd hm.2.2⟩, hs.nul u⟩
theorem cnew_raw {w0 w : World} {FS : List Nat} {F : Nat} {a1 a2 : Option Addr} {n1 c1 n2 c2 : Nat} {X Y : List Nat} (hs : LS w0 FS w) (hF : F ∈ FS) (hX : SlN w0 a1 n1 X) (hY : SlN w0 a2 n2 Y) :
    Calls Try.prog 10 #[.pointer (some ⟨F, 0, none⟩), .slice a1 n1 c1, .slice a2 n2 c2] w
      fun e w' => ((May X Y ∧ ∃ c, e = .returned (.tuple #[.pointer (some ⟨c, 0, none⟩), .int .i64 0])) ∨ (¬ May X Y ∧ e = .returned (.tuple #[.pointer none, .int .i64 1]))) ∧ Nxt FS w w' := by
  by_cases h : (n1 < 1 ∨ 14 < n1) ∨ (n2 < 1 ∨ 4 < n2)
  · refine (new_long F n1 c1 n2 c2 a1 a2 w h).mono ?_
    rintro e w' ⟨rfl, rfl⟩
    refine ⟨.inr ⟨fun hm => ?_, rfl⟩, hs.refl⟩
    have h1 := hm.1
    have h2 := hm.2.1
    rw [hX.len] at h1
    rw [hY.len] at h2
    omega
  · obtain ⟨b1, o1, rfl, r1⟩ := hX.lr hs (by omega)
    obtain ⟨b2, o2, rfl, r2⟩ := hY.lr hs (by omega)
    by_cases hd : Dst (X ++ Y)
    · refine (new_code FS w0 w F b1 o1 b2 o2 n1 n2 c1 c2 X Y hs hF r1 r2 hX.len hY.len (by omega) (by omega) (by omega) (by omega) hd).mono ?_
      rintro e w' ⟨c, pp, pq, sp, sq, rfl, _, n⟩
      exact ⟨.inl ⟨⟨by rw [hX.len]; omega, by rw [hY.len]; omega, hd⟩, c, rfl⟩, n⟩
    · refine (new_twice FS w0 w F b1 o1 b2 o2 n1 n2 c1 c2 X Y hs hF r1 r2 hX.len hY.len (by omega) (by omega) (by omega) (by omega) hd).mono ?_
      rintro e w' ⟨rfl, u⟩
      exact ⟨.inr ⟨fun hm => hd hm.2.2, rfl⟩, hs.nul u⟩
theorem tail_s (g n cap : Nat) (h1 : 1 ≤ n) : ∃ a : Option Addr, ∀ w : World, (Instr.slice 33 (.slice (some ⟨g, 0, none⟩) n cap) (some (.int .i64 1)) none none).run Try.prog w = .ok (.slice a (n - 1) (cap - 1)) w := by
  have h : (Try.prog.info? (Try.prog.elem 33)).map (·.size) = some 1 := by kernel_rfl
  obtain ⟨i, hi, hs⟩ := Option.map_eq_some_iff.1 h
  refine ⟨if cap = 1 then some ⟨g, 0, none⟩ else (some (⟨g, 0, none⟩ : Addr)).map (·.add (1 * 1)), fun w => ?_⟩
  rw [run_slice_l (P := Try.prog) (w := w) 33 (some ⟨g, 0, none⟩) n cap (by kernel_rfl) .i64 1 (by omega) (by omega)]
  simp [sizeOf, typeInfo, hi, hs, Result.andThen, sliced]
theorem coefL {FS : List Nat} {w : World} {c F k r pp pq sp sq : Nat} {X Y : List Nat} (hc : CD FS w c F k r pp pq sp sq (coefZ k r X Y)) (j i : Int) :
    Calls Try.prog 21 #[.pointer (some ⟨c, 0, none⟩), .int .i64 j, .int .i64 i] w fun e w' => e = .returned (.int .u8 (cfo k r X Y j i : Nat)) ∧ Up Nul w w' := by
  refine (coef_raw hc j i).mono ?_
  rintro e w' ⟨h, n, rfl⟩
  exact ⟨h, (Up.refl _ _).drewN n⟩
/-- The document's 'Encode' as the laws use it. -/
theorem refEncL {w0 w : World} {FS : List Nat} {gx cx gy cy g cap k r L : Nat} {X Y : List Nat} {D : Nat → List Nat} (hs : LS w0 FS w) (rX : LR FS w gx 0 X) (rY : LR FS w gy 0 Y) (lX : X.length = k) (lY : Y.length = r) (k1 : 1 ≤ k) (k14 : k ≤ 14) (r1 : 1 ≤ r) (r4 : r ≤ 4)
    (hD : St2 w g k D) (lD : ∀ i, i < k → (D i).length = L) (sD : ∀ i u, (D i).getD u 0 < 256) (hL : L ≤ 70) :
    Calls Try.prog 23 #[.agg #[.slice (some ⟨gx, 0, none⟩) k cx, .slice (some ⟨gy, 0, none⟩) r cy], .slice (some ⟨g, 0, none⟩) k cap] w
      fun e w' => ∃ h c, e = .returned (.slice (some ⟨h, 0, none⟩) r c) ∧ St2 w' h r (acrZ k L (coefZ k r X Y) D) ∧ Up Nul w w' := by
  refine (refEnc_any FS w0 w gx cx gy cy g cap k r L X Y D hs rX rY lX lY k1 k14 r4 hD lD sD hL).mono ?_
  rintro e w' ⟨v, rfl, ho, u⟩
  obtain ⟨h, c, e, e1, e2, e3, _, _⟩ := OwnV.row ho (by rw [strV_length]; omega)
  rw [strV_length] at e
  exact ⟨h, c, by rw [e], ⟨fun i hi => e3 i _ (strV_at hi), e2⟩, u⟩
end Go.Proofs.Ytebglmfdchfplaa
