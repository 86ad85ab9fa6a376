/- The law's 'next'. -/
import Derived.Test.YtpdkcpjofofkoaaDoorRcKey
import Derived.Laws.BitsAllLaws
namespace Go.Proofs.YtpdkcpjofofkoaaDoor
open Go.RowKit
set_option linter.unusedVariables false

namespace RcL
theorem i64_mask (m : Nat) (hm : m < 63) (n : Int) : ∃ k : Nat, bits .and .i64 n ((2 ^ m - 1 : Nat) : Int) = (k : Int) ∧ k < 2 ^ m := by
  have hp : 2 ^ m ≤ 2 ^ 62 := Nat.pow_le_pow_right (by omega) (by omega)
  have key : (BitVec.ofInt 64 n &&& BitVec.ofInt 64 ((2 ^ m - 1 : Nat) : Int)).toNat = (n % ((2 ^ 64 : Nat) : Int)).toNat % 2 ^ m := by
    have e : (BitVec.ofInt 64 ((2 ^ m - 1 : Nat) : Int)).toNat = 2 ^ m - 1 := by
      rw [BitVec.toNat_ofInt]
      have : (((2 ^ m - 1 : Nat) : Int) % ((2 ^ 64 : Nat) : Int)) = ((2 ^ m - 1 : Nat) : Int) := Int.emod_eq_of_lt (by omega) (by omega)
      rw [this]
      omega
    rw [BitVec.toNat_and, BitVec.toNat_ofInt, e, Nat.and_two_pow_sub_one_eq_mod]
  refine ⟨(n % ((2 ^ 64 : Nat) : Int)).toNat % 2 ^ m, ?_, Nat.mod_lt _ (Nat.two_pow_pos m)⟩
  show IntKind.i64.wrap ((BitVec.ofInt 64 n &&& BitVec.ofInt 64 ((2 ^ m - 1 : Nat) : Int)).toNat : Nat) = _
  rw [key, IntKind.wrap_i64]
  have := Nat.mod_lt (n % ((2 ^ 64 : Nat) : Int)).toNat (Nat.two_pow_pos m)
  generalize (n % ((2 ^ 64 : Nat) : Int)).toNat % 2 ^ m = x at this ⊢
  omega
theorem mask24 (n : Int) : ∃ k : Nat, bits .and .i64 n 16777215 = (k : Int) ∧ k < 16777216 := i64_mask 24 (by omega) n
theorem mask8 (n : Int) : ∃ k : Nat, bits .and .i64 n 255 = (k : Int) ∧ k < 256 := i64_mask 8 (by omega) n
theorem mask3 (n : Int) : ∃ k : Nat, bits .and .i64 n 7 = (k : Int) ∧ k < 8 := i64_mask 3 (by omega) n
theorem mask16 (n : Int) : ∃ k : Nat, bits .and .i64 n 65535 = (k : Int) ∧ k < 65536 := i64_mask 16 (by omega) n
end RcL
/-- A slice of ints that can be read, and lies elsewhere than block A. -/
def RowO (A : Nat) (w : World) (a : Option Addr) (zs : List Int) : Prop := zs = [] ∨ ∃ g o, a = some ⟨g, o, none⟩ ∧ g < w.heap.size ∧ g < A ∧ ∀ i x, zs[i]? = some x → w.cell? ⟨g, o + i, none⟩ = some (.int .i64 x)
/-- Where the law's row of numbers lies, and how many were taken: k at block A, the row's slice at block Lb. -/
structure Nx (W : World) (A Lb k : Nat) (zs : List Int) : Prop where
  at_ : W.heap[A]? = some (.cells #[.int .i64 (k : Nat)] 3 (0, 0))
  l : ∃ a c, W.heap[Lb]? = some (.cells #[.slice a zs.length c] 22 (0, 0)) ∧ RowO A W a zs
  le : k ≤ 1000
  nl : zs.length ≤ 9223372036854775807
  ne : A ≠ Lb
theorem Nx.keep {W W' : World} {A Lb k k' : Nat} {zs : List Int} {T : Nat → Prop} (h : Nx W A Lb k zs) (hk : k' ≤ 1000) (u : Up T W W') (ha : W'.heap[A]? = some (.cells #[.int .i64 (k' : Nat)] 3 (0, 0))) (hT : ∀ j, T j → A ≤ j ∧ j ≠ Lb) : Nx W' A Lb k' zs := by
  obtain ⟨h1, ⟨a, c, h2, h3⟩, h4, h5, h6⟩ := h
  have hL := (Array.getElem?_eq_some_iff.1 h2).1
  refine ⟨ha, ⟨a, c, (u.block Lb hL (fun e => (hT _ e).2 rfl)).trans h2, ?_⟩, hk, h5, h6⟩
  rcases h3 with e | ⟨g, o, e, hg, hA, hc⟩
  · exact .inl e
  · exact .inr ⟨g, o, e, Nat.lt_of_lt_of_le hg u.size, hA, fun i x hi => (u.cell (p := ⟨g, o + i, none⟩) hg (fun e => by have e : T g := e; have := (hT g e).1; omega)).trans (hc i x hi)⟩
theorem Nx.nxt {W W' : World} {A Lb k : Nat} {zs : List Int} (h : Nx W A Lb k zs) (u : Up Nul W W') : Nx W' A Lb k zs := h.keep h.le u ((u.block A (Array.getElem?_eq_some_iff.1 h.at_).1 id).trans h.at_) fun _ e => e.elim
set_option maxHeartbeats 1000000 in
theorem nxt_any (W : World) (A Lb k n : Nat) (zs : List Int) (h : Nx W A Lb k zs) (hn : 1 ≤ n) (hn2 : n ≤ 100000) (hk : k + 1 ≤ 1000) :
    Calls Tryd.prog 16 #[.int .i64 (n : Nat), .pointer (some ⟨A, 0, none⟩), .pointer (some ⟨Lb, 0, none⟩)] W fun e w' => ∃ x : Nat, e = .returned (.int .i64 (x : Nat)) ∧ x < n ∧ Nx w' A Lb (k + 1) zs ∧ Up (One A) W w' := by
  have x0 : W.cell? ⟨A, 0, none⟩ = some (.int .i64 (k : Nat)) := by simp [World.cell?, h.at_]
  have f0 : W.frozen? ⟨A, 0, none⟩ = false := by simp [World.frozen?, h.at_]
  obtain ⟨a, c, hL, hrow⟩ := h.l
  obtain ⟨W1, hW1⟩ : ∃ w, w = W.setCell ⟨A, 0, none⟩ (.int .i64 ((k : Int) + 1)) := ⟨_, rfl⟩
  have hU : Up (One A) W W1 := by rw [hW1]; exact (Up.refl (One A) W).put rfl 0 _
  have hA1 : W1.heap[A]? = some (.cells #[.int .i64 ((k + 1 : Nat) : Int)] 3 (0, 0)) := by rw [hW1, heap_set_same h.at_]; rfl
  have HN : Hid (Nx W1 A Lb (k + 1) zs) := h.keep hk hU hA1 fun j e => by have e : j = A := e; subst e; exact ⟨Nat.le_refl _, h.ne⟩
  have y0 : W1.cell? ⟨A, 0, none⟩ = some (.int .i64 ((k : Int) + 1)) := by simp [World.cell?, hA1]
  have hL1 := (hU.block Lb (Array.getElem?_eq_some_iff.1 hL).1 (fun e => h.ne e.symm)).trans hL
  have y1 : W1.cell? ⟨Lb, 0, none⟩ = some (.slice a zs.length c) := by simp [World.cell?, hL1]
  have HU := hid hU
  have HR : Hid (∀ t x, zs[t]? = some x → ∃ g o, a = some ⟨g, o, none⟩ ∧ W1.cell? ⟨g, o + t, none⟩ = some (.int .i64 x)) := fun t x hx => by
    obtain ⟨g, o, e, hg, hgA, hc⟩ := hrow.resolve_left (fun e => by rw [e] at hx; cases hx)
    exact ⟨g, o, e, (hU.cell (p := ⟨g, o + t, none⟩) hg (fun e => by have e : g = A := e; omega)).trans (hc t x hx)⟩
  have hnl := h.nl
  have HNN := hid (And.intro hn hn2)
  have j1 : IntKind.i64.wrap ((k : Int) + 1) = (k : Int) + 1 := IntWalk.i64_in _ (by omega)
  have e1 : ((n : Nat) : Int) ≠ 0 := by omega
  have e0 : (((n : Nat) : Int) == 0) = false := by simpa using e1
  clear hU hA1 h hL hrow hL1
  by_cases hgt : zs.length < k + 1
  · have i1 : ((zs.length : Nat) : Int) < (k : Int) + 1 := by omega
    obtain ⟨m, hm⟩ : ∃ m : Nat, m = (k + 1) * 7 % n := ⟨_, rfl⟩
    have HM : Hid (m < n) := by show m < n; rw [hm]; exact Nat.mod_lt _ hn
    have i2 : IntKind.i64.wrap (((k : Int) + 1) * 7) = ((k : Int) + 1) * 7 := IntWalk.i64_in _ (by omega)
    have i4 : wrap64 (((k : Int) + 1) * 7) = ((k : Int) + 1) * 7 := by rw [← IntWalk.i64_left]; exact i2
    have i3 : (((k : Int) + 1) * 7).tmod (n : Int) = (m : Int) := by rw [hm, Int.tmod_eq_emod_of_nonneg (by omega)]; simp
    have i5 : (((k : Int) + 1) * 7) % (n : Int) = (m : Int) := by rw [hm]; simp
    subst hW1
    clear hm hgt hn hn2 hk HNN HR
    go_enter Tryd.func16, Tryd.ntmps16
    go_wp2_with fail
    go_ret
    exact ⟨m, rfl, HM.out, HN.out, HU.out⟩
  · have i1 : ¬ ((zs.length : Nat) : Int) < (k : Int) + 1 := by omega
    have hkl : k < zs.length := by omega
    obtain ⟨g, o, rfl, hc⟩ := HR.out k _ (List.getElem?_eq_getElem hkl)
    obtain ⟨y, hy, hy2⟩ := RcL.mask24 zs[k]
    obtain ⟨m, hm⟩ : ∃ m : Nat, m = y % n := ⟨_, rfl⟩
    have HM : Hid (m < n) := by show m < n; rw [hm]; exact Nat.mod_lt _ hn
    generalize zs[k] = x at hc hy
    have i2 : IntKind.i64.wrap ((k : Int) + 1 - 1) = (k : Int) := by rw [show (k : Int) + 1 - 1 = (k : Int) by omega]; exact IntWalk.i64_in _ (by omega)
    have i4 : wrap64 ((k : Int) + 1 - 1) = (k : Int) := by rw [← IntWalk.i64_left]; exact i2
    have i7 : (k : Int) + 1 - 1 = (k : Int) := by omega
    have i3 : ((y : Nat) : Int).tmod (n : Int) = (m : Int) := by rw [hm, Int.tmod_eq_emod_of_nonneg (by omega)]; simp
    have i5 : ((y : Nat) : Int) % (n : Int) = (m : Int) := by rw [hm]; simp
    have i6 : (k : Int) < ((zs.length : Nat) : Int) := by omega
    have i8 : (0 : Int) ≤ (k : Int) := by omega
    subst hW1
    clear hm hgt hn hn2 hk HNN HR hy2 hkl
    go_enter Tryd.func16, Tryd.ntmps16
    go_wp2_with fail
    go_ret
    exact ⟨m, rfl, HM.out, HN.out, HU.out⟩
end Go.Proofs.YtpdkcpjofofkoaaDoor
