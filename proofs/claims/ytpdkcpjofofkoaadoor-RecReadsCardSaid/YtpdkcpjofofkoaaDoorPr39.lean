/- Bytes converted out of a string: where they lie, a byte put into them, a byte appended to them. -/
import Derived.Test.YtpdkcpjofofkoaaDoorPkTidy
import Derived.Test.YtpdkcpjofofkoaaDoorPq1
import Derived.Test.YtpdkcpjofofkoaaDoorPq10
import Derived.Lib.ConvBytes
import Derived.Deep.AppendSrc
set_option maxRecDepth 100000
namespace Go.Proofs.YtpdkcpjofofkoaaDoor
open Go.RowKit
set_option linter.unusedVariables false
theorem bw_up (w : World) (s : ByteArray) : Up Nul w (Lib.bytesWorld w 5 s) :=
 ⟨rfl, rfl, rfl, by rw [Lib.bytesWorld_size]; omega, fun k hk _ => Lib.bytesWorld_at_old w 5 s k hk⟩
/-- A row of bytes in a block of its own, all its cells there and none frozen. -/
structure Cv (w : World) (q cap : Nat) (z : List Nat) : Prop where
 row : Row w q 0 z
 le : z.length ≤ cap
 lt : q < w.heap.size
 spare : ∀ j, j < cap → (w.cell? ⟨q, j, none⟩).isSome = true ∧ w.frozen? ⟨q, j, none⟩ = false
theorem Cv.new (w : World) (z : List Nat) (h8 : ∀ i, z.getD i 0 < 256) : Cv (Lib.bytesWorld w 5 (strOf z)) w.heap.size (grownCap w z.length 0 5) z := by
 have hc : z.length ≤ grownCap w z.length 0 5 := grownCap_ge w z.length 0 _
 have e := Lib.bytesWorld_at_new w 5 (strOf z)
 have hs : (Lib.bytesCells w 5 (strOf z)).size = grownCap w z.length 0 5 := by
  have : (strOf z).data.size = z.length := strOf_size z
  simp [Lib.bytesCells, strOf_size, this]
  omega
 refine ⟨⟨fun i hi => ?_, h8⟩, hc, by rw [Lib.bytesWorld_size]; omega, fun j hj => ⟨?_, ?_⟩⟩
 ·rw [Nat.zero_add, Lib.bytesWorld_cell _ _ _ _ (by rw [strOf_size]; exact hi)]
  congr 2
  have := h8 i
  simp [strOf, List.getD_eq_getElem?_getD, List.getElem?_eq_getElem hi] at this ⊢
  omega
 ·simp [World.cell?, e]
  rw [hs]
  exact hj
 ·simp [World.frozen?, e]
  omega
section
variable {w w' : World} {q cap : Nat} {z : List Nat}
theorem Cv.up {S : Nat → Prop} (h : Cv w q cap z) (u : Up S w w') (hs : ¬ S q) : Cv w' q cap z :=
 ⟨h.row.up u h.lt hs, h.le, Nat.lt_of_lt_of_le h.lt u.size, fun j hj => by
  have := h.spare j hj
  exact ⟨by rw [u.cell (p := ⟨q, j, none⟩) h.lt hs]; exact this.1, (u.froz (p := ⟨q, j, none⟩) h.lt hs).trans this.2⟩⟩
theorem Cv.cell (h : Cv w q cap z) (t : Nat) (ht : t < z.length) : w.cell? ⟨q, t, none⟩ = some (.int .u8 (z.getD t 0 : Nat)) ∧ w.frozen? ⟨q, t, none⟩ = false := by
 have := h.row.cells t ht
 rw [Nat.zero_add] at this
 exact ⟨this, (h.spare t (Nat.lt_of_lt_of_le ht h.le)).2⟩
theorem Cv.sln (h : Cv w q cap z) (n : Nat) (hn : n ≤ z.length) (hl : n ≤ 1000) : SlN w (some ⟨q, 0, none⟩) n (z.take n) := by
 refine ⟨by rw [List.length_take]; omega, .inr ⟨q, 0, rfl, h.lt, fun i hi => ?_, fun i => ?_⟩, by omega⟩
 ·rw [List.length_take] at hi
  rw [h.row.cells i (by omega)]
  have : i < n := by omega
  simp [List.getD_eq_getElem?_getD, this]
 ·have := h.row.small i
  simp only [List.getD_eq_getElem?_getD, List.getElem?_take] at this ⊢
  split
  ·exact this
  ·simp
theorem Cv.set (h : Cv w q cap z) (t v : Nat) (ht : t < z.length) (hv : v < 256) : Cv (w.setCell ⟨q, t, none⟩ (.int .u8 (v : Int))) q cap (z.set t v) :=
 ⟨⟨fun i hi => by
  rw [List.length_set] at hi
  rw [Nat.zero_add, getD_set _ _ _ _ ht]
  by_cases e : i = t
  ·subst e
   have := h.row.cells i hi
   rw [Nat.zero_add] at this
   rw [if_pos rfl]
   exact World.cell?_setCell_same _ _ _ this
  ·rw [if_neg e, World.cell?_setCell_other _ _ _ _ (by first | (simp; done) | (simp; omega))]
   have := h.row.cells i hi
   rwa [Nat.zero_add] at this, fun i => by
  rw [getD_set _ _ _ _ ht]
  split
  ·exact hv
  ·exact h.row.small i⟩, by rw [List.length_set]; exact h.le, by simpa using h.lt, fun j hj => by
  have := h.spare j hj
  refine ⟨?_, by simpa using this.2⟩
  by_cases e : j = t
  ·subst e
   obtain ⟨u, hu⟩ := Option.isSome_iff_exists.1 this.1
   rw [World.cell?_setCell_same _ _ _ hu]
   rfl
  ·rw [World.cell?_setCell_other _ _ _ _ (by first | (simp; done) | (simp; omega))]
   exact this.1⟩
/-- A byte more. -/
theorem Cv.app (h : Cv w q cap z) (ty : TypeId) (x : Nat) (hx : x < 256) (ad : Addr) (c : Nat) (hc : w.cell? ad = some (.int .u8 (x : Nat))) (hl : z.length ≤ 900) :
    ∃ g c' w', (Builtin.append_ #[32, 32] ty #[.slice (some ⟨q, 0, none⟩) z.length cap, .slice (some ad) 1 c]).run Tryd.prog w = .ok (.slice (some ⟨g, 0, none⟩) (z.length + 1) c') w' ∧ z.length + 1 ≤ c' ∧ SlN w' (some ⟨g, 0, none⟩) (z.length + 1) (z ++ [x]) ∧ Up (One q) w w' := by
  obtain ⟨i0, hi, hz0, hz1, hz2⟩ := info_parts info_u8
  have hnews : ∀ (j : Nat) (u : Value), [Value.int .u8 (x : Nat)][j]? = some u → w.cell? (ad.add j) = some u := fun j u hj => by
    match j, hj with
    | 0, hj => cases hj; exact hc
  have hsm : ∀ i, (z ++ [x]).getD i 0 < 256 := fun i => by
    rw [List.getD_eq_getElem?_getD]
    rcases Nat.lt_trichotomy i z.length with e | e | e
    · have := h.row.small i
      rw [List.getD_eq_getElem?_getD] at this
      rwa [List.getElem?_append_left e]
    · subst e
      simpa using hx
    · rw [List.getElem?_eq_none (by simp; omega)]
      decide
  have hrow : ∀ (W : World) (g : Nat), (∀ i, i < z.length → W.cell? ⟨g, i, none⟩ = some (.int .u8 (z.getD i 0 : Nat))) → W.cell? ⟨g, z.length, none⟩ = some (.int .u8 (x : Nat)) → Row W g 0 (z ++ [x]) := fun W g h1 h2 => ⟨fun i hi => by
    rw [Nat.zero_add]
    rw [List.length_append, List.length_singleton] at hi
    rcases Nat.lt_or_ge i z.length with e | e
    · rw [h1 i e, List.getD_eq_getElem?_getD, List.getD_eq_getElem?_getD, List.getElem?_append_left e]
    · obtain rfl : i = z.length := by omega
      rw [h2]
      simp, hsm⟩
  by_cases hroom : z.length + 1 ≤ cap
  · have hs : Src Tryd.prog i0.size 32 (.slice (some ad) 1 c) 1 [Value.int .u8 (x : Nat)] w := Src.ofSlice w Tryd.underlying32 ad 1 c _ (by simp [hz1]) hnews (fun u hu => by simp at hu; subst hu; rfl)
    have hr := run_append_room_src (P := Tryd.prog) w 32 32 ty 5 i0 Tryd.underlying32 hi q 0 z.length cap (.slice (some ad) 1 c) 1 _ hs hroom
      (fun j hj => by have e : j = 0 := by simpa using hj
                      subst e; rw [hz1, Nat.zero_add, Nat.mul_one, Nat.add_zero]; exact (h.spare _ (by omega)).1)
      (fun j hj => by have e : j = 0 := by simpa using hj
                      subst e; rw [hz1, Nat.zero_add, Nat.mul_one, Nat.add_zero]; exact (h.spare _ (by omega)).2)
    rw [hz1, Nat.zero_add, Nat.mul_one] at hr
    have u : Up (One q) w (w.setCells q z.length [Value.int .u8 (x : Nat)]) := (Up.refl (One q) w).put rfl z.length _
    refine ⟨q, cap, _, hr, hroom, ⟨by simp, .inr ⟨q, 0, rfl, Nat.lt_of_lt_of_le h.lt u.size, hrow _ q (fun i hi => ?_) ?_⟩, by omega⟩, u⟩
    · show (w.setCell ⟨q, z.length, none⟩ _).cell? _ = _
      rw [World.cell?_setCell_other _ _ _ _ (by first | (simp; done) | (simp; omega))]
      have := h.row.cells i hi
      rwa [Nat.zero_add] at this
    · obtain ⟨v, hv⟩ := Option.isSome_iff_exists.1 (h.spare z.length (by omega)).1
      show (w.setCell ⟨q, z.length, none⟩ _).cell? _ = _
      exact World.cell?_setCell_same _ _ _ hv
  · have hr := run_append_grow (P := Tryd.prog) w 32 ty 5 i0 (.int .u8 0) Tryd.underlying32 hi hz0 ⟨q, 0, none⟩ z.length cap (z.map fun (n : Nat) => Value.int .u8 (n : Int)) (by simp [hz1])
      (fun j v hj => by
        rw [List.getElem?_map] at hj
        have hjl : j < z.length := by
          rcases Nat.lt_or_ge j z.length with e | e
          · exact e
          · rw [List.getElem?_eq_none e] at hj; cases hj
        have := h.row.cells j hjl
        rw [Addr.add_lit]
        rw [this, ← hj, List.getD_eq_getElem?_getD, List.getElem?_eq_getElem hjl]
        rfl) ad 1 c [Value.int .u8 (x : Nat)] (by simp [hz1]) hnews (by omega) (by omega) (growslice_fits (by omega) (by rw [hz2]; omega))
    have u : Up Nul w (w.drew.alloc (.cells ((z.map fun (n : Nat) => Value.int .u8 (n : Int)).toArray ++ [Value.int .u8 (x : Nat)].toArray ++ Builtin.zeroCells (Value.int .u8 0).cells (grownCap w (z.length + 1) cap 5 - (z.length + 1))) 5)) := (Up.refl Nul w).drew.alloc _
    refine ⟨w.heap.size, _, _, hr, grownCap_ge w _ _ _, ⟨by simp, .inr ⟨w.heap.size, 0, rfl, by simp, hrow _ _ (fun i hi => ?_) ?_⟩, by omega⟩, u.mono fun _ _ h => absurd h id⟩
    · have e1 := World.cell?_alloc_new w.drew ((z.map fun (n : Nat) => Value.int .u8 (n : Int)).toArray ++ [Value.int .u8 (x : Nat)].toArray ++ Builtin.zeroCells (Value.int .u8 0).cells (grownCap w (z.length + 1) cap 5 - (z.length + 1))) 5 i
      refine e1.trans ?_
      rw [Array.getElem?_append_left (by simp; omega), Array.getElem?_append_left (by simpa using hi)]
      simp [List.getElem?_eq_getElem hi, List.getD_eq_getElem?_getD]
    · have e1 := World.cell?_alloc_new w.drew ((z.map fun (n : Nat) => Value.int .u8 (n : Int)).toArray ++ [Value.int .u8 (x : Nat)].toArray ++ Builtin.zeroCells (Value.int .u8 0).cells (grownCap w (z.length + 1) cap 5 - (z.length + 1))) 5 z.length
      refine e1.trans ?_
      rw [Array.getElem?_append_left (by simp), Array.getElem?_append_right (by simp)]
      simp
end
theorem rem_pos {a : Int} {n : Nat} (h0 : 0 ≤ a) (hn : 0 < n) : ∃ k : Nat, a.tmod (n : Int) = (k : Int) ∧ k < n := by
 obtain ⟨m, rfl⟩ : ∃ m : Nat, a = m := ⟨a.toNat, by omega⟩
 exact ⟨m % n, by rw [Int.ofNat_tmod], Nat.mod_lt _ hn⟩
end Go.Proofs.YtpdkcpjofofkoaaDoor
