/- Part 1 of what the walks rest on: CrcMath, Base, PadBase, Hand, FrameMath, FrameTake, OwnV, Ints, Where, DkBase, TpReal. -/
import Derived.Test.YtepggchnhgpcnaaGreatDoorPkTidy
import Derived.KernelRfl
import Derived.Test.YtepggchnhgpcnaaGreatDoorRows
import Derived.WalkKit
import Derived.WalkSpells
import Derived.Below
import Derived.Lib.SlBytesRow
import Derived.Laws.CopyRow
import Derived.Laws.OwnMore
import Derived.OwnWalk
import Derived.Laws.Rows
import Derived.Laws.CopyOwn
import Derived.Laws.BitsAllLaws
import Derived.OpenShut
import Derived.Lib.AppendZeros
import Derived.Deep.Upon
import Derived.LoopTactic
import Derived.Deep.RegionHeld3
import Derived.Lib.EndianBits
import Derived.Deep.CutBlock
import Derived.Deep.CutRange
import Derived.Laws.AppendOwn
import Derived.Deep.MidRow
import Derived.BigRegion
namespace Go.Proofs.YtepggchnhgpcnaaGreatDoor
open Go.RowKit
set_option linter.unusedVariables false

namespace CrcM

def bit (r : Nat) : Nat := if r % 2 = 1 then (r / 2) ^^^ 2197175160 else r / 2
def bits (r : Nat) : Nat → Nat
 | 0 => r
 | n + 1 => bit (bits r n)
def stp (r c : Nat) : Nat := bits (r ^^^ c) 8
def regs (r : Nat) (z : List Nat) : Nat := z.foldl stp r
def sum (z : List Nat) : Nat := regs 4294967295 z ^^^ 4294967295
end CrcM

theorem hid {p : Prop} (h : p) : Hid p := h
structure Up (S : Nat → Prop) (w w' : World) : Prop where
 os : w'.os = w.os
 tape : w'.tape = w.tape
 output : w'.output = w.output
 size : w.heap.size ≤ w'.heap.size
 block : ∀ k, k < w.heap.size → ¬ S k → w'.heap[k]? = w.heap[k]?
def Nul (k : Nat) : Prop := False
def One (b k : Nat) : Prop := k = b
theorem Up.refl (S : Nat → Prop) (w : World) : Up S w w := ⟨rfl, rfl, rfl, Nat.le_refl _, fun _ _ _ => rfl⟩
theorem Up.trans {S : Nat → Prop} {u v w : World} (h : Up S u v) (k : Up S v w) : Up S u w :=
 ⟨k.os.trans h.os, k.tape.trans h.tape, k.output.trans h.output, Nat.le_trans h.size k.size, fun i hi hs => (k.block i (Nat.lt_of_lt_of_le hi h.size) hs).trans (h.block i hi hs)⟩
theorem Up.mono {S T : Nat → Prop} {w w' : World} (h : Up S w w') (hst : ∀ k, k < w.heap.size → S k → T k) : Up T w w' :=
 ⟨h.os, h.tape, h.output, h.size, fun k hk ht => h.block k hk fun hs => ht (hst k hk hs)⟩
theorem Up.nul {S : Nat → Prop} {w w' : World} (h : Up Nul w w') : Up S w w' := h.mono fun _ _ => False.elim
theorem Up.alloc {S : Nat → Prop} {u w : World} (h : Up S u w) (o : Obj) : Up S u (w.alloc o) :=
 h.trans ⟨rfl, rfl, rfl, by simp, fun k hk _ => Below.heap_alloc w o k hk⟩
theorem Up.drew {S : Nat → Prop} {u w : World} (h : Up S u w) : Up S u w.drew := ⟨h.os, h.tape, h.output, h.size, h.block⟩
theorem Up.drewN {S : Nat → Prop} {u w : World} (h : Up S u w) (n : Nat) : Up S u (w.drewN n) := ⟨h.os, h.tape, h.output, h.size, h.block⟩
theorem Up.setCell {S : Nat → Prop} {u w : World} (h : Up S u w) {p : Addr} (hp : u.heap.size ≤ p.block ∨ S p.block) (v : Value) : Up S u (w.setCell p v) :=
 ⟨h.os, h.tape, h.output, by simpa using h.size, fun k hk hs => by
  rw [Below.heap_setCell _ _ _ _ (by rintro rfl; rcases hp with hp | hp; omega; exact hs hp)]
  exact h.block k hk hs⟩
theorem Up.of_below {w w' : World} (h : Below w.heap.size w w') (S : Nat → Prop) : Up S w w' := ⟨h.os, h.tape, h.output, h.size, fun k hk _ => h.block k hk⟩
theorem Up.below {S : Nat → Prop} {B : Nat} {w w' : World} (h : Up S w w') (hB : B ≤ w.heap.size) (hs : ∀ k, k < B → ¬ S k) : Below B w w' :=
 ⟨h.os, h.tape, h.output, h.size, fun k hk => h.block k (by omega) (hs k hk)⟩
theorem Up.cell {S : Nat → Prop} {w w' : World} (h : Up S w w') {p : Addr} (hp : p.block < w.heap.size) (hs : ¬ S p.block) : w'.cell? p = w.cell? p := World.cell?_of_block (w := w) (h.block p.block hp hs)
theorem Up.froz {S : Nat → Prop} {w w' : World} (h : Up S w w') {p : Addr} (hp : p.block < w.heap.size) (hs : ¬ S p.block) : w'.frozen? p = w.frozen? p := World.frozen?_of_block (w := w) (h.block p.block hp hs)
structure Row (w : World) (b o : Nat) (z : List Nat) : Prop where
 cells : ∀ i, i < z.length → w.cell? ⟨b, o + i, none⟩ = some (.int .u8 (z.getD i 0))
 small : ∀ i, z.getD i 0 < 256
theorem Row.up {S : Nat → Prop} {w w' : World} {b o : Nat} {z : List Nat} (h : Row w b o z) (u : Up S w w') (hb : b < w.heap.size) (hs : ¬ S b) : Row w' b o z :=
 ⟨fun i hi => by rw [u.cell (p := ⟨b, o + i, none⟩) hb hs]; exact h.cells i hi, h.small⟩
def nums (s : ByteArray) : List Nat := s.data.toList.map UInt8.toNat
theorem nums_length (s : ByteArray) : (nums s).length = s.size := by simp [nums]
theorem nums_at (s : ByteArray) (k : Nat) (h : k < s.size) : (nums s).getD k 0 = s[k].toNat := by
 have : k < s.data.toList.length := by simpa using h
 simp [nums, List.getD_eq_getElem?_getD, List.getElem?_map, List.getElem?_eq_getElem this]
 rfl
abbrev CameIn (w : World) (a : Option Addr) (len cap : Nat) (zs : List Int) : Prop :=
 (a = none ∧ len = 0 ∧ cap = 0 ∧ zs = []) ∨
 ∃ x, a = some x ∧ len ≤ cap ∧ cap ≤ maxLen ∧ zs.length = cap ∧ (∀ i, i < zs.length → w.cell? (x.add i) = some (.int .u8 (zs.getD i 0))) ∧ ∀ n ∈ zs, (Lit.int .u8 n).wf = true
theorem lt_of_cell {w : World} {a : Addr} {v : Value} (h : w.cell? a = some v) : a.block < w.heap.size := by
 unfold World.cell? at h
 rcases Nat.lt_or_ge a.block w.heap.size with h' | h'
 ·exact h'
 ·rw [Array.getElem?_eq_none h'] at h
  cases h
theorem came_in {w : World} {a : Option Addr} {len cap : Nat} {zs : List Int} (h : CameIn w a len cap zs) :
  len = 0 ∨ ∃ (b o : Nat) (z : List Nat), a = some ⟨b, o, none⟩ ∧ z.length = len ∧ Row w b o z ∧ b < w.heap.size ∧ len ≤ 9223372036854775807 := by
 rcases h with ⟨_, h, _⟩ | ⟨x, rfl, hl, hm, hz, hc, hw⟩
 ·exact .inl h
 ·by_cases h0 : len = 0
  ·exact .inl h0
  ·obtain ⟨b, o, spot⟩ := x
   have hc0 := hc 0 (by omega)
   have hs : spot = none := by simpa [Addr.add] using World.cell?_spot hc0
   subst hs
   unfold maxLen at hm
   have hlen : ((zs.take len).map Int.toNat).length = len := by simp; omega
   have hget : ∀ i, i < len → ((((zs.take len).map Int.toNat).getD i 0 : Nat) : Int) = zs.getD i 0 := fun i hi => by
    have hz' : i < zs.length := by omega
    have hwi := bounds_u8 (hw (zs[i]) (List.getElem_mem hz'))
    simp [List.getD_eq_getElem?_getD, hi, List.getElem?_eq_getElem hz']
    omega
   refine .inr ⟨b, o, (zs.take len).map Int.toNat, rfl, hlen, ⟨fun i hi => ?_, fun i => ?_⟩, lt_of_cell hc0, by omega⟩
   ·rw [hlen] at hi
    have := hc i (by omega)
    rw [hget i hi]
    have ea : Addr.add ⟨b, o, none⟩ i = ⟨b, o + i, none⟩ := by
     by_cases h0 : i = 0
     ·subst h0; simp [Addr.add]
     ·simp [Addr.add, h0]
    rw [ea] at this
    exact this
   ·rcases Nat.lt_or_ge i len with hi | hi
    ·have hz' : i < zs.length := by omega
     have hwi := bounds_u8 (hw (zs[i]) (List.getElem_mem hz'))
     have := hget i hi
     simp [List.getD_eq_getElem?_getD, List.getElem?_eq_getElem hz'] at this
     simp [List.getD_eq_getElem?_getD]
     omega
    ·have : ((zs.take len).map Int.toNat)[i]? = none := List.getElem?_eq_none (by omega)
     simp only [List.getD_eq_getElem?_getD, this]
     decide
structure Sl (w : World) (a : Option Addr) (len cap : Nat) (s : ByteArray) : Prop where
 size : s.size = len
 conv : ∀ w', Below w.heap.size w w' → (convert 125 9 (.slice a len cap)).run Tryz.prog w' = .ok (.string s) w'
 row : len = 0 ∨ ∃ b o, a = some ⟨b, o, none⟩ ∧ b < w.heap.size ∧ Row w b o (nums s)
 le : len ≤ 9223372036854775807
theorem conv_zero (a : Option Addr) (cap : Nat) (w : World) : (convert 125 9 (.slice a 0 cap)).run Tryz.prog w = .ok (.string ByteArray.empty) w := by
 cases a with
 | none => exact run_convert_bytes_nil (P := Tryz.prog) w 125 5 Tryz.underlying125 Tryz.underlying5 0 cap 9 Tryz.underlying9
 | some x =>
  rw [run_convert_bytes_string (P := Tryz.prog) w 125 9 5 _ _ _ Tryz.underlying125 Tryz.underlying5 Tryz.underlying9]
  exact run_bytesToString w x 0 cap [] (by rfl)
theorem Sl.of {w : World} {a : Option Addr} {len cap : Nat} {zs : List Int} (h : CameIn w a len cap zs) : ∃ s, Sl w a len cap s := by
 rcases came_in h with rfl | ⟨b, o, z, rfl, rfl, r, hb, hm⟩
 ·exact ⟨ByteArray.empty, rfl, fun w' _ => conv_zero a cap w', .inl rfl, by omega⟩
 ·have hsz : (⟨(z.map UInt8.ofNat).toArray⟩ : ByteArray).size = z.length := by
   show (z.map UInt8.ofNat).toArray.size = _
   simp
  have hn : nums ⟨(z.map UInt8.ofNat).toArray⟩ = z := by
   apply List.ext_getElem
   ·simp [nums]
   ·intro i h1 h2
    have := r.small i
    simp [List.getD_eq_getElem?_getD, List.getElem?_eq_getElem h2] at this
    simp [nums]
    omega
  refine ⟨⟨(z.map UInt8.ofNat).toArray⟩, hsz, fun w' hw' => ?_, .inr ⟨b, o, rfl, hb, by rw [hn]; exact r⟩, hm⟩
  rw [← hsz]
  refine Lib.run_convert_whole (P := Tryz.prog) w' 125 5 9 Tryz.underlying125 Tryz.underlying5 Tryz.underlying9 b o _ (fun i hi => ?_) cap
  rw [hw'.cell (p := ⟨b, o + i, none⟩) hb, r.cells i (by rw [← hsz]; exact hi)]
  have e := nums_at ⟨(z.map UInt8.ofNat).toArray⟩ i hi
  rw [hn] at e
  rw [e]
def bys (z : List Nat) : Array Value := (z.map fun (n : Nat) => Value.int .u8 (n : Int)).toArray
structure Blk (w : World) (q : Nat) (z : List Nat) : Prop where
 heap : w.heap[q]? = some (.cells (bys z) 5 (0, 0))
 small : ∀ x ∈ z, x < 256
theorem bys_at (z : List Nat) (i : Nat) (hi : i < z.length) : (bys z)[i]? = some (.int .u8 (z.getD i 0)) := by
 simp [bys, List.getD_eq_getElem?_getD, List.getElem?_eq_getElem hi]
theorem bys_set (z : List Nat) (i v : Nat) : (bys z).setIfInBounds i (.int .u8 v) = bys (z.set i v) := by
 simp [bys, List.map_set]
theorem small_getD {z : List Nat} (h : ∀ x ∈ z, x < 256) (i : Nat) : z.getD i 0 < 256 := by
 rcases Nat.lt_or_ge i z.length with hi | hi
 ·simp only [List.getD_eq_getElem?_getD, List.getElem?_eq_getElem hi, Option.getD_some]
  exact h _ (List.getElem_mem hi)
 ·simp [List.getD_eq_getElem?_getD, List.getElem?_eq_none hi]
theorem Blk.lt {w : World} {q : Nat} {z : List Nat} (h : Blk w q z) : q < w.heap.size := (Array.getElem?_eq_some_iff.1 h.heap).1
theorem Blk.cell {w : World} {q : Nat} {z : List Nat} (h : Blk w q z) (i : Nat) (hi : i < z.length) : w.cell? ⟨q, i, none⟩ = some (.int .u8 (z.getD i 0)) := by
 simp only [World.cell?, h.heap]
 simpa using bys_at z i hi
theorem Blk.froz {w : World} {q : Nat} {z : List Nat} (h : Blk w q z) (i : Nat) : w.frozen? ⟨q, i, none⟩ = false := by
 simp [World.frozen?, h.heap]
theorem Blk.up {S : Nat → Prop} {w w' : World} {q : Nat} {z : List Nat} (h : Blk w q z) (u : Up S w w') (hs : ¬ S q) : Blk w' q z := ⟨(u.block q h.lt hs).trans h.heap, h.small⟩
theorem Blk.other {w : World} {q : Nat} {z : List Nat} (h : Blk w q z) {p : Addr} (hp : q ≠ p.block) (v : Value) : Blk (w.setCell p v) q z := ⟨(Below.heap_setCell _ _ _ _ hp).trans h.heap, h.small⟩
theorem Blk.alloc {w : World} {q : Nat} {z : List Nat} (h : Blk w q z) (o : Obj) : Blk (w.alloc o) q z := ⟨(Below.heap_alloc _ _ _ h.lt).trans h.heap, h.small⟩
theorem Blk.drew {w : World} {q : Nat} {z : List Nat} (h : Blk w q z) : Blk w.drew q z := ⟨h.heap, h.small⟩
theorem Blk.drewN {w : World} {q : Nat} {z : List Nat} (h : Blk w q z) (n : Nat) : Blk (w.drewN n) q z := ⟨h.heap, h.small⟩
theorem heap_set_same {w : World} {q : Nat} {c : Array Value} {t : TypeId} {fr : Nat × Nat} (h : w.heap[q]? = some (.cells c t fr)) (i : Nat) (v : Value) :
  (w.setCell ⟨q, i, none⟩ v).heap[q]? = some (.cells (c.setIfInBounds i v) t fr) := by
 have hlt := (Array.getElem?_eq_some_iff.1 h).1
 have hv := (Array.getElem?_eq_some_iff.1 h).2
 unfold World.setCell
 rw [Array.getElem?_eq_getElem (by simpa using hlt), Array.getElem_modify]
 simp [hv]
theorem Blk.set {w : World} {q : Nat} {z : List Nat} (h : Blk w q z) (i v : Nat) (hv : v < 256) : Blk (w.setCell ⟨q, i, none⟩ (.int .u8 v)) q (z.set i v) :=
 ⟨by rw [heap_set_same h.heap, bys_set], fun x hx => by
  rcases List.mem_or_eq_of_mem_set hx with hx | rfl
  ·exact h.small x hx
  ·exact hv⟩
theorem Blk.new (w : World) (z : List Nat) (hz : ∀ x ∈ z, x < 256) : Blk (w.alloc (.cells (bys z) 5)) w.heap.size z := ⟨heap_alloc_new _ _, hz⟩
theorem Blk.row {w : World} {q : Nat} {z : List Nat} (h : Blk w q z) (o n : Nat) (ho : o + n ≤ z.length) : Row w q o ((z.drop o).take n) := by
 have hl : ((z.drop o).take n).length = n := by simp; omega
 have hg : ∀ i, i < n → ((z.drop o).take n).getD i 0 = z.getD (o + i) 0 := fun i hi => by
  simp [List.getD_eq_getElem?_getD, hi, List.getElem?_drop]
 refine ⟨fun i hi => ?_, fun i => ?_⟩
 ·rw [hl] at hi
  rw [hg i hi]
  exact h.cell (o + i) (by omega)
 ·rcases Nat.lt_or_ge i n with hi | hi
  ·rw [hg i hi]
   exact small_getD h.small _
  ·simp [List.getD_eq_getElem?_getD, List.getElem?_eq_none (show ((z.drop o).take n).length ≤ i by omega)]
def zer (n : Nat) : List Nat := List.replicate n 0
theorem zer_small (n : Nat) : ∀ x ∈ zer n, x < 256 := by
 intro x hx
 rw [List.eq_of_mem_replicate hx]
 omega
theorem zer_length (n : Nat) : (zer n).length = n := by simp [zer]
theorem ext_getD {y z : List Nat} (hl : y.length = z.length) (h : ∀ i, i < y.length → y.getD i 0 = z.getD i 0) : y = z := by
 apply List.ext_getElem hl
 intro i h1 h2
 have := h i h1
 simpa [List.getD_eq_getElem?_getD, List.getElem?_eq_getElem h1, List.getElem?_eq_getElem h2] using this
theorem getD_set (y : List Nat) (i j v : Nat) (hi : i < y.length) : (y.set i v).getD j 0 = if j = i then v else y.getD j 0 := by
 simp only [List.getD_eq_getElem?_getD, List.getElem?_set]
 by_cases h : i = j
 ·subst h; simp [hi]
 ·have : ¬ j = i := fun e => h e.symm
  simp [h, this]
def tab (n : Nat) (f : Nat → Nat) : List Nat := (List.range n).map f
theorem tab_length (n : Nat) (f : Nat → Nat) : (tab n f).length = n := by simp [tab]
theorem tab_at (n : Nat) (f : Nat → Nat) (i : Nat) (h : i < n) : (tab n f).getD i 0 = f i := by
 simp [tab, List.getD_eq_getElem?_getD, h]
theorem eq_tab {y : List Nat} {n : Nat} {f : Nat → Nat} (hl : y.length = n) (h : ∀ i, i < n → y.getD i 0 = f i) : y = tab n f :=
 ext_getD (by rw [hl, tab_length]) fun i hi => by rw [h i (by omega), tab_at n f i (by omega)]
def over (y : List Nat) (o : Nat) (z : List Nat) : List Nat := y.take o ++ z ++ y.drop (o + z.length)
structure OwnB (base : Nat) (w : World) (v : Value) (z : List Nat) : Prop where
 own : w.ownsRow base 5 1 v z.length (z.map fun (n : Nat) => Value.int .u8 (n : Int))
 small : ∀ x ∈ z, x < 256
theorem OwnB.nil (base : Nat) (w : World) : OwnB base w (.slice none 0 0) [] := ⟨World.ownsRow_nil _ _ _ _, fun _ h => by cases h⟩
theorem OwnB.alloc {base : Nat} {w : World} {v : Value} {z : List Nat} (h : OwnB base w v z) (o : Obj) : OwnB base (w.alloc o) v z := ⟨h.own.alloc o, h.small⟩
theorem OwnB.drewN {base : Nat} {w : World} {v : Value} {z : List Nat} (h : OwnB base w v z) (n : Nat) : OwnB base (w.drewN n) v z := ⟨h.own, h.small⟩
theorem OwnB.up {S : Nat → Prop} {base : Nat} {w w' : World} {v : Value} {z : List Nat} (h : OwnB base w v z) (u : Up S w w') (hs : ∀ k, base ≤ k → ¬ S k) : OwnB base w' v z := by
 refine ⟨⟨h.own.1, ?_⟩, h.small⟩
 rcases h.own.2 with hn | ⟨g, cap, cur, h1, h2, h3, h4⟩
 ·exact .inl hn
 ·exact .inr ⟨g, cap, cur, h1, h2, (u.block g (Array.getElem?_eq_some_iff.1 h3).1 (hs g h2)).trans h3, h4⟩
theorem OwnB.row {base : Nat} {w : World} {v : Value} {z : List Nat} (h : OwnB base w v z) (h0 : 0 < z.length) :
  ∃ g cap, v = .slice (some ⟨g, 0, none⟩) z.length cap ∧ base ≤ g ∧ g < w.heap.size ∧ Row w g 0 z ∧ (∀ i, w.frozen? ⟨g, i, none⟩ = false) ∧ z.length ≤ cap := by
 rcases h.own.2 with ⟨_, hn⟩ | ⟨g, cap, cur, h1, h2, h3, h4, h5, h6, h7⟩
 ·omega
 ·refine ⟨g, cap, h1, h2, (Array.getElem?_eq_some_iff.1 h3).1, ⟨fun i hi => ?_, fun i => small_getD h.small i⟩, fun i => by simp [World.frozen?, h3], h4⟩
  have hc : cur[i]? = some (.int .u8 (z.getD i 0)) := by
   have e : (cur.toList.take (z.length * 1))[i]? = some (.int .u8 (z.getD i 0)) := by
    rw [h7, List.getElem?_map, List.getElem?_eq_getElem hi]
    simp [List.getD_eq_getElem?_getD, List.getElem?_eq_getElem hi]
   rw [List.getElem?_take, if_pos (by omega)] at e
   simpa using e
  simp only [World.cell?, h3, Nat.zero_add]
  exact hc
theorem Up.grown {S : Nat → Prop} {W w w' : World} {row : Option Nat} (h : Up S W w) (hg : w.grownBy w' row) (hr : ∀ k, row = some k → W.heap.size ≤ k) : Up S W w' :=
 ⟨hg.os.trans h.os, hg.tape.trans h.tape, hg.output.trans h.output, Nat.le_trans h.size hg.size, fun k hk hs => (hg.block k (Nat.lt_of_lt_of_le hk h.size) fun e => by
  have := hr k e.symm
  omega).trans (h.block k hk hs)⟩
theorem OwnB.base {base : Nat} {w : World} {v : Value} {z : List Nat} (h : OwnB base w v z) : ∀ k, v.ownBlock = some k → base ≤ k := by
 intro k hk
 rcases h.own.2 with ⟨e, _⟩ | ⟨g, cap, cur, e, h2, _⟩
 ·subst e; cases hk
 ·subst e
  have : g = k := by simpa [Value.ownBlock] using hk
  omega
theorem OwnB.fresh (base : Nat) (w : World) (hb : base ≤ w.heap.size) : OwnB base (w.alloc (.cells #[] 5)) (.slice (some ⟨w.heap.size, 0, none⟩) 0 0) [] :=
 ⟨⟨rfl, .inr ⟨w.heap.size, 0, #[], rfl, hb, heap_alloc_new _ _, Nat.le_refl _, by unfold maxLen; omega, rfl, rfl⟩⟩, fun _ h => by cases h⟩
def strOf (z : List Nat) : ByteArray := ⟨(z.map UInt8.ofNat).toArray⟩
theorem strOf_size (z : List Nat) : (strOf z).size = z.length := by
 show (z.map UInt8.ofNat).toArray.size = _
 simp
theorem nums_strOf {z : List Nat} (h : ∀ i, z.getD i 0 < 256) : nums (strOf z) = z := by
 apply List.ext_getElem
 ·simp [nums, strOf]
 ·intro i h1 h2
  have := h i
  simp [List.getD_eq_getElem?_getD, List.getElem?_eq_getElem h2] at this
  simp [nums, strOf]
  omega
theorem conv_row {w : World} {b o cap n : Nat} {z : List Nat} (r : Row w b o z) (hl : z.length = n) : (convert 125 9 (.slice (some ⟨b, o, none⟩) n cap)).run Tryz.prog w = .ok (.string (strOf z)) w := by
 have hn := nums_strOf r.small
 rw [← hl, ← strOf_size]
 refine Lib.run_convert_whole (P := Tryz.prog) w 125 5 9 Tryz.underlying125 Tryz.underlying5 Tryz.underlying9 b o _ (fun i hi => ?_) cap
 rw [r.cells i (by rw [← strOf_size]; exact hi)]
 have e := nums_at (strOf z) i hi
 rw [hn] at e
 rw [e]
structure SlN (w : World) (a : Option Addr) (n : Nat) (z : List Nat) : Prop where
 len : z.length = n
 row : n = 0 ∨ ∃ b o, a = some ⟨b, o, none⟩ ∧ b < w.heap.size ∧ Row w b o z
 le : n ≤ 9223372036854775807
theorem SlN.of {w : World} {a : Option Addr} {len cap : Nat} {zs : List Int} (h : CameIn w a len cap zs) : ∃ z, SlN w a len z := by
 rcases came_in h with rfl | ⟨b, o, z, rfl, rfl, r, hb, hm⟩
 ·exact ⟨[], rfl, .inl rfl, by omega⟩
 ·exact ⟨z, rfl, .inr ⟨b, o, rfl, hb, r⟩, hm⟩
theorem SlN.up {S : Nat → Prop} {w w' : World} {a : Option Addr} {n : Nat} {z : List Nat} (h : SlN w a n z) (u : Up S w w') (hs : ∀ k, k < w.heap.size → ¬ S k) : SlN w' a n z :=
 ⟨h.len, by
  rcases h.row with e | ⟨b, o, e, hb, r⟩
  ·exact .inl e
  ·exact .inr ⟨b, o, e, Nat.lt_of_lt_of_le hb u.size, r.up u hb (hs b hb)⟩, h.le⟩
theorem OwnB.shape {base : Nat} {w : World} {v : Value} {z : List Nat} (h : OwnB base w v z) : ∃ a n cap, v = .slice a n cap := by
 rcases h.own.2 with ⟨e, _⟩ | ⟨g, cap, cur, e, _⟩
 ·exact ⟨_, _, _, e⟩
 ·exact ⟨_, _, _, e⟩
structure Part (w : World) (g n k : Nat) (f : Nat → Nat) (wr : World) (y : List Nat) : Prop where
 blk : Blk wr g y
 len : y.length = n
 told : ∀ i, i < k → y.getD i 0 = f i
 up : Up Nul w wr
theorem Part.next {w wr : World} {g n k x : Nat} {f : Nat → Nat} {y : List Nat} (h : Part w g n k f wr y) (hg : w.heap.size ≤ g) (hk : k < n) (hx : f k = x) (h8 : x < 256) (m : Nat) :
  Part w g n (k + 1) f ((wr.drewN m).setCell ⟨g, k, none⟩ (.int .u8 x)) (y.set k x) :=
 ⟨(h.blk.drewN m).set k x h8, by rw [List.length_set]; exact h.len, fun i hi => by
  rw [getD_set _ _ _ _ (by rw [h.len]; exact hk)]
  split
  ·next e => rw [e, hx]
  ·exact h.told i (by omega), (h.up.drewN m).setCell (.inl hg) _⟩
theorem Part.done {w wr : World} {g n : Nat} {f : Nat → Nat} {y : List Nat} (h : Part w g n n f wr y) : Blk wr g (tab n f) := by
 rw [← eq_tab h.len h.told]
 exact h.blk
theorem Part.start (w : World) (n : Nat) (f : Nat → Nat) : Part w w.heap.size n 0 f (w.alloc (.cells (bys (zer n)) 5)) (zer n) :=
 ⟨Blk.new w _ (zer_small n), zer_length n, fun _ hi => absurd hi (Nat.not_lt_zero _), (Up.refl Nul w).alloc _⟩

theorem add_off (b o k : Nat) : Addr.add ⟨b, o, none⟩ k = ⟨b, o + k, none⟩ := by
 by_cases h0 : k = 0
 ·subst h0; simp [Addr.add]
 ·simp [Addr.add, h0]
theorem SlN.nxt {w w' : World} {a : Option Addr} {n : Nat} {z : List Nat} (h : SlN w a n z) (u : Up Nul w w') : SlN w' a n z := h.up u fun _ _ => id
theorem SlN.conv {w : World} {a : Option Addr} {n : Nat} {z : List Nat} (h : SlN w a n z) (cap : Nat) : (convert 125 9 (.slice a n cap)).run Tryz.prog w = .ok (.string (strOf z)) w := by
 rcases h.row with rfl | ⟨b, o, rfl, _, r⟩
 ·obtain rfl : z = [] := List.eq_nil_of_length_eq_zero h.len
  exact conv_zero a cap w
 ·exact conv_row r h.len
theorem wpAnyH_sub {P : Program} {ops : Array Oper} {Q : Exit → Act → World → Prop} {md : Region.Mode} {S T : World → Prop} (hST : ∀ w, S w → T w) :
  ∀ {fuel : Nat} {listed : Array Bool} {a : Act} {w : World}, wpAnyH P md ops Q S fuel listed a w → wpAnyH P md ops Q T fuel listed a w
 | 0, _, _, _, h => h
 | _ + 1, _, _, _, h => ⟨h.1, fun i hi => wpOp_mono (fun _ _ h' => ⟨hST _ h'.1, wpAnyH_sub hST h'.2⟩) (h.2 i hi)⟩
namespace FrM
def four (v : Nat) : List Nat := [v / 16777216 % 256, v / 65536 % 256, v / 256 % 256, v % 256]
def head (id n : Nat) : List Nat := [183, n, 0, 0] ++ four id
def chk (id : Nat) (d : List Nat) : Nat := CrcM.sum (head id d.length ++ d)
def fr (id : Nat) (d : List Nat) : List Nat := head id d.length ++ four (chk id d) ++ d ++ List.replicate (84 - d.length) 0
end FrM

theorem bytes_inj {a b : ByteArray} (h : a.toList = b.toList) : a = b := by
 rw [ByteArray.toList_eq, ByteArray.toList_eq] at h
 exact ByteArray.ext (Array.toList_inj.1 h)
def OwnV (T : TypeId) (base : Nat) (w : World) (v : Value) (xs : List Value) : Prop := w.ownsRow base T 1 v xs.length xs
theorem OwnV.nil (T : TypeId) (base : Nat) (w : World) : OwnV T base w (.slice none 0 0) [] := World.ownsRow_nil _ _ _ _
theorem OwnV.alloc {T : TypeId} {base : Nat} {w : World} {v : Value} {xs : List Value} (h : OwnV T base w v xs) (o : Obj) : OwnV T base (w.alloc o) v xs := World.ownsRow.alloc h o
theorem OwnV.drewN {T : TypeId} {base : Nat} {w : World} {v : Value} {xs : List Value} (h : OwnV T base w v xs) (n : Nat) : OwnV T base (w.drewN n) v xs := h
theorem OwnV.up {T : TypeId} {S : Nat → Prop} {base : Nat} {w w' : World} {v : Value} {xs : List Value} (h : OwnV T base w v xs) (u : Up S w w') (hs : ∀ k, base ≤ k → k < w.heap.size → ¬ S k) : OwnV T base w' v xs := by
 refine ⟨h.1, ?_⟩
 rcases h.2 with hn | ⟨g, cap, cur, h1, h2, h3, h4⟩
 ·exact .inl hn
 ·have hl := (Array.getElem?_eq_some_iff.1 h3).1
  exact .inr ⟨g, cap, cur, h1, h2, (u.block g hl (hs g h2 hl)).trans h3, h4⟩
theorem OwnV.base {T : TypeId} {base : Nat} {w : World} {v : Value} {xs : List Value} (h : OwnV T base w v xs) : ∀ k, v.ownBlock = some k → base ≤ k := fun k hk => (World.ownsRow.lt h k hk).1
theorem OwnV.shape {T : TypeId} {base : Nat} {w : World} {v : Value} {xs : List Value} (h : OwnV T base w v xs) : ∃ a cap, v = .slice a xs.length cap := by
 rcases h.2 with ⟨e, e0⟩ | ⟨g, cap, cur, e, _⟩
 ·exact ⟨none, 0, by rw [e, e0]⟩
 ·exact ⟨_, _, e⟩
theorem OwnV.row {T : TypeId} {base : Nat} {w : World} {v : Value} {xs : List Value} (h : OwnV T base w v xs) (h0 : 0 < xs.length) :
  ∃ g cap, v = .slice (some ⟨g, 0, none⟩) xs.length cap ∧ base ≤ g ∧ g < w.heap.size ∧ (∀ i x, xs[i]? = some x → w.cell? ⟨g, i, none⟩ = some x) ∧ (∀ i, w.frozen? ⟨g, i, none⟩ = false) ∧ xs.length ≤ cap := by
 rcases h.2 with ⟨_, hn⟩ | ⟨g, cap, cur, h1, h2, h3, h4, h5, h6, h7⟩
 ·omega
 ·refine ⟨g, cap, h1, h2, (Array.getElem?_eq_some_iff.1 h3).1, fun i x hi => ?_, fun i => by simp [World.frozen?, h3], h4⟩
  have hl : i < xs.length := by
   rcases Nat.lt_or_ge i xs.length with h | h
   ·exact h
   ·rw [List.getElem?_eq_none h] at hi; cases hi
  have hc : cur[i]? = some x := by
   have e : (cur.toList.take (xs.length * 1))[i]? = some x := by rw [h7]; exact hi
   rw [List.getElem?_take, if_pos (by omega)] at e
   simpa using e
  simp only [World.cell?, h3]
  exact hc
theorem info_int : (Tryz.prog.info? 3).map (fun i => (i.zero, i.size, i.bytes)) = some (some (.int .i64 0), 1, 8) := by kernel_rfl
structure SlI (w : World) (a : Option Addr) (n : Nat) (f : Nat → Int) : Prop where
 row : n = 0 ∨ ∃ g o, a = some ⟨g, o, none⟩ ∧ g < w.heap.size ∧ ∀ i, i < n → w.cell? ⟨g, o + i, none⟩ = some (.int .i64 (f i))
 le : n ≤ 9223372036854775807
theorem SlI.nxt {w w' : World} {a : Option Addr} {n : Nat} {f : Nat → Int} (h : SlI w a n f) (u : Up Nul w w') : SlI w' a n f := by
 refine ⟨?_, h.le⟩
 rcases h.row with e | ⟨g, o, e, l, r⟩
 ·exact .inl e
 ·exact .inr ⟨g, o, e, Nat.lt_of_lt_of_le l u.size, fun i hi => (u.cell (p := ⟨g, o + i, none⟩) l id).trans (r i hi)⟩
abbrev CameI (w : World) (a : Option Addr) (len cap : Nat) (zs : List Int) : Prop :=
 (a = none ∧ len = 0 ∧ cap = 0 ∧ zs = []) ∨
 ∃ x, a = some x ∧ len ≤ cap ∧ cap ≤ maxLen ∧ zs.length = cap ∧ (∀ i, i < zs.length → w.cell? (x.add i) = some (.int .i64 (zs.getD i 0))) ∧ ∀ n ∈ zs, (Lit.int .i64 n).wf = true
theorem SlI.of {w : World} {a : Option Addr} {len cap : Nat} {zs : List Int} (h : CameI w a len cap zs) : ∃ f, SlI w a len f := by
 rcases h with ⟨_, h, _⟩ | ⟨x, rfl, hl, hm, hz, hc, hw⟩
 ·exact ⟨fun _ => 0, .inl h, by omega⟩
 ·unfold maxLen at hm
  by_cases h0 : len = 0
  ·exact ⟨fun _ => 0, .inl h0, by omega⟩
  ·obtain ⟨b, o, spot⟩ := x
   have hc0 := hc 0 (by omega)
   have hs : spot = none := by simpa [Addr.add] using World.cell?_spot hc0
   subst hs
   refine ⟨fun i => zs.getD i 0, .inr ⟨b, o, rfl, lt_of_cell hc0, fun i hi => ?_⟩, by omega⟩
   have := hc i (by omega)
   rw [add_off] at this
   exact this

theorem append_where_m (w w' : World) (v v' : Value) (t ty e : TypeId) (i : TypeInfo) (z : Value) (base n m : Nat) (xs : List Value) (ht : Tryz.prog.underlying t = some (.slice e)) (hi : Tryz.prog.info? e = some i) (hz : i.zero = some z) (hown : w.ownsRow base e i.size v n xs)
  (a : Addr) (c : Nat) (news : List Value) (h0 : 0 < m) (hl : news.length = m * i.size) (hnews : ∀ j u, news[j]? = some u → w.cell? (a.add j) = some u) (h1 : ∀ u ∈ news, u.oneCell' = true) (h63 : n + m ≤ 1000000) (hb : i.bytes ≤ 1000)
  (hrun : (Builtin.append_ #[t, t] ty #[v, .slice (some a) m c]).run Tryz.prog w = .ok v' w') : v'.ownBlock = v.ownBlock ∨ v'.ownBlock = some w.heap.size := by
 have hm : (n + m) * i.bytes ≤ 140737488355328 := by
  have := Nat.mul_le_mul h63 hb
  omega
 have hm2 : m * i.bytes ≤ 140737488355328 := Nat.le_trans (Nat.mul_le_mul_right _ (Nat.le_add_left m n)) hm
 rcases hown.2 with ⟨rfl, rfl⟩ | ⟨g, cap, cur, rfl, hbg, hg, hnc, hcm, hcs, htake⟩
 ·have hr := run_append_nil (P := Tryz.prog) w t ty e i z ht hi hz a m c news hl hnews h0 (by omega) (by omega)
  rw [hrun] at hr
  injection hr with hr _
  exact .inr (by rw [hr]; rfl)
 ·by_cases hroom : n + m ≤ cap
  ·have hfit : n * i.size + news.length ≤ cur.size := by rw [hl, hcs, ← Nat.add_mul]; exact Nat.mul_le_mul_right _ hroom
   have hr := run_append_room (P := Tryz.prog) w t ty e i ht hi g n cap cur hg a m c news hl hnews h1 hroom hfit
   rw [hrun] at hr
   injection hr with hr _
   exact .inl (by rw [hr]; rfl)
  ·have holds : ∀ j u, xs[j]? = some u → w.cell? ((⟨g, 0, none⟩ : Addr).add j) = some u := hown.cells (g := g) rfl
   have hr := run_append_grow (P := Tryz.prog) w t ty e i z ht hi hz ⟨g, 0, none⟩ n cap xs hown.1 holds a m c news hl hnews (by omega) (by omega) (growslice_fits (by omega) hm)
   rw [hrun] at hr
   injection hr with hr _
   exact .inr (by rw [hr]; rfl)
theorem wp_append_eqv {w w' : World} {o : Oper} {a : Act} {K : Act → World → Prop} {Q : Exit → Act → World → Prop} (s x : Operand) (t : TypeId)
  (ho : o.op = .call { callee := .builtin .append, args := #[s, x], argTypes := #[t, t] }) (v y v' : Value) (hs : a.eval s = v) (hx : a.eval x = y) (hrun : (Builtin.append_ #[t, t] o.type #[v, y]).run Tryz.prog w = .ok v' w') (h : K (a.put o.dst v') w') : Oper.wp Tryz.prog o a w K Q := by
 unfold Oper.wp
 simp [execOp, ho, resolve, invoke, builtin, hs, hx, hrun, Result.andThen]
 exact h
theorem wpList_append_eqv {w w' : World} {ops : Array Oper} {rest : List Oper} {o : Oper} {a : Act} {Q : Exit → Act → World → Prop} (hgd : o.guard = none) (s x : Operand) (t : TypeId)
  (ho : o.op = .call { callee := .builtin .append, args := #[s, x], argTypes := #[t, t] }) (v y v' : Value) (hs : a.eval s = v) (hx : a.eval x = y) (hrun : (Builtin.append_ #[t, t] o.type #[v, y]).run Tryz.prog w = .ok v' w') (h : wpList Tryz.prog ops Q rest (a.put o.dst v') w') : wpList Tryz.prog ops Q (o :: rest) a w :=
 wpList_plain hgd fun K hK => wp_append_eqv s x t ho v y v' hs hx hrun (hK _ _ h)

theorem Up.put {S : Nat → Prop} {u w : World} (h : Up S u w) {b : Nat} (hb : S b) (i : Nat) (v : Value) : Up S u (w.setCell ⟨b, i, none⟩ v) := h.setCell (.inr hb) v
theorem Part.nxt {w wr : World} {g n k x : Nat} {f : Nat → Nat} {y : List Nat} (h : Part w g n k f wr y) (hg : w.heap.size ≤ g) (hk : k < n) (hx : f k = x) (h8 : x < 256) :
  Part w g n (k + 1) f (wr.setCell ⟨g, k, none⟩ (.int .u8 x)) (y.set k x) :=
 ⟨h.blk.set k x h8, by rw [List.length_set]; exact h.len, fun i hi => by
  rw [getD_set _ _ _ _ (by rw [h.len]; exact hk)]
  split
  ·next e => rw [e, hx]
  ·exact h.told i (by omega), h.up.setCell (.inl hg) _⟩

theorem OwnB.off {S : Nat → Prop} {base : Nat} {w w' : World} {v : Value} {z : List Nat} (h : OwnB base w v z) (u : Up S w w') (hs : ∀ g, v.ownBlock = some g → ¬ S g) : OwnB base w' v z := by
 refine ⟨⟨h.own.1, ?_⟩, h.small⟩
 rcases h.own.2 with hn | ⟨g, cap, cur, h1, h2, h3, h4⟩
 ·exact .inl hn
 ·exact .inr ⟨g, cap, cur, h1, h2, (u.block g (Array.getElem?_eq_some_iff.1 h3).1 (hs g (by rw [h1]; rfl))).trans h3, h4⟩
end Go.Proofs.YtepggchnhgpcnaaGreatDoor
