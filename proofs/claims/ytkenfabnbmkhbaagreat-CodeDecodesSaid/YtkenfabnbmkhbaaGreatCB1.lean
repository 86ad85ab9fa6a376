/- Part 1 of what the walks rest on: GfMath, GfWorld, OnceParts, GfFill, GfDo, GfCalls, GfNew, GfMade, GfAlg, GfRef, GfDot, GfRefDot. -/
import Derived.KernelRfl
import Derived.WalkKit
import Derived.WalkSpells
import Derived.Test.YtkenfabnbmkhbaaGreatRows
import Derived.Defers
import Derived.Laws.Pointers
import Derived.Laws.LoneSync
import Derived.RegionTactic
import Derived.RegionCalls
import Derived.ChangeAlike
import Derived.WalkLawsBesides
import Derived.Outline
import Derived.IntWalk
import Derived.OpenShut
import Derived.Laws.BitsAllLaws
import Derived.Deep.RegionHeld3
import Derived.Deep.DrawnRows
import Derived.Deep.QuietTactic
import Derived.BigQuiet
import Derived.Lib.SlBytesRow
import Derived.Laws.CopyRow
import Derived.Laws.OwnMore
import Derived.OwnWalk
import Derived.Laws.Rows
import Derived.StillTailTactics
import Derived.BigRegion
import Derived.Laws.CopyOwn
import Derived.Deep.CutBlock
import Derived.Deep.DeepCutAuto
import Derived.Lib.AppendZeros
import Derived.Shelf.Bytes.SlCountOne
import Derived.Lib.ConvBytes
import Derived.WalkSmall
import Derived.Laws.Bits64b
namespace Go.Proofs.YtkenfabnbmkhbaaGreat
open Go.RowKit
set_option linter.unusedVariables false

namespace GfM

/-- Doubling. -/
def dbl (p : Nat) : Nat := if 255 < p * 2 then (p * 2) ^^^ 285 else p * 2
/-- Doubled k times. -/
def pw : Nat → Nat → Nat
  | 0, x => x
  | k + 1, x => dbl (pw k x)
/-- The powers of 2. -/
def gexp (k : Nat) : Nat := pw k 1
/-- The list of n doublings, from p on. -/
def powers : Nat → Nat → List Nat
  | 0, _ => []
  | n + 1, p => p :: powers n (dbl p)
/-- Where x stands in the list of powers. -/
def glog (x : Nat) : Nat := (powers 255 1).idxOf x
def mul (a b : Nat) : Nat := if a = 0 ∨ b = 0 then 0 else gexp ((glog a + glog b) % 255)
def inv (a : Nat) : Nat := if a = 0 then 0 else gexp ((255 - glog a) % 255)
def pow (a : Nat) (n : Int) : Nat := if n = 0 then 1 else if a = 0 then 0 else gexp ((glog a * n.tmod 255) % 255).toNat
theorem gexp_zero : gexp 0 = 1 := rfl
theorem gexp_succ (k : Nat) : gexp (k + 1) = dbl (gexp k) := rfl
theorem pw_add (j k x : Nat) : pw (j + k) x = pw j (pw k x) := by
  induction j with
  | zero => simp [pw]
  | succ j ih => rw [Nat.succ_add]; simp only [pw, ih]
def bytes : List Nat := List.range 256
theorem all_range (n : Nat) (p : Nat → Bool) (h : (List.range n).all p = true) (k : Nat) (hk : k < n) : p k = true := by
  rw [List.all_eq_true] at h
  exact h k (List.mem_range.2 hk)
theorem gexp_facts : (List.range 255).all (fun k => decide (1 ≤ gexp k) && decide (gexp k ≤ 255) && decide (glog (gexp k) = k)) = true := by decide +kernel
theorem glog_facts : (List.range 256).all (fun a => decide (a = 0) || (decide (glog a < 255) && decide (gexp (glog a) = a))) = true := by decide +kernel
theorem gexp_255 : gexp 255 = 1 := by decide +kernel
theorem dbl_facts : (List.range 256).all (fun a => decide (dbl a ≤ 255)) = true := by decide +kernel
theorem gexp_lt {k : Nat} (h : k < 255) : 1 ≤ gexp k ∧ gexp k ≤ 255 := by
  have := all_range 255 _ gexp_facts k h
  simp only [Bool.and_eq_true, decide_eq_true_eq] at this
  exact this.1
theorem glog_gexp {k : Nat} (h : k < 255) : glog (gexp k) = k := by
  have := all_range 255 _ gexp_facts k h
  simp only [Bool.and_eq_true, decide_eq_true_eq] at this
  exact this.2
theorem glog_lt {a : Nat} (h0 : a ≠ 0) (h : a < 256) : glog a < 255 := by
  have := all_range 256 _ glog_facts a h
  simp only [Bool.and_eq_true, Bool.or_eq_true, decide_eq_true_eq] at this
  omega
theorem gexp_glog {a : Nat} (h0 : a ≠ 0) (h : a < 256) : gexp (glog a) = a := by
  have := all_range 256 _ glog_facts a h
  simp only [Bool.and_eq_true, Bool.or_eq_true, decide_eq_true_eq] at this
  rcases this with h | h
  · exact absurd h h0
  · exact h.2
theorem gexp_inj {j k : Nat} (hj : j < 255) (hk : k < 255) (h : gexp j = gexp k) : j = k := by
  have := glog_gexp hj
  rw [h, glog_gexp hk] at this
  exact this.symm
theorem gexp_period (k : Nat) : gexp (k + 255) = gexp k := by
  unfold gexp
  rw [pw_add]
  have : pw 255 1 = 1 := gexp_255
  rw [this]
theorem gexp_mod (k : Nat) : gexp (k % 255) = gexp k := by
  have : ∀ q r : Nat, gexp (r + 255 * q) = gexp r := by
    intro q
    induction q with
    | zero => intro r; simp
    | succ q ih => intro r; rw [show r + 255 * (q + 1) = (r + 255 * q) + 255 by omega, gexp_period, ih]
  have h := this (k / 255) (k % 255)
  rw [Nat.mod_add_div] at h
  exact h.symm
theorem gexp_le (k : Nat) : 1 ≤ gexp k ∧ gexp k ≤ 255 := by
  rw [← gexp_mod]; exact gexp_lt (Nat.mod_lt _ (by omega))
theorem mul_le (a b : Nat) : mul a b ≤ 255 := by
  unfold mul; split
  · omega
  · exact (gexp_le _).2
theorem inv_le (a : Nat) : inv a ≤ 255 := by
  unfold inv; split
  · omega
  · exact (gexp_le _).2
end GfM

/-- Outside block b the world is as it was. -/
structure Out (b : Nat) (w w' : World) : Prop where
  os : w'.os = w.os
  tape : w'.tape = w.tape
  output : w'.output = w.output
  size : w'.heap.size = w.heap.size
  block : ∀ k, k ≠ b → w'.heap[k]? = w.heap[k]?
  frozen : ∀ j, w'.frozen? ⟨b, j, none⟩ = w.frozen? ⟨b, j, none⟩
theorem Out.refl (b : Nat) (w : World) : Out b w w := ⟨rfl, rfl, rfl, rfl, fun _ _ => rfl, fun _ => rfl⟩
theorem Out.trans {b : Nat} {u v w : World} (h : Out b u v) (k : Out b v w) : Out b u w :=
  ⟨k.os.trans h.os, k.tape.trans h.tape, k.output.trans h.output, k.size.trans h.size, fun i hi => (k.block i hi).trans (h.block i hi), fun j => (k.frozen j).trans (h.frozen j)⟩
theorem Out.drew {b : Nat} {u w : World} (h : Out b u w) : Out b u w.drew := ⟨h.os, h.tape, h.output, h.size, h.block, h.frozen⟩
theorem Out.setCell {b : Nat} {u w : World} (h : Out b u w) (j : Nat) (v : Value) : Out b u (w.setCell ⟨b, j, none⟩ v) :=
  h.trans ⟨rfl, rfl, rfl, by simp [World.setCell], fun k hk => Below.heap_setCell _ _ _ _ hk, fun _ => by simp⟩
theorem Out.cell {b : Nat} {w w' : World} (h : Out b w w') {p : Addr} (hp : p.block ≠ b) : w'.cell? p = w.cell? p := World.cell?_of_block (w := w) (h.block p.block hp)
theorem Out.froz {b : Nat} {w w' : World} (h : Out b w w') {p : Addr} (hp : p.block ≠ b) : w'.frozen? p = w.frozen? p := World.frozen?_of_block (w := w) (h.block p.block hp)
theorem Out.below {b B : Nat} {w w' : World} (h : Out b w w') (hB : B ≤ b) : Below B w w' :=
  ⟨h.os, h.tape, h.output, by rw [h.size]; exact Nat.le_refl _, fun k hk => h.block k (by omega)⟩
/-- All cells of a Field are there, none is frozen. -/
structure Raw (b : Nat) (w : World) : Prop where
  lt : b < w.heap.size
  cells : ∀ j, j < 515 → ∃ v, w.cell? ⟨b, j, none⟩ = some v
  fr : ∀ j, w.frozen? ⟨b, j, none⟩ = false
theorem Raw.setCell {b : Nat} {w : World} (h : Raw b w) (j : Nat) (v : Value) : Raw b (w.setCell ⟨b, j, none⟩ v) :=
  ⟨by simpa [World.setCell] using h.lt, fun i hi => by
    obtain ⟨u, hu⟩ := h.cells i hi
    exact cell?_setCell_some hu, fun i => by simp [h.fr i]⟩
theorem Raw.drew {b : Nat} {w : World} (h : Raw b w) : Raw b w.drew := ⟨h.lt, h.cells, h.fr⟩
/-- The tables are there: the powers, and the logarithms. -/
structure Tabs (b : Nat) (w : World) : Prop where
  ex : ∀ j, j < 255 → w.cell? ⟨b, 4 + j, none⟩ = some (.int .u8 (GfM.gexp j))
  lg : ∀ j, j < 255 → w.cell? ⟨b, 259 + GfM.gexp j, none⟩ = some (.int .u8 j)
/-- A Field that is new. -/
structure Fresh (b : Nat) (w : World) : Prop where
  raw : Raw b w
  lock : w.cell? ⟨b, 1, none⟩ = some (.int .i32 0)
  done : w.cell? ⟨b, 0, none⟩ = some (.int .u32 0)
  made : w.cell? ⟨b, 3, none⟩ = some (.int .i32 0)
/-- A Field with its tables. -/
structure Full (b : Nat) (w : World) : Prop where
  raw : Raw b w
  lock : w.cell? ⟨b, 1, none⟩ = some (.int .i32 0)
  done : w.cell? ⟨b, 0, none⟩ = some (.int .u32 1)
  made : w.cell? ⟨b, 3, none⟩ = some (.int .i32 1)
  tabs : Tabs b w
/-- A Field as it is between two calls: new, or with its tables. -/
def Fld (b : Nat) (w : World) : Prop := Fresh b w ∨ Full b w
theorem Raw.of_out {b c : Nat} {w w' : World} (h : Raw b w) (o : Out c w w') (hn : b ≠ c) : Raw b w' :=
  ⟨by rw [o.size]; exact h.lt, fun j hj => by rw [o.cell hn]; exact h.cells j hj, fun j => by rw [o.froz hn]; exact h.fr j⟩
theorem Tabs.of_out {b c : Nat} {w w' : World} (h : Tabs b w) (o : Out c w w') (hn : b ≠ c) : Tabs b w' :=
  ⟨fun j hj => by rw [o.cell hn]; exact h.ex j hj, fun j hj => by rw [o.cell hn]; exact h.lg j hj⟩
theorem Fld.of_out {b c : Nat} {w w' : World} (h : Fld b w) (o : Out c w w') (hn : b ≠ c) : Fld b w' := by
  rcases h with h | h
  · exact .inl ⟨h.raw.of_out o hn, by rw [o.cell hn]; exact h.lock, by rw [o.cell hn]; exact h.done, by rw [o.cell hn]; exact h.made⟩
  · exact .inr ⟨h.raw.of_out o hn, by rw [o.cell hn]; exact h.lock, by rw [o.cell hn]; exact h.done, by rw [o.cell hn]; exact h.made, h.tabs.of_out o hn⟩
/-- A new block leaves what was there. -/
theorem Raw.alloc {b : Nat} {w : World} (h : Raw b w) (o : Obj) : Raw b (w.alloc o) :=
  ⟨by have := h.lt; simp; omega, fun j hj => by rw [World.cell?_alloc_past _ _ _ h.lt]; exact h.cells j hj, fun j => by rw [World.frozen?_alloc_past _ _ _ h.lt]; exact h.fr j⟩
theorem Fld.alloc {b : Nat} {w : World} (h : Fld b w) (o : Obj) : Fld b (w.alloc o) := by
  rcases h with h | h
  · have hl := h.raw.lt
    exact .inl ⟨h.raw.alloc o, by rw [World.cell?_alloc_past _ _ _ hl]; exact h.lock, by rw [World.cell?_alloc_past _ _ _ hl]; exact h.done, by rw [World.cell?_alloc_past _ _ _ hl]; exact h.made⟩
  · have hl := h.raw.lt
    exact .inr ⟨h.raw.alloc o, by rw [World.cell?_alloc_past _ _ _ hl]; exact h.lock, by rw [World.cell?_alloc_past _ _ _ hl]; exact h.done, by rw [World.cell?_alloc_past _ _ _ hl]; exact h.made,
      ⟨fun j hj => by rw [World.cell?_alloc_past _ _ _ hl]; exact h.tabs.ex j hj, fun j hj => by rw [World.cell?_alloc_past _ _ _ hl]; exact h.tabs.lg j hj⟩⟩
theorem Fld.drew {b : Nat} {w : World} (h : Fld b w) : Fld b w.drew := by
  rcases h with h | h
  · exact .inl ⟨h.raw.drew, h.lock, h.done, h.made⟩
  · exact .inr ⟨h.raw.drew, h.lock, h.done, h.made, ⟨h.tabs.ex, h.tabs.lg⟩⟩
theorem Fld.lt {b : Nat} {w : World} (h : Fld b w) : b < w.heap.size := by
  rcases h with h | h
  · exact h.raw.lt
  · exact h.raw.lt

theorem disable (w : World) : (callFunc 95 #[]).run Tryz.prog w = .ok (.value (.tuple #[])) w := run_call_mark0 Tryz.func95 (by kernel_rfl) (by kernel_rfl) (by kernel_rfl) .disable (by kernel_rfl) w
theorem enable (w : World) : (callFunc 97 #[]).run Tryz.prog w = .ok (.value (.tuple #[])) w := run_call_mark0 Tryz.func97 (by kernel_rfl) (by kernel_rfl) (by kernel_rfl) .enable (by kernel_rfl) w
theorem acquire (a : Addr) (w : World) : (callFunc 98 #[.pointer (some a)]).run Tryz.prog w = .ok (.value (.tuple #[])) w := run_call_marked Tryz.func98 (by kernel_rfl) (by kernel_rfl) (by kernel_rfl) .acquire (by kernel_rfl) a w
theorem releaseMerge (a : Addr) (w : World) : (callFunc 100 #[.pointer (some a)]).run Tryz.prog w = .ok (.value (.tuple #[])) w := run_call_marked Tryz.func100 (by kernel_rfl) (by kernel_rfl) (by kernel_rfl) .releaseMerge (by kernel_rfl) a w
/-- '(*sync/atomic.Bool).Store(true)', entered as a deferred call: the cell holds 1. -/
theorem store_deferred (a : Addr) (x : Value) (u : FrameMode) (w : World) (hc : w.cell? a = some x) (hz : w.frozen? a = false) :
    CallsD Tryz.prog 89 #[.pointer (some a), .bool true] u w fun e u' w' => u' = u ∧ (e = .returned (.tuple #[]) ∧ w' = w.drew.setCell a (.int .u32 1)) := by
  have hc' : w.drew.cell? a = some x := by go_simp
  have hz' : w.drew.frozen? a = false := by go_simp
  have hst := run_call_store (P := Tryz.prog) Tryz.func93 (by kernel_rfl) (by kernel_rfl) (by kernel_rfl) (by kernel_rfl) (k := .u32) (y := 1) hc' hz'
  go_enter_d Tryz.func89, Tryz.ntmps89
  go_wp2
  go_region_calls
  all_goals (go_end0; exact ⟨rfl, rfl⟩)
set_option maxRecDepth 100000 in
/-- '(*sync.Mutex).Unlock', entered as a deferred call, the lock held and nobody waiting: state 0. -/
theorem unlock_deferred (a : Addr) (u : FrameMode) (w : World) (hc : w.cell? a = some (.int .i32 1)) (hz : w.frozen? a = false) :
    CallsD Tryz.prog 88 #[.pointer (some a)] u w fun e u' w' => u' = u ∧ (e = .returned (.tuple #[]) ∧ w' = w.setCell a (.int .i32 0)) := by
  have hd := disable
  have he := enable
  have hr := releaseMerge
  have hadd := run_call_add (P := Tryz.prog) Tryz.func90 (by kernel_rfl) (by kernel_rfl) (by kernel_rfl) .i32 (by kernel_rfl) (y := -1) (s := 0) hc hz (by simp [go_sem]; rfl)
  have hcv := run_convert_to_unsafe (P := Tryz.prog) (src := 157) (dst := 160) Tryz.underlying157 Tryz.underlying160 (by kernel_rfl) hc
  go_enter_d Tryz.func88, Tryz.ntmps88
  go_wp2
  go_end0
  go_wp2
  go_end0
  exact ⟨rfl, rfl⟩
set_option maxRecDepth 100000 in
/-- '(*sync.Mutex).Lock', the lock free (state 0): state 1. -/
theorem lock_free (a : Addr) (w : World) (hc : w.cell? a = some (.int .i32 0)) (hz : w.frozen? a = false) :
    Calls Tryz.prog 87 #[.pointer (some a)] w fun e w' => e = .returned (.tuple #[]) ∧ w' = w.setCell a (.int .i32 1) := by
  have hd := disable
  have he := enable
  have ha := acquire
  have hcas := run_call_cas_hit (P := Tryz.prog) Tryz.func96 (by kernel_rfl) (by kernel_rfl) (by kernel_rfl) .i32 (by kernel_rfl) (y := 1) hc hz
  have hc' : (w.setCell a (.int .i32 1)).cell? a = some (.int .i32 1) := World.cell?_setCell_same w a _ hc
  have hcv := run_convert_to_unsafe (P := Tryz.prog) (src := 157) (dst := 160) Tryz.underlying157 Tryz.underlying160 (by kernel_rfl) hc'
  go_enter Tryz.func87, Tryz.ntmps87
  go_wp2
  first | go_end0 | (simp only [Exit.inBlock, Exit.then]; refine bodyPost_ret (results_none rfl _ _ _) rfl ?_) | refine bodyPost_ret (results_none rfl _ _ _) rfl ?_
  go_wp2
  go_end0
  exact ⟨rfl, rfl⟩
/-- '(*sync/atomic.Bool).Load'. -/
theorem bool_load (a : Addr) (x : Int) (w : World) (hc : w.cell? a = some (.int .u32 x)) :
    Calls Tryz.prog 83 #[.pointer (some a)] w fun e w' => e = .returned (.bool (x != 0)) ∧ w = w' := by
  have hl := run_call_load (P := Tryz.prog) Tryz.func86 (by kernel_rfl) (by kernel_rfl) (by kernel_rfl) .u32 (by kernel_rfl) hc
  go_enter Tryz.func83, Tryz.ntmps83
  go_wp2
  go_ret
  exact ⟨rfl, rfl⟩
/-- '(*sync/atomic.Int32).Add(1)' of a count that is 0. -/
theorem int_add (a : Addr) (w : World) (hc : w.cell? a = some (.int .i32 0)) (hz : w.frozen? a = false) :
    Calls Tryz.prog 85 #[.pointer (some a), .int .i32 1] w fun e w' => e = .returned (.int .i32 1) ∧ w.setCell a (.int .i32 1) = w' := by
  have hadd := run_call_add (P := Tryz.prog) Tryz.func90 (by kernel_rfl) (by kernel_rfl) (by kernel_rfl) .i32 (by kernel_rfl) (y := 1) (s := 1) hc hz (by simp [go_sem]; rfl)
  go_enter Tryz.func85, Tryz.ntmps85
  go_wp2
  go_ret
  exact ⟨rfl, rfl⟩

/-- Go's xor of two ints that are not negative. -/
theorem i64_xor_nat (a b : Nat) (ha : a < 4611686018427387904) (hb : b < 4611686018427387904) : bits .xor .i64 (a : Int) (b : Int) = ((a ^^^ b : Nat) : Int) := by
  have hx : a ^^^ b < 2 ^ 62 := Nat.xor_lt_two_pow (by omega) (by omega)
  have h1 : (BitVec.ofInt 64 (a : Int)).toNat = a := by
    rw [BitVec.ofInt_natCast, BitVec.toNat_ofNat]; exact Nat.mod_eq_of_lt (by omega)
  have h2 : (BitVec.ofInt 64 (b : Int)).toNat = b := by
    rw [BitVec.ofInt_natCast, BitVec.toNat_ofNat]; exact Nat.mod_eq_of_lt (by omega)
  show IntKind.i64.wrap ((BitVec.ofInt 64 (a : Int) ^^^ BitVec.ofInt 64 (b : Int)).toNat : Int) = _
  rw [BitVec.toNat_xor, h1, h2]
  exact IntWalk.i64_in _ (by omega)
/-- One doubling, as the loop writes it. -/
theorem dbl_up (k : Nat) (h : (255 : Int) < (GfM.gexp k : Int) * 2) (hg : GfM.gexp k ≤ 255) : Value.int IntKind.i64 (bits .xor .i64 ((GfM.gexp k : Int) * 2) 285) = .int .i64 (GfM.gexp (k + 1)) := by
  have e := i64_xor_nat (GfM.gexp k * 2) 285 (by omega) (by omega)
  have e2 : ((GfM.gexp k * 2 : Nat) : Int) = (GfM.gexp k : Int) * 2 := by omega
  rw [e2] at e
  have e3 : ((285 : Nat) : Int) = 285 := rfl
  rw [e3] at e
  rw [e, GfM.gexp_succ, GfM.dbl, if_pos (by omega)]
theorem dbl_down (k : Nat) (h : (GfM.gexp k : Int) * 2 ≤ 255) : Value.int IntKind.i64 ((GfM.gexp k : Int) * 2) = .int .i64 (GfM.gexp (k + 1)) := by
  have e2 : ((GfM.gexp k * 2 : Nat) : Int) = (GfM.gexp k : Int) * 2 := by omega
  rw [GfM.gexp_succ, GfM.dbl, if_neg (by omega), e2]
/-- After k rounds. -/
structure FillInv (b : Nat) (w : World) (k : Nat) (wr : World) : Prop where
  out : Out b w wr
  raw : Raw b wr
  head : ∀ j, j < 4 → wr.cell? ⟨b, j, none⟩ = w.cell? ⟨b, j, none⟩
  ex : ∀ j, j < k → wr.cell? ⟨b, 4 + j, none⟩ = some (.int .u8 (GfM.gexp j))
  lg : ∀ j, j < k → wr.cell? ⟨b, 259 + GfM.gexp j, none⟩ = some (.int .u8 j)
theorem FillInv.start {b : Nat} {w : World} (h : Raw b w) : FillInv b w 0 w :=
  ⟨Out.refl _ _, h, fun _ _ => rfl, fun j hj => absurd hj (by omega), fun j hj => absurd hj (by omega)⟩
theorem FillInv.next {b : Nat} {w wr : World} {k : Nat} (hk : k < 255) (h : FillInv b w k wr) :
    FillInv b w (k + 1) ((wr.setCell ⟨b, 4 + k, none⟩ (.int .u8 (GfM.gexp k))).setCell ⟨b, 259 + GfM.gexp k, none⟩ (.int .u8 k)) := by
  have hg := GfM.gexp_lt hk
  have r1 := h.raw.setCell (4 + k) (.int .u8 (GfM.gexp k))
  have r2 := r1.setCell (259 + GfM.gexp k) (.int .u8 k)
  obtain ⟨v1, hv1⟩ := h.raw.cells (4 + k) (by omega)
  obtain ⟨v2, hv2⟩ := r1.cells (259 + GfM.gexp k) (by omega)
  refine ⟨(h.out.setCell _ _).setCell _ _, r2, fun j hj => ?_, fun j hj => ?_, fun j hj => ?_⟩
  · rw [World.cell?_setCell_other _ _ _ _ (by simp <;> omega), World.cell?_setCell_other _ _ _ _ (by simp <;> omega)]
    exact h.head j hj
  · rw [World.cell?_setCell_other _ _ _ _ (by simp <;> omega)]
    rcases Nat.lt_or_ge j k with h1 | h1
    · rw [World.cell?_setCell_other _ _ _ _ (by simp <;> omega)]
      exact h.ex j h1
    · obtain rfl : j = k := by omega
      exact World.cell?_setCell_same _ _ _ hv1
  · rcases Nat.lt_or_ge j k with h1 | h1
    · have hj' := GfM.gexp_lt (k := j) (by omega)
      have hne : GfM.gexp j ≠ GfM.gexp k := fun e => by
        have := GfM.gexp_inj (by omega) hk e
        omega
      rw [World.cell?_setCell_other _ _ _ _ (by simp <;> omega), World.cell?_setCell_other _ _ _ _ (by simp <;> omega)]
      exact h.lg j h1
    · obtain rfl : j = k := by omega
      exact World.cell?_setCell_same _ _ _ hv2
/-- What fill leaves. -/
structure Filled (b : Nat) (w w' : World) : Prop where
  out : Out b w w'
  raw : Raw b w'
  head : ∀ j, j < 3 → w'.cell? ⟨b, j, none⟩ = w.cell? ⟨b, j, none⟩
  made : w'.cell? ⟨b, 3, none⟩ = some (.int .i32 1)
  tabs : Tabs b w'
theorem FillInv.last {b : Nat} {w wr : World} (h : FillInv b w 255 wr) : Filled b w (wr.setCell ⟨b, 3, none⟩ (.int .i32 1)) := by
  obtain ⟨v, hv⟩ := h.raw.cells 3 (by omega)
  refine ⟨h.out.setCell _ _, h.raw.setCell _ _, fun j hj => ?_, World.cell?_setCell_same _ _ _ hv, ⟨fun j hj => ?_, fun j hj => ?_⟩⟩
  · rw [World.cell?_setCell_other _ _ _ _ (by simp <;> omega)]
    exact h.head j (by omega)
  · rw [World.cell?_setCell_other _ _ _ _ (by simp <;> omega)]
    exact h.ex j hj
  · rw [World.cell?_setCell_other _ _ _ _ (by simp <;> omega)]
    exact h.lg j hj
set_option maxRecDepth 100000 in
set_option maxHeartbeats 800000 in
theorem fill_any (b : Nat) (w : World) (hraw : Raw b w) (h3 : w.cell? ⟨b, 3, none⟩ = some (.int .i32 0)) :
    Calls Tryz.prog 78 #[.pointer (some ⟨b, 0, none⟩)] w fun e w' => e = .returned (.tuple #[]) ∧ Filled b w w' := by
  have H3 : Hid _ := h3
  clear h3
  go_enter Tryz.func78, Tryz.ntmps78
  go_wp2
  go_loopw [2, 4] (fun p i wr => ∃ k : Nat, k ≤ 255 ∧ i = .int .i64 k ∧ p = .int .i64 (GfM.gexp k) ∧ FillInv b w k wr) (fun _ i _ => 255 - (intOf i).toNat)
  case atStart => exact ⟨0, by omega, rfl, rfl, FillInv.start hraw⟩
  case round =>
    obtain ⟨k, hk, rfl, rfl, hinv⟩ := hrel
    by_cases hlt : k < 255
    · have hg := GfM.gexp_lt hlt
      obtain ⟨v1, hv1⟩ := hinv.raw.cells (4 + k) (by omega)
      obtain ⟨v2, hv2⟩ := (hinv.raw.setCell (4 + k) (.int .u8 (GfM.gexp k))).cells (259 + GfM.gexp k) (by omega)
      have hf1 := hinv.raw.fr (4 + k)
      have hf2 := hinv.raw.fr (259 + GfM.gexp k)
      have HI : Hid _ := hinv
      clear hinv
      go_wp2
      all_goals
        refine ⟨⟨k + 1, by omega, by go_num, ?_, FillInv.next hlt HI.out⟩, by simp [intOf]; omega⟩
      · exact dbl_up k (by assumption) hg.2
      · exact dbl_down k (by assumption)
    · obtain rfl : k = 255 := by omega
      have HI : Hid _ := hinv
      have h3 : wr.cell? ⟨b, 3, none⟩ = some (.int .i32 0) := (hinv.head 3 (by omega)).trans H3.out
      have hf3 := hinv.raw.fr 3
      clear hinv
      go_wp2_with (go_at_call 85; refine (int_add ⟨b, 3, none⟩ _ h3 hf3).mono ?_; rintro e w' ⟨rfl, rfl⟩)
      go_end0
      exact ⟨rfl, FillInv.last HI.out⟩

set_option maxRecDepth 100000 in
set_option maxHeartbeats 1600000 in
theorem slow_first (b : Nat) (w : World) (hf : Fresh b w) :
    Calls Tryz.prog 84 #[.pointer (some ⟨b, 0, none⟩), .func (.func 78) #[.pointer (some ⟨b, 0, none⟩)] #[]] w fun e w' => e = .returned (.tuple #[]) ∧ (Out b w w' ∧ Full b w') := by
  have HF : Hid _ := hf
  have h1 := hf.lock
  have f1 := hf.raw.fr 1
  have h0' : (w.setCell ⟨b, 1, none⟩ (.int .i32 1)).cell? ⟨b, 0, none⟩ = some (.int .u32 0) := (World.cell?_setCell_other _ ⟨b, 1, none⟩ ⟨b, 0, none⟩ _ (by simp)).trans hf.done
  have hr1 := hf.raw.setCell 1 (.int .i32 1)
  have h3' : (w.setCell ⟨b, 1, none⟩ (.int .i32 1)).cell? ⟨b, 3, none⟩ = some (.int .i32 0) := (World.cell?_setCell_other _ ⟨b, 1, none⟩ ⟨b, 3, none⟩ _ (by simp)).trans hf.made
  clear hf
  have hnot : ∀ (x : Bool) (w : World), (Op.unary .not (.bool x)).run Tryz.prog w = .ok (.bool (!x)) w := fun _ _ => rfl
  go_enter_defers Tryz.func84, Tryz.ntmps84
  go_wp2_with (first
    | (go_at_call 87; refine (lock_free ⟨b, 1, none⟩ _ h1 f1).mono ?_; rintro e w' ⟨rfl, rfl⟩)
    | (go_at_call 83; refine (bool_load ⟨b, 0, none⟩ 0 _ h0').mono ?_; rintro e w' ⟨rfl, rfl⟩))
  refine (fill_any b _ hr1 h3').mono ?_
  rintro e w' ⟨rfl, hfd⟩
  have hz0 := (hfd.head 0 (by omega)).trans h0'
  have hz1 := hfd.raw.fr 0
  have hz2 : (w'.drew.setCell ⟨b, 0, none⟩ (.int .u32 1)).cell? ⟨b, 1, none⟩ = some (.int .i32 1) := by
    rw [World.cell?_setCell_other _ ⟨b, 0, none⟩ ⟨b, 1, none⟩ _ (by simp), World.cell?_drew]
    exact (hfd.head 1 (by omega)).trans (World.cell?_setCell_same w _ _ h1)
  have hz3 : (w'.drew.setCell ⟨b, 0, none⟩ (.int .u32 1)).frozen? ⟨b, 1, none⟩ = false := by simp [hfd.raw.fr 1]
  have HD : Hid _ := hfd
  clear hfd
  go_wp2
  -- the door: two deferred calls, the last laid first
  refine leaves_cons (f := 89) (args := #[.pointer (some ⟨b, 0, none⟩), .bool true]) (by simp) (by simp [go_sem]) ?_
  refine (store_deferred ⟨b, 0, none⟩ (.int .u32 0) .returning _ hz0 hz1).mono ?_
  rintro e u' w'' ⟨rfl, rfl, rfl⟩
  refine leaves_cons (f := 88) (args := #[.pointer (some ⟨b, 1, none⟩)]) (by simp [settle]) (by simp [go_sem]) ?_
  refine (unlock_deferred ⟨b, 1, none⟩ _ _ hz2 hz3).mono ?_
  rintro e u' w'' ⟨rfl, rfl, rfl⟩
  have hend : Out b w ((w'.drew.setCell ⟨b, 0, none⟩ (.int .u32 1)).setCell ⟨b, 1, none⟩ (.int .i32 0)) ∧ Full b ((w'.drew.setCell ⟨b, 0, none⟩ (.int .u32 1)).setCell ⟨b, 1, none⟩ (.int .i32 0)) := by
    have hd := HD.out
    refine ⟨((Out.refl b w).setCell _ _).trans ((hd.out.drew.setCell _ _).setCell _ _), ⟨(hd.raw.drew.setCell _ _).setCell _ _, World.cell?_setCell_same _ _ _ hz2, ?_, ?_, ⟨fun j hj => ?_, fun j hj => ?_⟩⟩⟩
    · rw [World.cell?_setCell_other _ ⟨b, 1, none⟩ ⟨b, 0, none⟩ _ (by simp)]
      exact World.cell?_setCell_same _ _ _ (by rw [World.cell?_drew]; exact hz0)
    · rw [World.cell?_setCell_other _ ⟨b, 1, none⟩ ⟨b, 3, none⟩ _ (by simp), World.cell?_setCell_other _ ⟨b, 0, none⟩ ⟨b, 3, none⟩ _ (by simp), World.cell?_drew]
      exact hd.made
    · rw [World.cell?_setCell_other _ _ _ _ (by simp <;> omega), World.cell?_setCell_other _ _ _ _ (by simp <;> omega), World.cell?_drew]
      exact hd.tabs.ex j hj
    · rw [World.cell?_setCell_other _ _ _ _ (by simp <;> omega), World.cell?_setCell_other _ _ _ _ (by simp <;> omega), World.cell?_drew]
      exact hd.tabs.lg j hj
  simp [Leaves, settle, results, Tryz.results84]
  exact hend
/-- Do: whatever state the Field is in, behind it the tables are there. -/
theorem do_first (b : Nat) (w : World) (hf : Fresh b w) :
    Calls Tryz.prog 77 #[.pointer (some ⟨b, 0, none⟩), .func (.func 78) #[.pointer (some ⟨b, 0, none⟩)] #[]] w fun e w' => e = .returned (.tuple #[]) ∧ (Out b w w' ∧ Full b w') := by
  have h0 := hf.done
  have hnot : ∀ (x : Bool) (w : World), (Op.unary .not (.bool x)).run Tryz.prog w = .ok (.bool (!x)) w := fun _ _ => rfl
  have HF : Hid _ := hf
  clear hf
  go_enter Tryz.func77, Tryz.ntmps77
  go_wp2_with (first
    | (go_at_call 83; refine (bool_load ⟨b, 0, none⟩ 0 _ h0).mono ?_; rintro e w' ⟨rfl, rfl⟩)
    | (go_at_call 84; refine (slow_first b _ HF.out).mono ?_; rintro e w' ⟨rfl, hw⟩))
  go_end0
  exact ⟨rfl, hw⟩
theorem do_done (b : Nat) (w : World) (fv : Value) (hf : Full b w) :
    Calls Tryz.prog 77 #[.pointer (some ⟨b, 0, none⟩), fv] w fun e w' => e = .returned (.tuple #[]) ∧ (Out b w w' ∧ Full b w') := by
  have h0 := hf.done
  have hnot : ∀ (x : Bool) (w : World), (Op.unary .not (.bool x)).run Tryz.prog w = .ok (.bool (!x)) w := fun _ _ => rfl
  have HF : Hid _ := hf
  clear hf
  go_enter Tryz.func77, Tryz.ntmps77
  go_wp2_with (go_at_call 83; refine (bool_load ⟨b, 0, none⟩ 1 _ h0).mono ?_; rintro e w' ⟨rfl, rfl⟩)
  go_end0
  exact ⟨rfl, Out.refl _ _, HF.out⟩
theorem do_any (b : Nat) (w : World) (hf : Fld b w) :
    Calls Tryz.prog 77 #[.pointer (some ⟨b, 0, none⟩), .func (.func 78) #[.pointer (some ⟨b, 0, none⟩)] #[]] w fun e w' => e = .returned (.tuple #[]) ∧ (Out b w w' ∧ Full b w') := by
  rcases hf with h | h
  · exact do_first b w h
  · exact do_done b w _ h

/-- Behind a call that needed the tables. -/
def After (b : Nat) (w w' : World) : Prop := Out b w w' ∧ Full b w'
/-- Behind any call. -/
def Kept (b : Nat) (w w' : World) : Prop := Out b w w' ∧ Fld b w'
theorem After.kept {b : Nat} {w w' : World} (h : After b w w') : Kept b w w' := ⟨h.1, .inr h.2⟩
theorem Kept.refl {b : Nat} {w : World} (h : Fld b w) : Kept b w w := ⟨Out.refl _ _, h⟩
theorem Kept.trans {b : Nat} {u v w : World} (h : Kept b u v) (k : Kept b v w) : Kept b u w := ⟨h.1.trans k.1, k.2⟩
theorem After.trans {b : Nat} {u v w : World} (h : Kept b u v) (k : After b v w) : After b u w := ⟨h.1.trans k.1, k.2⟩
theorem After.fld {b : Nat} {u v : World} (h : After b u v) : Fld b v := .inr h.2
theorem lg_at {b : Nat} {w : World} (h : Full b w) {a : Nat} (h0 : a ≠ 0) (ha : a < 256) : w.cell? ⟨b, 259 + a, none⟩ = some (.int .u8 (GfM.glog a)) := by
  have := h.tabs.lg (GfM.glog a) (GfM.glog_lt h0 ha)
  rw [GfM.gexp_glog h0 ha] at this
  exact this
theorem logOf_any (b a : Nat) (w : World) (hf : Fld b w) (h0 : a ≠ 0) (ha : a < 256) :
    Calls Tryz.prog 68 #[.pointer (some ⟨b, 0, none⟩), .int .u8 a] w fun e w' => e = .returned (.int .i64 (GfM.glog a)) ∧ After b w w' := by
  have hg := GfM.glog_lt h0 ha
  have H0 : Hid _ := h0
  clear h0
  have hmf : ∀ (fn : Fn) (first cap : Array Value) (w : World), (Instr.makeFunc fn first cap).run Tryz.prog w = .ok (.func fn first cap) w := fun _ _ _ _ => rfl
  go_enter Tryz.func68, Tryz.ntmps68
  go_wp2_with (go_at_call 77; refine (do_any b _ hf).mono ?_; rintro e w1 ⟨rfl, hw⟩; have hc := lg_at hw.2 H0.out ha; have HW : Hid _ := hw; clear hw)
  go_ret
  exact ⟨rfl, HW.out⟩
theorem tmod_nonneg (n : Int) (h : 0 ≤ n.tmod 255) : n % 255 = n.tmod 255 := by
  have h1 := Int.mul_tdiv_add_tmod n 255
  have h2 := Int.tmod_lt_of_pos n (b := 255) (by omega)
  omega
theorem tmod_neg (n : Int) (h : n.tmod 255 < 0) : n % 255 = n.tmod 255 + 255 := by
  have h1 := Int.mul_tdiv_add_tmod n 255
  have h2 := Int.lt_tmod_of_pos n (b := 255) (by omega)
  omega
theorem ex_at {b : Nat} {w : World} (h : Full b w) (r : Int) (h0 : 0 ≤ r) (h1 : r < 255) : w.cell? ⟨b, 4 + r.toNat, none⟩ = some (.int .u8 (GfM.gexp r.toNat)) := h.tabs.ex r.toNat (by omega)
theorem ret_u8 {a b : Int} (h : a = b) : Ending.returned (.int .u8 a) = .returned (.int .u8 b) := by rw [h]
theorem expOf_any (b : Nat) (n : Int) (w : World) (hf : Fld b w) :
    Calls Tryz.prog 67 #[.pointer (some ⟨b, 0, none⟩), .int .i64 n] w fun e w' => e = .returned (.int .u8 (GfM.gexp (n % 255).toNat)) ∧ After b w w' := by
  have hmf : ∀ (fn : Fn) (first cap : Array Value) (w : World), (Instr.makeFunc fn first cap).run Tryz.prog w = .ok (.func fn first cap) w := fun _ _ _ _ => rfl
  have ht := Int.tmod_lt_of_pos n (b := 255) (by omega)
  have hl := Int.lt_tmod_of_pos n (b := 255) (by omega)
  by_cases hr : 0 ≤ n.tmod 255
  · have E : Hid _ := tmod_nonneg n hr
    go_enter Tryz.func67, Tryz.ntmps67
    go_wp2_with (go_at_call 77; refine (do_any b _ hf).mono ?_; rintro e w1 ⟨rfl, hw⟩; have hc := ex_at hw.2 (n.tmod 255) hr ht; have HW : Hid _ := hw; clear hw)
    go_ret
    exact ⟨ret_u8 (by rw [E.out]), HW.out⟩
  · have hr' : n.tmod 255 < 0 := by omega
    have hr2 : 0 ≤ n.tmod 255 + 255 := by omega
    have hr3 : n.tmod 255 + 255 < 255 := by omega
    have E : Hid _ := tmod_neg n hr'
    clear hr
    go_enter Tryz.func67, Tryz.ntmps67
    go_wp2_with (go_at_call 77; refine (do_any b _ hf).mono ?_; rintro e w1 ⟨rfl, hw⟩; have hc := ex_at hw.2 (n.tmod 255 + 255) hr2 hr3; have HW : Hid _ := hw; clear hw)
    go_ret
    exact ⟨ret_u8 (by rw [E.out]), HW.out⟩
/-- Products. -/
theorem mul_any (b x y : Nat) (w : World) (hf : Fld b w) (hx : x < 256) (hy : y < 256) :
    Calls Tryz.prog 81 #[.pointer (some ⟨b, 0, none⟩), .int .u8 x, .int .u8 y] w fun e w' => e = .returned (.int .u8 (GfM.mul x y)) ∧ Kept b w w' := by
  by_cases h0 : x = 0
  · subst h0
    go_enter Tryz.func81, Tryz.ntmps81
    go_wp2
    go_ret
    exact ⟨rfl, Kept.refl hf⟩
  · by_cases h1 : y = 0
    · subst h1
      have hd : ((x : Int) == 0) = false := by simpa using h0
      go_enter Tryz.func81, Tryz.ntmps81
      go_wp2
      go_ret
      exact ⟨ret_u8 (by simp [GfM.mul]), Kept.refl hf⟩
    · have hd : ((x : Int) == 0) = false := by simpa using h0
      have hd2 : ((y : Int) == 0) = false := by simpa using h1
      have hgx := GfM.glog_lt h0 hx
      have hgy := GfM.glog_lt h1 hy
      have H0 : Hid _ := h0
      have H1 : Hid _ := h1
      clear h0 h1
      go_enter Tryz.func81, Tryz.ntmps81
      go_wp2_with fail
      refine (logOf_any b x _ hf H0.out hx).mono ?_
      rintro e w1 ⟨rfl, k1⟩
      go_wp2_with fail
      refine (logOf_any b y _ k1.fld H1.out hy).mono ?_
      rintro e w2 ⟨rfl, k2⟩
      go_wp2_with fail
      refine (expOf_any b _ _ k2.fld).mono ?_
      rintro e w3 ⟨rfl, k3⟩
      go_wp2
      go_ret
      refine ⟨ret_u8 ?_, (k1.kept.trans k2.kept).trans k3.kept⟩
      unfold GfM.mul
      rw [if_neg (by intro h; rcases h with h | h; exact H0.out h; exact H1.out h)]
      congr 2

/-- The cells of a new Field. -/
def fldZero : Array Value := ⟨.int .u32 0 :: .int .i32 0 :: .int .u32 0 :: .int .i32 0 :: List.replicate 511 (.int .u8 0)⟩
/-- A new block holds a new Field. -/
structure Newed (w w' : World) : Prop where
  below : Below w.heap.size w w'
  size : w'.heap.size = w.heap.size + 1
  fresh : Fresh w.heap.size w'
theorem fldZero_size : fldZero.size = 515 := by kernel_rfl
theorem fldZero_0 : fldZero[0]? = some (.int .u32 0) := by kernel_rfl
theorem fldZero_1 : fldZero[1]? = some (.int .i32 0) := by kernel_rfl
theorem fldZero_3 : fldZero[3]? = some (.int .i32 0) := by kernel_rfl
theorem newed_alloc (w : World) (T : TypeId) : Newed w (w.alloc (.cells fldZero T)) := by
  have hc : ∀ j, (w.alloc (.cells fldZero T)).cell? ⟨w.heap.size, j, none⟩ = fldZero[j]? := fun j => World.cell?_alloc_new w _ _ j
  refine ⟨(Below.refl _ _).alloc (Nat.le_refl _) _, by simp, ⟨⟨by simp, fun j hj => ?_, fun j => World.frozen?_alloc_new w _ _ j⟩, ?_, ?_, ?_⟩⟩
  · rw [hc]
    exact ⟨_, Array.getElem?_eq_getElem (by rw [fldZero_size]; exact hj)⟩
  · rw [hc]; exact fldZero_1
  · rw [hc]; exact fldZero_0
  · rw [hc]; exact fldZero_3
theorem zero_field (w : World) : (zeroValue 88).run Tryz.prog w = .ok (.agg fldZero) w := by kernel_rfl
theorem new_any (w : World) :
    Calls Tryz.prog 7 #[] w fun e w' => e = .returned (.pointer (some ⟨w.heap.size, 0, none⟩)) ∧ Newed w w' := by
  have hz := zero_field
  go_enter Tryz.func7, Tryz.ntmps7
  go_wp2
  go_ret
  exact ⟨rfl, newed_alloc _ _⟩
theorem ret_u8b {a b : Int} (h : a = b) (c : Bool) : Ending.returned (.tuple #[.int .u8 a, .bool c]) = .returned (.tuple #[.int .u8 b, .bool c]) := by rw [h]
theorem inv_any (b x : Nat) (w : World) (hf : Fld b w) (h0 : x ≠ 0) (hx : x < 256) :
    Calls Tryz.prog 49 #[.pointer (some ⟨b, 0, none⟩), .int .u8 x] w fun e w' => e = .returned (.tuple #[.int .u8 (GfM.inv x), .bool true]) ∧ Kept b w w' := by
  have hd : ((x : Int) == 0) = false := by simpa using h0
  have hgx := GfM.glog_lt h0 hx
  have H0 : Hid _ := h0
  clear h0
  go_enter Tryz.func49, Tryz.ntmps49
  go_wp2_with fail
  refine (logOf_any b x _ hf H0.out hx).mono ?_
  rintro e w1 ⟨rfl, k1⟩
  go_wp2_with fail
  refine (expOf_any b _ _ k1.fld).mono ?_
  rintro e w3 ⟨rfl, k3⟩
  go_wp2
  go_ret2
  refine ⟨ret_u8b ?_ _, k1.kept.trans k3.kept⟩
  unfold GfM.inv
  rw [if_neg H0.out]
  congr 2
  omega
theorem Newed.fld {w w' : World} (h : Newed w w') : Fld w.heap.size w' := .inl h.fresh
theorem Kept.below {b B : Nat} {w w' : World} (h : Kept b w w') (hB : B ≤ b) : Below B w w' := h.1.below hB
namespace GfM

theorem gexp_add (j k : Nat) : gexp (j + k) = pw j (gexp k) := pw_add j k 1
theorem mul_ne {a b : Nat} (ha : a ≠ 0) (hb : b ≠ 0) : mul a b = gexp (glog a + glog b) := by
  unfold mul
  rw [if_neg (by intro h; rcases h with h | h; exact ha h; exact hb h), gexp_mod]
theorem zero_mul (b : Nat) : mul 0 b = 0 := by simp [mul]
theorem mul_zero (a : Nat) : mul a 0 = 0 := by simp [mul]
theorem mul_comm (a b : Nat) : mul a b = mul b a := by
  unfold mul
  by_cases h : a = 0 ∨ b = 0
  · rw [if_pos h, if_pos h.symm]
  · rw [if_neg h, if_neg (fun k => h k.symm), Nat.add_comm]
theorem mul_pos {a b : Nat} (ha : a ≠ 0) (hb : b ≠ 0) : mul a b ≠ 0 := by
  rw [mul_ne ha hb]
  have := gexp_le (glog a + glog b)
  omega
theorem glog_mul {a b : Nat} (ha : a ≠ 0) (hb : b ≠ 0) : glog (mul a b) = (glog a + glog b) % 255 := by
  rw [mul_ne ha hb, ← gexp_mod, glog_gexp (Nat.mod_lt _ (by omega))]
theorem mul_assoc (a b c : Nat) : mul (mul a b) c = mul a (mul b c) := by
  by_cases ha : a = 0
  · subst ha; simp [zero_mul]
  by_cases hb : b = 0
  · subst hb; simp [zero_mul, mul_zero]
  by_cases hc : c = 0
  · subst hc; simp [mul_zero]
  rw [mul_ne (mul_pos ha hb) hc, mul_ne ha (mul_pos hb hc), glog_mul ha hb, glog_mul hb hc, ← gexp_mod, ← gexp_mod (glog a + _)]
  congr 1
  omega
theorem glog_one : glog 1 = 0 := by decide +kernel
theorem mul_one {a : Nat} (h : a < 256) : mul a 1 = a := by
  by_cases ha : a = 0
  · subst ha; rfl
  · rw [mul_ne ha (by omega), glog_one, Nat.add_zero, gexp_glog ha h]
theorem one_mul {a : Nat} (h : a < 256) : mul 1 a = a := by rw [mul_comm, mul_one h]
theorem inv_ne {a : Nat} (ha : a ≠ 0) : inv a = gexp (255 - glog a) := by
  unfold inv
  rw [if_neg ha, gexp_mod]
theorem inv_pos {a : Nat} (ha : a ≠ 0) : inv a ≠ 0 := by
  rw [inv_ne ha]
  have := gexp_le (255 - glog a)
  omega
theorem glog_inv {a : Nat} (ha : a ≠ 0) : glog (inv a) = (255 - glog a) % 255 := by
  rw [inv_ne ha, ← gexp_mod, glog_gexp (Nat.mod_lt _ (by omega))]
theorem mul_inv {a : Nat} (ha : a ≠ 0) (h : a < 256) : mul a (inv a) = 1 := by
  have hl := glog_lt ha h
  rw [mul_ne ha (inv_pos ha), glog_inv ha, ← gexp_mod]
  have : (glog a + (255 - glog a) % 255) % 255 = 0 := by omega
  rw [this]; rfl
theorem inv_inv {a : Nat} (ha : a ≠ 0) (h : a < 256) : inv (inv a) = a := by
  have hl := glog_lt ha h
  rw [inv_ne (inv_pos ha), glog_inv ha, ← gexp_mod]
  have : (255 - (255 - glog a) % 255) % 255 = glog a := by omega
  rw [this, gexp_glog ha h]
theorem dbl_pairs : (List.range 256).all (fun a => (List.range 256).all (fun b => Nat.beq (dbl (a ^^^ b)) (dbl a ^^^ dbl b))) = true := by decide +kernel
theorem dbl_xor {a b : Nat} (ha : a < 256) (hb : b < 256) : dbl (a ^^^ b) = dbl a ^^^ dbl b := by
  have h1 := all_range 256 _ dbl_pairs a ha
  have h2 := all_range 256 _ h1 b hb
  exact Nat.eq_of_beq_eq_true h2
theorem dbl_lt {a : Nat} (ha : a < 256) : dbl a < 256 := by
  have := all_range 256 _ dbl_facts a ha
  simp only [decide_eq_true_eq] at this
  omega
theorem pw_lt {a : Nat} (ha : a < 256) (k : Nat) : pw k a < 256 := by
  induction k with
  | zero => exact ha
  | succ k ih => exact dbl_lt ih
theorem pw_zero (k : Nat) : pw k 0 = 0 := by
  induction k with
  | zero => rfl
  | succ k ih => show dbl (pw k 0) = 0; rw [ih]; rfl
theorem pw_xor {a b : Nat} (ha : a < 256) (hb : b < 256) (k : Nat) : pw k (a ^^^ b) = pw k a ^^^ pw k b := by
  induction k with
  | zero => rfl
  | succ k ih => show dbl (pw k (a ^^^ b)) = dbl (pw k a) ^^^ dbl (pw k b); rw [ih, dbl_xor (pw_lt ha k) (pw_lt hb k)]
theorem mul_pw {a x : Nat} (ha : a ≠ 0) (hx : x < 256) : mul a x = pw (glog a) x := by
  by_cases h : x = 0
  · subst h; rw [mul_zero, pw_zero]
  · rw [mul_ne ha h, gexp_add, gexp_glog h hx]
theorem mul_xor (a : Nat) {x y : Nat} (hx : x < 256) (hy : y < 256) : mul a (x ^^^ y) = mul a x ^^^ mul a y := by
  by_cases ha : a = 0
  · subst ha; simp [zero_mul]
  · have hxy : x ^^^ y < 256 := Nat.xor_lt_two_pow (n := 8) hx hy
    rw [mul_pw ha hxy, mul_pw ha hx, mul_pw ha hy, pw_xor hx hy]
theorem xor_lt {x y : Nat} (hx : x < 256) (hy : y < 256) : x ^^^ y < 256 := Nat.xor_lt_two_pow (n := 8) hx hy
theorem mul_lt (a b : Nat) : mul a b < 256 := by have := mul_le a b; omega
theorem inv_lt (a : Nat) : inv a < 256 := by have := inv_le a; omega
def racc (a b : Nat) : Nat → Nat
  | 0 => 0
  | i + 1 => if b / 2 ^ i % 2 = 1 then racc a b i ^^^ pw i a else racc a b i
theorem racc_lt {a : Nat} (ha : a < 256) (b i : Nat) : racc a b i < 256 := by
  induction i with
  | zero => simp [racc]
  | succ i ih => unfold racc; split; exact xor_lt ih (pw_lt ha i); exact ih
theorem glog_two : (List.range 8).all (fun i => Nat.beq (glog (2 ^ i)) i) = true := by decide +kernel
theorem mul_two_pow (a i : Nat) (ha : a < 256) (hi : i < 8) : mul a (2 ^ i) = pw i a := by
  have h := Nat.eq_of_beq_eq_true (all_range 8 _ glog_two i hi)
  have hp : 2 ^ i ≠ 0 := Nat.pos_iff_ne_zero.1 (Nat.two_pow_pos i)
  rw [mul_comm, mul_pw hp ha, h]
theorem racc_mul (a b i : Nat) (ha : a < 256) (hi : i ≤ 8) : racc a b i = mul a (b % 2 ^ i) := by
  induction i with
  | zero => simp [racc, Nat.mod_one, mul_zero]
  | succ i ih =>
    have h1 := ih (by omega)
    have hlt : b % 2 ^ i < 2 ^ i := Nat.mod_lt _ (Nat.two_pow_pos i)
    have hle : 2 ^ i < 2 ^ 8 := Nat.pow_lt_pow_right (by omega) (by omega)
    have hm : b % 2 ^ (i + 1) = b % 2 ^ i + 2 ^ i * (b / 2 ^ i % 2) := by rw [Nat.pow_succ, Nat.mod_mul]
    unfold racc
    split
    · rename_i hb
      rw [hm, hb, Nat.mul_one]
      have hx : b % 2 ^ i + 2 ^ i = (b % 2 ^ i) ^^^ (2 ^ i) := by
        rw [Nat.add_comm]
        have := Nat.two_pow_add_eq_or_of_lt hlt 1
        rw [Nat.mul_one] at this
        rw [this]
        apply Nat.eq_of_testBit_eq
        intro j
        rw [Nat.testBit_or, Nat.testBit_xor, Nat.testBit_two_pow]
        by_cases hj : i = j
        · subst hj
          have : (b % 2 ^ i).testBit i = false := Nat.testBit_lt_two_pow hlt
          simp [this]
        · simp [hj]
      rw [hx, mul_xor a (by omega) (by omega), mul_two_pow a i ha (by omega), h1]
    · rename_i hb
      have : b / 2 ^ i % 2 = 0 := by omega
      rw [hm, this, Nat.mul_zero, Nat.add_zero, h1]
theorem racc_all (a b : Nat) (ha : a < 256) (hb : b < 256) : racc a b 8 = mul a b := by
  rw [racc_mul a b 8 ha (by omega), Nat.mod_eq_of_lt (by simpa using hb)]
def rinv : Nat → Nat → Nat → Nat → Nat
  | 0, _, p, _ => p
  | f + 1, n, p, a => rinv f (n / 2) (if n % 2 = 1 then mul p a else p) (mul a a)
def rpow (a : Nat) : Nat → Nat
  | 0 => 1
  | k + 1 => mul (rpow a k) a
theorem rpow_ne {a : Nat} (ha : a ≠ 0) (k : Nat) : rpow a k = gexp (glog a * k) := by
  induction k with
  | zero => rfl
  | succ k ih =>
    have hp := gexp_le (glog a * k)
    unfold rpow
    rw [ih, mul_ne (by omega) ha, ← gexp_mod (glog a * (k + 1)), ← gexp_mod (glog a * k), glog_gexp (Nat.mod_lt _ (by omega)), ← gexp_mod]
    congr 1
    rw [Nat.mul_succ]
    omega
theorem rpow_lt (a k : Nat) : rpow a k < 256 := by
  cases k with
  | zero => simp [rpow]
  | succ k => exact mul_lt _ _
theorem rpow_sq {a : Nat} (m : Nat) : rpow (mul a a) m = rpow a (2 * m) := by
  induction m with
  | zero => rfl
  | succ m ih =>
    show mul (rpow (mul a a) m) (mul a a) = mul (mul (rpow a (2 * m)) a) a
    rw [ih, mul_assoc]
theorem rinv_rpow (f n p a : Nat) (hp : p < 256) : rinv f n p a = mul p (rpow a (n % 2 ^ f)) := by
  induction f generalizing n p a with
  | zero => simp [rinv, Nat.mod_one, rpow, mul_one hp]
  | succ f ih =>
    have hm : n % 2 ^ (f + 1) = n % 2 + 2 * (n / 2 % 2 ^ f) := by rw [Nat.pow_succ, Nat.mul_comm, Nat.mod_mul]
    unfold rinv
    rw [hm]
    split
    · rename_i h1
      rw [ih _ _ _ (mul_lt _ _), rpow_sq, h1, Nat.add_comm]
      show _ = mul p (mul (rpow a (2 * (n / 2 % 2 ^ f))) a)
      rw [mul_assoc, mul_comm a]
    · rename_i h1
      have h0 : n % 2 = 0 := by omega
      rw [ih _ _ _ hp, rpow_sq, h0, Nat.zero_add]
theorem rinv_inv {a : Nat} (ha : a < 256) : rinv 8 254 1 a = inv a := by
  rw [rinv_rpow _ _ _ _ (by omega), one_mul (rpow_lt _ _)]
  by_cases h : a = 0
  · subst h
    show mul (rpow 0 253) 0 = 0
    rw [mul_zero]
  · have hl := glog_lt h ha
    rw [rpow_ne h, inv_ne h, ← gexp_mod, ← gexp_mod (255 - glog a)]
    congr 1
    omega
theorem pow_int {a : Nat} (ha : a ≠ 0) (n : Int) : pow a n = gexp ((glog a : Int) * n % 255).toNat := by
  by_cases hn : n = 0
  · subst hn
    simp [pow, gexp_zero]
  · rw [pow, if_neg hn, if_neg ha]
    congr 2
    have h1 := Int.mul_tdiv_add_tmod n 255
    have : n % 255 = n.tmod 255 % 255 := by omega
    rw [Int.mul_emod, Int.mul_emod (glog a : Int) n, this]
theorem pow_add {a : Nat} (ha : a ≠ 0) (n k : Int) : mul (pow a n) (pow a k) = pow a (n + k) := by
  have h1 := gexp_le ((glog a : Int) * n % 255).toNat
  have h2 := gexp_le ((glog a : Int) * k % 255).toNat
  have m1 : 0 ≤ (glog a : Int) * n % 255 := Int.emod_nonneg _ (by omega)
  have m2 : 0 ≤ (glog a : Int) * k % 255 := Int.emod_nonneg _ (by omega)
  have m3 : (glog a : Int) * n % 255 < 255 := Int.emod_lt_of_pos _ (by omega)
  have m4 : (glog a : Int) * k % 255 < 255 := Int.emod_lt_of_pos _ (by omega)
  rw [pow_int ha, pow_int ha, pow_int ha, mul_ne (by omega) (by omega), glog_gexp (by omega), glog_gexp (by omega), Int.mul_add, ← gexp_mod]
  congr 1
  omega
end GfM

/-- One doubling, as a loop over ints writes it. -/
theorem dbl_hi (p : Nat) (h : (255 : Int) < (p : Int) * 2) (hg : p < 256) : Value.int IntKind.i64 (bits .xor .i64 ((p : Int) * 2) 285) = .int .i64 (GfM.dbl p) := by
  have e := i64_xor_nat (p * 2) 285 (by omega) (by omega)
  have e2 : ((p * 2 : Nat) : Int) = (p : Int) * 2 := by omega
  rw [e2] at e
  have e3 : ((285 : Nat) : Int) = 285 := rfl
  rw [e3] at e
  rw [e, GfM.dbl, if_pos (by omega)]
theorem dbl_lo (p : Nat) (h : (p : Int) * 2 ≤ 255) : Value.int IntKind.i64 ((p : Int) * 2) = .int .i64 (GfM.dbl p) := by
  have e2 : ((p * 2 : Nat) : Int) = (p : Int) * 2 := by omega
  rw [GfM.dbl, if_neg (by omega), e2]
/-- A byte's bit, as Go asks for it. -/
theorem u8_bit (b k : Nat) (hb : b < 256) : (bits .and .u8 ((b : Int) / 2 ^ k) 1 == 1) = decide (b / 2 ^ k % 2 = 1) := by
  have hd : b / 2 ^ k < 256 := Nat.lt_of_le_of_lt (Nat.div_le_self _ _) hb
  have e : ((b : Int) / 2 ^ k) = ((b / 2 ^ k : Nat) : Int) := by simp
  have h := u8_and_nat (b / 2 ^ k) 1 hd (by omega)
  rw [e]
  have e1 : ((1 : Nat) : Int) = 1 := rfl
  rw [e1] at h
  rw [h, nat_mask1, Bool.eq_iff_iff]
  simp only [beq_iff_eq, decide_eq_true_eq]
  omega
theorem racc_yes {a b k : Nat} (hb : b < 256) (h : (bits .and .u8 ((b : Int) / 2 ^ k) 1 == 1) = true) (h1 : GfM.pw k a < 256) (h2 : GfM.racc a b k < 256) :
    Value.int IntKind.i64 (bits .xor .i64 (GfM.racc a b k : Int) (GfM.pw k a)) = .int .i64 (GfM.racc a b (k + 1)) := by
  rw [u8_bit b k hb, decide_eq_true_eq] at h
  rw [i64_xor_nat _ _ (by omega) (by omega), GfM.racc, if_pos h]
theorem racc_no {a b k : Nat} (hb : b < 256) (h : (bits .and .u8 ((b : Int) / 2 ^ k) 1 == 1) = false) : Value.int IntKind.i64 (GfM.racc a b k : Int) = .int .i64 (GfM.racc a b (k + 1)) := by
  rw [u8_bit b k hb, decide_eq_false_iff_not] at h
  rw [GfM.racc, if_neg h]
set_option maxHeartbeats 800000 in
theorem refMul_any (a b : Nat) (w : World) (ha : a < 256) (hb : b < 256) :
    Calls Tryz.prog 30 #[.int .u8 a, .int .u8 b] w fun e w' => e = .returned (.int .u8 (GfM.mul a b)) ∧ w = w' := by
  have HE : Hid _ := GfM.racc_all a b ha hb
  go_enter Tryz.func30, Tryz.ntmps30
  go_wp2
  go_loop [5, 6, 7] (fun p x i => ∃ k : Nat, k ≤ 8 ∧ i = .int .i64 k ∧ x = .int .i64 (GfM.pw k a) ∧ p = .int .i64 (GfM.racc a b k)) (fun _ _ i => 8 - (intOf i).toNat)
  case atStart => exact ⟨0, by omega, rfl, rfl, rfl⟩
  case round =>
    obtain ⟨k, hk, rfl, rfl, rfl⟩ := hrel
    have h1 := GfM.pw_lt ha k
    have h2 := GfM.racc_lt ha b k
    by_cases hlt : k < 8
    · go_wp2
      · exact ⟨⟨k + 1, by omega, by go_num, dbl_hi _ (by assumption) h1, racc_yes hb (by assumption) h1 h2⟩, by simp [intOf]; omega⟩
      · exact ⟨⟨k + 1, by omega, by go_num, dbl_lo _ (by assumption), racc_yes hb (by assumption) h1 h2⟩, by simp [intOf]; omega⟩
      · exact ⟨⟨k + 1, by omega, by go_num, dbl_hi _ (by assumption) h1, racc_no hb (by assumption)⟩, by simp [intOf]; omega⟩
      · exact ⟨⟨k + 1, by omega, by go_num, dbl_lo _ (by assumption), racc_no hb (by assumption)⟩, by simp [intOf]; omega⟩
    · obtain rfl : k = 8 := by omega
      go_wp2
      go_ret
      exact ⟨ret_u8 (by rw [HE.out]), rfl⟩
theorem rinv_end (k q y : Nat) : GfM.rinv k 0 q y = q := by
  induction k generalizing y with
  | zero => rfl
  | succ k ih => unfold GfM.rinv; simpa using ih _
theorem rinv_half {k j m : Nat} (h : Hid (m < 2 ^ k)) (e : Hid (k = j + 1)) : m / 2 < 2 ^ j := by
  have h := h.out
  rw [e.out, Nat.pow_succ] at h
  omega
theorem rinv_odd {k j m q y v : Nat} (h : Hid (GfM.rinv k m q y = v)) (e : Hid (k = j + 1)) (o : Hid (m % 2 = 1)) : GfM.rinv j (m / 2) (GfM.mul q y) (GfM.mul y y) = v := by
  have h := h.out
  rw [e.out, GfM.rinv, if_pos o.out] at h
  exact h
theorem rinv_even {k j m q y v : Nat} (h : Hid (GfM.rinv k m q y = v)) (e : Hid (k = j + 1)) (o : Hid (¬ m % 2 = 1)) : GfM.rinv j (m / 2) q (GfM.mul y y) = v := by
  have h := h.out
  rw [e.out, GfM.rinv, if_neg o.out] at h
  exact h
set_option maxHeartbeats 800000 in
theorem refInv_any (a : Nat) (w : World) (ha : a < 256) :
    Calls Tryz.prog 51 #[.int .u8 a] w fun e w' => e = .returned (.int .u8 (GfM.inv a)) ∧ w = w' := by
  have HE : Hid _ := GfM.rinv_inv ha
  go_enter Tryz.func51, Tryz.ntmps51
  go_wp2
  go_loop [0, 3, 4] (fun x p n => ∃ k y q m : Nat, n = .int .i64 m ∧ x = .int .u8 y ∧ p = .int .u8 q ∧ m < 2 ^ k ∧ m ≤ 254 ∧ y < 256 ∧ q < 256 ∧ Hid (GfM.rinv k m q y = GfM.inv a)) (fun _ _ n => (intOf n).toNat)
  case atStart => exact ⟨8, a, 1, 254, rfl, rfl, rfl, by omega, by omega, ha, by omega, HE.out⟩
  case round =>
    obtain ⟨k, y, q, m, rfl, rfl, rfl, hk, hm, hy, hq, hr⟩ := hrel
    have HK : Hid _ := hk
    clear hk
    by_cases hpos : 0 < m
    · obtain ⟨j, HJ⟩ : ∃ j, Hid (k = j + 1) := by
        have hk := HK.out
        cases k with
        | zero => simp at hk; omega
        | succ j => exact ⟨j, rfl⟩
      by_cases hodd : m % 2 = 1
      · have ho : ((m : Int) % 2 == 1) = true := by simp; omega
        have HO : Hid _ := hodd
        clear hodd
        go_wp2_with fail
        refine (refMul_any _ _ _ hq hy).mono ?_
        rintro e w1 ⟨rfl, rfl⟩
        go_wp2_with fail
        refine (refMul_any _ _ _ hy hy).mono ?_
        rintro e w1 ⟨rfl, rfl⟩
        go_wp2
        go_round
        case rel => exact ⟨j, GfM.mul y y, GfM.mul q y, m / 2, by go_num, rfl, rfl, rinv_half HK HJ, by omega, GfM.mul_lt _ _, GfM.mul_lt _ _, rinv_odd hr HJ HO⟩
        case measure => simp [intOf]; omega
      · have ho : ((m : Int) % 2 == 1) = false := by simp; omega
        have HO : Hid _ := hodd
        clear hodd
        go_wp2_with fail
        refine (refMul_any _ _ _ hy hy).mono ?_
        rintro e w1 ⟨rfl, rfl⟩
        go_wp2
        go_round
        case rel => exact ⟨j, GfM.mul y y, q, m / 2, by go_num, rfl, rfl, rinv_half HK HJ, by omega, GfM.mul_lt _ _, hq, rinv_even hr HJ HO⟩
        case measure => simp [intOf]; omega
    · obtain rfl : m = 0 := by omega
      go_wp2
      go_ret
      exact ⟨ret_u8 (by rw [← hr.out, rinv_end]), rfl⟩

/-- The first z.length cells of a row of bytes. -/
structure Row (w : World) (b o : Nat) (z : List Nat) : Prop where
  cells : ∀ i, i < z.length → w.cell? ⟨b, o + i, none⟩ = some (.int .u8 (z.getD i 0))
  small : ∀ i, z.getD i 0 < 256
theorem Row.of_out {w w' : World} {b o c : Nat} {z : List Nat} (h : Row w b o z) (u : Out c w w') (hn : b ≠ c) : Row w' b o z :=
  ⟨fun i hi => by rw [u.cell hn]; exact h.cells i hi, h.small⟩
theorem Kept.drew {b : Nat} {u w : World} (h : Kept b u w) : Kept b u w.drew := ⟨h.1.drew, h.2.drew⟩
def dotk (z1 z2 : List Nat) : Nat → Nat
  | 0 => 0
  | k + 1 => dotk z1 z2 k ^^^ GfM.mul (z1.getD k 0) (z2.getD k 0)
theorem dotk_lt (z1 z2 : List Nat) (k : Nat) : dotk z1 z2 k < 256 := by
  induction k with
  | zero => simp [dotk]
  | succ k ih => exact GfM.xor_lt ih (GfM.mul_lt _ _)
theorem dotk_next {z1 z2 : List Nat} {k x1 x2 : Nat} (h1 : z1.getD k 0 = x1) (h2 : z2.getD k 0 = x2) : dotk z1 z2 (k + 1) = dotk z1 z2 k ^^^ GfM.mul x1 x2 := by
  rw [← h1, ← h2]; rfl
set_option maxRecDepth 100000 in
set_option maxHeartbeats 400000 in
attribute [local go_sem ↓] Go.wp_at_zero Go.wp_at_succ in
theorem dot_rows_gt (B b1 o1 c1 b2 o2 c2 : Nat) (z1 z2 : List Nat) (w : World) (hf : Fld B w) (r1 : Row w b1 o1 z1) (r2 : Row w b2 o2 z2) (n1 : b1 ≠ B) (n2 : b2 ≠ B)
    (l1 : z1.length ≤ 9223372036854775807) (l2 : z2.length ≤ 9223372036854775807) (hc : z2.length < z1.length) :
    Calls Tryz.prog 73 #[.pointer (some ⟨B, 0, none⟩), .slice (some ⟨b1, o1, none⟩) z1.length c1, .slice (some ⟨b2, o2, none⟩) z2.length c2] w
      fun e w' => e = .returned (.int .u8 (dotk z1 z2 z2.length)) ∧ Kept B w w' := by
  have R1 : Hid _ := r1
  have R2 : Hid _ := r2
  clear r1 r2
  have HK : Hid (Kept B w w) := Kept.refl hf
  clear hf
  go_enter Tryz.func73, Tryz.ntmps73
  go_wp2
  go_loopw [7, 14] (fun s i wr => ∃ k : Nat, k ≤ z2.length ∧ i = .int .i64 k ∧ s = .int .u8 (dotk z1 z2 k) ∧ Kept B w wr) (fun _ i _ => z2.length - (intOf i).toNat)
  case atStart => exact ⟨0, by omega, rfl, rfl, HK.out⟩
  case round =>
    obtain ⟨k, hk, rfl, rfl, hinv⟩ := hrel
    have hs := dotk_lt z1 z2 k
    by_cases hlt : k < z2.length
    · obtain ⟨x1, X1⟩ : ∃ x, Hid (z1.getD k 0 = x) := ⟨_, rfl⟩
      obtain ⟨x2, X2⟩ : ∃ x, Hid (z2.getD k 0 = x) := ⟨_, rfl⟩
      have g1 : x1 < 256 := by rw [← X1.out]; exact R1.out.small k
      have g2 : x2 < 256 := by rw [← X2.out]; exact R2.out.small k
      have hc1 : wr.cell? ⟨b1, o1 + k, none⟩ = some (.int .u8 x1) := by rw [← X1.out]; exact (hinv.1.cell n1).trans (R1.out.cells k (by omega))
      have hc2 : wr.cell? ⟨b2, o2 + k, none⟩ = some (.int .u8 x2) := by rw [← X2.out]; exact (hinv.1.cell n2).trans (R2.out.cells k (by omega))
      have i1 : (0 : Int) ≤ (k : Int) := by omega
      have i2 : (k : Int) < (z1.length : Int) := by omega
      have i3 : (k : Int) < (z2.length : Int) := by omega
      have HN : Hid _ := dotk_next (X1.out) (X2.out)
      obtain ⟨s1, S1⟩ : ∃ x, Hid (dotk z1 z2 k = x) := ⟨_, rfl⟩
      have HI : Hid _ := hinv
      clear hinv
      have hfr := HI.out.2
      rw [S1.out]
      rw [S1.out] at hs
      have hx := u8_xor_nat s1 (GfM.mul x1 x2) hs (GfM.mul_lt _ _)
      go_wp2
      go_region_held3 (fun w' => w'.cell? ⟨b1, o1 + k, none⟩ = some (.int .u8 x1) ∧ w'.cell? ⟨b2, o2 + k, none⟩ = some (.int .u8 x2)) (first | exact ⟨by assumption, by assumption⟩ | go_keep)
        ((go_at_call 81; refine (mul_any B x1 x2 _ hfr.drew g1 g2).mono ?_; rintro e w2 ⟨rfl, k2⟩; have q1 := (k2.1.cell (p := ⟨b1, o1 + k, none⟩) n1).trans hc1; have q2 := (k2.1.cell (p := ⟨b2, o2 + k, none⟩) n2).trans hc2))
      clear q1 q2
      go_wp2
      go_roundw
      case rel => exact ⟨k + 1, by omega, by go_num, by rw [HN.out, S1.out], (Kept.drew HI.out).trans k2⟩
      case measure => simp [intOf]; omega
    · obtain rfl : k = z2.length := by omega
      go_wp2
      go_ret
      exact ⟨rfl, hinv⟩
set_option maxRecDepth 100000 in
set_option maxHeartbeats 400000 in
attribute [local go_sem ↓] Go.wp_at_zero Go.wp_at_succ in
theorem dot_rows_le (B b1 o1 c1 b2 o2 c2 : Nat) (z1 z2 : List Nat) (w : World) (hf : Fld B w) (r1 : Row w b1 o1 z1) (r2 : Row w b2 o2 z2) (n1 : b1 ≠ B) (n2 : b2 ≠ B)
    (l1 : z1.length ≤ 9223372036854775807) (l2 : z2.length ≤ 9223372036854775807) (hc : ¬ z2.length < z1.length) :
    Calls Tryz.prog 73 #[.pointer (some ⟨B, 0, none⟩), .slice (some ⟨b1, o1, none⟩) z1.length c1, .slice (some ⟨b2, o2, none⟩) z2.length c2] w
      fun e w' => e = .returned (.int .u8 (dotk z1 z2 z1.length)) ∧ Kept B w w' := by
  have R1 : Hid _ := r1
  have R2 : Hid _ := r2
  clear r1 r2
  have HK : Hid (Kept B w w) := Kept.refl hf
  clear hf
  go_enter Tryz.func73, Tryz.ntmps73
  go_wp2
  go_loopw [7, 14] (fun s i wr => ∃ k : Nat, k ≤ z1.length ∧ i = .int .i64 k ∧ s = .int .u8 (dotk z1 z2 k) ∧ Kept B w wr) (fun _ i _ => z1.length - (intOf i).toNat)
  case atStart => exact ⟨0, by omega, rfl, rfl, HK.out⟩
  case round =>
    obtain ⟨k, hk, rfl, rfl, hinv⟩ := hrel
    have hs := dotk_lt z1 z2 k
    by_cases hlt : k < z1.length
    · obtain ⟨x1, X1⟩ : ∃ x, Hid (z1.getD k 0 = x) := ⟨_, rfl⟩
      obtain ⟨x2, X2⟩ : ∃ x, Hid (z2.getD k 0 = x) := ⟨_, rfl⟩
      have g1 : x1 < 256 := by rw [← X1.out]; exact R1.out.small k
      have g2 : x2 < 256 := by rw [← X2.out]; exact R2.out.small k
      have hc1 : wr.cell? ⟨b1, o1 + k, none⟩ = some (.int .u8 x1) := by rw [← X1.out]; exact (hinv.1.cell n1).trans (R1.out.cells k (by omega))
      have hc2 : wr.cell? ⟨b2, o2 + k, none⟩ = some (.int .u8 x2) := by rw [← X2.out]; exact (hinv.1.cell n2).trans (R2.out.cells k (by omega))
      have i1 : (0 : Int) ≤ (k : Int) := by omega
      have i2 : (k : Int) < (z1.length : Int) := by omega
      have i3 : (k : Int) < (z2.length : Int) := by omega
      have HN : Hid _ := dotk_next (X1.out) (X2.out)
      obtain ⟨s1, S1⟩ : ∃ x, Hid (dotk z1 z2 k = x) := ⟨_, rfl⟩
      have HI : Hid _ := hinv
      clear hinv
      have hfr := HI.out.2
      rw [S1.out]
      rw [S1.out] at hs
      have hx := u8_xor_nat s1 (GfM.mul x1 x2) hs (GfM.mul_lt _ _)
      go_wp2
      go_region_held3 (fun w' => w'.cell? ⟨b1, o1 + k, none⟩ = some (.int .u8 x1) ∧ w'.cell? ⟨b2, o2 + k, none⟩ = some (.int .u8 x2)) (first | exact ⟨by assumption, by assumption⟩ | go_keep)
        ((go_at_call 81; refine (mul_any B x1 x2 _ hfr.drew g1 g2).mono ?_; rintro e w2 ⟨rfl, k2⟩; have q1 := (k2.1.cell (p := ⟨b1, o1 + k, none⟩) n1).trans hc1; have q2 := (k2.1.cell (p := ⟨b2, o2 + k, none⟩) n2).trans hc2))
      clear q1 q2
      go_wp2
      go_roundw
      case rel => exact ⟨k + 1, by omega, by go_num, by rw [HN.out, S1.out], (Kept.drew HI.out).trans k2⟩
      case measure => simp [intOf]; omega
    · obtain rfl : k = z1.length := by omega
      go_wp2
      go_ret
      exact ⟨rfl, hinv⟩
/-- Dot over two rows. -/
theorem dot_rows (B b1 o1 c1 b2 o2 c2 : Nat) (z1 z2 : List Nat) (w : World) (hf : Fld B w) (r1 : Row w b1 o1 z1) (r2 : Row w b2 o2 z2) (n1 : b1 ≠ B) (n2 : b2 ≠ B)
    (l1 : z1.length ≤ 9223372036854775807) (l2 : z2.length ≤ 9223372036854775807) :
    Calls Tryz.prog 73 #[.pointer (some ⟨B, 0, none⟩), .slice (some ⟨b1, o1, none⟩) z1.length c1, .slice (some ⟨b2, o2, none⟩) z2.length c2] w
      fun e w' => e = .returned (.int .u8 (dotk z1 z2 (min z1.length z2.length))) ∧ Kept B w w' := by
  by_cases h : z2.length < z1.length
  · have : min z1.length z2.length = z2.length := by omega
    rw [this]
    exact dot_rows_gt B b1 o1 c1 b2 o2 c2 z1 z2 w hf r1 r2 n1 n2 l1 l2 h
  · have : min z1.length z2.length = z1.length := by omega
    rw [this]
    exact dot_rows_le B b1 o1 c1 b2 o2 c2 z1 z2 w hf r1 r2 n1 n2 l1 l2 h

/-- A string's bytes as numbers. -/
def nums (s : ByteArray) : List Nat := s.data.toList.map UInt8.toNat
theorem nums_length (s : ByteArray) : (nums s).length = s.size := by simp [nums]
theorem nums_at (s : ByteArray) (k : Nat) (h : k < s.size) : (nums s).getD k 0 = s[k].toNat := by
  have : k < s.data.toList.length := by simpa using h
  simp [nums, List.getD_eq_getElem?_getD, List.getElem?_map, List.getElem?_eq_getElem this]
  rfl
theorem nums_small (s : ByteArray) (k : Nat) : (nums s).getD k 0 < 256 := by
  rcases Nat.lt_or_ge k s.size with h | h
  · rw [nums_at s k h]; exact UInt8.toNat_lt _
  · rw [List.getD_eq_getElem?_getD, List.getElem?_eq_none (by rw [nums_length]; exact h)]; decide
theorem refMul_same (a b : Nat) (w : World) (ha : a < 256) (hb : b < 256) :
    Calls Tryz.prog 30 #[.int .u8 a, .int .u8 b] w fun e w' => e = .returned (.int .u8 (GfM.mul a b)) ∧ w' = w :=
  (refMul_any a b w ha hb).mono fun _ _ ⟨h1, h2⟩ => ⟨h1, h2.symm⟩
end Go.Proofs.YtkenfabnbmkhbaaGreat
