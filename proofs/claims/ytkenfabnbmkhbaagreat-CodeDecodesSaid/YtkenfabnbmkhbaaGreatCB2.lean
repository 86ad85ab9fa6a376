/- Part 2 of what the walks rest on: GfIn, GfFull, MatWorld, MatNew, MatRow, MatColumn, MatMath, MatAdd, MatFind. -/
import Derived.Test.YtkenfabnbmkhbaaGreatCB1
namespace Go.Proofs.YtkenfabnbmkhbaaGreat
open Go.RowKit
set_option linter.unusedVariables false


/-- What the row's step knows of a slice of bytes. -/
abbrev CameIn (w : World) (a : Option Addr) (len cap : Nat) (zs : List Int) : Prop :=
  (a = none ∧ len = 0 ∧ cap = 0 ∧ zs = []) ∨
  ∃ x, a = some x ∧ len ≤ cap ∧ cap ≤ maxLen ∧ zs.length = cap ∧ (∀ i, i < zs.length → w.cell? (x.add i) = some (.int .u8 (zs.getD i 0))) ∧ ∀ n ∈ zs, (Lit.int .u8 n).wf = true
theorem lt_of_cell {w : World} {a : Addr} {v : Value} (h : w.cell? a = some v) : a.block < w.heap.size := by
  unfold World.cell? at h
  rcases Nat.lt_or_ge a.block w.heap.size with h' | h'
  · exact h'
  · rw [Array.getElem?_eq_none h'] at h
    cases h
theorem came_in {w : World} {a : Option Addr} {len cap : Nat} {zs : List Int} (h : CameIn w a len cap zs) :
    len = 0 ∨ ∃ (b o : Nat) (z : List Nat), a = some ⟨b, o, none⟩ ∧ z.length = len ∧ Row w b o z ∧ b < w.heap.size ∧ len ≤ 9223372036854775807 := by
  rcases h with ⟨_, h, _⟩ | ⟨x, rfl, hl, hm, hz, hc, hw⟩
  · exact .inl h
  · by_cases h0 : len = 0
    · exact .inl h0
    · obtain ⟨b, o, spot⟩ := x
      have hc0 := hc 0 (by omega)
      have hs : spot = none := by simpa [Addr.add] using World.cell?_spot hc0
      subst hs
      unfold maxLen at hm
      have hlen : ((zs.take len).map Int.toNat).length = len := by simp; omega
      have hget : ∀ i, i < len → ((((zs.take len).map Int.toNat).getD i 0 : Nat) : Int) = zs.getD i 0 := fun i hi => by
        have hz' : i < zs.length := by omega
        have hwi := bounds_u8 (hw (zs[i]) (List.getElem_mem hz'))
        simp [List.getD_eq_getElem?_getD, hi, List.getElem?_eq_getElem hz']
        omega
      refine .inr ⟨b, o, (zs.take len).map Int.toNat, rfl, hlen, ⟨fun i hi => ?_, fun i => ?_⟩, lt_of_cell hc0, by omega⟩
      · rw [hlen] at hi
        have := hc i (by omega)
        rw [hget i hi]
        have ea : Addr.add ⟨b, o, none⟩ i = ⟨b, o + i, none⟩ := by
          by_cases h0 : i = 0
          · subst h0; simp [Addr.add]
          · simp [Addr.add, h0]
        rw [ea] at this
        exact this
      · rcases Nat.lt_or_ge i len with hi | hi
        · have hz' : i < zs.length := by omega
          have hwi := bounds_u8 (hw (zs[i]) (List.getElem_mem hz'))
          have := hget i hi
          simp [List.getD_eq_getElem?_getD, List.getElem?_eq_getElem hz'] at this
          simp [List.getD_eq_getElem?_getD]
          omega
        · have : ((zs.take len).map Int.toNat)[i]? = none := List.getElem?_eq_none (by omega)
          simp only [List.getD_eq_getElem?_getD, this]
          decide
theorem Fresh.of_below {b B : Nat} {w w' : World} (h : Fresh b w) (k : Below B w w') (hb : b < B) : Fresh b w' := by
  have hc : ∀ j, w'.cell? ⟨b, j, none⟩ = w.cell? ⟨b, j, none⟩ := fun j => k.cell (p := ⟨b, j, none⟩) hb
  exact ⟨⟨Nat.lt_of_lt_of_le h.raw.lt k.size, fun j hj => by rw [hc]; exact h.raw.cells j hj, fun j => by rw [k.frozen (p := ⟨b, j, none⟩) hb]; exact h.raw.fr j⟩, by rw [hc]; exact h.lock, by rw [hc]; exact h.done, by rw [hc]; exact h.made⟩
/-- A slice of bytes that came in, and the string that its bytes are. -/
structure Sl (w : World) (a : Option Addr) (len cap : Nat) (s : ByteArray) : Prop where
  size : s.size = len
  conv : ∀ w', Below w.heap.size w w' → (convert 22 9 (.slice a len cap)).run Tryz.prog w' = .ok (.string s) w'
  row : len = 0 ∨ ∃ b o, a = some ⟨b, o, none⟩ ∧ b < w.heap.size ∧ Row w b o (nums s)
  le : len ≤ 9223372036854775807
theorem conv_zero (a : Option Addr) (cap : Nat) (w : World) : (convert 22 9 (.slice a 0 cap)).run Tryz.prog w = .ok (.string ByteArray.empty) w := by
  cases a with
  | none => exact run_convert_bytes_nil (P := Tryz.prog) w 22 5 Tryz.underlying22 Tryz.underlying5 0 cap 9 Tryz.underlying9
  | some x =>
    rw [run_convert_bytes_string (P := Tryz.prog) w 22 9 5 _ _ _ Tryz.underlying22 Tryz.underlying5 Tryz.underlying9]
    exact run_bytesToString w x 0 cap [] (by rfl)
theorem Sl.of {w : World} {a : Option Addr} {len cap : Nat} {zs : List Int} (h : CameIn w a len cap zs) : ∃ s, Sl w a len cap s := by
  rcases came_in h with rfl | ⟨b, o, z, rfl, rfl, r, hb, hm⟩
  · exact ⟨ByteArray.empty, rfl, fun w' _ => conv_zero a cap w', .inl rfl, by omega⟩
  · have hsz : (⟨(z.map UInt8.ofNat).toArray⟩ : ByteArray).size = z.length := by
      show (z.map UInt8.ofNat).toArray.size = _
      simp
    have hn : nums ⟨(z.map UInt8.ofNat).toArray⟩ = z := by
      apply List.ext_getElem
      · simp [nums]
      · intro i h1 h2
        have := r.small i
        simp [List.getD_eq_getElem?_getD, List.getElem?_eq_getElem h2] at this
        simp [nums]
        omega
    refine ⟨⟨(z.map UInt8.ofNat).toArray⟩, hsz, fun w' hw' => ?_, .inr ⟨b, o, rfl, hb, by rw [hn]; exact r⟩, hm⟩
    rw [← hsz]
    refine Lib.run_convert_whole (P := Tryz.prog) w' 22 5 9 Tryz.underlying22 Tryz.underlying5 Tryz.underlying9 b o _ (fun i hi => ?_) cap
    rw [hw'.cell (p := ⟨b, o + i, none⟩) hb, r.cells i (by rw [← hsz]; exact hi)]
    have e := nums_at ⟨(z.map UInt8.ofNat).toArray⟩ i hi
    rw [hn] at e
    rw [e]
/-- One Field at the first block of the call's own. -/
structure OneFld (w wr : World) : Prop where
  below : Below w.heap.size w wr
  f : Fld w.heap.size wr
theorem OneFld.drew {w w1 : World} (h : OneFld w w1) : OneFld w w1.drew := ⟨h.below.drew, h.f.drew⟩
theorem Fld.drewN {b : Nat} {w : World} (h : Fld b w) (n : Nat) : Fld b (w.drewN n) := by
  have e : ∀ j, (w.drewN n).cell? ⟨b, j, none⟩ = w.cell? ⟨b, j, none⟩ := fun _ => rfl
  rcases h with h | h
  · exact .inl ⟨⟨h.raw.lt, h.raw.cells, h.raw.fr⟩, h.lock, h.done, h.made⟩
  · exact .inr ⟨⟨h.raw.lt, h.raw.cells, h.raw.fr⟩, h.lock, h.done, h.made, ⟨h.tabs.ex, h.tabs.lg⟩⟩
theorem below_drewN {B : Nat} {w w1 : World} (h : Below B w w1) (n : Nat) : Below B w (w1.drewN n) := ⟨h.os, h.tape, h.output, h.size, h.block⟩
theorem OneFld.drewN {w w1 w2 : World} (h : OneFld w w1) {n : Nat} (e : w2 = w1.drewN n) : OneFld w w2 := by
  rw [e]
  exact ⟨below_drewN h.below n, h.f.drewN n⟩
theorem Fld.of_below {b B : Nat} {w w' : World} (h : Fld b w) (k : Below B w w') (hb : b < B) : Fld b w' := by
  have hc : ∀ j, w'.cell? ⟨b, j, none⟩ = w.cell? ⟨b, j, none⟩ := fun j => k.cell (p := ⟨b, j, none⟩) hb
  rcases h with h | h
  · exact .inl (h.of_below k hb)
  · exact .inr ⟨⟨Nat.lt_of_lt_of_le h.raw.lt k.size, fun j hj => by rw [hc]; exact h.raw.cells j hj, fun j => by rw [k.frozen (p := ⟨b, j, none⟩) hb]; exact h.raw.fr j⟩,
      by rw [hc]; exact h.lock, by rw [hc]; exact h.done, by rw [hc]; exact h.made, ⟨fun j hj => by rw [hc]; exact h.tabs.ex j hj, fun j hj => by rw [hc]; exact h.tabs.lg j hj⟩⟩

theorem do_full (b : Nat) (w : World) (fv : Value) (hf : Full b w) :
    Calls Tryz.prog 77 #[.pointer (some ⟨b, 0, none⟩), fv] w fun e w' => e = .returned (.tuple #[]) ∧ w' = w := by
  have h0 := hf.done
  have hnot : ∀ (x : Bool) (w : World), (Op.unary .not (.bool x)).run Tryz.prog w = .ok (.bool (!x)) w := fun _ _ => rfl
  clear hf
  go_enter Tryz.func77, Tryz.ntmps77
  go_wp2_with (go_at_call 83; refine (bool_load ⟨b, 0, none⟩ 1 _ h0).mono ?_; rintro e w' ⟨rfl, rfl⟩)
  go_end0
  exact ⟨rfl, rfl⟩
theorem logOf_full (b a : Nat) (w : World) (hf : Full b w) (h0 : a ≠ 0) (ha : a < 256) :
    Calls Tryz.prog 68 #[.pointer (some ⟨b, 0, none⟩), .int .u8 a] w fun e w' => e = .returned (.int .i64 (GfM.glog a)) ∧ w' = w := by
  have hg := GfM.glog_lt h0 ha
  have hc := lg_at hf h0 ha
  clear h0
  have HF : Hid _ := hf
  clear hf
  have hmf : ∀ (fn : Fn) (first cap : Array Value) (w : World), (Instr.makeFunc fn first cap).run Tryz.prog w = .ok (.func fn first cap) w := fun _ _ _ _ => rfl
  go_enter Tryz.func68, Tryz.ntmps68
  go_wp2_with (go_at_call 77; refine (do_full b _ _ HF.out).mono ?_; rintro e w1 ⟨rfl, rfl⟩)
  go_ret
  exact ⟨rfl, rfl⟩
theorem expOf_full (b : Nat) (n : Int) (w : World) (hf : Full b w) :
    Calls Tryz.prog 67 #[.pointer (some ⟨b, 0, none⟩), .int .i64 n] w fun e w' => e = .returned (.int .u8 (GfM.gexp (n % 255).toNat)) ∧ w' = w := by
  have hmf : ∀ (fn : Fn) (first cap : Array Value) (w : World), (Instr.makeFunc fn first cap).run Tryz.prog w = .ok (.func fn first cap) w := fun _ _ _ _ => rfl
  have ht := Int.tmod_lt_of_pos n (b := 255) (by omega)
  have hl := Int.lt_tmod_of_pos n (b := 255) (by omega)
  by_cases hr : 0 ≤ n.tmod 255
  · have E : Hid _ := tmod_nonneg n hr
    have hc := ex_at hf (n.tmod 255) hr ht
    have HF : Hid _ := hf
    clear hf
    go_enter Tryz.func67, Tryz.ntmps67
    go_wp2_with (go_at_call 77; refine (do_full b _ _ HF.out).mono ?_; rintro e w1 ⟨rfl, rfl⟩)
    go_ret
    exact ⟨ret_u8 (by rw [E.out]), rfl⟩
  · have hr' : n.tmod 255 < 0 := by omega
    have hr2 : 0 ≤ n.tmod 255 + 255 := by omega
    have hr3 : n.tmod 255 + 255 < 255 := by omega
    have E : Hid _ := tmod_neg n hr'
    have hc := ex_at hf (n.tmod 255 + 255) hr2 hr3
    have HF : Hid _ := hf
    clear hr hf
    go_enter Tryz.func67, Tryz.ntmps67
    go_wp2_with (go_at_call 77; refine (do_full b _ _ HF.out).mono ?_; rintro e w1 ⟨rfl, rfl⟩)
    go_ret
    exact ⟨ret_u8 (by rw [E.out]), rfl⟩
/-- Products, the tables being there. -/
theorem mul_full (b x y : Nat) (w : World) (hf : Full b w) (hx : x < 256) (hy : y < 256) :
    Calls Tryz.prog 81 #[.pointer (some ⟨b, 0, none⟩), .int .u8 x, .int .u8 y] w fun e w' => e = .returned (.int .u8 (GfM.mul x y)) ∧ w' = w := by
  by_cases h0 : x = 0
  · subst h0
    clear hf
    go_enter Tryz.func81, Tryz.ntmps81
    go_wp2
    go_ret
    exact ⟨rfl, rfl⟩
  · by_cases h1 : y = 0
    · subst h1
      have hd : ((x : Int) == 0) = false := by simpa using h0
      clear hf
      go_enter Tryz.func81, Tryz.ntmps81
      go_wp2
      go_ret
      exact ⟨ret_u8 (by simp [GfM.mul]), rfl⟩
    · have hd : ((x : Int) == 0) = false := by simpa using h0
      have hd2 : ((y : Int) == 0) = false := by simpa using h1
      have hgx := GfM.glog_lt h0 hx
      have hgy := GfM.glog_lt h1 hy
      have H0 : Hid _ := h0
      have H1 : Hid _ := h1
      have HF : Hid _ := hf
      clear h0 h1 hf
      go_enter Tryz.func81, Tryz.ntmps81
      go_wp2_with fail
      refine (logOf_full b x _ HF.out H0.out hx).mono ?_
      rintro e w1 ⟨rfl, rfl⟩
      go_wp2_with fail
      refine (logOf_full b y _ HF.out H1.out hy).mono ?_
      rintro e w2 ⟨rfl, rfl⟩
      go_wp2_with fail
      refine (expOf_full b _ _ HF.out).mono ?_
      rintro e w3 ⟨rfl, rfl⟩
      go_wp2
      go_ret
      refine ⟨ret_u8 ?_, rfl⟩
      unfold GfM.mul
      rw [if_neg (by intro h; rcases h with h | h; exact H0.out h; exact H1.out h)]
      congr 2
/-- Inverses: behind one the tables are there. -/
theorem inv_after (b x : Nat) (w : World) (hf : Fld b w) (h0 : x ≠ 0) (hx : x < 256) :
    Calls Tryz.prog 49 #[.pointer (some ⟨b, 0, none⟩), .int .u8 x] w fun e w' => e = .returned (.tuple #[.int .u8 (GfM.inv x), .bool true]) ∧ After b w w' := by
  have hd : ((x : Int) == 0) = false := by simpa using h0
  have hgx := GfM.glog_lt h0 hx
  have H0 : Hid _ := h0
  clear h0
  go_enter Tryz.func49, Tryz.ntmps49
  go_wp2_with fail
  refine (logOf_any b x _ hf H0.out hx).mono ?_
  rintro e w1 ⟨rfl, k1⟩
  go_wp2_with fail
  refine (expOf_any b _ _ k1.fld).mono ?_
  rintro e w3 ⟨rfl, k3⟩
  go_wp2
  go_ret2
  refine ⟨ret_u8b ?_ _, After.trans k1.kept k3⟩
  unfold GfM.inv
  rw [if_neg H0.out]
  congr 2
  omega

/-- Hidden as it is typed. -/
theorem hid {p : Prop} (h : p) : Hid p := h
/-- All that was there, but for what S names, is as it was. -/
structure Up (S : Nat → Prop) (w w' : World) : Prop where
  os : w'.os = w.os
  tape : w'.tape = w.tape
  output : w'.output = w.output
  size : w.heap.size ≤ w'.heap.size
  block : ∀ k, k < w.heap.size → ¬ S k → w'.heap[k]? = w.heap[k]?
/-- Nothing that was there turns. -/
def Nul (k : Nat) : Prop := False
def One (b k : Nat) : Prop := k = b
theorem Up.refl (S : Nat → Prop) (w : World) : Up S w w := ⟨rfl, rfl, rfl, Nat.le_refl _, fun _ _ _ => rfl⟩
theorem Up.trans {S : Nat → Prop} {u v w : World} (h : Up S u v) (k : Up S v w) : Up S u w :=
  ⟨k.os.trans h.os, k.tape.trans h.tape, k.output.trans h.output, Nat.le_trans h.size k.size, fun i hi hs => (k.block i (Nat.lt_of_lt_of_le hi h.size) hs).trans (h.block i hi hs)⟩
theorem Up.mono {S T : Nat → Prop} {w w' : World} (h : Up S w w') (hst : ∀ k, k < w.heap.size → S k → T k) : Up T w w' :=
  ⟨h.os, h.tape, h.output, h.size, fun k hk ht => h.block k hk fun hs => ht (hst k hk hs)⟩
theorem Up.nul {S : Nat → Prop} {w w' : World} (h : Up Nul w w') : Up S w w' := h.mono fun _ _ => False.elim
theorem Up.alloc {S : Nat → Prop} {u w : World} (h : Up S u w) (o : Obj) : Up S u (w.alloc o) :=
  h.trans ⟨rfl, rfl, rfl, by simp, fun k hk _ => Below.heap_alloc w o k hk⟩
theorem Up.drew {S : Nat → Prop} {u w : World} (h : Up S u w) : Up S u w.drew := ⟨h.os, h.tape, h.output, h.size, h.block⟩
theorem Up.drewN {S : Nat → Prop} {u w : World} (h : Up S u w) (n : Nat) : Up S u (w.drewN n) := ⟨h.os, h.tape, h.output, h.size, h.block⟩
theorem Up.setCell {S : Nat → Prop} {u w : World} (h : Up S u w) {p : Addr} (hp : u.heap.size ≤ p.block ∨ S p.block) (v : Value) : Up S u (w.setCell p v) :=
  ⟨h.os, h.tape, h.output, by simpa using h.size, fun k hk hs => by
    rw [Below.heap_setCell _ _ _ _ (by rintro rfl; rcases hp with hp | hp; omega; exact hs hp)]
    exact h.block k hk hs⟩
theorem Up.of_out {b : Nat} {w w' : World} (h : Out b w w') : Up (One b) w w' := ⟨h.os, h.tape, h.output, by rw [h.size]; exact Nat.le_refl _, fun k _ hs => h.block k hs⟩
theorem Up.of_below {w w' : World} (h : Below w.heap.size w w') (S : Nat → Prop) : Up S w w' := ⟨h.os, h.tape, h.output, h.size, fun k hk _ => h.block k hk⟩
theorem Up.below {S : Nat → Prop} {B : Nat} {w w' : World} (h : Up S w w') (hB : B ≤ w.heap.size) (hs : ∀ k, k < B → ¬ S k) : Below B w w' :=
  ⟨h.os, h.tape, h.output, h.size, fun k hk => h.block k (by omega) (hs k hk)⟩
theorem Up.cell {S : Nat → Prop} {w w' : World} (h : Up S w w') {p : Addr} (hp : p.block < w.heap.size) (hs : ¬ S p.block) : w'.cell? p = w.cell? p := World.cell?_of_block (w := w) (h.block p.block hp hs)
theorem Up.froz {S : Nat → Prop} {w w' : World} (h : Up S w w') {p : Addr} (hp : p.block < w.heap.size) (hs : ¬ S p.block) : w'.frozen? p = w.frozen? p := World.frozen?_of_block (w := w) (h.block p.block hp hs)
theorem Fld.up {S : Nat → Prop} {b : Nat} {w w' : World} (h : Fld b w) (u : Up S w w') (hs : ¬ S b) : Fld b w' := by
  have hl := h.lt
  have hc : ∀ j, w'.cell? ⟨b, j, none⟩ = w.cell? ⟨b, j, none⟩ := fun j => u.cell (p := ⟨b, j, none⟩) hl hs
  have hr : Raw b w → Raw b w' := fun r => ⟨Nat.lt_of_lt_of_le hl u.size, fun j hj => by rw [hc]; exact r.cells j hj, fun j => by rw [u.froz (p := ⟨b, j, none⟩) hl hs]; exact r.fr j⟩
  rcases h with h | h
  · exact .inl ⟨hr h.raw, by rw [hc]; exact h.lock, by rw [hc]; exact h.done, by rw [hc]; exact h.made⟩
  · exact .inr ⟨hr h.raw, by rw [hc]; exact h.lock, by rw [hc]; exact h.done, by rw [hc]; exact h.made, ⟨fun j hj => by rw [hc]; exact h.tabs.ex j hj, fun j hj => by rw [hc]; exact h.tabs.lg j hj⟩⟩
/-- Bytes as cells. -/
def bys (z : List Nat) : Array Value := (z.map fun (n : Nat) => Value.int .u8 (n : Int)).toArray
/-- Block q is a row of bytes, all of it. -/
structure Blk (w : World) (q : Nat) (z : List Nat) : Prop where
  heap : w.heap[q]? = some (.cells (bys z) 5 (0, 0))
  small : ∀ x ∈ z, x < 256
theorem bys_size (z : List Nat) : (bys z).size = z.length := by simp [bys]
theorem bys_at (z : List Nat) (i : Nat) (hi : i < z.length) : (bys z)[i]? = some (.int .u8 (z.getD i 0)) := by
  simp [bys, List.getD_eq_getElem?_getD, List.getElem?_eq_getElem hi]
theorem bys_set (z : List Nat) (i v : Nat) : (bys z).setIfInBounds i (.int .u8 v) = bys (z.set i v) := by
  simp [bys, List.map_set]
theorem small_getD {z : List Nat} (h : ∀ x ∈ z, x < 256) (i : Nat) : z.getD i 0 < 256 := by
  rcases Nat.lt_or_ge i z.length with hi | hi
  · simp only [List.getD_eq_getElem?_getD, List.getElem?_eq_getElem hi, Option.getD_some]
    exact h _ (List.getElem_mem hi)
  · simp [List.getD_eq_getElem?_getD, List.getElem?_eq_none hi]
theorem Blk.lt {w : World} {q : Nat} {z : List Nat} (h : Blk w q z) : q < w.heap.size := (Array.getElem?_eq_some_iff.1 h.heap).1
theorem Blk.cell {w : World} {q : Nat} {z : List Nat} (h : Blk w q z) (i : Nat) (hi : i < z.length) : w.cell? ⟨q, i, none⟩ = some (.int .u8 (z.getD i 0)) := by
  simp only [World.cell?, h.heap]
  simpa using bys_at z i hi
theorem Blk.froz {w : World} {q : Nat} {z : List Nat} (h : Blk w q z) (i : Nat) : w.frozen? ⟨q, i, none⟩ = false := by
  simp [World.frozen?, h.heap]
theorem Blk.up {S : Nat → Prop} {w w' : World} {q : Nat} {z : List Nat} (h : Blk w q z) (u : Up S w w') (hs : ¬ S q) : Blk w' q z := ⟨(u.block q h.lt hs).trans h.heap, h.small⟩
theorem Blk.other {w : World} {q : Nat} {z : List Nat} (h : Blk w q z) {p : Addr} (hp : q ≠ p.block) (v : Value) : Blk (w.setCell p v) q z := ⟨(Below.heap_setCell _ _ _ _ hp).trans h.heap, h.small⟩
theorem Blk.alloc {w : World} {q : Nat} {z : List Nat} (h : Blk w q z) (o : Obj) : Blk (w.alloc o) q z := ⟨(Below.heap_alloc _ _ _ h.lt).trans h.heap, h.small⟩
theorem Blk.drew {w : World} {q : Nat} {z : List Nat} (h : Blk w q z) : Blk w.drew q z := ⟨h.heap, h.small⟩
theorem Blk.drewN {w : World} {q : Nat} {z : List Nat} (h : Blk w q z) (n : Nat) : Blk (w.drewN n) q z := ⟨h.heap, h.small⟩
theorem heap_set_same {w : World} {q : Nat} {c : Array Value} {t : TypeId} {fr : Nat × Nat} (h : w.heap[q]? = some (.cells c t fr)) (i : Nat) (v : Value) :
    (w.setCell ⟨q, i, none⟩ v).heap[q]? = some (.cells (c.setIfInBounds i v) t fr) := by
  have hlt := (Array.getElem?_eq_some_iff.1 h).1
  have hv := (Array.getElem?_eq_some_iff.1 h).2
  unfold World.setCell
  rw [Array.getElem?_eq_getElem (by simpa using hlt), Array.getElem_modify]
  simp [hv]
theorem Blk.set {w : World} {q : Nat} {z : List Nat} (h : Blk w q z) (i v : Nat) (hv : v < 256) : Blk (w.setCell ⟨q, i, none⟩ (.int .u8 v)) q (z.set i v) :=
  ⟨by rw [heap_set_same h.heap, bys_set], fun x hx => by
    rcases List.mem_or_eq_of_mem_set hx with hx | rfl
    · exact h.small x hx
    · exact hv⟩
theorem Blk.new (w : World) (z : List Nat) (hz : ∀ x ∈ z, x < 256) : Blk (w.alloc (.cells (bys z) 5)) w.heap.size z := ⟨heap_alloc_new _ _, hz⟩
theorem Blk.row {w : World} {q : Nat} {z : List Nat} (h : Blk w q z) (o n : Nat) (ho : o + n ≤ z.length) : Row w q o ((z.drop o).take n) := by
  have hl : ((z.drop o).take n).length = n := by simp; omega
  have hg : ∀ i, i < n → ((z.drop o).take n).getD i 0 = z.getD (o + i) 0 := fun i hi => by
    simp [List.getD_eq_getElem?_getD, hi, List.getElem?_drop]
  refine ⟨fun i hi => ?_, fun i => ?_⟩
  · rw [hl] at hi
    rw [hg i hi]
    exact h.cell (o + i) (by omega)
  · rcases Nat.lt_or_ge i n with hi | hi
    · rw [hg i hi]
      exact small_getD h.small _
    · simp [List.getD_eq_getElem?_getD, List.getElem?_eq_none (show ((z.drop o).take n).length ≤ i by omega)]
theorem Row.up {S : Nat → Prop} {w w' : World} {b o : Nat} {z : List Nat} (h : Row w b o z) (u : Up S w w') (hb : b < w.heap.size) (hs : ¬ S b) : Row w' b o z :=
  ⟨fun i hi => by rw [u.cell (p := ⟨b, o + i, none⟩) hb hs]; exact h.cells i hi, h.small⟩
/-- n noughts. -/
def zer (n : Nat) : List Nat := List.replicate n 0
theorem zer_small (n : Nat) : ∀ x ∈ zer n, x < 256 := by
  intro x hx
  rw [List.eq_of_mem_replicate hx]
  omega
theorem zer_length (n : Nat) : (zer n).length = n := by simp [zer]
theorem zer_at (n i : Nat) : (zer n).getD i 0 = 0 := by
  simp only [zer, List.getD_eq_getElem?_getD, List.getElem?_replicate]
  split <;> rfl
theorem made_zer (n : Nat) : madeCells (Value.int IntKind.u8 0).cells (n * 1) = bys (zer n) := by
  apply Array.ext
  · simp [bys, zer, size_madeCells]
  · intro i h1 h2
    have h0 : i % 1 = 0 := Nat.mod_one i
    simp [bys, zer, madeCells, Value.cells, h0]
theorem info_u8 : (Tryz.prog.info? 5).map (fun i => (i.zero, i.size, i.bytes)) = some (some (.int .u8 0), 1, 1) := by kernel_rfl
/-- 'make([]byte, n)'. -/
theorem make_bytes (w : World) (n : Nat) (hn : n ≤ 140737488355328) :
    (Instr.makeSlice 22 (.int .i64 n) (.int .i64 n)).run Tryz.prog w = .ok (.slice (some ⟨w.heap.size, 0, none⟩) n n) (w.alloc (.cells (bys (zer n)) 5)) := by
  obtain ⟨i0, hi, hz0, hz1, hz2⟩ := info_parts info_u8
  have := run_make (P := Tryz.prog) (w := w) 22 5 i0 (.int .u8 0) Tryz.underlying22 hi hz0 .i64 .i64 n n (by omega) (Int.le_refl _) (by rw [hz2]; omega) (by omega)
  rw [this, hz1, Int.toNat_natCast, made_zer]
/-- A Matrix at block p, its cells in block q, over the Field at block F: r rows, c columns. -/
structure Mat (w : World) (p q F r c : Nat) (z : List Nat) : Prop where
  f : w.cell? ⟨p, 0, none⟩ = some (.pointer (some ⟨F, 0, none⟩))
  rows : w.cell? ⟨p, 1, none⟩ = some (.int .i64 r)
  cols : w.cell? ⟨p, 2, none⟩ = some (.int .i64 c)
  cells : w.cell? ⟨p, 3, none⟩ = some (.slice (some ⟨q, 0, none⟩) (r * c) (r * c))
  blk : Blk w q z
  len : z.length = r * c
  pl : p < w.heap.size
  pF : p ≠ F
  qF : q ≠ F
  pq : p ≠ q
  r1 : 1 ≤ r
  r32 : r ≤ 32
  c1 : 1 ≤ c
  c32 : c ≤ 32
theorem Mat.up {S : Nat → Prop} {w w' : World} {p q F r c : Nat} {z : List Nat} (h : Mat w p q F r c z) (u : Up S w w') (hp : ¬ S p) (hq : ¬ S q) : Mat w' p q F r c z :=
  { h with
    f := (u.cell (p := ⟨p, 0, none⟩) h.pl hp).trans h.f, rows := (u.cell (p := ⟨p, 1, none⟩) h.pl hp).trans h.rows
    cols := (u.cell (p := ⟨p, 2, none⟩) h.pl hp).trans h.cols, cells := (u.cell (p := ⟨p, 3, none⟩) h.pl hp).trans h.cells
    blk := h.blk.up u hq, pl := Nat.lt_of_lt_of_le h.pl u.size }
theorem Mat.drew {w : World} {p q F r c : Nat} {z : List Nat} (h : Mat w p q F r c z) : Mat w.drew p q F r c z := { h with f := h.f, rows := h.rows, cols := h.cols, cells := h.cells, blk := h.blk.drew, pl := h.pl }
theorem Mat.drewN {w : World} {p q F r c : Nat} {z : List Nat} (h : Mat w p q F r c z) (n : Nat) : Mat (w.drewN n) p q F r c z := { h with f := h.f, rows := h.rows, cols := h.cols, cells := h.cells, blk := h.blk.drewN n, pl := h.pl }
theorem Mat.alloc {w : World} {p q F r c : Nat} {z : List Nat} (h : Mat w p q F r c z) (o : Obj) : Mat (w.alloc o) p q F r c z := h.up ((Up.refl Nul w).alloc o) id id
/-- A call over the Field at block F. -/
theorem Mat.kept {w w' : World} {p q F r c : Nat} {z : List Nat} (h : Mat w p q F r c z) (k : Kept F w w') : Mat w' p q F r c z := h.up (Up.of_out k.1) h.pF h.qF
theorem Mat.set {w : World} {p q F r c : Nat} {z : List Nat} (h : Mat w p q F r c z) (i v : Nat) (hv : v < 256) : Mat (w.setCell ⟨q, i, none⟩ (.int .u8 v)) p q F r c (z.set i v) :=
  have hc : ∀ j, (w.setCell ⟨q, i, none⟩ (.int .u8 v)).cell? ⟨p, j, none⟩ = w.cell? ⟨p, j, none⟩ := fun j => World.cell?_of_block (w := w) (a := ⟨p, j, none⟩) (Below.heap_setCell _ _ _ _ h.pq)
  { h with f := (hc 0).trans h.f, rows := (hc 1).trans h.rows, cols := (hc 2).trans h.cols, cells := (hc 3).trans h.cells, blk := h.blk.set i v hv, len := by rw [List.length_set]; exact h.len, pl := by simpa using h.pl }
theorem Mat.other {w : World} {p q F r c : Nat} {z : List Nat} (h : Mat w p q F r c z) {a : Addr} (hp : p ≠ a.block) (hq : q ≠ a.block) (v : Value) : Mat (w.setCell a v) p q F r c z :=
  have hc : ∀ j, (w.setCell a v).cell? ⟨p, j, none⟩ = w.cell? ⟨p, j, none⟩ := fun j => World.cell?_of_block (w := w) (a := ⟨p, j, none⟩) (Below.heap_setCell _ _ _ _ hp)
  { h with f := (hc 0).trans h.f, rows := (hc 1).trans h.rows, cols := (hc 2).trans h.cols, cells := (hc 3).trans h.cells, blk := h.blk.other hq v, pl := by simpa using h.pl }
theorem Mat.ql {w : World} {p q F r c : Nat} {z : List Nat} (h : Mat w p q F r c z) : q < w.heap.size := h.blk.lt
theorem Mat.at {w : World} {p q F r c : Nat} {z : List Nat} (h : Mat w p q F r c z) {i j : Nat} (hi : i < r) (hj : j < c) : i * c + j < z.length := by
  rw [h.len]
  have := Nat.mul_le_mul_right c (show i + 1 ≤ r from hi)
  rw [Nat.add_mul] at this
  omega
theorem Mat.most {w : World} {p q F r c : Nat} {z : List Nat} (h : Mat w p q F r c z) : r * c ≤ 1024 := Nat.mul_le_mul h.r32 h.c32
theorem prod_most {r c : Nat} (hr : r ≤ 32) (hc : c ≤ 32) : r * c ≤ 1024 := Nat.mul_le_mul hr hc

theorem outside_in (n : Int) (w : World) (h1 : 1 ≤ n) (h2 : n ≤ 32) :
    Calls Tryz.prog 66 #[.int .i64 n] w fun e w' => e = .returned (.bool false) ∧ w' = w := by
  go_enter Tryz.func66, Tryz.ntmps66
  go_wp2
  go_ret
  have e : (decide (n < 1) || decide (32 < n)) = false := by simp; omega
  exact ⟨congrArg (fun b => Ending.returned (.bool b)) e, rfl⟩
/-- A new Matrix of noughts: two new blocks, nothing that was there turns. -/
structure Newm (w w' : World) (F r c : Nat) (z : List Nat) : Prop where
  mat : Mat w' (w.heap.size + 1) w.heap.size F r c z
  up : Up Nul w w'
  size : w'.heap.size = w.heap.size + 2
theorem newm_made (w : World) (F r c : Nat) (hF : F < w.heap.size) (r1 : 1 ≤ r) (r2 : r ≤ 32) (c1 : 1 ≤ c) (c2 : c ≤ 32) :
    Newm w ((w.alloc (.cells (bys (zer (r * c))) 5)).alloc (.cells #[.pointer (some ⟨F, 0, none⟩), .int .i64 r, .int .i64 c, .slice (some ⟨w.heap.size, 0, none⟩) (r * c) (r * c)] 116)) F r c (zer (r * c)) := by
  have hs : (w.alloc (.cells (bys (zer (r * c))) 5)).heap.size = w.heap.size + 1 := by simp
  have hc := fun j => World.cell?_alloc_new (w.alloc (.cells (bys (zer (r * c))) 5)) #[.pointer (some ⟨F, 0, none⟩), .int .i64 r, .int .i64 c, .slice (some ⟨w.heap.size, 0, none⟩) (r * c) (r * c)] 116 j
  rw [hs] at hc
  refine ⟨⟨hc 0, hc 1, hc 2, hc 3, ((Blk.new w _ (zer_small _)).alloc _), zer_length _, by simp, by omega, by omega, by omega, r1, r2, c1, c2⟩, ((Up.refl Nul w).alloc _).alloc _, by simp⟩
theorem blank_good (F r c : Nat) (w : World) (hF : F < w.heap.size) (r1 : 1 ≤ r) (r2 : r ≤ 32) (c1 : 1 ≤ c) (c2 : c ≤ 32) :
    Calls Tryz.prog 47 #[.pointer (some ⟨F, 0, none⟩), .int .i64 r, .int .i64 c] w fun e w' => e = .returned (.tuple #[.pointer (some ⟨w.heap.size + 1, 0, none⟩), .int .i64 0]) ∧ Newm w w' F r c (zer (r * c)) := by
  have hmf : ∀ (fn : Fn) (first cap : Array Value) (w : World), (Instr.makeFunc fn first cap).run Tryz.prog w = .ok (.func fn first cap) w := fun _ _ _ _ => rfl
  have HN : Hid _ := newm_made w F r c hF r1 r2 c1 c2
  have hm := prod_most r2 c2
  have hk : (r : Int) * (c : Int) = ((r * c : Nat) : Int) := by simp
  have hmk := make_bytes w (r * c) (by omega)
  rw [← hk] at hmk
  have hm1 : (r : Int) * (c : Int) ≤ 1024 := by omega
  have hm0 : (0 : Int) ≤ (r : Int) * (c : Int) := by omega
  clear hk
  go_enter Tryz.func47, Tryz.ntmps47
  go_wp2_with (first | (go_at_call 66; (with_reducible refine (outside_in r _ (by omega) (by omega)).mono ?_); rintro e w1 ⟨rfl, rfl⟩) | (go_at_call 66; (with_reducible refine (outside_in c _ (by omega) (by omega)).mono ?_); rintro e w1 ⟨rfl, rfl⟩))
  go_ret2
  exact ⟨rfl, HN.out⟩

set_option maxHeartbeats 400000 in
theorem row_any (p q F r c i : Nat) (z : List Nat) (w : World) (hm : Mat w p q F r c z) (hi : i < r) :
    Calls Tryz.prog 48 #[.pointer (some ⟨p, 0, none⟩), .int .i64 i] w
      fun e w' => e = .returned (.slice (some ⟨q, i * c, none⟩) c (r * c - i * c)) ∧ ∃ n, w' = w.drewN n := by
  have h2 := hm.cols
  have h3 := hm.cells
  have b1 := hm.most
  have b2 : (i + 1) * c ≤ r * c := Nat.mul_le_mul_right c hi
  have b3 : (i + 1) * c = i * c + c := by rw [Nat.add_mul, Nat.one_mul]
  have c1 := hm.c1
  have b4 : i < 32 := Nat.lt_of_lt_of_le hi hm.r32
  have e1 : (i : Int) * (c : Int) = ((i * c : Nat) : Int) := by simp
  have e2 : ((i : Int) + 1) * (c : Int) = ((i * c + c : Nat) : Int) := by rw [← b3]; simp
  generalize hk : i * c = k at *
  generalize hn : r * c = n at *
  clear hm
  have l1 : k < n := by omega
  have l2 : k + c ≤ n := by omega
  clear b2 b3
  go_enter Tryz.func48, Tryz.ntmps48
  go_wp2
  go_quiet (fail)
  go_wp2
  go_ret
  exact ⟨congrArg (fun m => Ending.returned (.slice (some ⟨q, k, none⟩) m (n - k))) (show k + c - k = c by omega), _, rfl⟩
set_option maxHeartbeats 400000 in
theorem size_any (p q F r c : Nat) (z : List Nat) (w : World) (hm : Mat w p q F r c z) :
    Calls Tryz.prog 55 #[.pointer (some ⟨p, 0, none⟩)] w
      fun e w' => e = .returned (.tuple #[.int .i64 r, .int .i64 c]) ∧ ∃ n, w' = w.drewN n := by
  have h1 := hm.rows
  have h2 := hm.cols
  clear hm
  go_enter Tryz.func55, Tryz.ntmps55
  go_wp2
  go_quiet (fail)
  go_wp2
  go_ret2
  exact ⟨rfl, _, rfl⟩

theorem ext_getD {y z : List Nat} (hl : y.length = z.length) (h : ∀ i, i < y.length → y.getD i 0 = z.getD i 0) : y = z := by
  apply List.ext_getElem hl
  intro i h1 h2
  have := h i h1
  simpa [List.getD_eq_getElem?_getD, List.getElem?_eq_getElem h1, List.getElem?_eq_getElem h2] using this
theorem getD_set (y : List Nat) (i j v : Nat) (hi : i < y.length) : (y.set i v).getD j 0 = if j = i then v else y.getD j 0 := by
  simp only [List.getD_eq_getElem?_getD, List.getElem?_set]
  by_cases h : i = j
  · subst h; simp [hi]
  · have : ¬ j = i := fun e => h e.symm
    simp [h, this]
/-- A list by its cells. -/
def tab (n : Nat) (f : Nat → Nat) : List Nat := (List.range n).map f
theorem tab_length (n : Nat) (f : Nat → Nat) : (tab n f).length = n := by simp [tab]
theorem tab_at (n : Nat) (f : Nat → Nat) (i : Nat) (h : i < n) : (tab n f).getD i 0 = f i := by
  simp [tab, List.getD_eq_getElem?_getD, h]
theorem eq_tab {y : List Nat} {n : Nat} {f : Nat → Nat} (hl : y.length = n) (h : ∀ i, i < n → y.getD i 0 = f i) : y = tab n f :=
  ext_getD (by rw [hl, tab_length]) fun i hi => by rw [h i (by omega), tab_at n f i (by omega)]
/-- Column j of r rows of c cells. -/
def colOf (r c j : Nat) (z : List Nat) : List Nat := tab r fun i => z.getD (i * c + j) 0
/-- A row of n bytes of the call's own, of which the first k are told. -/
structure Part (w : World) (g n k : Nat) (f : Nat → Nat) (wr : World) (y : List Nat) : Prop where
  blk : Blk wr g y
  len : y.length = n
  told : ∀ i, i < k → y.getD i 0 = f i
  up : Up Nul w wr
theorem Part.next {w wr : World} {g n k x : Nat} {f : Nat → Nat} {y : List Nat} (h : Part w g n k f wr y) (hg : w.heap.size ≤ g) (hk : k < n) (hx : f k = x) (h8 : x < 256) (m : Nat) :
    Part w g n (k + 1) f ((wr.drewN m).setCell ⟨g, k, none⟩ (.int .u8 x)) (y.set k x) :=
  ⟨(h.blk.drewN m).set k x h8, by rw [List.length_set]; exact h.len, fun i hi => by
    rw [getD_set _ _ _ _ (by rw [h.len]; exact hk)]
    split
    · next e => rw [e, hx]
    · exact h.told i (by omega), (h.up.drewN m).setCell (.inl hg) _⟩
theorem Part.done {w wr : World} {g n : Nat} {f : Nat → Nat} {y : List Nat} (h : Part w g n n f wr y) : Blk wr g (tab n f) := by
  rw [← eq_tab h.len h.told]
  exact h.blk
theorem Part.start (w : World) (n : Nat) (f : Nat → Nat) : Part w w.heap.size n 0 f (w.alloc (.cells (bys (zer n)) 5)) (zer n) :=
  ⟨Blk.new w _ (zer_small n), zer_length n, fun _ hi => absurd hi (Nat.not_lt_zero _), (Up.refl Nul w).alloc _⟩
namespace GfM

/-- The sum of the first k of f. -/
def xs : Nat → (Nat → Nat) → Nat
  | 0, _ => 0
  | k + 1, f => xs k f ^^^ f k
theorem xs_congr {k : Nat} {f g : Nat → Nat} (h : ∀ s, s < k → f s = g s) : xs k f = xs k g := by
  induction k with
  | zero => rfl
  | succ k ih => rw [xs, xs, ih fun s hs => h s (by omega), h k (by omega)]
theorem xs_zero {k : Nat} {f : Nat → Nat} (h : ∀ s, s < k → f s = 0) : xs k f = 0 := by
  induction k with
  | zero => rfl
  | succ k ih => rw [xs, ih fun s hs => h s (by omega), h k (by omega)]; rfl
theorem xs_lt {k : Nat} {f : Nat → Nat} (h : ∀ s, s < k → f s < 256) : xs k f < 256 := by
  induction k with
  | zero => simp [xs]
  | succ k ih => exact xor_lt (ih fun s hs => h s (by omega)) (h k (by omega))
theorem xor_four (a b c d : Nat) : (a ^^^ b) ^^^ (c ^^^ d) = (a ^^^ c) ^^^ (b ^^^ d) := by
  rw [Nat.xor_assoc, ← Nat.xor_assoc b c d, Nat.xor_comm b c, Nat.xor_assoc c b d, ← Nat.xor_assoc]
theorem xs_xor (k : Nat) (f g : Nat → Nat) : xs k (fun s => f s ^^^ g s) = xs k f ^^^ xs k g := by
  induction k with
  | zero => simp [xs]
  | succ k ih => rw [xs, xs, xs, ih, xor_four]
theorem mul_xs (a : Nat) {k : Nat} {f : Nat → Nat} (h : ∀ s, s < k → f s < 256) : mul a (xs k f) = xs k fun s => mul a (f s) := by
  induction k with
  | zero => exact mul_zero a
  | succ k ih => rw [xs, xs, mul_xor a (xs_lt fun s hs => h s (by omega)) (h k (by omega)), ih fun s hs => h s (by omega)]
theorem xs_mul {k : Nat} {f : Nat → Nat} (h : ∀ s, s < k → f s < 256) (a : Nat) : mul (xs k f) a = xs k fun s => mul (f s) a := by
  rw [mul_comm, mul_xs a h]
  exact xs_congr fun s _ => mul_comm _ _
theorem xs_swap (n m : Nat) (f : Nat → Nat → Nat) : xs n (fun i => xs m fun j => f i j) = xs m fun j => xs n fun i => f i j := by
  induction n with
  | zero => exact (xs_zero fun _ _ => rfl).symm
  | succ n ih => simp only [xs]; rw [ih, ← xs_xor]
theorem xs_one {k : Nat} {f : Nat → Nat} {j : Nat} (hj : j < k) (h : ∀ s, s < k → s ≠ j → f s = 0) : xs k f = f j := by
  induction k with
  | zero => omega
  | succ k ih =>
    rw [xs]
    by_cases e : j = k
    · subst e
      rw [xs_zero fun s hs => h s (by omega) (by omega), Nat.zero_xor]
    · rw [ih (by omega) fun s hs hn => h s (by omega) hn, h k (by omega) (Ne.symm e), Nat.xor_zero]
theorem xs_add (a b : Nat) (f : Nat → Nat) : xs (a + b) f = xs a f ^^^ xs b fun s => f (a + s) := by
  induction b with
  | zero => simp [xs]
  | succ b ih => rw [← Nat.add_assoc, xs, ih, xs, Nat.xor_assoc]
theorem xor_eq_zero {a b : Nat} (h : a ^^^ b = 0) : a = b := by
  have : (a ^^^ b) ^^^ b = b := by rw [h, Nat.zero_xor]
  rwa [Nat.xor_assoc, Nat.xor_self, Nat.xor_zero] at this
theorem mul_eq_zero {a b : Nat} (ha : a ≠ 0) (h : mul a b = 0) : b = 0 := by
  rcases Nat.eq_zero_or_pos b with hb | hb
  · exact hb
  · exact absurd h (mul_pos ha (by omega))
/-- A matrix: its cells. -/
abbrev Mx := Nat → Nat → Nat
def Small (A : Mx) : Prop := ∀ i j, A i j < 256
/-- The product, k long. -/
def mm (k : Nat) (A B : Mx) : Mx := fun i j => xs k fun s => mul (A i s) (B s j)
def idm : Mx := fun i j => if i = j then 1 else 0
theorem idm_small : Small idm := fun i j => by unfold idm; split <;> omega
theorem mm_assoc (k l : Nat) (A B C : Mx) (i j : Nat) : mm l (mm k A B) C i j = mm k A (mm l B C) i j := by
  show xs l (fun t => mul (xs k fun s => mul (A i s) (B s t)) (C t j)) = xs k fun s => mul (A i s) (xs l fun t => mul (B s t) (C t j))
  have e1 : ∀ t, t < l → mul (xs k fun s => mul (A i s) (B s t)) (C t j) = xs k fun s => mul (mul (A i s) (B s t)) (C t j) := fun t _ => xs_mul (fun s _ => mul_lt _ _) _
  have e2 : ∀ s, s < k → mul (A i s) (xs l fun t => mul (B s t) (C t j)) = xs l fun t => mul (A i s) (mul (B s t) (C t j)) := fun s _ => mul_xs _ fun t _ => mul_lt _ _
  rw [xs_congr e1, xs_congr e2, xs_swap]
  exact xs_congr fun s _ => xs_congr fun t _ => mul_assoc _ _ _
theorem mm_congr {k : Nat} {A A' B B' : Mx} {i j : Nat} (ha : ∀ s, s < k → A i s = A' i s) (hb : ∀ s, s < k → B s j = B' s j) : mm k A B i j = mm k A' B' i j :=
  xs_congr fun s hs => by rw [ha s hs, hb s hs]
theorem mm_id {n : Nat} {A : Mx} (hA : Small A) {i j : Nat} (hj : j < n) : mm n A idm i j = A i j := by
  show xs n (fun s => mul (A i s) (idm s j)) = _
  rw [xs_one hj fun s _ hn => by unfold idm; rw [if_neg hn, mul_zero]]
  unfold idm
  rw [if_pos rfl, mul_one (hA i j)]
theorem id_mm {n : Nat} {A : Mx} (hA : Small A) {i j : Nat} (hi : i < n) : mm n idm A i j = A i j := by
  show xs n (fun s => mul (idm i s) (A s j)) = _
  rw [xs_one hi fun s _ hn => by unfold idm; rw [if_neg (Ne.symm hn), zero_mul]]
  unfold idm
  rw [if_pos rfl, one_mul (hA i j)]
/-- The first row from 'at' on that has something in column 'at'. -/
def pivot (n at_ : Nat) (L : Mx) : Option Nat := (List.range n).find? fun i => decide (at_ ≤ i) && decide (L i at_ ≠ 0)
/-- Rows 'at' and p changed for one another. -/
def swp (at_ p : Nat) (L : Mx) : Mx := fun i => if i = at_ then L p else if i = p then L at_ else L i
/-- One column settled. -/
def stl (at_ p : Nat) (L : Mx) : Mx := fun i j =>
  if i = at_ then mul (L p j) (inv (L p at_)) else swp at_ p L i j ^^^ mul (mul (L p j) (inv (L p at_))) (swp at_ p L i at_)
def run (n : Nat) (L : Mx) : Nat → Option Mx
  | 0 => some L
  | k + 1 => (run n L k).bind fun M => (pivot n k M).map fun p => stl k p M
theorem pivot_first {n at_ p : Nat} {L : Mx} (h : pivot n at_ L = some p) : at_ ≤ p ∧ p < n ∧ L p at_ ≠ 0 ∧ ∀ i, at_ ≤ i → i < p → L i at_ = 0 := by
  unfold pivot at h
  rw [List.find?_range_eq_some] at h
  obtain ⟨h1, h2, h3⟩ := h
  simp at h1 h2
  refine ⟨h1.1, h2, h1.2, fun i h4 h5 => ?_⟩
  have := h3 i h5
  simp at this
  omega
theorem pivot_some {n at_ p : Nat} {L : Mx} (h : pivot n at_ L = some p) : at_ ≤ p ∧ p < n ∧ L p at_ ≠ 0 := by
  have := pivot_first h
  exact ⟨this.1, this.2.1, this.2.2.1⟩
theorem pivot_none {n at_ : Nat} {L : Mx} (h : pivot n at_ L = none) (i : Nat) (h1 : at_ ≤ i) (h2 : i < n) : L i at_ = 0 := by
  unfold pivot at h
  rw [List.find?_range_eq_none] at h
  have := h i h2
  simp at this
  omega
theorem pivot_congr {n at_ : Nat} {L M : Mx} (h : ∀ i, i < n → L i at_ = M i at_) : pivot n at_ L = pivot n at_ M := by
  cases e : pivot n at_ M with
  | none =>
    unfold pivot at e ⊢
    rw [List.find?_range_eq_none] at e ⊢
    intro i hi
    rw [h i hi]
    exact e i hi
  | some p =>
    unfold pivot at e ⊢
    rw [List.find?_range_eq_some] at e ⊢
    obtain ⟨e1, e2, e3⟩ := e
    have hp := List.mem_range.1 e2
    refine ⟨by rw [h p hp]; exact e1, e2, fun j hj => ?_⟩
    rw [h j (by omega)]
    exact e3 j hj
theorem swp_small {at_ p : Nat} {L : Mx} (h : Small L) : Small (swp at_ p L) := fun i j => by
  unfold swp
  split
  · exact h _ _
  · split <;> exact h _ _
theorem stl_small {at_ p : Nat} {L : Mx} (h : Small L) : Small (stl at_ p L) := fun i j => by
  unfold stl
  split
  · exact mul_lt _ _
  · exact xor_lt (swp_small h _ _) (mul_lt _ _)
/-- The sum of a row's products with x. -/
def dt (m : Nat) (r x : Nat → Nat) : Nat := xs m fun j => mul (r j) (x j)
theorem dt_scale (m : Nat) (r x : Nat → Nat) (v : Nat) : dt m (fun j => mul (r j) v) x = mul v (dt m r x) := by
  unfold dt
  rw [mul_xs v fun _ _ => mul_lt _ _]
  exact xs_congr fun j _ => by
    show mul (mul (r j) v) (x j) = _
    rw [mul_comm (r j) v, mul_assoc]
theorem dt_add (m : Nat) {r u x : Nat → Nat} (hr : ∀ j, r j < 256) (hu : ∀ j, u j < 256) : dt m (fun j => r j ^^^ u j) x = dt m r x ^^^ dt m u x := by
  unfold dt
  rw [← xs_xor]
  exact xs_congr fun j _ => by rw [mul_comm, mul_xor _ (hr j) (hu j), mul_comm (x j) (r j), mul_comm (x j) (u j)]
/-- All rows of L make nought of x. -/
def Ker (n m : Nat) (L : Mx) (x : Nat → Nat) : Prop := ∀ i, i < n → dt m (L i) x = 0
theorem stl_at {at_ p m : Nat} {L : Mx} (x : Nat → Nat) : dt m (stl at_ p L at_) x = mul (inv (L p at_)) (dt m (L p) x) := by
  rw [← dt_scale]
  exact xs_congr fun j _ => by unfold stl; rw [if_pos rfl]
theorem stl_else {at_ p m i : Nat} {L : Mx} (hs : Small L) (x : Nat → Nat) (hi : i ≠ at_) :
    dt m (stl at_ p L i) x = dt m (swp at_ p L i) x ^^^ mul (swp at_ p L i at_) (mul (inv (L p at_)) (dt m (L p) x)) := by
  rw [← dt_scale, ← dt_scale, ← dt_add m (swp_small hs i) fun _ => mul_lt _ _]
  exact xs_congr fun j _ => by unfold stl; rw [if_neg hi]
theorem ker_stl {n m at_ p : Nat} {L : Mx} (hs : Small L) (ha : at_ < n) (hp : p < n) (h0 : L p at_ ≠ 0) (x : Nat → Nat) : Ker n m (stl at_ p L) x ↔ Ker n m L x := by
  constructor
  · intro h
    have e0 : dt m (L p) x = 0 := mul_eq_zero (inv_pos h0) (by rw [← stl_at]; exact h at_ ha)
    have es : ∀ i, i < n → i ≠ at_ → dt m (swp at_ p L i) x = 0 := fun i hi hn => by
      have := h i hi
      rw [stl_else hs x hn, e0, mul_zero, mul_zero, Nat.xor_zero] at this
      exact this
    intro i hi
    by_cases e1 : i = p
    · rw [e1]; exact e0
    by_cases e2 : i = at_
    · subst e2
      have := es p hp fun e => e1 e.symm
      unfold swp at this
      rw [if_neg fun e => e1 e.symm, if_pos rfl] at this
      exact this
    · have := es i hi e2
      unfold swp at this
      rw [if_neg e2, if_neg e1] at this
      exact this
  · intro h i hi
    by_cases e : i = at_
    · subst e
      rw [stl_at, h p hp, mul_zero]
    · rw [stl_else hs x e, h p hp, mul_zero, mul_zero, Nat.xor_zero]
      unfold swp
      rw [if_neg e]
      split
      · exact h _ ha
      · exact h _ hi
/-- The first k columns are those of the unit. -/
def Settled (n k : Nat) (L : Mx) : Prop := ∀ i j, i < n → j < k → L i j = idm i j
theorem settled_stl {n at_ p : Nat} {L : Mx} (hs : Small L) (h : Settled n at_ L) (ha : at_ < n) (hap : at_ ≤ p) (hp : p < n) (h0 : L p at_ ≠ 0) : Settled n (at_ + 1) (stl at_ p L) := by
  intro i j hi hj
  by_cases ej : j = at_
  · subst ej
    by_cases ei : i = j
    · subst ei
      unfold stl idm
      rw [if_pos rfl, if_pos rfl, mul_inv h0 (hs _ _)]
    · unfold stl idm
      rw [if_neg ei, if_neg ei, mul_inv h0 (hs _ _), one_mul (swp_small hs _ _), Nat.xor_self]
  · have hj' : j < at_ := by omega
    have ep : L p j = 0 := by rw [h p j hp hj']; unfold idm; rw [if_neg (by omega)]
    have ea : L at_ j = 0 := by rw [h at_ j ha hj']; unfold idm; rw [if_neg (by omega)]
    by_cases ei : i = at_
    · unfold stl idm
      rw [if_pos ei, ep, zero_mul, if_neg (by omega)]
    · unfold stl
      rw [if_neg ei, ep, zero_mul, zero_mul, Nat.xor_zero]
      unfold swp
      rw [if_neg ei]
      split
      · next e => rw [ea]; unfold idm; rw [if_neg (by omega)]
      · exact h i j hi hj'
theorem run_some {n k m : Nat} {L M : Mx} (hs : Small L) (hk : k ≤ n) (h : run n L k = some M) : Small M ∧ Settled n k M ∧ ∀ x, Ker n m M x ↔ Ker n m L x := by
  induction k generalizing M with
  | zero =>
    cases h
    exact ⟨hs, fun _ _ _ hj => absurd hj (Nat.not_lt_zero _), fun _ => Iff.rfl⟩
  | succ k ih =>
    unfold run at h
    rw [Option.bind_eq_some_iff] at h
    obtain ⟨M', h1, h2⟩ := h
    rw [Option.map_eq_some_iff] at h2
    obtain ⟨p, h2, rfl⟩ := h2
    obtain ⟨a1, a2, a3⟩ := ih (by omega) h1
    obtain ⟨b1, b2, b3⟩ := pivot_some h2
    exact ⟨stl_small a1, settled_stl a1 a2 (by omega) b1 b2 b3, fun x => (ker_stl a1 (by omega) b2 b3 x).trans (a3 x)⟩
theorem run_none {n k : Nat} {L : Mx} (h : run n L k = none) : ∃ j M, j < k ∧ run n L j = some M ∧ pivot n j M = none := by
  induction k with
  | zero => cases h
  | succ k ih =>
    cases e : run n L k with
    | none =>
      obtain ⟨j, M, h1, h2⟩ := ih e
      exact ⟨j, M, by omega, h2⟩
    | some M =>
      refine ⟨k, M, by omega, e, ?_⟩
      unfold run at h
      rw [e] at h
      simpa using h
/-- A matrix beside the unit. -/
def beside (n : Nat) (A : Mx) : Mx := fun i j => if j < n then A i j else if j = n + i then 1 else 0
theorem beside_small {n : Nat} {A : Mx} (hA : Small A) : Small (beside n A) := fun i j => by
  unfold beside
  split
  · exact hA _ _
  · split <;> omega
def cat (n : Nat) (x y : Nat → Nat) : Nat → Nat := fun j => if j < n then x j else y (j - n)
theorem dt_cat (n : Nat) (r x y : Nat → Nat) : dt (n + n) r (cat n x y) = dt n r x ^^^ dt n (fun j => r (n + j)) y := by
  unfold dt
  rw [xs_add]
  congr 1
  · exact xs_congr fun s hs => by unfold cat; rw [if_pos hs]
  · exact xs_congr fun s hs => by unfold cat; rw [if_neg (by omega), show n + s - n = s by omega]
theorem dt_beside {n : Nat} {A : Mx} {x y : Nat → Nat} (hy : ∀ j, y j < 256) {i : Nat} (hi : i < n) : dt (n + n) (beside n A i) (cat n x y) = dt n (A i) x ^^^ y i := by
  rw [dt_cat]
  congr 1
  · exact xs_congr fun s hs => by unfold beside; rw [if_pos hs]
  · show xs n (fun j => mul (beside n A i (n + j)) (y j)) = _
    rw [xs_one hi fun s hs hn => by unfold beside; rw [if_neg (by omega), if_neg (by omega), zero_mul]]
    unfold beside
    rw [if_neg (by omega), if_pos rfl, one_mul (hy i)]
theorem dt_settled {n i : Nat} {M : Mx} (h : Settled n n M) {x y : Nat → Nat} (hx : ∀ j, x j < 256) (hi : i < n) : dt (n + n) (M i) (cat n x y) = x i ^^^ dt n (fun j => M i (n + j)) y := by
  rw [dt_cat]
  congr 1
  show xs n (fun j => mul (M i j) (x j)) = _
  rw [xs_one hi fun s hs hn => by rw [h i s hi hs]; unfold idm; rw [if_neg (Ne.symm hn), zero_mul]]
  rw [h i i hi hi]
  unfold idm
  rw [if_pos rfl, one_mul (hx i)]
/-- The right half. -/
def half (n : Nat) (M : Mx) : Mx := fun i j => M i (n + j)
theorem solves {n : Nat} {A M : Mx} (hA : Small A) (h : run n (beside n A) n = some M) {x y : Nat → Nat} (hx : ∀ j, x j < 256) (hy : ∀ j, y j < 256) :
    (∀ i, i < n → dt n (A i) x = y i) ↔ ∀ i, i < n → x i = dt n (half n M i) y := by
  obtain ⟨h1, h2, h3⟩ := run_some (m := n + n) (beside_small hA) (Nat.le_refl n) h
  have h3 := h3 (cat n x y)
  constructor
  · intro hs i hi
    have := h3.2 (fun i hi => by rw [dt_beside hy hi, hs i hi, Nat.xor_self]) i hi
    rw [dt_settled h2 hx hi] at this
    exact xor_eq_zero this
  · intro hs i hi
    have := h3.1 (fun i hi => by rw [dt_settled h2 hx hi]; conv => lhs; lhs; rw [hs i hi]
                                 exact Nat.xor_self _) i hi
    rw [dt_beside hy hi] at this
    exact xor_eq_zero this
/-- What elimination makes is the inverse, from both sides. -/
theorem run_inverse {n : Nat} {A M : Mx} (hA : Small A) (h : run n (beside n A) n = some M) :
    Small (half n M) ∧ (∀ i j, i < n → j < n → mm n A (half n M) i j = idm i j) ∧ ∀ i j, i < n → j < n → mm n (half n M) A i j = idm i j := by
  obtain ⟨h1, h2, h3⟩ := run_some (m := n + n) (beside_small hA) (Nat.le_refl n) h
  have hh : Small (half n M) := fun i j => h1 _ _
  refine ⟨hh, fun i j hi hj => ?_, fun i j hi hj => ?_⟩
  · have := (solves hA h (x := fun s => half n M s j) (y := fun s => idm s j) (fun s => hh _ _) (fun s => idm_small _ _)).2 (fun i hi => (mm_id hh hj).symm) i hi
    exact this
  · have := (solves hA h (x := fun s => idm s j) (y := fun s => A s j) (fun s => idm_small _ _) (fun s => hA _ _)).1 (fun i hi => mm_id hA hj) i hi
    exact this.symm
/-- Where there is no pivot something but nought is made nought. -/
theorem run_singular {n : Nat} {A : Mx} (hA : Small A) (h : run n (beside n A) n = none) :
    ∃ x : Nat → Nat, (∀ j, x j < 256) ∧ (∃ j, j < n ∧ x j ≠ 0) ∧ ∀ i, i < n → dt n (A i) x = 0 := by
  obtain ⟨k, M, hk, h1, h2⟩ := run_none h
  obtain ⟨a1, a2, a3⟩ := run_some (m := n + n) (beside_small hA) (by omega) h1
  have hx : ∀ j, (fun j => if j = k then 1 else if j < k then M j k else 0) j < 256 := fun j => by
    show (if j = k then 1 else if j < k then M j k else 0) < 256
    split
    · omega
    · split
      · exact a1 _ _
      · omega
  refine ⟨fun j => if j = k then 1 else if j < k then M j k else 0, hx, ⟨k, hk, by simp⟩, ?_⟩
  have hker : Ker n (n + n) M (cat n (fun j => if j = k then 1 else if j < k then M j k else 0) fun _ => 0) := by
    intro i hi
    rw [dt_cat]
    have e0 : dt n (fun j => M i (n + j)) (fun _ => 0) = 0 := xs_zero fun s _ => mul_zero _
    rw [e0, Nat.xor_zero]
    have e1 : ∀ j, j < n → mul (M i j) ((fun j => if j = k then 1 else if j < k then M j k else 0) j) = (if j = k then M i k else 0) ^^^ (if j = i then (if i < k then M i k else 0) else 0) := by
      intro j hj
      show mul (M i j) (if j = k then 1 else if j < k then M j k else 0) = _
      by_cases ejk : j = k
      · subst ejk
        rw [if_pos rfl, if_pos rfl, mul_one (a1 _ _)]
        by_cases eji : j = i
        · subst eji; rw [if_pos rfl, if_neg (by omega), Nat.xor_zero]
        · rw [if_neg eji, Nat.xor_zero]
      · rw [if_neg ejk, if_neg ejk, Nat.zero_xor]
        by_cases hjk : j < k
        · rw [if_pos hjk, a2 i j hi hjk]
          unfold idm
          by_cases eij : i = j
          · subst eij; rw [if_pos rfl, if_pos rfl, if_pos hjk, one_mul (a1 _ _)]
          · rw [if_neg eij, if_neg fun e => eij e.symm, zero_mul]
        · rw [if_neg hjk, mul_zero]
          split
          · next e => subst e; rw [if_neg hjk]
          · rfl
    show xs n _ = 0
    rw [xs_congr e1, xs_xor, xs_one hk fun s _ hn => by rw [if_neg hn], xs_one hi fun s _ hn => by rw [if_neg hn], if_pos rfl, if_pos rfl]
    by_cases hik : i < k
    · rw [if_pos hik, Nat.xor_self]
    · rw [if_neg hik, pivot_none h2 i (by omega) hi]; rfl
  intro i hi
  have := (a3 _).1 hker i hi
  rw [dt_beside (fun _ => by omega) hi, Nat.xor_zero] at this
  exact this
/-- A matrix that has an inverse makes nought of nought alone. -/
theorem run_ne_none {n : Nat} {A B : Mx} (hA : Small A) (hB : ∀ i j, i < n → j < n → mm n B A i j = idm i j) : run n (beside n A) n ≠ none := by
  intro h
  obtain ⟨x, hx, ⟨j, hj, hj0⟩, hz⟩ := run_singular hA h
  apply hj0
  have e : mm n (mm n B A) (fun s _ => x s) j 0 = mm n B (mm n A fun s _ => x s) j 0 := mm_assoc n n B A _ j 0
  have e1 : mm n (mm n B A) (fun s _ => x s) j 0 = mm n idm (fun s _ => x s) j 0 := mm_congr (fun s hs => hB j s hj hs) fun _ _ => rfl
  have e2 : mm n B (mm n A fun s _ => x s) j 0 = 0 := xs_zero fun s hs => by
    rw [show mm n A (fun s _ => x s) s 0 = 0 from hz s hs, mul_zero]
  rw [e1, e2, id_mm (fun s _ => hx s) hj] at e
  exact e
/-- Two inverses are one. -/
theorem inverse_one {n : Nat} {A B C : Mx} (hB : Small B) (hC : Small C) (hBA : ∀ i j, i < n → j < n → mm n B A i j = idm i j) (hAC : ∀ i j, i < n → j < n → mm n A C i j = idm i j) {i j : Nat} (hi : i < n) (hj : j < n) : B i j = C i j := by
  have e : mm n (mm n B A) C i j = mm n B (mm n A C) i j := mm_assoc n n B A C i j
  rw [mm_congr (A' := idm) (B' := C) (fun s hs => hBA i s hi hs) fun _ _ => rfl, id_mm hC hi] at e
  rw [mm_congr (A := B) (A' := B) (B' := idm) (fun _ _ => rfl) fun s hs => hAC s j hs hj, mm_id hB hj] at e
  exact e.symm
end GfM

theorem Full.up {S : Nat → Prop} {b : Nat} {w w' : World} (h : Full b w) (u : Up S w w') (hs : ¬ S b) : Full b w' := by
  have hl := h.raw.lt
  have hc : ∀ j, w'.cell? ⟨b, j, none⟩ = w.cell? ⟨b, j, none⟩ := fun j => u.cell (p := ⟨b, j, none⟩) hl hs
  have hr : Raw b w → Raw b w' := fun r => ⟨Nat.lt_of_lt_of_le hl u.size, fun j hj => by rw [hc]; exact r.cells j hj, fun j => by rw [u.froz (p := ⟨b, j, none⟩) hl hs]; exact r.fr j⟩
  exact ⟨hr h.raw, by rw [hc]; exact h.lock, by rw [hc]; exact h.done, by rw [hc]; exact h.made, ⟨fun j hj => by rw [hc]; exact h.tabs.ex j hj, fun j hj => by rw [hc]; exact h.tabs.lg j hj⟩⟩
theorem Full.drew {b : Nat} {w : World} (h : Full b w) : Full b w.drew := ⟨h.raw.drew, h.lock, h.done, h.made, ⟨h.tabs.ex, h.tabs.lg⟩⟩
/-- A line in block g, of which the first k bytes have been turned. -/
structure Turn (w : World) (g n k : Nat) (x : List Nat) (f : Nat → Nat) (wr : World) (y : List Nat) : Prop where
  blk : Blk wr g y
  len : y.length = n
  told : ∀ i, i < k → y.getD i 0 = f i
  rest : ∀ i, k ≤ i → y.getD i 0 = x.getD i 0
  up : Up (One g) w wr
theorem Turn.next {w wr : World} {g n k v : Nat} {x : List Nat} {f : Nat → Nat} {y : List Nat} (h : Turn w g n k x f wr y) (hk : k < n) (hx : f k = v) (h8 : v < 256) (m : Nat) :
    Turn w g n (k + 1) x f ((wr.drewN m).setCell ⟨g, k, none⟩ (.int .u8 v)) (y.set k v) :=
  ⟨(h.blk.drewN m).set k v h8, by rw [List.length_set]; exact h.len, fun i hi => by
    rw [getD_set _ _ _ _ (by rw [h.len]; exact hk)]
    split
    · next e => rw [e, hx]
    · exact h.told i (by omega), fun i hi => by
    rw [getD_set _ _ _ _ (by rw [h.len]; exact hk), if_neg (by omega)]
    exact h.rest i (by omega), (h.up.drewN m).setCell (p := ⟨g, k, none⟩) (.inr rfl) _⟩
theorem Turn.done {w wr : World} {g n : Nat} {x : List Nat} {f : Nat → Nat} {y : List Nat} (h : Turn w g n n x f wr y) : Blk wr g (tab n f) := by
  rw [← eq_tab h.len h.told]
  exact h.blk
theorem Turn.start {w : World} {g n : Nat} {x : List Nat} (h : Blk w g x) (hl : x.length = n) (f : Nat → Nat) : Turn w g n 0 x f w x :=
  ⟨h, hl, fun _ hi => absurd hi (Nat.not_lt_zero _), fun _ _ => rfl, Up.refl _ _⟩
set_option maxRecDepth 100000 in
set_option maxHeartbeats 800000 in
/-- line ^= other times by; the tables being there, and the lines two. -/
theorem addTo_any (p q F r c g1 g2 by_ n c1 c2 : Nat) (z x y : List Nat) (w : World) (hm : Mat w p q F r c z) (hf : Full F w) (h1 : Blk w g1 x) (h2 : Blk w g2 y) (l1 : x.length = n) (l2 : y.length = n)
    (hn : n ≤ 64) (hne : g1 ≠ g2) (hp : p ≠ g1) (hF : F ≠ g1) (hb : by_ < 256) :
    Calls Tryz.prog 82 #[.pointer (some ⟨p, 0, none⟩), .slice (some ⟨g1, 0, none⟩) n c1, .slice (some ⟨g2, 0, none⟩) n c2, .int .u8 by_] w
      fun e w' => e = .returned (.tuple #[]) ∧ Blk w' g1 (tab n fun j => x.getD j 0 ^^^ GfM.mul (y.getD j 0) by_) ∧ Up (One g1) w w' := by
  have HS : Hid _ := Turn.start h1 l1 fun j => x.getD j 0 ^^^ GfM.mul (y.getD j 0) by_
  have H1 : Hid _ := h1
  have H2 : Hid _ := h2
  have HM : Hid (w.cell? ⟨p, 0, none⟩ = some (.pointer (some ⟨F, 0, none⟩)) ∧ p < w.heap.size) := ⟨hm.f, hm.pl⟩
  have HF : Hid _ := hf
  have L2 : Hid _ := l2
  clear h1 h2 hm hf l1 l2
  go_enter Tryz.func82, Tryz.ntmps82
  go_wp2
  go_loopw [11] (fun i wr => ∃ k : Nat, k ≤ n ∧ i = .int .i64 k ∧ ∃ u, Turn w g1 n k x (fun j => x.getD j 0 ^^^ GfM.mul (y.getD j 0) by_) wr u) (fun i _ => n - (intOf i).toNat)
  case atStart => exact ⟨0, by omega, rfl, _, HS.out⟩
  case round =>
    obtain ⟨k, hk, rfl, u, hu⟩ := hrel
    by_cases hlt : k < n
    · obtain ⟨x1, X1⟩ : ∃ v, Hid (x.getD k 0 = v) := ⟨_, rfl⟩
      obtain ⟨y1, Y1⟩ : ∃ v, Hid (y.getD k 0 = v) := ⟨_, rfl⟩
      have gx : x1 < 256 := by rw [← X1.out]; exact small_getD H1.out.small _
      have gy : y1 < 256 := by rw [← Y1.out]; exact small_getD H2.out.small _
      have hc0 : wr.cell? ⟨p, 0, none⟩ = some (.pointer (some ⟨F, 0, none⟩)) := (hu.up.cell (p := ⟨p, 0, none⟩) HM.out.2 hp).trans HM.out.1
      have hc1 : wr.cell? ⟨g1, k, none⟩ = some (.int .u8 x1) := by rw [← X1.out, ← hu.rest k (Nat.le_refl _)]; exact hu.blk.cell _ (by rw [hu.len]; exact hlt)
      have hc2 : wr.cell? ⟨g2, k, none⟩ = some (.int .u8 y1) := by rw [← Y1.out]; exact (H2.out.up hu.up fun e => hne e.symm).cell _ (by rw [L2.out]; exact hlt)
      have hf1 : wr.frozen? ⟨g1, k, none⟩ = false := hu.blk.froz _
      have hfr := HF.out.up hu.up hF
      have HFR : Hid _ := hfr
      have HU : Hid _ := hu
      have hx := u8_xor_nat x1 (GfM.mul y1 by_) gx (GfM.mul_lt _ _)
      have HV : Hid ((fun j => x.getD j 0 ^^^ GfM.mul (y.getD j 0) by_) k = x1 ^^^ GfM.mul y1 by_) := by show _ ^^^ _ = _; rw [X1.out, Y1.out]
      have g8 := GfM.xor_lt gx (GfM.mul_lt y1 by_)
      clear hfr hu
      go_wp2
      go_still_tail 16, (by kernel_rfl)
      still_call (mul_full F y1 by_ _ HFR.out.drew gy hb)
      repeat still_step
      refine wpStill_nil ?_
      change wpList _ _ _ _ _ (wr.drewN 1)
      go_wp2
      go_roundw
      case rel => exact ⟨k + 1, by omega, by go_num, _, HU.out.next hlt HV.out g8 1⟩
      case measure => simp [intOf]; omega
    · obtain rfl : k = n := by omega
      have HU : Hid _ := hu
      clear hu
      go_wp2
      go_end0
      exact ⟨rfl, HU.out.done, HU.out.up⟩

/-- The rows of an elimination: block gl holds n slices, the i-th of them row L i of m bytes at block b i; all that was there in W is as it was, but for the Field. -/
structure Elim (W : World) (F gl n m : Nat) (b : Nat → Nat) (L : Nat → List Nat) (w : World) : Prop where
  lin : ∀ i, i < n → w.cell? ⟨gl, i, none⟩ = some (.slice (some ⟨b i, 0, none⟩) m m)
  frz : ∀ i, w.frozen? ⟨gl, i, none⟩ = false
  gll : gl < w.heap.size
  glo : W.heap.size ≤ gl
  rows : ∀ i, i < n → Blk w (b i) (L i)
  lens : ∀ i, i < n → (L i).length = m
  own : ∀ i, i < n → W.heap.size ≤ b i ∧ b i ≠ gl
  inj : ∀ i j, i < n → j < n → b i = b j → i = j
  up : Up (One F) W w
/-- The cells of the lines. -/
def celL (L : Nat → List Nat) : GfM.Mx := fun i j => (L i).getD j 0
theorem Elim.lt {W w : World} {F gl n m : Nat} {b : Nat → Nat} {L : Nat → List Nat} (h : Elim W F gl n m b L w) {i : Nat} (hi : i < n) : b i < w.heap.size := (h.rows i hi).lt
theorem Elim.alloc {W w : World} {F gl n m : Nat} {b : Nat → Nat} {L : Nat → List Nat} (h : Elim W F gl n m b L w) (o : Obj) : Elim W F gl n m b L (w.alloc o) :=
  { h with
    lin := fun i hi => (World.cell?_alloc_past _ _ _ h.gll).trans (h.lin i hi), frz := fun i => (World.frozen?_alloc_past _ _ _ h.gll).trans (h.frz i)
    gll := by simpa using Nat.lt_succ_of_lt h.gll, rows := fun i hi => (h.rows i hi).alloc o, up := h.up.alloc o }
theorem Elim.drewN {W w : World} {F gl n m : Nat} {b : Nat → Nat} {L : Nat → List Nat} (h : Elim W F gl n m b L w) (k : Nat) : Elim W F gl n m b L (w.drewN k) :=
  { h with lin := h.lin, frz := h.frz, gll := h.gll, rows := fun i hi => (h.rows i hi).drewN k, up := h.up.drewN k }
/-- One line turned. -/
def updL (L : Nat → List Nat) (i : Nat) (y : List Nat) : Nat → List Nat := fun k => if k = i then y else L k
end Go.Proofs.YtkenfabnbmkhbaaGreat
