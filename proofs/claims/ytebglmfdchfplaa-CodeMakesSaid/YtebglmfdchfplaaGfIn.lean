/- A row of bytes that came in, as the walks ask for it; what a new block, a draw and a call leave of a Field. -/
import Derived.Test.YtebglmfdchfplaaGfDot
import Derived.Test.YtebglmfdchfplaaGfRefDot
namespace Go.Proofs.Ytebglmfdchfplaa
open Go.RowKit
set_option linter.unusedVariables false

/-- What the row's step knows of a slice of bytes. -/
abbrev CameIn (w : World) (a : Option Addr) (len cap : Nat) (zs : List Int) : Prop :=
  (a = none ∧ len = 0 ∧ cap = 0 ∧ zs = []) ∨
  ∃ x, a = some x ∧ len ≤ cap ∧ cap ≤ maxLen ∧ zs.length = cap ∧ (∀ i, i < zs.length → w.cell? (x.add i) = some (.int .u8 (zs.getD i 0))) ∧ ∀ n ∈ zs, (Lit.int .u8 n).wf = true

theorem lt_of_cell {w : World} {a : Addr} {v : Value} (h : w.cell? a = some v) : a.block < w.heap.size := by
  unfold World.cell? at h
  rcases Nat.lt_or_ge a.block w.heap.size with h' | h'
  · exact h'
  · rw [Array.getElem?_eq_none h'] at h
    cases h

theorem came_in {w : World} {a : Option Addr} {len cap : Nat} {zs : List Int} (h : CameIn w a len cap zs) :
    len = 0 ∨ ∃ (b o : Nat) (z : List Nat), a = some ⟨b, o, none⟩ ∧ z.length = len ∧ Row w b o z ∧ b < w.heap.size ∧ len ≤ 9223372036854775807 := by
  rcases h with ⟨_, h, _⟩ | ⟨x, rfl, hl, hm, hz, hc, hw⟩
  · exact .inl h
  · by_cases h0 : len = 0
    · exact .inl h0
    · obtain ⟨b, o, spot⟩ := x
      have hc0 := hc 0 (by omega)
      have hs : spot = none := by simpa [Addr.add] using World.cell?_spot hc0
      subst hs
      unfold maxLen at hm
      have hlen : ((zs.take len).map Int.toNat).length = len := by simp; omega
      have hget : ∀ i, i < len → ((((zs.take len).map Int.toNat).getD i 0 : Nat) : Int) = zs.getD i 0 := fun i hi => by
        have hz' : i < zs.length := by omega
        have hwi := bounds_u8 (hw (zs[i]) (List.getElem_mem hz'))
        simp [List.getD_eq_getElem?_getD, hi, List.getElem?_eq_getElem hz']
        omega
      refine .inr ⟨b, o, (zs.take len).map Int.toNat, rfl, hlen, ⟨fun i hi => ?_, fun i => ?_⟩, lt_of_cell hc0, by omega⟩
      · rw [hlen] at hi
        have := hc i (by omega)
        rw [hget i hi]
        have ea : Addr.add ⟨b, o, none⟩ i = ⟨b, o + i, none⟩ := by
          by_cases h0 : i = 0
          · subst h0; simp [Addr.add]
          · simp [Addr.add, h0]
        rw [ea] at this
        exact this
      · rcases Nat.lt_or_ge i len with hi | hi
        · have hz' : i < zs.length := by omega
          have hwi := bounds_u8 (hw (zs[i]) (List.getElem_mem hz'))
          have := hget i hi
          simp [List.getD_eq_getElem?_getD, List.getElem?_eq_getElem hz'] at this
          simp [List.getD_eq_getElem?_getD]
          omega
        · have : ((zs.take len).map Int.toNat)[i]? = none := List.getElem?_eq_none (by omega)
          simp only [List.getD_eq_getElem?_getD, this]
          decide

theorem Fresh.of_below {b B : Nat} {w w' : World} (h : Fresh b w) (k : Below B w w') (hb : b < B) : Fresh b w' := by
  have hc : ∀ j, w'.cell? ⟨b, j, none⟩ = w.cell? ⟨b, j, none⟩ := fun j => k.cell (p := ⟨b, j, none⟩) hb
  exact ⟨⟨Nat.lt_of_lt_of_le h.raw.lt k.size, fun j hj => by rw [hc]; exact h.raw.cells j hj, fun j => by rw [k.frozen (p := ⟨b, j, none⟩) hb]; exact h.raw.fr j⟩, by rw [hc]; exact h.lock, by rw [hc]; exact h.done, by rw [hc]; exact h.made⟩
/-- A slice of bytes that came in, and the string that its bytes are. -/
structure Sl (w : World) (a : Option Addr) (len cap : Nat) (s : ByteArray) : Prop where
  size : s.size = len
  conv : ∀ w', Below w.heap.size w w' → (convert 22 9 (.slice a len cap)).run Try.prog w' = .ok (.string s) w'
  row : len = 0 ∨ ∃ b o, a = some ⟨b, o, none⟩ ∧ b < w.heap.size ∧ Row w b o (nums s)
  le : len ≤ 9223372036854775807

theorem conv_zero (a : Option Addr) (cap : Nat) (w : World) : (convert 22 9 (.slice a 0 cap)).run Try.prog w = .ok (.string ByteArray.empty) w := by
  cases a with
  | none => exact run_convert_bytes_nil (P := Try.prog) w 22 5 Try.underlying22 Try.underlying5 0 cap 9 Try.underlying9
  | some x =>
    rw [run_convert_bytes_string (P := Try.prog) w 22 9 5 _ _ _ Try.underlying22 Try.underlying5 Try.underlying9]
    exact run_bytesToString w x 0 cap [] (by rfl)

theorem Sl.of {w : World} {a : Option Addr} {len cap : Nat} {zs : List Int} (h : CameIn w a len cap zs) : ∃ s, Sl w a len cap s := by
  rcases came_in h with rfl | ⟨b, o, z, rfl, rfl, r, hb, hm⟩
  · exact ⟨ByteArray.empty, rfl, fun w' _ => conv_zero a cap w', .inl rfl, by omega⟩
  · have hsz : (⟨(z.map UInt8.ofNat).toArray⟩ : ByteArray).size = z.length := by
      show (z.map UInt8.ofNat).toArray.size = _
      simp
    have hn : nums ⟨(z.map UInt8.ofNat).toArray⟩ = z := by
      apply List.ext_getElem
      · simp [nums]
      · intro i h1 h2
        have := r.small i
        simp [List.getD_eq_getElem?_getD, List.getElem?_eq_getElem h2] at this
        simp [nums]
        omega
    refine ⟨⟨(z.map UInt8.ofNat).toArray⟩, hsz, fun w' hw' => ?_, .inr ⟨b, o, rfl, hb, by rw [hn]; exact r⟩, hm⟩
    rw [← hsz]
    refine Lib.run_convert_whole (P := Try.prog) w' 22 5 9 Try.underlying22 Try.underlying5 Try.underlying9 b o _ (fun i hi => ?_) cap
    rw [hw'.cell (p := ⟨b, o + i, none⟩) hb, r.cells i (by rw [← hsz]; exact hi)]
    have e := nums_at ⟨(z.map UInt8.ofNat).toArray⟩ i hi
    rw [hn] at e
    rw [e]

/-- One Field at the first block of the call's own. -/
structure OneFld (w wr : World) : Prop where
  below : Below w.heap.size w wr
  f : Fld w.heap.size wr
theorem OneFld.keep {w w1 w2 : World} (h : OneFld w w1) (k : Kept w.heap.size w1 w2) : OneFld w w2 := ⟨h.below.trans (k.below (Nat.le_refl _)), k.2⟩
theorem OneFld.drew {w w1 : World} (h : OneFld w w1) : OneFld w w1.drew := ⟨h.below.drew, h.f.drew⟩
theorem Fld.drewN {b : Nat} {w : World} (h : Fld b w) (n : Nat) : Fld b (w.drewN n) := by
  have e : ∀ j, (w.drewN n).cell? ⟨b, j, none⟩ = w.cell? ⟨b, j, none⟩ := fun _ => rfl
  rcases h with h | h
  · exact .inl ⟨⟨h.raw.lt, h.raw.cells, h.raw.fr⟩, h.lock, h.done, h.made⟩
  · exact .inr ⟨⟨h.raw.lt, h.raw.cells, h.raw.fr⟩, h.lock, h.done, h.made, ⟨h.tabs.ex, h.tabs.lg⟩⟩
theorem below_drewN {B : Nat} {w w1 : World} (h : Below B w w1) (n : Nat) : Below B w (w1.drewN n) := ⟨h.os, h.tape, h.output, h.size, h.block⟩
theorem OneFld.drewN {w w1 w2 : World} (h : OneFld w w1) {n : Nat} (e : w2 = w1.drewN n) : OneFld w w2 := by
  rw [e]
  exact ⟨below_drewN h.below n, h.f.drewN n⟩
theorem Fld.of_below {b B : Nat} {w w' : World} (h : Fld b w) (k : Below B w w') (hb : b < B) : Fld b w' := by
  have hc : ∀ j, w'.cell? ⟨b, j, none⟩ = w.cell? ⟨b, j, none⟩ := fun j => k.cell (p := ⟨b, j, none⟩) hb
  rcases h with h | h
  · exact .inl (h.of_below k hb)
  · exact .inr ⟨⟨Nat.lt_of_lt_of_le h.raw.lt k.size, fun j hj => by rw [hc]; exact h.raw.cells j hj, fun j => by rw [k.frozen (p := ⟨b, j, none⟩) hb]; exact h.raw.fr j⟩,
      by rw [hc]; exact h.lock, by rw [hc]; exact h.done, by rw [hc]; exact h.made, ⟨fun j hj => by rw [hc]; exact h.tabs.ex j hj, fun j hj => by rw [hc]; exact h.tabs.lg j hj⟩⟩
theorem OneFld.more {w w1 w2 : World} (h : OneFld w w1) (k : Below w1.heap.size w1 w2) : OneFld w w2 :=
  ⟨h.below.trans (k.mono h.below.size), h.f.of_below k h.f.lt⟩

end Go.Proofs.Ytebglmfdchfplaa
