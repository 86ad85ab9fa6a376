/- The program's Bay in memory (a row of Booleans in a block): 'New', 'lacks', 'turn', 'Hold', 'Give', 'Disk'. -/
import Derived.Test.YtfmgbmpdifjliaaBayFace
import Derived.Deep.CutBlock
import Derived.BigQuiet
import Derived.Deep.QuietTactic
namespace Go.Proofs.Ytfmgbmpdifjliaa
open Go.RowKit
set_option linter.unusedVariables false

structure PBr (w : World) (q b ub n : Nat) (U : Nat → Bool) : Prop where
  head : w.heap[q]? = some (.cells #[.pointer (some ⟨b, 0, none⟩), .slice (some ⟨ub, 0, none⟩) n n] 77 (0, 0))
  row : BR w ub n U
def PBs (w : World) (q b n : Nat) (U : Nat → Bool) (F : Nat → Prop) : Prop := ∃ ub, PBr w q b ub n U ∧ ∀ g, F g ↔ g = q ∨ g = ub
section
variable {w w' : World} {q b ub n : Nat} {U : Nat → Bool} {F : Nat → Prop}
theorem PBr.c0 (h : PBr w q b ub n U) : w.cell? ⟨q, 0, none⟩ = some (.pointer (some ⟨b, 0, none⟩)) := by simp [World.cell?, h.head]
theorem PBr.c1 (h : PBr w q b ub n U) : w.cell? ⟨q, 1, none⟩ = some (.slice (some ⟨ub, 0, none⟩) n n) := by simp [World.cell?, h.head]
theorem PBr.lt (h : PBr w q b ub n U) : q < w.heap.size := (Array.getElem?_eq_some_iff.1 h.head).1
theorem PBr.up {S : Nat → Prop} (h : PBr w q b ub n U) (u : Up S w w') (h1 : ¬ S q) (h2 : ¬ S ub) : PBr w' q b ub n U := ⟨(u.block q h.lt h1).trans h.head, h.row.up u h2⟩
theorem PBr.nxt (h : PBr w q b ub n U) (u : Up Nul w w') : PBr w' q b ub n U := h.up u (fun h => h) fun h => h
theorem PBr.ne (h : PBr w q b ub n U) : q ≠ ub := ne_type h.head h.row.heap (by decide)
theorem PBr.set (h : PBr w q b ub n U) {i : Nat} (hi : i < n) (x : Bool) : PBr (w.setCell ⟨ub, i, none⟩ (.bool x)) q b ub n (updB U i x) := by
  have u := (Up.refl (One ub) w).put rfl i (.bool x)
  exact ⟨(u.block q h.lt fun e => h.ne e).trans h.head, h.row.set hi x⟩
theorem pbay_dr : ¬ DR 77 := by unfold DR DD RT; decide
theorem PBs.ty (h : PBs w q b n U F) (g : Nat) (hg : F g) : ∃ (A : Array Value) (T : TypeId), w.heap[g]? = some (Obj.cells A T (0, 0)) ∧ ¬ DR T := by
  obtain ⟨ub, h1, h2⟩ := h
  rcases (h2 g).1 hg with rfl | rfl
  · exact ⟨_, _, h1.head, pbay_dr⟩
  · exact ⟨_, _, h1.row.heap, row_dr⟩
theorem PBs.keep (h : PBs w q b n U F) (k : ∀ g, F g → w'.heap[g]? = w.heap[g]?) : PBs w' q b n U F := by
  obtain ⟨ub, h1, h2⟩ := h
  exact ⟨ub, ⟨(k q ((h2 q).2 (.inl rfl))).trans h1.head, ⟨(k ub ((h2 ub).2 (.inr rfl))).trans h1.row.heap⟩⟩, h2⟩
theorem PBs.did {U' : Nat → Bool} (h2 : ∀ g, F g ↔ g = q ∨ g = ub) (h : PBr w' q b ub n U') (u : Up (One ub) w w') : Did PBs w q b n U' F w' :=
  ⟨F, ⟨ub, h, h2⟩, u.mono fun x _ hx => (h2 x).2 (.inr hx), fun g hg => .inl hg⟩
/-! ### 'New' -/
theorem pnew_any {w0 : World} {fu : Option Nat} {k : Option Nat} {live : Bool} {R : Nat → List Nat} {ps : List (Nat × List Nat)} (h : H w0 w b n fu k live R ps) (hn : n ≤ 64) :
    Calls Try.prog 9 #[.pointer (some ⟨b, 0, none⟩)] w fun e w' => ∃ q F, e = .returned (.pointer (some ⟨q, 0, none⟩)) ∧ PBs w' q b n (fun _ => false) F ∧ Up Nul w w' ∧ ∀ g, F g → w.heap.size ≤ g := by
  have HSL := hid (slotsH h)
  have hmk := make_bools w n (by omega)
  have HB := hid (BR.mk (w := w.alloc (.cells (bls n fun _ => false) 4)) (q := w.heap.size) (n := n) (U := fun _ => false) (heap_alloc_new _ _))
  have U1 := hid ((Up.refl Nul w).alloc (.cells (bls n fun _ => false) 4))
  have HS : Hid (w.heap.size < (w.alloc (.cells (bls n fun _ => false) 4)).heap.size) := by show _ < _; simp
  obtain ⟨ub, Q⟩ : ∃ q, Hid (w.heap.size = q) := ⟨_, rfl⟩
  rw [Q.out] at hmk HB HS ⊢
  generalize w.alloc (.cells (bls n fun _ => false) 4) = w1 at hmk HB U1 HS
  have HQ : Hid (ub ≤ w1.heap.size) := Nat.le_of_lt HS.out
  clear h hn
  go_enter Try.func9, Try.ntmps9
  go_wp2_with fail
  refine HSL.out.mono ?_
  rintro e w2 ⟨rfl, rfl⟩
  go_wp2
  go_ret
  exact ⟨_, fun g => g = w1.heap.size ∨ g = ub, rfl, ⟨ub, ⟨heap_alloc_new _ _, HB.out.up ((Up.refl Nul w1).alloc _) (fun h => h)⟩, fun _ => Iff.rfl⟩, U1.out.alloc _, fun g hg => by
    rcases hg with rfl | rfl
    · exact HQ.out
    · exact Nat.le_refl _⟩
/-! ### 'Disk' -/
theorem pdisk_any (h : PBs w q b n U F) : Calls Try.prog 21 #[.pointer (some ⟨q, 0, none⟩)] w fun e w' => e = .returned (.pointer (some ⟨b, 0, none⟩)) ∧ Up Nul w w' := by
  obtain ⟨ub, h1, _⟩ := h
  have c0 := h1.c0
  clear h1
  go_enter Try.func21, Try.ntmps21
  go_wp2
  go_ret
  exact ⟨rfl, Up.refl _ _⟩
/-! ### 'lacks', 'turn', 'Hold', 'Give' -/
theorem plack_yes (h : PBr w q b ub n U) (x : Int) (hx : x < 0 ∨ (n : Int) ≤ x) :
    Calls Try.prog 42 #[.pointer (some ⟨q, 0, none⟩), .int .i64 x] w fun e w' => e = .returned (.bool true) ∧ w' = w := by
  have c1 := h.c1
  by_cases h0 : x < 0
  · clear h hx
    go_enter Try.func42, Try.ntmps42
    go_wp2
    go_ret
    exact ⟨rfl, rfl⟩
  · have h1 : (n : Int) ≤ x := by omega
    clear h hx
    go_enter Try.func42, Try.ntmps42
    go_wp2
    go_ret
    exact ⟨by simp, rfl⟩
theorem plack_no (h : PBr w q b ub n U) (s : Nat) (hs : s < n) :
    Calls Try.prog 42 #[.pointer (some ⟨q, 0, none⟩), .int .i64 s] w fun e w' => e = .returned (.bool false) ∧ w' = w := by
  have c1 := h.c1
  have i1 : ¬ (n : Int) ≤ (s : Int) := by omega
  clear h
  go_enter Try.func42, Try.ntmps42
  go_wp2
  go_ret
  exact ⟨by simp, rfl⟩
theorem pset_bad (h : PBr w q b ub n U) (x : Int) (y : Bool) (hx : x < 0 ∨ (n : Int) ≤ x ∨ U x.toNat = y) :
    Calls Try.prog 41 #[.pointer (some ⟨q, 0, none⟩), .int .i64 x, .bool y] w fun e w' => e = .returned (.bool false) ∧ Up Nul w w' := by
  by_cases h0 : x < 0 ∨ (n : Int) ≤ x
  · have HL := hid (plack_yes h x h0)
    clear h hx h0
    go_enter Try.func41, Try.ntmps41
    go_wp2_with fail
    refine HL.out.mono ?_
    rintro e w1 ⟨rfl, rfl⟩
    go_wp2
    go_ret
    exact ⟨rfl, Up.refl _ _⟩
  · obtain ⟨s, rfl⟩ : ∃ s : Nat, x = s := ⟨x.toNat, by omega⟩
    have hs : s < n := by omega
    have hb : U s = y := by
      rcases hx with e | e | e
      · exact absurd (.inl e) h0
      · exact absurd (.inr e) h0
      · simpa using e
    have cu := h.row.cell hs
    have c1 := h.c1
    rw [hb] at cu
    have i1 : (s : Int) < (n : Int) := by omega
    have hbb : (y == y) = true := by simp
    have HL := hid (plack_no h s hs)
    clear h hx hb h0
    go_enter Try.func41, Try.ntmps41
    go_wp2_with fail
    refine HL.out.mono ?_
    rintro e w1 ⟨rfl, rfl⟩
    go_wp2
    go_ret
    exact ⟨rfl, Up.refl _ _⟩
theorem pset_good (h : PBr w q b ub n U) (s : Nat) (y : Bool) (hs : s < n) (hb : U s = !y) :
    Calls Try.prog 41 #[.pointer (some ⟨q, 0, none⟩), .int .i64 s, .bool y] w fun e w' => e = .returned (.bool true) ∧ PBr w' q b ub n (updB U s y) ∧ Up (One ub) w w' := by
  have c1 := h.c1
  have cu := h.row.cell hs
  have cf := h.row.froz s
  rw [hb] at cu
  have HS := hid (h.set hs y)
  have UP := hid ((Up.refl (One ub) w).put rfl s (.bool y))
  have i1 : (s : Int) < (n : Int) := by omega
  have HL := hid (plack_no h s hs)
  clear h hb
  cases y
  all_goals
    go_enter Try.func41, Try.ntmps41
    go_wp2_with fail
    refine HL.out.mono ?_
    rintro e w1 ⟨rfl, rfl⟩
    go_wp2
    go_ret
    exact ⟨rfl, HS.out, UP.out⟩
theorem phold_any (h : PBs w q b n U F) (x : Int) : Calls Try.prog 16 #[.pointer (some ⟨q, 0, none⟩), .int .i64 x] w fun e w' =>
    ((0 ≤ x ∧ x < (n : Int) ∧ U x.toNat = false) ∧ e = .returned (.bool true) ∧ Did PBs w q b n (updB U x.toNat true) F w') ∨
    (¬ (0 ≤ x ∧ x < (n : Int) ∧ U x.toNat = false) ∧ e = .returned (.bool false) ∧ Up Nul w w') := by
  obtain ⟨ub, h1, h2⟩ := h
  have H1 := hid h1
  have H2 := hid h2
  clear h1 h2
  by_cases hc : 0 ≤ x ∧ x < (n : Int) ∧ U x.toNat = false
  · obtain ⟨s, rfl⟩ : ∃ s : Nat, x = s := ⟨x.toNat, by omega⟩
    have HC := hid hc
    clear hc
    go_enter Try.func16, Try.ntmps16
    go_wp2_with fail
    refine (pset_good H1.out s true (by have := HC.out.2.1; omega) (by have := HC.out.2.2; simpa using this)).mono ?_
    rintro e w1 ⟨rfl, p, u⟩
    have HP := hid (And.intro p u)
    clear p u
    go_wp2
    go_ret
    exact .inl ⟨HC.out, rfl, PBs.did H2.out (by rw [Int.toNat_natCast]; exact HP.out.1) HP.out.2⟩
  · have HC := hid hc
    clear hc
    go_enter Try.func16, Try.ntmps16
    go_wp2_with fail
    refine (pset_bad H1.out x true (by
      have := HC.out
      by_cases a : x < 0
      · exact .inl a
      · by_cases b : (n : Int) ≤ x
        · exact .inr (.inl b)
        · refine .inr (.inr ?_)
          cases e : U x.toNat
          · exact absurd ⟨by omega, by omega, e⟩ this
          · rfl)).mono ?_
    rintro e w1 ⟨rfl, u⟩
    have HP := hid u
    clear u
    go_wp2
    go_ret
    exact .inr ⟨HC.out, rfl, HP.out⟩
theorem pgive_any (h : PBs w q b n U F) (x : Int) : Calls Try.prog 12 #[.pointer (some ⟨q, 0, none⟩), .int .i64 x] w fun e w' =>
    ((0 ≤ x ∧ x < (n : Int) ∧ U x.toNat = true) ∧ e = .returned (.bool true) ∧ Did PBs w q b n (updB U x.toNat false) F w') ∨
    (¬ (0 ≤ x ∧ x < (n : Int) ∧ U x.toNat = true) ∧ e = .returned (.bool false) ∧ Up Nul w w') := by
  obtain ⟨ub, h1, h2⟩ := h
  have H1 := hid h1
  have H2 := hid h2
  clear h1 h2
  by_cases hc : 0 ≤ x ∧ x < (n : Int) ∧ U x.toNat = true
  · obtain ⟨s, rfl⟩ : ∃ s : Nat, x = s := ⟨x.toNat, by omega⟩
    have HC := hid hc
    clear hc
    go_enter Try.func12, Try.ntmps12
    go_wp2_with fail
    refine (pset_good H1.out s false (by have := HC.out.2.1; omega) (by have := HC.out.2.2; simpa using this)).mono ?_
    rintro e w1 ⟨rfl, p, u⟩
    have HP := hid (And.intro p u)
    clear p u
    go_wp2
    go_ret
    exact .inl ⟨HC.out, rfl, PBs.did H2.out (by rw [Int.toNat_natCast]; exact HP.out.1) HP.out.2⟩
  · have HC := hid hc
    clear hc
    go_enter Try.func12, Try.ntmps12
    go_wp2_with fail
    refine (pset_bad H1.out x false (by
      have := HC.out
      by_cases a : x < 0
      · exact .inl a
      · by_cases b : (n : Int) ≤ x
        · exact .inr (.inl b)
        · refine .inr (.inr ?_)
          cases e : U x.toNat
          · rfl
          · exact absurd ⟨by omega, by omega, e⟩ this)).mono ?_
    rintro e w1 ⟨rfl, u⟩
    have HP := hid u
    clear u
    go_wp2
    go_ret
    exact .inr ⟨HC.out, rfl, HP.out⟩
end
end Go.Proofs.Ytfmgbmpdifjliaa
