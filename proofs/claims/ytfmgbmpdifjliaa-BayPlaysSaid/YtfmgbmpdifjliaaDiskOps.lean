/- 'Read', 'Sync', 'Fail', 'Replace', 'Rot' and the small ones of a Disk. -/
import Derived.Test.YtfmgbmpdifjliaaDisk
namespace Go.Proofs.Ytfmgbmpdifjliaa
open Go.RowKit
set_option linter.unusedVariables false

theorem slots_any (d : DK) (w : World) (h : Dsk w d) :
    Calls Try.prog 39 #[.pointer (some ⟨d.b, 0, none⟩)] w fun e w' => e = .returned (.int .i64 (d.n : Nat)) ∧ w' = w := by
  have c2 := h.c2
  obtain ⟨b, q, n, fu, live, z, pa, pc, ps⟩ := d
  clear h
  dsimp only at c2 ⊢
  go_enter Try.func39, Try.ntmps39
  go_wp2
  go_ret
  exact ⟨rfl, rfl⟩
/-! ### 'Fail', 'Sync', 'Replace' -/
theorem Dsk.set1 {w : World} {d : DK} (h : Dsk w d) (l : Bool) : Dsk (w.setCell ⟨d.b, 1, none⟩ (.bool l)) { d with live := l } := by
  have u := (Up.refl (One d.b) w).put rfl 1 (.bool l)
  refine ⟨?_, (u.block _ h.lt_q (fun e => h.bq e.symm)).trans h.rows, h.small, h.len, h.le, own_up h.pend u fun g hg e => h.pb ((show d.pv.ownBlock = some g from hg).trans (congrArg some e)), h.good, h.most⟩
  have := heap_setCell_same w d.b 1 _ _ (.bool l) h.head
  simpa using this
theorem Dsk.set3 {w : World} {d : DK} (h : Dsk w d) : Dsk (w.setCell ⟨d.b, 3, none⟩ (.slice none 0 0)) { d with pa := none, pc := 0, ps := [] } := by
  have u := (Up.refl (One d.b) w).put rfl 3 (.slice none 0 0)
  refine ⟨?_, (u.block _ h.lt_q (fun e => h.bq e.symm)).trans h.rows, h.small, h.len, h.le, World.ownsRow_nil _ _ _ _, (fun p hp => by cases hp), by simp⟩
  have := heap_setCell_same w d.b 3 _ _ (.slice none 0 0) h.head
  simpa using this
theorem fail_any (d : DK) (w : World) (h : Dsk w d) :
    Calls Try.prog 32 #[.pointer (some ⟨d.b, 0, none⟩)] w fun e w' => e = .returned (.tuple #[]) ∧ Dsk w' { d with live := false } ∧ Up (One d.b) w w' := by
  have c1 := h.c1
  have f1 := h.fr 1
  have HE := hid (h.set1 false)
  have HU := hid ((Up.refl (One d.b) w).put rfl 1 (.bool false))
  generalize d.b = b at c1 f1 HE HU ⊢
  clear h
  go_enter Try.func32, Try.ntmps32
  go_wp2
  go_end0
  exact ⟨rfl, HE.out, HU.out⟩
theorem sync_gone (d : DK) (w : World) (h : Dsk w d) (hl : d.live = false) :
    Calls Try.prog 28 #[.pointer (some ⟨d.b, 0, none⟩)] w fun e w' => e = .returned (.int .i64 5) ∧ w' = w := by
  have c1 := h.c1
  rw [hl] at c1
  generalize d.b = b at c1 ⊢
  clear h hl
  go_enter Try.func28, Try.ntmps28
  go_wp2
  go_ret
  exact ⟨rfl, rfl⟩
theorem sync_dead (d : DK) (w : World) (h : Dsk w d) (hl : d.live = true) (hf : FzO w d.fu (some 0)) :
    Calls Try.prog 28 #[.pointer (some ⟨d.b, 0, none⟩)] w fun e w' => e = .returned (.int .i64 4) ∧ w' = w := by
  have c1 := h.c1
  rw [hl] at c1
  have c0 := h.c0
  have HD := hid (dead_any d.fu _ w hf)
  generalize d.b = b at c0 c1 ⊢
  generalize fp d.fu = p at c0 HD
  clear h hl hf
  go_enter Try.func28, Try.ntmps28
  go_wp2_with ((go_at_call 55; (with_reducible refine HD.out.mono ?_); rintro e w1 ⟨rfl, rfl⟩))
  go_ret
  exact ⟨rfl, rfl⟩
theorem sync_good (d : DK) (k : Option Nat) (w : World) (h : Dsk w d) (hl : d.live = true) (hf : FzO w d.fu k) (hk : k ≠ some 0) :
    Calls Try.prog 28 #[.pointer (some ⟨d.b, 0, none⟩)] w fun e w' => e = .returned (.int .i64 0) ∧ Dsk w' { d with pa := none, pc := 0, ps := [] } ∧ Up (One d.b) w w' := by
  have c1 := h.c1
  rw [hl] at c1
  have c0 := h.c0
  have c3 := h.c3
  have f3 := h.fr 3
  have hd := dead_any d.fu k w hf
  rw [show (k == some 0) = false by simpa using hk] at hd
  have HD := hid hd
  have HE := hid h.set3
  have HU := hid ((Up.refl (One d.b) w).put rfl 3 (.slice none 0 0))
  generalize d.b = b at c0 c1 c3 f3 HE HU ⊢
  generalize fp d.fu = p at c0 HD
  generalize d.ps.length = k at c3
  generalize d.pa = pa at c3
  generalize d.pc = pc at c3
  clear h hl hf hk hd
  go_enter Try.func28, Try.ntmps28
  go_wp2_with ((go_at_call 55; (with_reducible refine HD.out.mono ?_); rintro e w1 ⟨rfl, rfl⟩))
  go_ret
  exact ⟨rfl, HE.out, HU.out⟩
theorem zeros_secs (n : Nat) : Builtin.zeroCells (Value.agg (bys (zer 96))).cells n = bys (zer (n * 96)) := by
  rw [← made_secs n]
  show Builtin.zeroCells (bys (zer 96)) n = _
  simp [Builtin.zeroCells, madeCells, Value.cells, bys, zer_length]
theorem run_clear (w : World) (d : DK) (h : Dsk w d) (ty : TypeId) :
    ∃ w', (Builtin.clear_ #[72] ty #[.slice (some ⟨d.q, 0, none⟩) d.n d.n]).run Try.prog w = .ok (.tuple #[]) w' ∧ Dsk w' { d with z := zer (d.n * 96) } ∧ Up (One d.q) w w' := by
  obtain ⟨i0, hi, hz0, hz1, hz2⟩ := info_parts info_sec
  rcases Nat.eq_zero_or_pos d.n with e0 | e0
  · refine ⟨w, ?_, ⟨h.head, ?_, zer_small _, by simp [zer], h.le, h.pend, h.good, h.most⟩, Up.refl _ _⟩
    · rw [e0]
      simp [Builtin.clear_, run_underlying Try.underlying72]
    · have : d.z = zer (d.n * 96) := by
        have := h.len
        rw [e0] at this ⊢
        exact List.eq_nil_of_length_eq_zero this
      rw [← this]
      exact h.rows
  · have hst := run_storeCells_from (P := Try.prog) d.q 83 (bys (zer (d.n * 96))).toList 0 (bys d.z) w h.rows (by simp [bys_size, zer_length, h.len]) (fun v hv => by
      simp [bys, zer] at hv
      obtain ⟨_, rfl⟩ := hv
      rfl)
    refine ⟨w.setRow d.q (bys (zer (d.n * 96))), ?_, ?_, ?_⟩
    · obtain ⟨m, hm⟩ : ∃ m, d.n = m + 1 := ⟨d.n - 1, by omega⟩
      simp only [List.take_zero, List.nil_append, Array.toArray_toList] at hst
      rw [hm] at hst ⊢
      have hz : (zeroValue 83).run Try.prog w = .ok (.agg (bys (zer 96))) w := by
        simp [zeroValue, typeInfo, hi, hz0]
      have hzc := zeros_secs (m + 1)
      generalize Value.agg (bys (zer 96)) = V at hz hzc
      simp [Builtin.clear_, run_underlying Try.underlying72, hz, hzc, hst]
    · have u : Up (One d.q) w (w.setRow d.q (bys (zer (d.n * 96)))) := ⟨rfl, rfl, rfl, by simp [World.setRow], fun k hk hs => setRow_other w d.q k _ hs⟩
      exact ⟨(u.block _ h.lt_b h.bq).trans h.head, setRow_heap w d.q _ _ _ _ h.rows, zer_small _, by simp [zer], h.le, own_up h.pend u fun g hg e => h.pq ((show d.pv.ownBlock = some g from hg).trans (congrArg some e)), h.good, h.most⟩
    · exact ⟨rfl, rfl, rfl, by simp [World.setRow], fun k hk hs => setRow_other w d.q k _ hs⟩
theorem replace_any (d : DK) (w : World) (h : Dsk w d) :
    Calls Try.prog 33 #[.pointer (some ⟨d.b, 0, none⟩)] w fun e w' => e = .returned (.tuple #[]) ∧ Dsk w' (DK.new d.b d.q d.n d.fu) ∧ Up d.foot w w' := by
  have c1 := h.c1
  have f1 := h.fr 1
  have H1 := hid (h.set1 true)
  have c3 := H1.out.c3
  have f3 := H1.out.fr 3
  have H2 := hid H1.out.set3
  have c2 := H2.out.c2
  obtain ⟨w', hcl, h4, h5⟩ := run_clear _ _ H2.out 0
  have HE : Hid (Dsk w' (DK.new d.b d.q d.n d.fu)) := h4
  have HU : Hid (Up d.foot w w') := (((Up.refl d.foot w).put (.inl rfl) 1 (.bool true)).put (.inl rfl) 3 (.slice none 0 0)).trans (h5.mono fun k _ e => .inr (.inl e))
  dsimp only at c3 f3 c2 hcl
  generalize d.b = b at c1 f1 c3 f3 c2 hcl HE ⊢
  clear h4 h5 h H1 H2
  go_enter Try.func33, Try.ntmps33
  go_wp2
  go_end0
  exact ⟨rfl, HE.out, HU.out⟩
end Go.Proofs.Ytfmgbmpdifjliaa
