/- The document's 'Row'. -/
import Derived.Test.YtkenfabnbmkhbaaGreatDecLen
namespace Go.Proofs.YtkenfabnbmkhbaaGreat
open Go.RowKit
set_option linter.unusedVariables false

/-- A shard's row: of the data of which it is made. -/
def rowZ (k r : Nat) (X Y : List Nat) (i s : Nat) : Nat := if i < k then (if s = i then 1 else 0) else (coefZ k r X Y).getD ((i - k) * k + s) 0
set_option maxRecDepth 100000 in
set_option maxHeartbeats 1600000 in
theorem refRow_any (FS : List Nat) (w0 w : World) (gx cx gy cy k r : Nat) (X Y : List Nat) (hs : LS w0 FS w) (rX : LR FS w gx 0 X) (rY : LR FS w gy 0 Y) (lX : X.length = k) (lY : Y.length = r) (k1 : 1 ≤ k) (k14 : k ≤ 14) (r4 : r ≤ 4) (i : Nat) (hi : i < k + r) :
    Calls Tryz.prog 36 #[.agg #[.slice (some ⟨gx, 0, none⟩) k cx, .slice (some ⟨gy, 0, none⟩) r cy], .int .i64 i] w
      fun e w' => ∃ q z, e = .returned (.slice (some ⟨q, 0, none⟩) k k) ∧ Blk w' q z ∧ z.length = k ∧ (∀ s, s < k → z.getD s 0 = rowZ k r X Y i s) ∧ w.heap.size ≤ q ∧ Up Nul w w' := by
  have c0 : (w.alloc (.cells #[.slice (some ⟨gx, 0, none⟩) k cx, .slice (some ⟨gy, 0, none⟩) r cy] 26)).cell? ⟨w.heap.size, 0, none⟩ = some (.slice (some ⟨gx, 0, none⟩) k cx) := World.cell?_alloc_new w _ _ 0
  have c1 : (w.alloc (.cells #[.slice (some ⟨gx, 0, none⟩) k cx, .slice (some ⟨gy, 0, none⟩) r cy] 26)).cell? ⟨w.heap.size, 1, none⟩ = some (.slice (some ⟨gy, 0, none⟩) r cy) := World.cell?_alloc_new w _ _ 1
  have U := (Up.refl Nul w).alloc (.cells #[.slice (some ⟨gx, 0, none⟩) k cx, .slice (some ⟨gy, 0, none⟩) r cy] 26)
  have HW := hid (And.intro (And.intro c0 c1) (And.intro U (show w.heap.size < _ by simp : w.heap.size < (w.alloc (.cells #[.slice (some ⟨gx, 0, none⟩) k cx, .slice (some ⟨gy, 0, none⟩) r cy] 26)).heap.size)))
  have HS := hid (And.intro hs (And.intro (And.intro rX rY) (And.intro lX lY)))
  clear hs rX rY lX lY U
  go_enter Tryz.func36, Tryz.ntmps36
  go_wp2_with fail
  generalize w.alloc (.cells #[.slice (some ⟨gx, 0, none⟩) k cx, .slice (some ⟨gy, 0, none⟩) r cy] 26) = W0 at *
  obtain ⟨V, HV⟩ : ∃ q, Hid (w.heap.size = q) := ⟨_, rfl⟩
  rw [HV.out] at HW c0 c1
  try rw [HV.out]
  have hmk := make_bytes W0 k (by omega)
  have HB := hid (Blk.new W0 _ (zer_small k))
  have UM := hid ((Up.refl Nul W0).alloc (.cells (bys (zer k)) 5))
  have HWS : Hid (w.heap.size ≤ W0.heap.size) := HW.out.2.1.size
  clear c0 c1
  have d0 := (UM.out.cell (p := ⟨V, 0, none⟩) HW.out.2.2 id).trans HW.out.1.1
  obtain ⟨q, HQ⟩ : ∃ q, Hid (W0.heap.size = q) := ⟨_, rfl⟩
  rw [HQ.out] at HB hmk HWS
  rw [hmk]
  clear hmk
  by_cases hk : i < k
  · have i0 : (i : Int) < (k : Int) := by omega
    have i1 : (0 : Int) ≤ (i : Int) := by omega
    have HE := hid (And.intro (HB.out.set i 1 (by omega)) (HW.out.2.1.trans (UM.out.setCell (p := ⟨q, i, none⟩) (.inl (by rw [HQ.out]; exact Nat.le_refl _)) (.int .u8 (1 : Nat)))))
    go_upto_region 3 with fail
    clear d0
    have x0 := HB.out.cell i (by rw [zer_length]; exact hk)
    have f0 := HB.out.froz i
    rw [zer_at] at x0
    go_wp2
    go_ret
    exact ⟨_, _, rfl, HE.out.1, by rw [List.length_set, zer_length], fun s hs => by
      rw [getD_set _ _ _ _ (by rw [zer_length]; exact hk), rowZ, if_pos hk]
      by_cases e : s = i
      · rw [if_pos e, if_pos e]
      · rw [if_neg e, if_neg e, zer_at], HWS.out, HE.out.2⟩
  · have i0 : ¬ (i : Int) < (k : Int) := by omega
    go_wp2_with fail
    generalize W0.alloc (.cells (bys (zer k)) 5) = W1 at *
    try rw [HQ.out]
    clear d0
    go_loopw [6] (fun v wr => ∃ t : Nat, t ≤ k ∧ v = .int .i64 t ∧ Up (One q) W1 wr ∧ Up Nul W0 wr ∧ ∃ y, Blk wr q y ∧ y.length = k ∧ ∀ s, s < t → y.getD s 0 = rowZ k r X Y i s) (fun v _ => k - (intOf v).toNat)
    case atStart => exact ⟨0, by omega, rfl, Up.refl _ _, UM.out, _, HB.out, zer_length _, fun _ h => absurd h (Nat.not_lt_zero _)⟩
    case round =>
      clear HB
      obtain ⟨t, ht, rfl, hu1, hu, y, hb, hl, hy⟩ := hrel
      have HB := hid (And.intro hb (And.intro hl (And.intro hy (And.intro hu1 hu))))
      clear hb hl hy hu1 hu
      have d0 := (HB.out.2.2.2.2.cell (p := ⟨V, 0, none⟩) HW.out.2.2 id).trans HW.out.1.1
      have d1 := (HB.out.2.2.2.2.cell (p := ⟨V, 1, none⟩) HW.out.2.2 id).trans HW.out.1.2
      by_cases hlt : t < k
      · have i1 : (t : Int) < (k : Int) := by omega
        have i2 : (0 : Int) ≤ (t : Int) := by omega
        have hw : IntKind.i64.wrap ((i : Int) - (k : Int)) = ((i - k : Nat) : Int) := by rw [IntWalk.i64_in _ (by omega)]; omega
        have HU1 := hid (HW.out.2.1.trans HB.out.2.2.2.2)
        have hir : i - k < r := by omega
        go_wp2_with fail
        refine (refCoef_raw FS gx 0 cx gy 0 cy k r X Y _ (HS.out.2.1.1.nxt (HS.out.1.nul HU1.out)) (HS.out.2.1.2.nxt (HS.out.1.nul HU1.out)) HS.out.2.2.1 HS.out.2.2.2 ((i - k : Nat) : Int) t).mono ?_
        rintro e w1 ⟨rfl, u1⟩
        have HC : Hid (cfo k r X Y ((i - k : Nat) : Int) t = rowZ k r X Y i t) := by
          show _ = _
          unfold cfo
          rw [if_pos (by omega), rowZ, if_neg hk, coefZ_at hir hlt]
          simp
        rw [HC.out]
        have v8 : rowZ k r X Y i t < 256 := by rw [rowZ, if_neg hk, coefZ_at hir hlt]; exact GfM.inv_lt _
        obtain ⟨v, VV⟩ : ∃ v, Hid (rowZ k r X Y i t = v) := ⟨_, rfl⟩
        rw [VV.out] at v8 ⊢
        have HB1 := hid (And.intro (HB.out.1.up u1 id) (And.intro (HB.out.2.2.2.1.trans u1.nul) (HB.out.2.2.2.2.trans u1)))
        have HZ := hid (And.intro HB.out.2.1 HB.out.2.2.1)
        have x0 := HB1.out.1.cell t (by rw [HZ.out.1]; exact hlt)
        have f0 := HB1.out.1.froz t
        have HN := hid (And.intro (HB1.out.1.set t v v8) (And.intro (HB1.out.2.1.setCell (p := ⟨q, t, none⟩) (.inr (show One q q from rfl)) (.int .u8 (v : Nat))) (HB1.out.2.2.setCell (p := ⟨q, t, none⟩) (.inl (by rw [HQ.out]; exact Nat.le_refl _)) (.int .u8 (v : Nat)))))
        clear HB u1 HC HU1 d0 d1
        go_wp2
        go_roundw
        case rel => exact ⟨t + 1, by omega, by go_num, HN.out.2.1, HN.out.2.2, _, HN.out.1, by rw [List.length_set]; exact HZ.out.1, fun s hs => by
          rw [getD_set _ _ _ _ (by rw [HZ.out.1]; exact hlt)]
          by_cases e : s = t
          · rw [if_pos e, e]; exact VV.out.symm
          · rw [if_neg e]; exact HZ.out.2 s (by omega)⟩
        case measure => simp [intOf]; omega
      · obtain rfl : k = t := by omega
        go_wp2
        go_ret
        exact ⟨q, y, rfl, HB.out.1, HB.out.2.1, HB.out.2.2.1, HWS.out, HW.out.2.1.trans HB.out.2.2.2.2⟩
end Go.Proofs.YtkenfabnbmkhbaaGreat
