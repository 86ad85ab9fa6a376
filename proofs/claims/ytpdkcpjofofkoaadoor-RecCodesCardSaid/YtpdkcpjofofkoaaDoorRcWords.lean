/- 'appendWords'. -/
import Derived.Test.YtpdkcpjofofkoaaDoorRcBase
namespace Go.Proofs.YtpdkcpjofofkoaaDoor
open Go.RowKit
set_option linter.unusedVariables false

/-- Four bytes, the highest first. -/
def w4 (v : Nat) : List Nat := [v / 16777216 % 256, v / 65536 % 256, v / 256 % 256, v % 256]
theorem w4_small (v : Nat) : ∀ x ∈ w4 v, x < 256 := by
  intro x hx
  simp only [w4, List.mem_cons, List.not_mem_nil, or_false] at hx
  omega
def wds (zs : List Int) : List Nat := zs.flatMap fun x => w4 x.toNat
theorem wds_length (zs : List Int) : (wds zs).length = 4 * zs.length := by
  induction zs with
  | nil => rfl
  | cons x l ih => simp only [wds, List.flatMap_cons, List.length_append, List.length_cons] at ih ⊢; rw [ih]; simp [w4]; omega
theorem wds_next {zs : List Int} {t : Nat} (h : t < zs.length) : wds (zs.take (t + 1)) = wds (zs.take t) ++ w4 zs[t].toNat := by
  unfold wds
  rw [List.take_succ_eq_append_getElem h, List.flatMap_append]
  simp
theorem bys_four (a b c d : Nat) : bys [a, b, c, d] = #[.int .u8 (a : Nat), .int .u8 (b : Nat), .int .u8 (c : Nat), .int .u8 (d : Nat)] := rfl
theorem SlN.ofBlk {w : World} {q : Nat} {z : List Nat} (h : Blk w q z) (hl : z.length ≤ 1000000) : SlN w (some ⟨q, 0, none⟩) z.length z := ⟨rfl, .inr ⟨q, 0, rfl, h.lt, by
  have := h.row 0 z.length (by omega)
  rwa [List.drop_zero, List.take_length] at this⟩, by omega⟩
theorem Up.own {W0 w w' : World} {v : Value} {z : List Nat} (u : Up Nul W0 w) (h : OwnB W0.heap.size w v z) (g : w.grownBy w' v.ownBlock) : Up Nul W0 w' := u.grown g h.base
set_option maxHeartbeats 1000000 in
theorem words_any (W0 w : World) (v : Value) (z : List Nat) (HO : OwnB W0.heap.size w v z) (U : Up Nul W0 w) (a : Option Addr) (c : Nat) (nums : List Int) (hn : RowI w a nums) (hd : nums ≠ [] → ∀ x, a = some x → v.ownBlock ≠ some x.block)
    (hl : nums.length ≤ 100) (hz : z.length ≤ 1000) (hr : ∀ x ∈ nums, 0 ≤ x ∧ x ≤ 4294967295) :
    Calls Tryd.prog 27 #[v, .slice a nums.length c] w fun e w' => ∃ v', e = .returned v' ∧ OwnB W0.heap.size w' v' (z ++ wds nums) ∧ Up Nul W0 w' := by
  have HO := hid HO
  have HU := hid U
  have HR := hid hn
  have HD := hid hd
  have HL := hid hl
  have HZ := hid hz
  have HRG := hid hr
  obtain ⟨n, N⟩ : ∃ n, Hid (nums.length = n) := ⟨_, rfl⟩
  rw [N.out] at HL ⊢
  obtain ⟨va, vl, vc, rfl⟩ := HO.out.shape
  clear U hn hd hl hz hr
  go_enter Tryd.func27, Tryd.ntmps27
  go_wp2_with fail
  go_loopw [0, 6, 9] (fun bv _ i wr => ∃ t : Nat, t ≤ n ∧ i = .int .i64 (t : Nat) ∧ OwnB W0.heap.size wr bv (z ++ wds (nums.take t)) ∧ Up Nul W0 wr ∧ RowI wr a nums ∧ (nums ≠ [] → ∀ x, a = some x → bv.ownBlock ≠ some x.block)) (fun _ _ i _ => n - (intOf i).toNat)
  case atStart => exact ⟨0, Nat.zero_le _, rfl, by simpa [wds] using HO.out, HU.out, HR.out, HD.out⟩
  case round =>
    obtain ⟨t, ht, rfl, ho, hu, hrow, hdd⟩ := hrel
    have HO1 := hid ho
    have HU1 := hid hu
    have HR1 := hid hrow
    have HD1 := hid hdd
    clear hu hrow hdd HO HU HR HD
    have i0 : (0 : Int) ≤ (t : Int) := by omega
    have i9 : (t : Int) ≤ 100 := by have := HL.out; omega
    obtain ⟨ba, bl, bc, rfl⟩ := ho.shape
    by_cases hlt : t < n
    · have htl : t < nums.length := by rw [N.out]; exact hlt
      obtain ⟨g, o, rfl, hg, hcell⟩ := HR1.out.resolve_left (fun e => by rw [e] at htl; cases htl)
      have x1 := hcell t _ (List.getElem?_eq_getElem htl)
      have HNE : Hid (nums ≠ []) := fun e => by rw [e] at htl; cases htl
      have HN := hid (wds_next htl)
      have hx := HRG.out _ (List.getElem_mem htl)
      generalize nums[t] = x at x1 HN hx
      obtain ⟨y, rfl⟩ := Int.eq_ofNat_of_zero_le hx.1
      rw [Int.toNat_natCast] at HN
      have hy : y ≤ 4294967295 := by omega
      have i2 : (t : Int) < (n : Int) := by omega
      have HT := hid hlt
      have HLN : Hid ((z ++ wds (nums.take t)).length + 4 ≤ 1000000) := by
        show _ ≤ _
        rw [List.length_append, wds_length, List.length_take]
        have := HZ.out
        have := HL.out
        omega
      have HB : Hid (Blk (wr.alloc (.cells (bys (w4 y)) 5)) wr.heap.size (w4 y)) := Blk.new wr _ (w4_small y)
      obtain ⟨v', w', hrun, h1, h2, h3⟩ := run_append_slw (wr.alloc (.cells (bys (w4 y)) 5)) 32 W0.heap.size _ _ (ho.alloc _) (some ⟨wr.heap.size, 0, none⟩) 4 4 (w4 y) (SlN.ofBlk HB.out (by show 4 ≤ 1000000; omega)) HLN.out (Nat.le_trans HU1.out.size (by simp))
      have h4 : bys (w4 y) = #[.int .u8 ((y : Int) / 16777216), .int .u8 ((y : Int) / 65536 % 256), .int .u8 ((y : Int) / 256 % 256), .int .u8 ((y : Int) % 256)] := by
        have e : y / 16777216 % 256 = y / 16777216 := Nat.mod_eq_of_lt (by omega)
        show #[Value.int .u8 ((y / 16777216 % 256 : Nat) : Int), .int .u8 ((y / 65536 % 256 : Nat) : Int), .int .u8 ((y / 256 % 256 : Nat) : Int), .int .u8 ((y % 256 : Nat) : Int)] = _
        rw [e]
        simp
      rw [h4] at hrun h2
      have HX1 : Hid (OwnB W0.heap.size w' v' (z ++ wds (nums.take (t + 1)))) := by show OwnB _ _ _ _; rw [HN.out, ← List.append_assoc]; exact h1
      have HX2 : Hid (Up Nul W0 w') := (HU1.out.alloc _).grown h2 ho.base
      have HX3 : Hid (RowI w' (some ⟨g, o, none⟩) nums) := .inr ⟨g, o, rfl, Nat.lt_of_lt_of_le hg (Nat.le_trans (by simp) h2.size), fun i x hi => by
        rw [← hcell i x hi]
        have hgo : (Value.slice ba bl bc).ownBlock ≠ some g := HD1.out HNE.out _ rfl
        have e1 := h2.block g (by simp; omega) (fun e => hgo e.symm)
        rw [World.cell?_of_block (w := wr.alloc _) e1, World.cell?_alloc_lt _ _ _ hg]⟩
      have HX4 : Hid (nums ≠ [] → ∀ x, some (⟨g, o, none⟩ : Addr) = some x → v'.ownBlock ≠ some x.block) := fun _ x hx e => by
        cases hx
        rcases h3 with h3 | h3
        · rw [h3] at e; exact HD1.out HNE.out _ rfl e
        · rw [h3] at e
          simp at e
          omega
      clear h1 h2 h3 h4 hx ho hcell hg htl hlt ht HN HB
      go_wp2_with (first
        | (at_builtin; refine wpList_append_eqv rfl (.tmp 13) (.tmp 25) 32 rfl _ _ v' rfl rfl hrun ?_)
        | fail)
      go_roundw
      case rel => exact ⟨t + 1, HT.out, by go_num, HX1.out, HX2.out, HX3.out, HX4.out⟩
      case measure => have := HT.out; simp [intOf]; omega
    · obtain rfl : t = n := by omega
      have HD2 : Hid (OwnB W0.heap.size wr (.slice ba bl bc) (z ++ wds nums)) := by
        show OwnB _ _ _ _
        rw [List.take_of_length_le (by rw [N.out]; exact Nat.le_refl _)] at ho
        exact ho
      clear ht hlt ho
      go_wp2
      go_ret
      exact ⟨_, rfl, HD2.out, HU1.out⟩
end Go.Proofs.YtpdkcpjofofkoaaDoor
