/- The document's one and four. -/
import Derived.Test.YtpdkcpjofofkoaaDoorRcRefM
import Derived.Test.YtpdkcpjofofkoaaDoorRcDec0
set_option maxRecDepth 100000
namespace Go.Proofs.YtpdkcpjofofkoaaDoor
open Go.RowKit
set_option linter.unusedVariables false
theorem slm_new (w : World) (z : List Nat) (hz : ∀ x ∈ z, x < 256) (hl : z.length ≤ 9223372036854775807) : SlN (w.alloc (.cells (bys z) 5)) (some ⟨w.heap.size, 0, none⟩) z.length z :=
  ⟨rfl, .inr ⟨w.heap.size, 0, rfl, by simp, fun i hi => by rw [Nat.zero_add]; exact (Blk.new w z hz).cell i hi, fun i => small_getD hz i⟩, hl⟩
theorem one_s (n : Int) (h0 : 0 ≤ n) (h1 : n ≤ 255) (w : World) : Calls Tryd.prog 33 #[.int .i64 n] w fun e w' => ∃ o, e = .returned (.string o) ∧ o = strOf [n.toNat] ∧ Up Nul w w' := by
  obtain ⟨k, rfl⟩ := Int.eq_ofNat_of_zero_le h0
  have hm : ((k : Nat) : Int) % 256 = (k : Int) := by omega
  have hc : (convert 32 9 (.slice (some ⟨w.heap.size, 0, none⟩) 1 1)).run Tryd.prog (w.alloc (.cells #[.int .u8 (k : Nat)] 5)) = .ok (.string (strOf [k])) _ := (slm_new w [k] (by intro x hx; simp at hx; omega) (by simp)).conv 1
  rw [Int.toNat_natCast]
  obtain ⟨s, hs⟩ : ∃ s, s = strOf [k] := ⟨_, rfl⟩
  rw [← hs] at hc ⊢
  have HS := hid hs
  clear hs
  go_enter Tryd.func33, Tryd.ntmps33
  go_wp2
  go_ret
  exact ⟨s, by first | rfl | trivial, by first | rfl | exact HS.out, (Up.refl _ _).alloc _⟩
theorem w4_int (v : Nat) : (v : Int) / 16777216 % 256 = ((v / 16777216 % 256 : Nat) : Int) ∧ (v : Int) / 65536 % 256 = ((v / 65536 % 256 : Nat) : Int) ∧ (v : Int) / 256 % 256 = ((v / 256 % 256 : Nat) : Int) ∧ (v : Int) % 256 = ((v % 256 : Nat) : Int) := by omega
set_option maxHeartbeats 800000 in
theorem four_s (n : Int) (h0 : 0 ≤ n) (h1 : n ≤ 4294967295) (w : World) : Calls Tryd.prog 34 #[.int .i64 n] w fun e w' => ∃ o, e = .returned (.string o) ∧ o = strOf (w4 n.toNat) ∧ Up Nul w w' := by
  obtain ⟨v, rfl⟩ := Int.eq_ofNat_of_zero_le h0
  rw [Int.toNat_natCast]
  obtain ⟨e0, e1, e2, e3⟩ := w4_int v
  have HX : Hid (w4 v = [v / 16777216 % 256, v / 65536 % 256, v / 256 % 256, v % 256]) := rfl
  have h4 := w4_small v
  generalize v / 16777216 % 256 = x0 at e0 HX
  generalize v / 65536 % 256 = x1 at e1 HX
  generalize v / 256 % 256 = x2 at e2 HX
  generalize v % 256 = x3 at e3 HX
  rw [HX.out] at h4
  rw [HX.out]
  have hc : (convert 32 9 (.slice (some ⟨w.heap.size, 0, none⟩) 4 4)).run Tryd.prog (w.alloc (.cells #[.int .u8 x0, .int .u8 x1, .int .u8 x2, .int .u8 x3] 5)) = .ok (.string (strOf [x0, x1, x2, x3])) _ := (slm_new w [x0, x1, x2, x3] h4 (by simp)).conv 4
  obtain ⟨s, hs⟩ : ∃ s, s = strOf [x0, x1, x2, x3] := ⟨_, rfl⟩
  rw [← hs] at hc ⊢
  have HS := hid hs
  have hv : v < 4294967296 := by omega
  clear h4 HX hs h1 hv h0
  go_enter Tryd.func34, Tryd.ntmps34
  go_wp2
  go_ret
  exact ⟨s, by first | rfl | trivial, by first | rfl | exact HS.out, (Up.refl _ _).alloc _⟩
/-- Two strings one behind the other, in plain numbers. -/
theorem cat_s {a b c : ByteArray} {x y : List Nat} (h : c = a ++ b) (ha : a = strOf x) (hb : b = strOf y) : c = strOf (x ++ y) := by rw [h, ha, hb, strOf_append]
theorem los_take {ls : List Lo} {t : Nat} {l : Lo} (h : ls[t]? = some l) : los (ls.take (t + 1)) = los (ls.take t) ++ loB l := by
  rw [List.take_add_one, h]
  simp [los]
theorem wds_take {zs : List Int} {t : Nat} {x : Int} (h : zs[t]? = some x) : wds (zs.take (t + 1)) = wds (zs.take t) ++ w4 x.toNat := by
  rw [List.take_add_one, h]
  simp [wds]
theorem wds_len (zs : List Int) : (wds zs).length = 4 * zs.length := by
  induction zs with
  | nil => rfl
  | cons x l ih => rw [wds_cons, List.length_append, ih]; simp [w4]; omega
end Go.Proofs.YtpdkcpjofofkoaaDoor
