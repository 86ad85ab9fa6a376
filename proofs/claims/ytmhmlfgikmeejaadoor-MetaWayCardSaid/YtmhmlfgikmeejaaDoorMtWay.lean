/- 'MetaWay'. -/
import Derived.Test.YtmhmlfgikmeejaaDoorMtWayS
import Derived.Test.YtmhmlfgikmeejaaDoorMtNext
namespace Go.Proofs.YtmhmlfgikmeejaaDoor
open Go.RowKit Go.Maps
set_option linter.unusedVariables false

theorem keyL_ne : ∀ i, i < 12 → ∀ j, j < 12 → i ≠ j → keyL i ≠ keyL j := by
  have key : ∀ i j : Fin 12, i ≠ j → keyL i.val ≠ keyL j.val := by decide
  intro i hi j hj hne
  exact key ⟨i, hi⟩ ⟨j, hj⟩ (fun e => hne (congrArg Fin.val e))
theorem keyL_no : ∀ i, i < 12 → keyL i ≠ noK := fun i hi e => by
  have := (keyL_ok i hi).1.1
  rw [e] at this
  exact absurd this (by decide)
theorem k3_way (A B C : Nat) (hA : A < 4) (hB : B < 4) (hC : C < 4) : K3 (keyL A) (keyL (B + 4)) (keyL (C + 8)) :=
  ⟨keyL_ne _ (by omega) _ (by omega) (by omega), keyL_ne _ (by omega) _ (by omega) (by omega), keyL_ne _ (by omega) _ (by omega) (by omega), keyL_no _ (by omega), keyL_no _ (by omega), keyL_no _ (by omega)⟩
def stP (ka kb kc : ByteArray) (n : Int) : Nat → MM
  | 0 => MM.new
  | 1 => mkM ka kb kc (B n 1 0) none none (S1 ka) 1
  | 2 => mkM ka kb kc (B n 1 0) (B n 2 0) none (S2 ka kb) 2
  | _ => mkM ka kb kc (B n 1 0) (B n 2 0) (B n 3 0) (S3 ka kb kc) 3
def stQ (ka kb kc : ByteArray) (n : Int) : Nat → MM
  | 0 => mkM ka kb kc (B n 1 0) (B n 2 0) (B n 3 0) (S3 ka kb kc) 3
  | 1 => mkM ka kb kc (B n 4 0) (B n 2 0) (B n 3 0) (S4 ka kb kc) 4
  | 2 => mkM ka kb kc (B n 4 0) (B n 5 0) (B n 3 0) (S5 ka kb kc) 5
  | _ => mkM ka kb kc (B n 4 0) (B n 5 0) (B n 6 0) (S6 ka kb kc) 6
set_option maxRecDepth 10000 in
set_option maxHeartbeats 16000000 in
theorem way_any (a0 a1 a2 a3 : Int) (w : World) (hS : Shp w) :
    Calls Tryd.prog 4 #[.int .i64 a0, .int .i64 a1, .int .i64 a2, .int .i64 a3] w fun e w' => e = .returned (.bool true) ∧ Up Nul w w' := by
  obtain ⟨A, hA, hA2⟩ := MxL.mask2 a0
  obtain ⟨B, hB, hB2⟩ := MxL.mask2 a1
  obtain ⟨C, hC, hC2⟩ := MxL.mask2 a2
  obtain ⟨N, hN, hN2⟩ := MxL.i64_mask 6 (by omega) a3
  have hN : bits .and .i64 a3 63 = (N : Int) := hN
  have HK := hid (k3_way A B C hA2 hB2 hC2)
  have HOA := hid (keyL_ok A (by omega))
  have HOB := hid (keyL_ok (B + 4) (by omega))
  have HOC := hid (keyL_ok (C + 8) (by omega))
  have HKA := hid (fun W => key_any A (by omega) W)
  have HKB := hid (fun W => key_any (B + 4) (by omega) W)
  have HKC := hid (fun W => key_any (C + 8) (by omega) W)
  have HN2 : Hid (0 ≤ (N : Int) ∧ (N : Int) ≤ 63) := by
    have : N < 64 := hN2
    exact ⟨by omega, by omega⟩
  have HS := hid hS
  have b1 : ((B : Nat) : Int) + 4 = ((B + 4 : Nat) : Int) := by omega
  have b2 : ((C : Nat) : Int) + 8 = ((C + 8 : Nat) : Int) := by omega
  have b3 : wrap64 ((B : Int) + 4) = ((B + 4 : Nat) : Int) := by rw [← IntWalk.i64_left, IntWalk.i64_in _ (by omega)]; exact b1
  have b4 : wrap64 ((C : Int) + 8) = ((C + 8 : Nat) : Int) := by rw [← IntWalk.i64_left, IntWalk.i64_in _ (by omega)]; exact b2
  generalize keyL A = ka at HK HOA HKA
  generalize keyL (B + 4) = kb at HK HOB HKB
  generalize keyL (C + 8) = kc at HK HOC HKC
  clear hS hN2 hA2 hB2 hC2 b1 b2
  generalize ((B + 4 : Nat) : Int) = xb at b3 HKB
  generalize ((C + 8 : Nat) : Int) = xc at b4 HKC
  go_enter Tryd.func4, Tryd.ntmps4
  go_wp2_with fail
  refine (HKA.out _).mono ?_
  rintro e w1 ⟨rfl, u1⟩
  go_wp2_with fail
  refine (HKB.out _).mono ?_
  rintro e w2 ⟨rfl, u2⟩
  go_wp2_with fail
  refine (HKC.out _).mono ?_
  rintro e w3 ⟨rfl, u3⟩
  have HU3 := hid (u1.trans (u2.trans u3))
  clear HKA HKB HKC u1 u2 u3
  go_wp2_with fail
  obtain ⟨w4, hw4⟩ : ∃ W, W = w3.alloc (.cells #[.string ka, .string kb, .string kc] 9) := ⟨_, rfl⟩
  have HU4 : Hid (Up Nul w w4) := HU3.out.trans (by rw [hw4]; exact (Up.refl _ _).alloc _)
  have HB4 : Hid (w4.heap[w3.heap.size]? = some (.cells #[.string ka, .string kb, .string kc] 9 (0, 0))) := by show _ = _; rw [hw4]; exact heap_alloc_new _ _
  have HG4 : Hid (w.heap.size ≤ w3.heap.size ∧ w3.heap.size < w4.heap.size) := ⟨HU3.out.size, (Array.getElem?_eq_some_iff.1 HB4.out).1⟩
  rw [← hw4]
  clear hw4
  generalize w3.heap.size = kg at HB4 HG4 ⊢
  refine (new_any w4).mono ?_
  rintro e w5 ⟨p, bm, bs, rfl, h5, u5⟩
  have H5 := hid h5
  have HU5 := hid u5
  clear h5 u5
  go_wp2_with fail
  obtain ⟨w6, hw6⟩ : ∃ W, W = w5.alloc (.cells #[.int .i64 0] 3) := ⟨_, rfl⟩
  have u6 : Up Nul w5 w6 := by rw [hw6]; exact (Up.refl _ _).alloc _
  have b6 : w6.heap[w5.heap.size]? = some (.cells #[.int .i64 0] 3 (0, 0)) := by rw [hw6]; exact heap_alloc_new _ _
  obtain ⟨X, hX⟩ : ∃ X : Nat → Prop, X = fun k => k = kg ∨ k = w5.heap.size := ⟨_, rfl⟩
  have HW6 : Hid (WL w w6 p bm bs 0 MM.new w5.heap.size 0 X) := by
    refine ⟨⟨_, _, ⟨H5.out.nxt u6, fun k hk => Nat.lt_of_lt_of_le hk.2 u6.size, fun k hk => Nat.le_trans HU4.out.size hk.1, (HU4.out.trans HU5.out).trans u6⟩, fun k hk hF => ?_⟩, inv_new, b6, Nat.le_trans HU4.out.size HU5.out.size, by rw [hX]; exact .inr rfl, fun k hk => ?_⟩
    · rw [hX] at hk
      have h1 := hF.1
      have h2 := hF.2
      have h3 := HG4.out
      rcases hk with rfl | rfl <;> omega
    · rw [hX] at hk
      have h1 := (Array.getElem?_eq_some_iff.1 b6).1
      have h2 := HG4.out
      have h3 := HU5.out.size
      rcases hk with rfl | rfl <;> omega
  have HK6 : Hid (w6.heap[kg]? = some (.cells #[.string ka, .string kb, .string kc] 9 (0, 0))) := ((HU5.out.trans u6).block kg HG4.out.2 (fun e => e)).trans HB4.out
  have HPI : Hid (w5.heap.size ≠ kg) := by have h1 := HG4.out; have h2 := HU5.out.size; show _ ≠ _; omega
  have HXK : Hid (X kg ∧ X w5.heap.size) := by rw [hX]; exact ⟨.inl rfl, .inr rfl⟩
  rw [← hw6]
  clear hw6 hX b6 u6
  generalize w5.heap.size = pi at HW6 HPI HXK ⊢
  go_loopw [13] (fun i wr => ∃ t : Nat, t ≤ 3 ∧ i = .int .i64 (t : Nat) ∧ WL w wr p bm bs (12 * t) (stP ka kb kc N t) pi (3 * t) X ∧ wr.heap[kg]? = some (.cells #[.string ka, .string kb, .string kc] 9 (0, 0))) (fun i _ => 3 - (intOf i).toNat)
  case atStart => exact ⟨0, by omega, rfl, HW6.out, HK6.out⟩
  case round =>
    obtain ⟨t, ht, rfl, hwl, hkg⟩ := hrel
    obtain rfl | rfl | rfl | rfl : t = 0 ∨ t = 1 ∨ t = 2 ∨ t = 3 := by omega
    · have HW := hid hwl
      have HKB := hid hkg
      have x1 : wr.cell? ⟨kg, 0, none⟩ = some (.string ka) := by simp [World.cell?, hkg]
      have HC : Hid (∀ V, Up (fun k => k ≠ kg) wr V → V.cell? ⟨kg, 0, none⟩ = some (.string ka)) := fun V u => (u.cell (p := ⟨kg, 0, none⟩) (by have := lt_of_cell x1; exact this) (fun e => e rfl)).trans x1
      have HR0 : Hid (Up (fun k => k ≠ kg) wr wr) := Up.refl _ _
      have HCL : Hid (Calls Tryd.prog 10 #[.int .i64 3, .pointer (some ⟨pi, 0, none⟩)] wr.drew fun e w' => ∃ g c, e = .returned (.slice (some ⟨g, 0, none⟩) 3 c) ∧ (3 ≤ c ∧ (c : Int) ≤ 9223372036854775807) ∧ RowL w' (some ⟨g, 0, none⟩) (wlocs 0 3) ∧ WL w w' p bm bs 0 (stP ka kb kc N 0) pi 3 X ∧ Up (One pi) wr.drew w') := WL.locs (hwl.nxt (Up.refl _ _).drew) 3 (by omega) (by omega)
      have HAP : Hid (∀ (V : World) (g c : Nat), WL w V p bm bs 0 (stP ka kb kc N 0) pi 3 X → (3 ≤ c ∧ (c : Int) ≤ 9223372036854775807) → RowL V (some ⟨g, 0, none⟩) (wlocs 0 3) → Calls Tryd.prog 7 #[.pointer (some ⟨p, 0, none⟩), .agg #[.int .i64 1, .string ka, .int .i64 N, .int .i64 (IntKind.i64.wrap 1), .slice none 0 0, .int .i64 0, .slice (some ⟨g, 0, none⟩) 3 c, .int .i64 0, .int .i64 0, .int .i64 0, .int .i64 0, .int .i64 0, .int .i64 0]] V fun e w' => e = .returned (.int .i64 0) ∧ WL w w' p bm bs 12 (stP ka kb kc N 1) pi 3 X ∧ Up (fun k => ¬ X k) V w') := fun V g c hw hc hr =>
        hw.step HS.out ⟨1, ka, N, 1, [], 0, wlocs 0 3, tb0⟩ (w_1 HK.out HOA.out HN2.out) (show (1 : Int) ≤ 1 ∧ (1 : Int) ≤ 6 by omega) none (some ⟨g, 0, none⟩) 0 3 0 c rfl rfl ⟨.inl rfl, hr, Nat.zero_le _, by show 3 ≤ 100000; omega⟩ (by have := HOA.out.1.2; show ka.size ≤ 100000; omega) (by omega) hc (by omega)
      clear hwl hkg
      go_wp2_with fail
      go_region_held3 (fun V => V.cell? ⟨kg, 0, none⟩ = some (.string ka))
        (first | exact HC.out _ (by assumption) | exact HC.out _ HR0.out.drew)
        (first
          | (go_at_call 10; (with_reducible refine HCL.out.mono ?_); rintro e wA ⟨g, c, rfl, hc, hr, hw, hu⟩; have uA : Up (fun k => k ≠ kg) wr wA := (HR0.out.drew.trans (hu.mono fun _ _ e => by have e : _ = pi := e; rw [e]; exact HPI.out)); have HLA := hid (HAP.out wA g c hw hc hr); clear hc hr hw hu)
          | (go_at_call 7; (with_reducible refine HLA.out.mono ?_); rintro e wB ⟨rfl, hwB, uB⟩; have uC : Up (fun k => k ≠ kg) wr wB := uA.thn uB (fun j e => .inl (show j ≠ kg from fun e2 => e (by rw [e2]; exact HXK.out.1))))
          | fail)
      all_goals
        have HWB := hid hwB
        have HKG : Hid (wB.heap[kg]? = some (.cells #[.string ka, .string kb, .string kc] 9 (0, 0))) := (uC.block kg (Array.getElem?_eq_some_iff.1 HKB.out).1 (fun e => e rfl)).trans HKB.out
        clear hwB uA uB uC
        go_wp2_with fail
        go_roundw
        case rel => exact ⟨1, by omega, by go_num, HWB.out, HKG.out⟩
        case measure => simp [intOf]
    · have HW := hid hwl
      have HKB := hid hkg
      have x1 : wr.cell? ⟨kg, 1, none⟩ = some (.string kb) := by simp [World.cell?, hkg]
      have HC : Hid (∀ V, Up (fun k => k ≠ kg) wr V → V.cell? ⟨kg, 1, none⟩ = some (.string kb)) := fun V u => (u.cell (p := ⟨kg, 1, none⟩) (by have := lt_of_cell x1; exact this) (fun e => e rfl)).trans x1
      have HR0 : Hid (Up (fun k => k ≠ kg) wr wr) := Up.refl _ _
      have HCL : Hid (Calls Tryd.prog 10 #[.int .i64 3, .pointer (some ⟨pi, 0, none⟩)] wr.drew fun e w' => ∃ g c, e = .returned (.slice (some ⟨g, 0, none⟩) 3 c) ∧ (3 ≤ c ∧ (c : Int) ≤ 9223372036854775807) ∧ RowL w' (some ⟨g, 0, none⟩) (wlocs 3 3) ∧ WL w w' p bm bs 12 (stP ka kb kc N 1) pi 6 X ∧ Up (One pi) wr.drew w') := WL.locs (hwl.nxt (Up.refl _ _).drew) 3 (by omega) (by omega)
      have HAP : Hid (∀ (V : World) (g c : Nat), WL w V p bm bs 12 (stP ka kb kc N 1) pi 6 X → (3 ≤ c ∧ (c : Int) ≤ 9223372036854775807) → RowL V (some ⟨g, 0, none⟩) (wlocs 3 3) → Calls Tryd.prog 7 #[.pointer (some ⟨p, 0, none⟩), .agg #[.int .i64 1, .string kb, .int .i64 N, .int .i64 (IntKind.i64.wrap 2), .slice none 0 0, .int .i64 0, .slice (some ⟨g, 0, none⟩) 3 c, .int .i64 0, .int .i64 0, .int .i64 0, .int .i64 0, .int .i64 0, .int .i64 0]] V fun e w' => e = .returned (.int .i64 0) ∧ WL w w' p bm bs 24 (stP ka kb kc N 2) pi 6 X ∧ Up (fun k => ¬ X k) V w') := fun V g c hw hc hr =>
        hw.step HS.out ⟨1, kb, N, 2, [], 0, wlocs 3 3, tb0⟩ (w_2 HK.out HOB.out HN2.out) (show (1 : Int) ≤ 1 ∧ (1 : Int) ≤ 6 by omega) none (some ⟨g, 0, none⟩) 0 3 0 c rfl rfl ⟨.inl rfl, hr, Nat.zero_le _, by show 3 ≤ 100000; omega⟩ (by have := HOB.out.1.2; show kb.size ≤ 100000; omega) (by omega) hc (by omega)
      clear hwl hkg
      go_wp2_with fail
      go_region_held3 (fun V => V.cell? ⟨kg, 1, none⟩ = some (.string kb))
        (first | exact HC.out _ (by assumption) | exact HC.out _ HR0.out.drew)
        (first
          | (go_at_call 10; (with_reducible refine HCL.out.mono ?_); rintro e wA ⟨g, c, rfl, hc, hr, hw, hu⟩; have uA : Up (fun k => k ≠ kg) wr wA := (HR0.out.drew.trans (hu.mono fun _ _ e => by have e : _ = pi := e; rw [e]; exact HPI.out)); have HLA := hid (HAP.out wA g c hw hc hr); clear hc hr hw hu)
          | (go_at_call 7; (with_reducible refine HLA.out.mono ?_); rintro e wB ⟨rfl, hwB, uB⟩; have uC : Up (fun k => k ≠ kg) wr wB := uA.thn uB (fun j e => .inl (show j ≠ kg from fun e2 => e (by rw [e2]; exact HXK.out.1))))
          | fail)
      all_goals
        have HWB := hid hwB
        have HKG : Hid (wB.heap[kg]? = some (.cells #[.string ka, .string kb, .string kc] 9 (0, 0))) := (uC.block kg (Array.getElem?_eq_some_iff.1 HKB.out).1 (fun e => e rfl)).trans HKB.out
        clear hwB uA uB uC
        go_wp2_with fail
        go_roundw
        case rel => exact ⟨2, by omega, by go_num, HWB.out, HKG.out⟩
        case measure => simp [intOf]
    · have HW := hid hwl
      have HKB := hid hkg
      have x1 : wr.cell? ⟨kg, 2, none⟩ = some (.string kc) := by simp [World.cell?, hkg]
      have HC : Hid (∀ V, Up (fun k => k ≠ kg) wr V → V.cell? ⟨kg, 2, none⟩ = some (.string kc)) := fun V u => (u.cell (p := ⟨kg, 2, none⟩) (by have := lt_of_cell x1; exact this) (fun e => e rfl)).trans x1
      have HR0 : Hid (Up (fun k => k ≠ kg) wr wr) := Up.refl _ _
      have HCL : Hid (Calls Tryd.prog 10 #[.int .i64 3, .pointer (some ⟨pi, 0, none⟩)] wr.drew fun e w' => ∃ g c, e = .returned (.slice (some ⟨g, 0, none⟩) 3 c) ∧ (3 ≤ c ∧ (c : Int) ≤ 9223372036854775807) ∧ RowL w' (some ⟨g, 0, none⟩) (wlocs 6 3) ∧ WL w w' p bm bs 24 (stP ka kb kc N 2) pi 9 X ∧ Up (One pi) wr.drew w') := WL.locs (hwl.nxt (Up.refl _ _).drew) 3 (by omega) (by omega)
      have HAP : Hid (∀ (V : World) (g c : Nat), WL w V p bm bs 24 (stP ka kb kc N 2) pi 9 X → (3 ≤ c ∧ (c : Int) ≤ 9223372036854775807) → RowL V (some ⟨g, 0, none⟩) (wlocs 6 3) → Calls Tryd.prog 7 #[.pointer (some ⟨p, 0, none⟩), .agg #[.int .i64 1, .string kc, .int .i64 N, .int .i64 (IntKind.i64.wrap 3), .slice none 0 0, .int .i64 0, .slice (some ⟨g, 0, none⟩) 3 c, .int .i64 0, .int .i64 0, .int .i64 0, .int .i64 0, .int .i64 0, .int .i64 0]] V fun e w' => e = .returned (.int .i64 0) ∧ WL w w' p bm bs 36 (stP ka kb kc N 3) pi 9 X ∧ Up (fun k => ¬ X k) V w') := fun V g c hw hc hr =>
        hw.step HS.out ⟨1, kc, N, 3, [], 0, wlocs 6 3, tb0⟩ (w_3 HK.out HOC.out HN2.out) (show (1 : Int) ≤ 1 ∧ (1 : Int) ≤ 6 by omega) none (some ⟨g, 0, none⟩) 0 3 0 c rfl rfl ⟨.inl rfl, hr, Nat.zero_le _, by show 3 ≤ 100000; omega⟩ (by have := HOC.out.1.2; show kc.size ≤ 100000; omega) (by omega) hc (by omega)
      clear hwl hkg
      go_wp2_with fail
      go_region_held3 (fun V => V.cell? ⟨kg, 2, none⟩ = some (.string kc))
        (first | exact HC.out _ (by assumption) | exact HC.out _ HR0.out.drew)
        (first
          | (go_at_call 10; (with_reducible refine HCL.out.mono ?_); rintro e wA ⟨g, c, rfl, hc, hr, hw, hu⟩; have uA : Up (fun k => k ≠ kg) wr wA := (HR0.out.drew.trans (hu.mono fun _ _ e => by have e : _ = pi := e; rw [e]; exact HPI.out)); have HLA := hid (HAP.out wA g c hw hc hr); clear hc hr hw hu)
          | (go_at_call 7; (with_reducible refine HLA.out.mono ?_); rintro e wB ⟨rfl, hwB, uB⟩; have uC : Up (fun k => k ≠ kg) wr wB := uA.thn uB (fun j e => .inl (show j ≠ kg from fun e2 => e (by rw [e2]; exact HXK.out.1))))
          | fail)
      all_goals
        have HWB := hid hwB
        have HKG : Hid (wB.heap[kg]? = some (.cells #[.string ka, .string kb, .string kc] 9 (0, 0))) := (uC.block kg (Array.getElem?_eq_some_iff.1 HKB.out).1 (fun e => e rfl)).trans HKB.out
        clear hwB uA uB uC
        go_wp2_with fail
        go_roundw
        case rel => exact ⟨3, by omega, by go_num, HWB.out, HKG.out⟩
        case measure => simp [intOf]
    · have HW := hid hwl
      have HKB := hid hkg
      clear hwl hkg ht
      go_wp2_with fail
      go_loopw [14] (fun i wr => ∃ t : Nat, t ≤ 3 ∧ i = .int .i64 (t : Nat) ∧ WL w wr p bm bs (36 + 12 * t) (stQ ka kb kc N t) pi (9 + 6 * t) X ∧ wr.heap[kg]? = some (.cells #[.string ka, .string kb, .string kc] 9 (0, 0))) (fun i _ => 3 - (intOf i).toNat)
      case atStart => exact ⟨0, by omega, rfl, HW.out, HKB.out⟩
      case round =>
        obtain ⟨t, ht, rfl, hwl, hkg⟩ := hrel
        obtain rfl | rfl | rfl | rfl : t = 0 ∨ t = 1 ∨ t = 2 ∨ t = 3 := by omega
        · have HW := hid hwl
          have HKB := hid hkg
          have x1 : wr.cell? ⟨kg, 0, none⟩ = some (.string ka) := by simp [World.cell?, hkg]
          have HC : Hid (∀ V, Up (fun k => k ≠ kg) wr V → V.cell? ⟨kg, 0, none⟩ = some (.string ka)) := fun V u => (u.cell (p := ⟨kg, 0, none⟩) (by have := lt_of_cell x1; exact this) (fun e => e rfl)).trans x1
          have HR0 : Hid (Up (fun k => k ≠ kg) wr wr) := Up.refl _ _
          have HCL : Hid (Calls Tryd.prog 10 #[.int .i64 6, .pointer (some ⟨pi, 0, none⟩)] wr.drew fun e w' => ∃ g c, e = .returned (.slice (some ⟨g, 0, none⟩) 6 c) ∧ (6 ≤ c ∧ (c : Int) ≤ 9223372036854775807) ∧ RowL w' (some ⟨g, 0, none⟩) (wlocs 9 6) ∧ WL w w' p bm bs 36 (stQ ka kb kc N 0) pi 15 X ∧ Up (One pi) wr.drew w') := WL.locs (hwl.nxt (Up.refl _ _).drew) 6 (by omega) (by omega)
          have HAP : Hid (∀ (V : World) (g c : Nat), WL w V p bm bs 36 (stQ ka kb kc N 0) pi 15 X → (6 ≤ c ∧ (c : Int) ≤ 9223372036854775807) → RowL V (some ⟨g, 0, none⟩) (wlocs 9 6) → Calls Tryd.prog 7 #[.pointer (some ⟨p, 0, none⟩), .agg #[.int .i64 3, .string ka, .int .i64 0, .int .i64 (IntKind.i64.wrap 4), .slice none 0 0, .int .i64 0, .slice (some ⟨g, 0, none⟩) 6 c, .int .i64 0, .int .i64 0, .int .i64 0, .int .i64 0, .int .i64 0, .int .i64 0]] V fun e w' => e = .returned (.int .i64 0) ∧ WL w w' p bm bs 48 (stQ ka kb kc N 1) pi 15 X ∧ Up (fun k => ¬ X k) V w') := fun V g c hw hc hr =>
            hw.step HS.out ⟨3, ka, 0, 4, [], 0, wlocs 9 6, tb0⟩ (w_4 HK.out HOA.out) (show (1 : Int) ≤ 3 ∧ (3 : Int) ≤ 6 by omega) none (some ⟨g, 0, none⟩) 0 6 0 c rfl rfl ⟨.inl rfl, hr, Nat.zero_le _, by show 6 ≤ 100000; omega⟩ (by have := HOA.out.1.2; show ka.size ≤ 100000; omega) (by omega) hc (by omega)
          clear hwl hkg
          go_wp2_with fail
          go_region_held3 (fun V => V.cell? ⟨kg, 0, none⟩ = some (.string ka))
            (first | exact HC.out _ (by assumption) | exact HC.out _ HR0.out.drew)
            (first
              | (go_at_call 10; (with_reducible refine HCL.out.mono ?_); rintro e wA ⟨g, c, rfl, hc, hr, hw, hu⟩; have uA : Up (fun k => k ≠ kg) wr wA := (HR0.out.drew.trans (hu.mono fun _ _ e => by have e : _ = pi := e; rw [e]; exact HPI.out)); have HLA := hid (HAP.out wA g c hw hc hr); clear hc hr hw hu)
              | (go_at_call 7; (with_reducible refine HLA.out.mono ?_); rintro e wB ⟨rfl, hwB, uB⟩; have uC : Up (fun k => k ≠ kg) wr wB := uA.thn uB (fun j e => .inl (show j ≠ kg from fun e2 => e (by rw [e2]; exact HXK.out.1))))
              | fail)
          all_goals
            have HWB := hid hwB
            have HKG : Hid (wB.heap[kg]? = some (.cells #[.string ka, .string kb, .string kc] 9 (0, 0))) := (uC.block kg (Array.getElem?_eq_some_iff.1 HKB.out).1 (fun e => e rfl)).trans HKB.out
            clear hwB uA uB uC
            go_wp2_with fail
            go_roundw
            case rel => exact ⟨_, _, _, _, _, _, _, _, _, _, _, _, _, _, _, _, _, _, _, ⟨1, by omega, by go_num, HWB.out, HKG.out⟩, rfl⟩
            case measure => simp [intOf]
        · have HW := hid hwl
          have HKB := hid hkg
          have x1 : wr.cell? ⟨kg, 1, none⟩ = some (.string kb) := by simp [World.cell?, hkg]
          have HC : Hid (∀ V, Up (fun k => k ≠ kg) wr V → V.cell? ⟨kg, 1, none⟩ = some (.string kb)) := fun V u => (u.cell (p := ⟨kg, 1, none⟩) (by have := lt_of_cell x1; exact this) (fun e => e rfl)).trans x1
          have HR0 : Hid (Up (fun k => k ≠ kg) wr wr) := Up.refl _ _
          have HCL : Hid (Calls Tryd.prog 10 #[.int .i64 6, .pointer (some ⟨pi, 0, none⟩)] wr.drew fun e w' => ∃ g c, e = .returned (.slice (some ⟨g, 0, none⟩) 6 c) ∧ (6 ≤ c ∧ (c : Int) ≤ 9223372036854775807) ∧ RowL w' (some ⟨g, 0, none⟩) (wlocs 15 6) ∧ WL w w' p bm bs 48 (stQ ka kb kc N 1) pi 21 X ∧ Up (One pi) wr.drew w') := WL.locs (hwl.nxt (Up.refl _ _).drew) 6 (by omega) (by omega)
          have HAP : Hid (∀ (V : World) (g c : Nat), WL w V p bm bs 48 (stQ ka kb kc N 1) pi 21 X → (6 ≤ c ∧ (c : Int) ≤ 9223372036854775807) → RowL V (some ⟨g, 0, none⟩) (wlocs 15 6) → Calls Tryd.prog 7 #[.pointer (some ⟨p, 0, none⟩), .agg #[.int .i64 3, .string kb, .int .i64 0, .int .i64 (IntKind.i64.wrap 5), .slice none 0 0, .int .i64 1, .slice (some ⟨g, 0, none⟩) 6 c, .int .i64 0, .int .i64 0, .int .i64 0, .int .i64 0, .int .i64 0, .int .i64 0]] V fun e w' => e = .returned (.int .i64 0) ∧ WL w w' p bm bs 60 (stQ ka kb kc N 2) pi 21 X ∧ Up (fun k => ¬ X k) V w') := fun V g c hw hc hr =>
            hw.step HS.out ⟨3, kb, 0, 5, [], 1, wlocs 15 6, tb0⟩ (w_5 HK.out HOB.out) (show (1 : Int) ≤ 3 ∧ (3 : Int) ≤ 6 by omega) none (some ⟨g, 0, none⟩) 0 6 0 c rfl rfl ⟨.inl rfl, hr, Nat.zero_le _, by show 6 ≤ 100000; omega⟩ (by have := HOB.out.1.2; show kb.size ≤ 100000; omega) (by omega) hc (by omega)
          clear hwl hkg
          go_wp2_with fail
          go_region_held3 (fun V => V.cell? ⟨kg, 1, none⟩ = some (.string kb))
            (first | exact HC.out _ (by assumption) | exact HC.out _ HR0.out.drew)
            (first
              | (go_at_call 10; (with_reducible refine HCL.out.mono ?_); rintro e wA ⟨g, c, rfl, hc, hr, hw, hu⟩; have uA : Up (fun k => k ≠ kg) wr wA := (HR0.out.drew.trans (hu.mono fun _ _ e => by have e : _ = pi := e; rw [e]; exact HPI.out)); have HLA := hid (HAP.out wA g c hw hc hr); clear hc hr hw hu)
              | (go_at_call 7; (with_reducible refine HLA.out.mono ?_); rintro e wB ⟨rfl, hwB, uB⟩; have uC : Up (fun k => k ≠ kg) wr wB := uA.thn uB (fun j e => .inl (show j ≠ kg from fun e2 => e (by rw [e2]; exact HXK.out.1))))
              | fail)
          all_goals
            have HWB := hid hwB
            have HKG : Hid (wB.heap[kg]? = some (.cells #[.string ka, .string kb, .string kc] 9 (0, 0))) := (uC.block kg (Array.getElem?_eq_some_iff.1 HKB.out).1 (fun e => e rfl)).trans HKB.out
            clear hwB uA uB uC
            go_wp2_with fail
            go_roundw
            case rel => exact ⟨_, _, _, _, _, _, _, _, _, _, _, _, _, _, _, _, _, _, _, ⟨2, by omega, by go_num, HWB.out, HKG.out⟩, rfl⟩
            case measure => simp [intOf]
        · have HW := hid hwl
          have HKB := hid hkg
          have x1 : wr.cell? ⟨kg, 2, none⟩ = some (.string kc) := by simp [World.cell?, hkg]
          have HC : Hid (∀ V, Up (fun k => k ≠ kg) wr V → V.cell? ⟨kg, 2, none⟩ = some (.string kc)) := fun V u => (u.cell (p := ⟨kg, 2, none⟩) (by have := lt_of_cell x1; exact this) (fun e => e rfl)).trans x1
          have HR0 : Hid (Up (fun k => k ≠ kg) wr wr) := Up.refl _ _
          have HCL : Hid (Calls Tryd.prog 10 #[.int .i64 6, .pointer (some ⟨pi, 0, none⟩)] wr.drew fun e w' => ∃ g c, e = .returned (.slice (some ⟨g, 0, none⟩) 6 c) ∧ (6 ≤ c ∧ (c : Int) ≤ 9223372036854775807) ∧ RowL w' (some ⟨g, 0, none⟩) (wlocs 21 6) ∧ WL w w' p bm bs 60 (stQ ka kb kc N 2) pi 27 X ∧ Up (One pi) wr.drew w') := WL.locs (hwl.nxt (Up.refl _ _).drew) 6 (by omega) (by omega)
          have HAP : Hid (∀ (V : World) (g c : Nat), WL w V p bm bs 60 (stQ ka kb kc N 2) pi 27 X → (6 ≤ c ∧ (c : Int) ≤ 9223372036854775807) → RowL V (some ⟨g, 0, none⟩) (wlocs 21 6) → Calls Tryd.prog 7 #[.pointer (some ⟨p, 0, none⟩), .agg #[.int .i64 3, .string kc, .int .i64 0, .int .i64 (IntKind.i64.wrap 6), .slice none 0 0, .int .i64 2, .slice (some ⟨g, 0, none⟩) 6 c, .int .i64 0, .int .i64 0, .int .i64 0, .int .i64 0, .int .i64 0, .int .i64 0]] V fun e w' => e = .returned (.int .i64 0) ∧ WL w w' p bm bs 72 (stQ ka kb kc N 3) pi 27 X ∧ Up (fun k => ¬ X k) V w') := fun V g c hw hc hr =>
            hw.step HS.out ⟨3, kc, 0, 6, [], 2, wlocs 21 6, tb0⟩ (w_6 HK.out HOC.out) (show (1 : Int) ≤ 3 ∧ (3 : Int) ≤ 6 by omega) none (some ⟨g, 0, none⟩) 0 6 0 c rfl rfl ⟨.inl rfl, hr, Nat.zero_le _, by show 6 ≤ 100000; omega⟩ (by have := HOC.out.1.2; show kc.size ≤ 100000; omega) (by omega) hc (by omega)
          clear hwl hkg
          go_wp2_with fail
          go_region_held3 (fun V => V.cell? ⟨kg, 2, none⟩ = some (.string kc))
            (first | exact HC.out _ (by assumption) | exact HC.out _ HR0.out.drew)
            (first
              | (go_at_call 10; (with_reducible refine HCL.out.mono ?_); rintro e wA ⟨g, c, rfl, hc, hr, hw, hu⟩; have uA : Up (fun k => k ≠ kg) wr wA := (HR0.out.drew.trans (hu.mono fun _ _ e => by have e : _ = pi := e; rw [e]; exact HPI.out)); have HLA := hid (HAP.out wA g c hw hc hr); clear hc hr hw hu)
              | (go_at_call 7; (with_reducible refine HLA.out.mono ?_); rintro e wB ⟨rfl, hwB, uB⟩; have uC : Up (fun k => k ≠ kg) wr wB := uA.thn uB (fun j e => .inl (show j ≠ kg from fun e2 => e (by rw [e2]; exact HXK.out.1))))
              | fail)
          all_goals
            have HWB := hid hwB
            have HKG : Hid (wB.heap[kg]? = some (.cells #[.string ka, .string kb, .string kc] 9 (0, 0))) := (uC.block kg (Array.getElem?_eq_some_iff.1 HKB.out).1 (fun e => e rfl)).trans HKB.out
            clear hwB uA uB uC
            go_wp2_with fail
            go_roundw
            case rel => exact ⟨_, _, _, _, _, _, _, _, _, _, _, _, _, _, _, _, _, _, _, ⟨3, by omega, by go_num, HWB.out, HKG.out⟩, rfl⟩
            case measure => simp [intOf]
        · have HWW : Hid (WL w wr p bm bs 72 (stQ ka kb kc N 3) pi 27 X) := hwl
          have HKK := hid hkg
          have HR1 : Hid (Up (fun k => k ≠ kg) wr wr) := Up.refl _ _
          clear hwl hkg ht HW HKB
          go_wp2_with fail
          refine ((HWW.out.nxt ((Up.refl _ _).alloc (.cells #[.int .i64 4, .int .i64 6, .int .i64 5] 3))).locs 4 (by omega) (by omega)).mono ?_
          rintro e w7 ⟨g1, c1, rfl, hc1, hr1, hw1, hu1⟩
          have HI1 := hid (rowI_by (rowI3 wr 4 6 5) hu1 (fun e => by have := HWW.out.lt pi HWW.out.xp; omega))
          have HM1 := hid hw1
          have HRL1 := hid hr1
          have HC1 := hid hc1
          have HK1 : Hid (w7.heap[kg]? = some (.cells #[.string ka, .string kb, .string kc] 9 (0, 0))) := ((((Up.refl Nul wr).alloc (.cells #[.int .i64 4, .int .i64 6, .int .i64 5] 3)).nul.trans hu1).block kg (Array.getElem?_eq_some_iff.1 HKK.out).1 (fun e => HPI.out (Eq.symm e))).trans HKK.out
          clear hc1 hr1 hw1 hu1
          generalize wr.heap.size = gs1 at HI1 ⊢
          go_wp2_with fail
          refine (HM1.out.step HS.out ⟨5, noK, 0, 7, [4, 6, 5], 0, wlocs 27 4, tb0⟩ w_7 (show (1 : Int) ≤ 5 ∧ (5 : Int) ≤ 6 by omega) (some ⟨gs1, 0, none⟩) (some ⟨g1, 0, none⟩) 3 4 3 c1 rfl rfl ⟨HI1.out, HRL1.out, (by decide), by show 4 ≤ 100000; omega⟩ (by decide) (by omega) HC1.out (by omega)).mono ?_
          rintro e w8 ⟨rfl, hw8, u8⟩
          have HM8 := hid hw8
          have HK8 : Hid (w8.heap[kg]? = some (.cells #[.string ka, .string kb, .string kc] 9 (0, 0))) := (u8.block kg (Array.getElem?_eq_some_iff.1 HK1.out).1 (fun e => e HXK.out.1)).trans HK1.out
          clear hw8 u8 HM1 HI1 HRL1 HC1 HK1 HWW HKK
          go_wp2_with fail
          refine ((HM8.out.nxt ((Up.refl _ _).alloc (.cells #[.int .i64 4, .int .i64 5, .int .i64 6] 3))).locs 4 (by omega) (by omega)).mono ?_
          rintro e w9 ⟨g2, c2, rfl, hc2, hr2, hw2, hu2⟩
          have HI2 := hid (rowI_by (rowI3 w8 4 5 6) hu2 (fun e => by have := HM8.out.lt pi HM8.out.xp; omega))
          have HM2 := hid hw2
          have HRL2 := hid hr2
          have HC2 := hid hc2
          have HK2 : Hid (w9.heap[kg]? = some (.cells #[.string ka, .string kb, .string kc] 9 (0, 0))) := ((((Up.refl Nul w8).alloc (.cells #[.int .i64 4, .int .i64 5, .int .i64 6] 3)).nul.trans hu2).block kg (Array.getElem?_eq_some_iff.1 HK8.out).1 (fun e => HPI.out (Eq.symm e))).trans HK8.out
          clear hc2 hr2 hw2 hu2
          generalize w8.heap.size = gs2 at HI2 ⊢
          go_wp2_with fail
          refine (HM2.out.step HS.out ⟨5, noK, 0, 7, [4, 5, 6], 0, wlocs 31 4, tb0⟩ (w_8 HK.out) (show (1 : Int) ≤ 5 ∧ (5 : Int) ≤ 6 by omega) (some ⟨gs2, 0, none⟩) (some ⟨g2, 0, none⟩) 3 4 3 c2 rfl rfl ⟨HI2.out, HRL2.out, (by decide), by show 4 ≤ 100000; omega⟩ (by decide) (by omega) HC2.out (by omega)).mono ?_
          rintro e w10 ⟨rfl, hw10, u10⟩
          have HM10 := hid hw10
          have HK10 : Hid (w10.heap[kg]? = some (.cells #[.string ka, .string kb, .string kc] 9 (0, 0))) := (u10.block kg (Array.getElem?_eq_some_iff.1 HK2.out).1 (fun e => e HXK.out.1)).trans HK2.out
          clear hw10 u10 HM2 HI2 HRL2 HC2 HK2 HM8 HK8
          go_wp2_with fail
          obtain ⟨Q10, F10, m10, x10⟩ := HM10.out.m
          have HST : Hid (Calls Tryd.prog 11 #[.pointer (some ⟨p, 0, none⟩), .int .i64 7] w10 fun e w' => ∃ g c, e = .returned (.tuple #[.agg #[.int .i64 3, .int .i64 0, .string ka, .string kb, .string kc, .slice (some ⟨g, 0, none⟩) 16 c], .bool true]) ∧ w10.heap.size ≤ g ∧ g < w'.heap.size ∧ OwnLo 0 w' (.slice (some ⟨g, 0, none⟩) 16 c) L16 ∧ Up Nul w10 w') := stripe_some m10.m 7 (by decide) ⟨3, 0, ka, kb, kc, L16⟩ rfl (show 1 ≤ 16 ∧ 16 ≤ 1000 by omega)
          clear m10 x10
          refine HST.out.mono ?_
          rintro e w11 ⟨g7, c7, rfl, hg7, hg7l, ho7, u11⟩
          have HM11 := hid (HM10.out.with u11 hg7 hg7l)
          have HN7 : Hid (g7 ≠ pi) := by have := HM10.out.lt pi HM10.out.xp; show _ ≠ _; omega
          have HR11 : Hid (RowL w11 (some ⟨g7, 0, none⟩) L16) := by
            obtain ⟨a, c', e, h⟩ := ho7.row
            injection e with e
            rw [e]; exact h
          have HK11 : Hid (w11.heap[kg]? = some (.cells #[.string ka, .string kb, .string kc] 9 (0, 0))) := (u11.block kg (Array.getElem?_eq_some_iff.1 HK10.out).1 (fun e => e)).trans HK10.out
          clear hg7 hg7l ho7 u11 HST HM10 HK10
          obtain ⟨w12, hw12⟩ : ∃ W, W = w11.alloc (.cells #[.int .i64 3, .int .i64 0, .string ka, .string kb, .string kc, .slice (some ⟨g7, 0, none⟩) 16 c7] 43) := ⟨_, rfl⟩
          have u12 : Up Nul w11 w12 := by rw [hw12]; exact (Up.refl _ _).alloc _
          have b12 : w12.heap[w11.heap.size]? = some (.cells #[.int .i64 3, .int .i64 0, .string ka, .string kb, .string kc, .slice (some ⟨g7, 0, none⟩) 16 c7] 43 (0, 0)) := by rw [hw12]; exact heap_alloc_new _ _
          have HM12 := hid (HM11.out.with u12 (Nat.le_refl _) (Array.getElem?_eq_some_iff.1 b12).1)
          have HR12 := hid (HR11.out.nxt u12)
          have HK12 : Hid (w12.heap[kg]? = some (.cells #[.string ka, .string kb, .string kc] 9 (0, 0))) := (u12.block kg (Array.getElem?_eq_some_iff.1 HK11.out).1 (fun e => e)).trans HK11.out
          have HB12 := hid b12
          have x12 : (w11.alloc (.cells #[.int .i64 3, .int .i64 0, .string ka, .string kb, .string kc, .slice (some ⟨g7, 0, none⟩) 16 c7] 43)).cell? ⟨kg, 2, none⟩ = some (.string kc) := by
            rw [← hw12]
            have := HK12.out
            simp [World.cell?, this]
          have HW12 := hid hw12
          have HNW : Hid (w11.heap.size ≠ pi) := by have := HM11.out.lt pi HM11.out.xp; show _ ≠ _; omega
          clear hw12 u12 b12 HM11 HR11 HK11
          go_wp2_with fail
          rw [← HW12.out]
          generalize w11.heap.size = pw at HM12 HB12 HNW ⊢
          clear x12 HW12
          obtain ⟨Q12, F12, m12, x12⟩ := HM12.out.m
          have HBL : Hid (Calls Tryd.prog 12 #[.pointer (some ⟨p, 0, none⟩), .string kc] w12 fun e w' => e = .returned (.tuple #[.agg #[.int .i64 N, .int .i64 7, .int .i64 2], .bool true]) ∧ Up Nul w12 w') := by
            have := blob_any m12.m kc (big_max (by have := HOC.out.1.2; omega))
            rw [show (mkM ka kb kc (some ⟨N, 7, 0⟩) (some ⟨N, 7, 1⟩) (some ⟨N, 7, 2⟩) (S7 ka kb kc) 7).b kc = some ⟨N, 7, 2⟩ from bF_c HK.out] at this
            exact this
          clear m12 x12
          refine HBL.out.mono ?_
          rintro e w13 ⟨rfl, u13⟩
          have u14 : Up Nul w13 (w13.alloc (.cells #[.int .i64 N, .int .i64 7, .int .i64 2] 47)) := (Up.refl _ _).alloc _
          have b14 := heap_alloc_new w13 (.cells #[.int .i64 N, .int .i64 7, .int .i64 2] 47)
          have y0 : (w13.alloc (.cells #[.int .i64 N, .int .i64 7, .int .i64 2] 47)).cell? ⟨pw, 0, none⟩ = some (.int .i64 3) := by have := ((u13.trans u14).block pw (Array.getElem?_eq_some_iff.1 HB12.out).1 (fun e => e)).trans HB12.out; simp only [World.cell?, this]; rfl
          have y5 : (w13.alloc (.cells #[.int .i64 N, .int .i64 7, .int .i64 2] 47)).cell? ⟨pw, 5, none⟩ = some (.slice (some ⟨g7, 0, none⟩) 16 c7) := by have := ((u13.trans u14).block pw (Array.getElem?_eq_some_iff.1 HB12.out).1 (fun e => e)).trans HB12.out; simp only [World.cell?, this]; rfl
          have HU14 : Hid (Up Nul w12 (w13.alloc (.cells #[.int .i64 N, .int .i64 7, .int .i64 2] 47))) := u13.trans u14
          clear u14
          have HU13 := hid u13
          clear u13 HBL
          go_wp2_with fail
          obtain ⟨w14, hw14⟩ : ∃ W, W = w13.alloc (.cells #[.int .i64 N, .int .i64 7, .int .i64 2] 47) := ⟨_, rfl⟩
          rw [← hw14] at HU14 ⊢
          have HM14 := hid (HM12.out.nxt HU14.out)
          have HSI := hid (HM14.out.len_sids (by omega) 1 (fun is hi => is_7 hi))
          clear hw14 b14 y0 y5
          refine HSI.out.mono ?_
          rintro e w15 ⟨sa15, sc15, rfl, u15⟩
          have HM15 := hid (HM14.out.nxt u15)
          have HU15 : Hid (Up Nul w12 w15) := HU14.out.trans u15
          have HK15 : Hid (w15.heap[kg]? = some (.cells #[.string ka, .string kb, .string kc] 9 (0, 0))) := (HU15.out.block kg (Array.getElem?_eq_some_iff.1 HK12.out).1 (fun e => e)).trans HK12.out
          have x15 : w15.cell? ⟨kg, 1, none⟩ = some (.string kb) := by have := HK15.out; simp [World.cell?, this]
          clear u15 HSI HM14
          go_wp2_with fail
          have HA15 : Hid (Calls Tryd.prog 7 #[.pointer (some ⟨p, 0, none⟩), .agg #[.int .i64 2, .string kb, .int .i64 0, .int .i64 0, .slice none 0 0, .int .i64 0, .slice none 0 0, .int .i64 0, .int .i64 0, .int .i64 0, .int .i64 0, .int .i64 0, .int .i64 0]] w15 _) := HM15.out.step HS.out ⟨2, kb, 0, 0, [], 0, wlocs 0 0, tb0⟩ (w_9 HK.out HOB.out) (show (1 : Int) ≤ 2 ∧ (2 : Int) ≤ 6 by omega) none none 0 0 0 0 rfl rfl ⟨.inl rfl, .inl rfl, Nat.zero_le _, Nat.zero_le _⟩ (by have := HOB.out.1.2; show kb.size ≤ 100000; omega) (by omega) (by omega) (by omega)
          refine HA15.out.mono ?_
          rintro e w16 ⟨rfl, hw16, u16⟩
          have HM16 := hid hw16
          have HU16 := hid u16
          have HLC := hid (HM16.out.len_locs (by omega) 16 (by omega) (fun is hi => al_8 hi))
          clear hw16 u16 HA15 x15
          go_wp2_with fail
          refine HLC.out.mono ?_
          rintro e w17 ⟨la17, lc17, rfl, u17⟩
          have HM17 := hid (HM16.out.nxt u17)
          have HU17 := hid u17
          clear u17 HLC
          go_wp2_with fail
          obtain ⟨SX, hSX⟩ : ∃ S : Nat → Prop, S = fun k => ¬ ((X k ∨ k = g7) ∨ k = pw) ∨ k = pi := ⟨_, rfl⟩
          have HSX : Hid (∀ k, ¬ ((X k ∨ k = g7) ∨ k = pw) ∨ k = pi → SX k) := fun k h => by rw [hSX]; exact h
          have HSN : Hid (¬ SX kg ∧ ¬ SX g7 ∧ ¬ SX pw) := by
            rw [hSX]
            exact ⟨fun e => e.elim (fun e => e (.inl (.inl HXK.out.1))) (fun e => HPI.out e.symm), fun e => e.elim (fun e => e (.inl (.inr rfl))) HN7.out, fun e => e.elim (fun e => e (.inr rfl)) HNW.out⟩
          have UX17 : Hid (Up SX w12 w17) := HU15.out.nul.trans ((HU16.out.mono fun k _ e => HSX.out k (.inl e)).trans HU17.out.nul)
          clear hSX HU15 HU16 HU17 HU14 HM15 HM16 HM12
          refine ((HM17.out.nxt ((Up.refl _ _).alloc (.cells #[.int .i64 8, .int .i64 9, .int .i64 10] 3))).locs 6 (by omega) (by omega)).mono ?_
          rintro e w18 ⟨gla, cla, rfl, hc, hr, hw, hu⟩
          have HIa := hid (rowI_by (rowI3 w17 8 9 10) hu (fun e => by have := HM17.out.lt pi HM17.out.xp; omega))
          have HMAa := hid hw
          have HRa := hid hr
          have HCa := hid hc
          have UXAa : Hid (Up SX w12 w18) := UX17.out.trans (((Up.refl Nul w17).alloc (.cells #[.int .i64 8, .int .i64 9, .int .i64 10] 3)).nul.trans (hu.mono fun k _ e => HSX.out k (.inr e)))
          clear hc hr hw hu UX17
          generalize w17.heap.size = gsa at HIa ⊢
          go_wp2_with fail
          refine (HMAa.out.step HS.out ⟨6, noK, 0, 7, [8, 9, 10], 0, wlocs 35 6, tb0⟩ (w_10 HK.out) (show (1 : Int) ≤ 6 ∧ (6 : Int) ≤ 6 by omega) (some ⟨gsa, 0, none⟩) (some ⟨gla, 0, none⟩) 3 6 3 cla rfl rfl ⟨HIa.out, HRa.out, (by decide), by show 6 ≤ 100000; omega⟩ (by decide) (by omega) HCa.out (by omega)).mono ?_
          rintro e w19 ⟨rfl, hwb, ub⟩
          have HMBa := hid hwb
          have UXBa : Hid (Up SX w12 w19) := UXAa.out.trans (ub.mono fun k _ e => HSX.out k (.inl e))
          clear hwb ub UXAa HMAa HIa HRa HCa HM17
          go_wp2_with fail
          refine ((HMBa.out.nxt ((Up.refl _ _).alloc (.cells #[.int .i64 8, .int .i64 0, .int .i64 9] 3))).locs 4 (by omega) (by omega)).mono ?_
          rintro e w20 ⟨glb, clb, rfl, hc, hr, hw, hu⟩
          have HIb := hid (rowI_by (rowI3 w19 8 0 9) hu (fun e => by have := HMBa.out.lt pi HMBa.out.xp; omega))
          have HMAb := hid hw
          have HRb := hid hr
          have HCb := hid hc
          have UXAb : Hid (Up SX w12 w20) := UXBa.out.trans (((Up.refl Nul w19).alloc (.cells #[.int .i64 8, .int .i64 0, .int .i64 9] 3)).nul.trans (hu.mono fun k _ e => HSX.out k (.inr e)))
          clear hc hr hw hu UXBa
          generalize w19.heap.size = gsb at HIb ⊢
          go_wp2_with fail
          refine (HMAb.out.step HS.out ⟨6, noK, 0, 7, [8, 0, 9], 0, wlocs 41 4, tb0⟩ (w_11 HK.out) (show (1 : Int) ≤ 6 ∧ (6 : Int) ≤ 6 by omega) (some ⟨gsb, 0, none⟩) (some ⟨glb, 0, none⟩) 3 4 3 clb rfl rfl ⟨HIb.out, HRb.out, (by decide), by show 4 ≤ 100000; omega⟩ (by decide) (by omega) HCb.out (by omega)).mono ?_
          rintro e w21 ⟨rfl, hwb, ub⟩
          have HMBb := hid hwb
          have UXBb : Hid (Up SX w12 w21) := UXAb.out.trans (ub.mono fun k _ e => HSX.out k (.inl e))
          clear hwb ub UXAb HMAb HIb HRb HCb HMBa
          go_wp2_with fail
          obtain ⟨Q21, F21, m21, x21⟩ := HMBb.out.m
          have HST9 : Hid (Calls Tryd.prog 11 #[.pointer (some ⟨p, 0, none⟩), .int .i64 9] w21 fun e w' => ∃ g c, e = .returned (.tuple #[.agg #[.int .i64 2, .int .i64 2, .string kc, .string ⟨#[]⟩, .string ⟨#[]⟩, .slice (some ⟨g, 0, none⟩) 6 c], .bool true]) ∧ w21.heap.size ≤ g ∧ g < w'.heap.size ∧ OwnLo 0 w' (.slice (some ⟨g, 0, none⟩) 6 c) L9 ∧ Up Nul w21 w') := stripe_some m21.m 9 (by decide) ⟨2, 2, kc, noK, noK, L9⟩ rfl (show 1 ≤ 6 ∧ 6 ≤ 1000 by omega)
          clear m21 x21
          refine HST9.out.mono ?_
          rintro e w22 ⟨g9, c9, rfl, hg9, hg9l, ho9, u22⟩
          have HM22 := hid (HMBb.out.nxt u22)
          have UX22 : Hid (Up SX w12 w22) := UXBb.out.trans u22.nul
          have hr9 : RowL w22 (some ⟨g9, 0, none⟩) L9 := by
            obtain ⟨a, c', e, h⟩ := ho9.row
            injection e with e
            rw [e]; exact h
          obtain ⟨w23, hw23⟩ : ∃ W, W = w22.alloc (.cells #[.int .i64 2, .int .i64 2, .string kc, .string ⟨#[]⟩, .string ⟨#[]⟩, .slice (some ⟨g9, 0, none⟩) 6 c9] 43) := ⟨_, rfl⟩
          have u23 : Up Nul w22 w23 := by rw [hw23]; exact (Up.refl _ _).alloc _
          have UX23 : Hid (Up SX w12 w23) := UX22.out.trans u23.nul
          have bw := (UX23.out.block pw (Array.getElem?_eq_some_iff.1 HB12.out).1 HSN.out.2.2).trans HB12.out
          have e0 : w23.cell? ⟨pw, 5, none⟩ = some (.slice (some ⟨g7, 0, none⟩) 16 c7) := by simp [World.cell?, bw]
          have hr9' := hr9.nxt u23
          have cells9 : ∀ j v, (⟨22, 22, 22⟩ : Lo).cells[j]? = some v → w23.cell? ⟨g9, 0 + 0 * 3 + j, none⟩ = some v := by
            rcases hr9' with e | ⟨g', o', e, _, hc⟩
            · exact absurd (congrArg List.length e) (by decide)
            · injection e with e
              injection e with e1 e2
              subst e1 e2
              exact hc 0 ⟨22, 22, 22⟩ rfl
          have cells7 : ∀ j v, (⟨22, 22, 22⟩ : Lo).cells[j]? = some v → w23.cell? ⟨g7, 0 + 8 * 3 + j, none⟩ = some v := by
            rcases HR12.out with e | ⟨g', o', e, hl, hc⟩
            · exact absurd (congrArg List.length e) (by decide)
            · injection e with e
              injection e with e1 e2
              subst e1 e2
              intro j v hj
              exact (UX23.out.cell (p := ⟨g7, 0 + 8 * 3 + j, none⟩) hl HSN.out.2.1).trans (hc 8 ⟨22, 22, 22⟩ rfl j v hj)
          have n0 : w23.cell? ⟨g9, 0, none⟩ = some (.int .i64 22) := cells9 0 _ rfl
          have n1 : w23.cell? ⟨g9, 1, none⟩ = some (.int .i64 22) := cells9 1 _ rfl
          have n2 : w23.cell? ⟨g9, 2, none⟩ = some (.int .i64 22) := cells9 2 _ rfl
          have m0 : w23.cell? ⟨g7, 24, none⟩ = some (.int .i64 22) := cells7 0 _ rfl
          have m1 : w23.cell? ⟨g7, 25, none⟩ = some (.int .i64 22) := cells7 1 _ rfl
          have m2 : w23.cell? ⟨g7, 26, none⟩ = some (.int .i64 22) := cells7 2 _ rfl
          have HM23 := hid (HM22.out.nxt u23)
          have HLC9 := hid (HM23.out.len_locs (by omega) 12 (by omega) (fun is hi => al_10 hi))
          have b23 : w23.heap[w22.heap.size]? = some (.cells #[.int .i64 2, .int .i64 2, .string kc, .string ⟨#[]⟩, .string ⟨#[]⟩, .slice (some ⟨g9, 0, none⟩) 6 c9] 43 (0, 0)) := by rw [hw23]; exact heap_alloc_new _ _
          have HCC : Hid (∀ V, Up Nul w23 V → V.cell? ⟨w22.heap.size, 0, none⟩ = some (.int .i64 2) ∧ V.cell? ⟨w22.heap.size, 1, none⟩ = some (.int .i64 2) ∧ V.cell? ⟨w22.heap.size, 5, none⟩ = some (.slice (some ⟨g9, 0, none⟩) 6 c9) ∧ V.cell? ⟨pw, 5, none⟩ = some (.slice (some ⟨g7, 0, none⟩) 16 c7) ∧ V.cell? ⟨g9, 0, none⟩ = some (.int .i64 22) ∧ V.cell? ⟨g9, 1, none⟩ = some (.int .i64 22) ∧ V.cell? ⟨g9, 2, none⟩ = some (.int .i64 22) ∧ V.cell? ⟨g7, 24, none⟩ = some (.int .i64 22) ∧ V.cell? ⟨g7, 25, none⟩ = some (.int .i64 22) ∧ V.cell? ⟨g7, 26, none⟩ = some (.int .i64 22)) := fun V u => by
            have b := (u.block w22.heap.size (Array.getElem?_eq_some_iff.1 b23).1 (fun e => e)).trans b23
            have go : ∀ {q v}, w23.cell? q = some v → V.cell? q = some v := fun {q v} h => (u.cell (p := q) (lt_of_cell h) (fun e => e)).trans h
            exact ⟨by simp [World.cell?, b], by simp [World.cell?, b], by simp [World.cell?, b], go e0, go n0, go n1, go n2, go m0, go m1, go m2⟩
          have HW23 := hid hw23
          have HR23 : Hid (Up Nul w23 w23) := Up.refl _ _
          have HLD : Hid (∀ V, Up Nul w23 V → Calls Tryd.prog 14 #[.pointer (some ⟨p, 0, none⟩)] V fun e w' => ∃ a c, e = .returned (.slice a 12 c) ∧ Up Nul V w') := fun V u => (HM23.out.nxt u).len_locs (by omega) 12 (by omega) (fun is hi => al_10 hi)
          clear hg9 hg9l ho9 u22 hr9 u23 bw hr9' cells9 cells7 hw23 HST9 HMBb UXBb UX22 HM22 e0 n0 n1 n2 m0 m1 m2 b23 HLC9
          go_wp2_with fail
          rw [← HW23.out]
          clear HW23
          generalize w22.heap.size = py at HCC ⊢
          go_region_held3 (fun V => V.cell? ⟨py, 0, none⟩ = some (.int .i64 2) ∧ V.cell? ⟨py, 1, none⟩ = some (.int .i64 2) ∧ V.cell? ⟨py, 5, none⟩ = some (.slice (some ⟨g9, 0, none⟩) 6 c9) ∧ V.cell? ⟨pw, 5, none⟩ = some (.slice (some ⟨g7, 0, none⟩) 16 c7) ∧ V.cell? ⟨g9, 0, none⟩ = some (.int .i64 22) ∧ V.cell? ⟨g9, 1, none⟩ = some (.int .i64 22) ∧ V.cell? ⟨g9, 2, none⟩ = some (.int .i64 22) ∧ V.cell? ⟨g7, 24, none⟩ = some (.int .i64 22) ∧ V.cell? ⟨g7, 25, none⟩ = some (.int .i64 22) ∧ V.cell? ⟨g7, 26, none⟩ = some (.int .i64 22))
            (first | exact HCC.out _ (by assumption) | exact HCC.out _ HR23.out.drew)
            (first
              | (go_at_call 14; (with_reducible refine (HLD.out _ HR23.out.drew).mono ?_); rintro e wA ⟨la24, lc24, rfl, kA⟩; have uA : Up Nul w23 wA := HR23.out.drew.trans kA)
              | fail)
          all_goals
            have HUA := hid uA
            clear uA
            have HM24 := hid (HM23.out.nxt HUA.out)
            have UX24 : Hid (Up SX w12 wA) := UX23.out.trans HUA.out.nul
            clear HUA
            have HKGc : Hid (wA.heap[kg]? = some (.cells #[.string ka, .string kb, .string kc] 9 (0, 0))) := (UX24.out.block kg (Array.getElem?_eq_some_iff.1 HK12.out).1 HSN.out.1).trans HK12.out
            have xc : wA.cell? ⟨kg, 0, none⟩ = some (.string ka) := by have := HKGc.out; simp [World.cell?, this]
            have HCc : Hid (∀ V, Up SX wA V → V.cell? ⟨kg, 0, none⟩ = some (.string ka)) := fun V u => (u.cell (p := ⟨kg, 0, none⟩) (by have := (Array.getElem?_eq_some_iff.1 HKGc.out).1; exact this) HSN.out.1).trans xc
            have HRc : Hid (Up SX wA wA) := Up.refl _ _
            have HCLc : Hid (Calls Tryd.prog 10 #[.int .i64 3, .pointer (some ⟨pi, 0, none⟩)] wA.drew _) := WL.locs (HM24.out.nxt (Up.refl _ _).drew) 3 (by omega) (by omega)
            go_wp2_with fail
            go_region_held3 (fun V => V.cell? ⟨kg, 0, none⟩ = some (.string ka))
              (first | exact HCc.out _ (by assumption) | exact HCc.out _ HRc.out.drew)
              (first
                | (go_at_call 10; (with_reducible refine HCLc.out.mono ?_); rintro e wAc ⟨g, c, rfl, hc, hr, hw, hu⟩; have uA : Up SX wA wAc := (HRc.out.drew.trans (hu.mono fun k _ e => HSX.out k (.inr e))); have HLA : Hid (Calls Tryd.prog 7 #[.pointer (some ⟨p, 0, none⟩), .agg #[.int .i64 4, .string ka, .int .i64 0, .int .i64 10, .slice none 0 0, .int .i64 0, .slice (some ⟨g, 0, none⟩) 3 c, .int .i64 0, .int .i64 0, .int .i64 0, .int .i64 0, .int .i64 0, .int .i64 0]] wAc _) := hw.step HS.out ⟨4, ka, 0, 10, [], 0, wlocs 45 3, tb0⟩ (w_12 HK.out HOA.out) (show (1 : Int) ≤ 4 ∧ (4 : Int) ≤ 6 by omega) none (some ⟨g, 0, none⟩) 0 3 0 c rfl rfl ⟨.inl rfl, hr, Nat.zero_le _, by show 3 ≤ 100000; omega⟩ (by have := HOA.out.1.2; show ka.size ≤ 100000; omega) (by omega) hc (by omega); clear hc hr hw hu)
                | (go_at_call 7; (with_reducible refine HLA.out.mono ?_); rintro e wBc ⟨rfl, hwB, uB⟩; have uC : Up SX wA wBc := uA.trans (uB.mono fun k _ e => HSX.out k (.inl e)))
                | fail)
            all_goals
              have HMc := hid hwB
              have UXc : Hid (Up SX w12 wBc) := UX24.out.trans uC
              clear hwB uA uB uC xc
              have HKGd : Hid (wBc.heap[kg]? = some (.cells #[.string ka, .string kb, .string kc] 9 (0, 0))) := (UXc.out.block kg (Array.getElem?_eq_some_iff.1 HK12.out).1 HSN.out.1).trans HK12.out
              have xd : wBc.cell? ⟨kg, 2, none⟩ = some (.string kc) := by have := HKGd.out; simp [World.cell?, this]
              have HAd : Hid (Calls Tryd.prog 7 #[.pointer (some ⟨p, 0, none⟩), .agg #[.int .i64 2, .string kc, .int .i64 0, .int .i64 0, .slice none 0 0, .int .i64 0, .slice none 0 0, .int .i64 0, .int .i64 0, .int .i64 0, .int .i64 0, .int .i64 0, .int .i64 0]] wBc _) := HMc.out.step HS.out ⟨2, kc, 0, 0, [], 0, wlocs 0 0, tb0⟩ (w_13 HK.out HOC.out) (show (1 : Int) ≤ 2 ∧ (2 : Int) ≤ 6 by omega) none none 0 0 0 0 rfl rfl ⟨.inl rfl, .inl rfl, Nat.zero_le _, Nat.zero_le _⟩ (by have := HOC.out.1.2; show kc.size ≤ 100000; omega) (by omega) (by omega) (by omega)
              go_wp2_with fail
              refine HAd.out.mono ?_
              rintro e wBd ⟨rfl, hwd, ud⟩
              have HMd := hid hwd
              have UXd : Hid (Up SX w12 wBd) := UXc.out.trans (ud.mono fun k _ e => HSX.out k (.inl e))
              clear hwd ud xd HAd
              have HKGe : Hid (wBd.heap[kg]? = some (.cells #[.string ka, .string kb, .string kc] 9 (0, 0))) := (UXd.out.block kg (Array.getElem?_eq_some_iff.1 HK12.out).1 HSN.out.1).trans HK12.out
              have xe : wBd.cell? ⟨kg, 2, none⟩ = some (.string kc) := by have := HKGe.out; simp [World.cell?, this]
              have HCe : Hid (∀ V, Up SX wBd V → V.cell? ⟨kg, 2, none⟩ = some (.string kc)) := fun V u => (u.cell (p := ⟨kg, 2, none⟩) (by have := (Array.getElem?_eq_some_iff.1 HKGe.out).1; exact this) HSN.out.1).trans xe
              have HRe : Hid (Up SX wBd wBd) := Up.refl _ _
              have HCLe : Hid (Calls Tryd.prog 10 #[.int .i64 6, .pointer (some ⟨pi, 0, none⟩)] wBd.drew _) := WL.locs (HMd.out.nxt (Up.refl _ _).drew) 6 (by omega) (by omega)
              go_wp2_with fail
              go_region_held3 (fun V => V.cell? ⟨kg, 2, none⟩ = some (.string kc))
                (first | exact HCe.out _ (by assumption) | exact HCe.out _ HRe.out.drew)
                (first
                  | (go_at_call 10; (with_reducible refine HCLe.out.mono ?_); rintro e wAe ⟨g, c, rfl, hc, hr, hw, hu⟩; have uA : Up SX wBd wAe := (HRe.out.drew.trans (hu.mono fun k _ e => HSX.out k (.inr e))); have HLA : Hid (Calls Tryd.prog 7 #[.pointer (some ⟨p, 0, none⟩), .agg #[.int .i64 3, .string kc, .int .i64 0, .int .i64 11, .slice none 0 0, .int .i64 0, .slice (some ⟨g, 0, none⟩) 6 c, .int .i64 0, .int .i64 0, .int .i64 0, .int .i64 0, .int .i64 0, .int .i64 0]] wAe _) := hw.step HS.out ⟨3, kc, 0, 11, [], 0, wlocs 48 6, tb0⟩ (w_14 HK.out HOC.out) (show (1 : Int) ≤ 3 ∧ (3 : Int) ≤ 6 by omega) none (some ⟨g, 0, none⟩) 0 6 0 c rfl rfl ⟨.inl rfl, hr, Nat.zero_le _, by show 6 ≤ 100000; omega⟩ (by have := HOC.out.1.2; show kc.size ≤ 100000; omega) (by omega) hc (by omega); clear hc hr hw hu)
                  | (go_at_call 7; (with_reducible refine HLA.out.mono ?_); rintro e wBe ⟨rfl, hwB, uB⟩; have uC : Up SX wBd wBe := uA.trans (uB.mono fun k _ e => HSX.out k (.inl e)))
                  | fail)
              all_goals
                have HMe := hid hwB
                have UXe : Hid (Up SX w12 wBe) := UXd.out.trans uC
                clear hwB uA uB uC xe
                have HKGf : Hid (wBe.heap[kg]? = some (.cells #[.string ka, .string kb, .string kc] 9 (0, 0))) := (UXe.out.block kg (Array.getElem?_eq_some_iff.1 HK12.out).1 HSN.out.1).trans HK12.out
                have xf : wBe.cell? ⟨kg, 0, none⟩ = some (.string ka) := by have := HKGf.out; simp [World.cell?, this]
                have HCf : Hid (∀ V, Up Nul wBe V → V.cell? ⟨kg, 0, none⟩ = some (.string ka)) := fun V u => (u.cell (p := ⟨kg, 0, none⟩) (by have := (Array.getElem?_eq_some_iff.1 HKGf.out).1; exact this) (fun e => e)).trans xf
                have HRf : Hid (Up Nul wBe wBe) := Up.refl _ _
                have HLf : Hid (∀ V, Up Nul wBe V → Calls Tryd.prog 14 #[.pointer (some ⟨p, 0, none⟩)] V fun e w' => ∃ a c, e = .returned (.slice a 3 c) ∧ Up Nul V w') := fun V u => (HMe.out.nxt u).len_locs (by omega) 3 (by omega) (fun is hi => al_12 hi)
                have HKf : Hid (∀ V, Up Nul wBe V → Calls Tryd.prog 15 #[.pointer (some ⟨p, 0, none⟩)] V fun e w' => ∃ g c, e = .returned (.slice (some ⟨g, 0, none⟩) 1 c) ∧ w'.cell? ⟨g, 0, none⟩ = some (.string ka) ∧ Up Nul V w') := fun V u => (HMe.out.nxt u).key_keys (by omega) ka (fun ks hk => ks_12 (big_max (by have := HOA.out.1.2; omega)) hk)
                have HNf : Hid (∀ V, Up Nul wBe V → Calls Tryd.prog 8 #[.pointer (some ⟨p, 0, none⟩)] V fun e w' => e = .returned (.int .i64 11) ∧ w' = V) := fun V u => by
                  obtain ⟨Q', F', m', _⟩ := (HMe.out.nxt u).m
                  exact next_any m'.m (show (10 : Int) ≤ 2147483647 ∧ (0 : Int) ≤ 10 by omega)
                have HAf : Hid (∀ V, Up Nul wBe V → Calls Tryd.prog 9 #[] V fun e w' => e = .returned (.bool true) ∧ Up Nul V w') := fun V u => awake_any V (HS.out.nxt (HMe.out.up.trans u))
                have HWf : Hid (Up Nul w wBe) := HMe.out.up
                go_wp2_with fail
                refine wp_region_held_drew (S := (fun V : World => V.cell? ⟨kg, 0, none⟩ = some (.string ka))) (by kernel_rfl) (by exact (HCf.out _ HRf.out.drew)) (fun hHeld => ?_)
                refine wpAnyH_take (i := 0) (oi := ⟨some 225, _, _, _, _, _⟩) (v := ?vz1) rfl (by kernel_rfl) (by kernel_rfl) (by kernel_rfl) (fun _ _ _ h => h) (Or.inl ⟨by rfl, ?yz1⟩) (by assumption) ?rz1
                case yz1 => (intro w hSw; (try dsimp only at hSw); go_simp; try with_reducible rfl)
                try simp only [Act.put, List.setIfInBounds_toArray, List.set_cons_zero, List.set_cons_succ]
                refine wpAnyH_take (i := 1) (oi := ⟨some 226, _, _, _, _, _⟩) (v := ?vz2) rfl (by kernel_rfl) (by kernel_rfl) (by kernel_rfl) (fun _ _ _ h => h) (Or.inl ⟨by rfl, ?yz2⟩) (by assumption) ?rz2
                case yz2 => (intro w hSw; (try dsimp only at hSw); go_simp; try with_reducible rfl)
                try simp only [Act.put, List.setIfInBounds_toArray, List.set_cons_zero, List.set_cons_succ]
                refine wpAnyH_take (i := 2) (oi := ⟨some 227, _, _, _, _, _⟩) (v := ?vz3) rfl (by kernel_rfl) (by kernel_rfl) (by kernel_rfl) (fun _ _ _ h => h) (Or.inl ⟨by rfl, ?yz3⟩) (by assumption) ?rz3
                case yz3 => (intro w hSw; (try dsimp only at hSw); go_simp; try with_reducible rfl)
                try simp only [Act.put, List.setIfInBounds_toArray, List.set_cons_zero, List.set_cons_succ]
                refine wpAnyH_take (i := 3) (oi := ⟨some 228, _, _, _, _, _⟩) (v := ?vz4) rfl (by kernel_rfl) (by kernel_rfl) (by kernel_rfl) (fun _ _ _ h => h) (Or.inl ⟨by rfl, ?yz4⟩) (by assumption) ?rz4
                case yz4 => (intro w hSw; (try dsimp only at hSw); go_simp; try with_reducible rfl)
                try simp only [Act.put, List.setIfInBounds_toArray, List.set_cons_zero, List.set_cons_succ]
                refine wpAnyH_take (i := 4) (oi := ⟨some 229, _, _, _, _, _⟩) (v := ?vz5) rfl (by kernel_rfl) (by kernel_rfl) (by kernel_rfl) (fun _ _ _ h => h) (Or.inl ⟨by rfl, ?yz5⟩) (by assumption) ?rz5
                case yz5 => (intro w hSw; (try dsimp only at hSw); go_simp; try with_reducible rfl)
                try simp only [Act.put, List.setIfInBounds_toArray, List.set_cons_zero, List.set_cons_succ]
                refine wpAnyH_take (i := 5) (oi := ⟨some 230, _, _, _, _, _⟩) (v := ?vz6) rfl (by kernel_rfl) (by kernel_rfl) (by kernel_rfl) (fun _ _ _ h => h) (Or.inl ⟨by rfl, ?yz6⟩) (by assumption) ?rz6
                case yz6 => (intro w hSw; (try dsimp only at hSw); go_simp; try with_reducible rfl)
                try simp only [Act.put, List.setIfInBounds_toArray, List.set_cons_zero, List.set_cons_succ]
                refine wpAnyH_take (i := 6) (oi := ⟨some 231, _, _, _, _, _⟩) (v := ?vz7) rfl (by kernel_rfl) (by kernel_rfl) (by kernel_rfl) (fun _ _ _ h => h) (Or.inl ⟨by rfl, ?yz7⟩) (by assumption) ?rz7
                case yz7 => (intro w hSw; (try dsimp only at hSw); go_simp; try with_reducible rfl)
                try simp only [Act.put, List.setIfInBounds_toArray, List.set_cons_zero, List.set_cons_succ]
                refine wpAnyH_take (i := 7) (oi := ⟨some 232, _, _, _, _, _⟩) (v := ?vz8) rfl (by kernel_rfl) (by kernel_rfl) (by kernel_rfl) (fun _ _ _ h => h) (Or.inl ⟨by rfl, ?yz8⟩) (by assumption) ?rz8
                case yz8 => (intro w hSw; (try dsimp only at hSw); go_simp; try with_reducible rfl)
                try simp only [Act.put, List.setIfInBounds_toArray, List.set_cons_zero, List.set_cons_succ]
                refine wpAnyH_take (i := 8) (oi := ⟨some 233, _, _, _, _, _⟩) (v := ?vz9) rfl (by kernel_rfl) (by kernel_rfl) (by kernel_rfl) (fun _ _ _ h => h) (Or.inl ⟨by rfl, ?yz9⟩) (by assumption) ?rz9
                case yz9 => (intro w hSw; (try dsimp only at hSw); go_simp; try with_reducible rfl)
                try simp only [Act.put, List.setIfInBounds_toArray, List.set_cons_zero, List.set_cons_succ]
                refine wpAnyH_take (i := 9) (oi := ⟨some 234, _, _, _, _, _⟩) (v := ?vz10) rfl (by kernel_rfl) (by kernel_rfl) (by kernel_rfl) (fun _ _ _ h => h) (Or.inl ⟨by rfl, ?yz10⟩) (by assumption) ?rz10
                case yz10 => (intro w hSw; (try dsimp only at hSw); go_simp; try with_reducible rfl)
                try simp only [Act.put, List.setIfInBounds_toArray, List.set_cons_zero, List.set_cons_succ]
                refine wpAnyH_take (i := 10) (oi := ⟨some 235, _, _, _, _, _⟩) (v := ?vz11) rfl (by kernel_rfl) (by kernel_rfl) (by kernel_rfl) (fun _ _ _ h => h) (Or.inl ⟨by rfl, ?yz11⟩) (by assumption) ?rz11
                case yz11 => (intro w hSw; (try dsimp only at hSw); go_simp; try with_reducible rfl)
                try simp only [Act.put, List.setIfInBounds_toArray, List.set_cons_zero, List.set_cons_succ]
                refine wpAnyH_take (i := 11) (oi := ⟨some 236, _, _, _, _, _⟩) (v := ?vz12) rfl (by kernel_rfl) (by kernel_rfl) (by kernel_rfl) (fun _ _ _ h => h) (Or.inl ⟨by rfl, ?yz12⟩) (by assumption) ?rz12
                case yz12 => (intro w hSw; (try dsimp only at hSw); go_simp; try with_reducible rfl)
                try simp only [Act.put, List.setIfInBounds_toArray, List.set_cons_zero, List.set_cons_succ]
                refine wpAnyH_ready (rs := [12]) (by kernel_rfl) (by simp) ?_
                refine AllReadyH.cons (o := ⟨some 237, _, _, _, _, _⟩) rfl (fun K hK => ?_) AllReadyH.nil
                go_simp
                go_at_call 14; (with_reducible refine (HLf.out _ (by first | assumption | exact HRf.out.drew | exact Up.drew (by assumption))).mono ?_); rintro e wL ⟨laL, lcL, rfl, kL⟩; have uL : Up Nul wBe wL := Up.trans (by first | assumption | exact HRf.out.drew | exact Up.drew (by assumption)) kL; clear kL
                refine hK.out _ _ ?kz13 (fun hHeld => ?_)
                case kz13 => exact HCf.out _ uL
                clear hK K
                try simp only [Act.put, List.setIfInBounds_toArray, List.set_cons_zero, List.set_cons_succ]
                refine wpAnyH_take (i := 13) (oi := ⟨some 238, _, _, _, _, _⟩) (v := ?vz14) rfl (by kernel_rfl) (by kernel_rfl) (by kernel_rfl) (fun _ _ _ h => h) (Or.inl ⟨by rfl, ?yz14⟩) (by assumption) ?rz14
                case yz14 => (intro w hSw; (try dsimp only at hSw); go_simp; try with_reducible rfl)
                try simp only [Act.put, List.setIfInBounds_toArray, List.set_cons_zero, List.set_cons_succ]
                refine wpAnyH_take (i := 14) (oi := ⟨some 239, _, _, _, _, _⟩) (v := ?vz15) rfl (by kernel_rfl) (by kernel_rfl) (by kernel_rfl) (fun _ _ _ h => h) (Or.inl ⟨by rfl, ?yz15⟩) (by assumption) ?rz15
                case yz15 => (intro w hSw; (try dsimp only at hSw); go_simp; try with_reducible rfl)
                try simp only [Act.put, List.setIfInBounds_toArray, List.set_cons_zero, List.set_cons_succ]
                refine wpAnyH_take (i := 15) (oi := ⟨some 240, _, _, _, _, _⟩) (v := ?vz16) rfl (by kernel_rfl) (by kernel_rfl) (by kernel_rfl) (fun _ _ _ h => h) (Or.inl ⟨by rfl, ?yz16⟩) (by assumption) ?rz16
                case yz16 => (intro w hSw; (try dsimp only at hSw); go_simp; try with_reducible rfl)
                try simp only [Act.put, List.setIfInBounds_toArray, List.set_cons_zero, List.set_cons_succ]
                refine wpAnyH_take (i := 16) (oi := ⟨some 241, _, _, _, _, _⟩) (v := ?vz17) rfl (by kernel_rfl) (by kernel_rfl) (by kernel_rfl) (fun _ _ _ h => h) (Or.inl ⟨by rfl, ?yz17⟩) (by assumption) ?rz17
                case yz17 => (intro w hSw; (try dsimp only at hSw); go_simp; try with_reducible rfl)
                try simp only [Act.put, List.setIfInBounds_toArray, List.set_cons_zero, List.set_cons_succ]
                refine wpAnyH_take (i := 17) (oi := ⟨some 242, _, _, _, _, _⟩) (v := ?vz18) rfl (by kernel_rfl) (by kernel_rfl) (by kernel_rfl) (fun _ _ _ h => h) (Or.inl ⟨by rfl, ?yz18⟩) (by assumption) ?rz18
                case yz18 => (intro w hSw; (try dsimp only at hSw); go_simp; try with_reducible rfl)
                try simp only [Act.put, List.setIfInBounds_toArray, List.set_cons_zero, List.set_cons_succ]
                refine wpAnyH_ready (rs := [18]) (by kernel_rfl) (by simp) ?_
                refine AllReadyH.cons (o := ⟨some 243, _, _, _, _, _⟩) rfl (fun K hK => ?_) AllReadyH.nil
                go_simp
                go_at_call 15; (with_reducible refine (HKf.out _ (by first | assumption | exact HRf.out.drew | exact Up.drew (by assumption))).mono ?_); rintro e wJ ⟨gJ, cJ, rfl, xJ, kJ⟩; have uJ : Up Nul wBe wJ := Up.trans (by first | assumption | exact HRf.out.drew | exact Up.drew (by assumption)) kJ; clear kJ xJ
                refine hK.out _ _ ?kz19 (fun hHeld => ?_)
                case kz19 => exact HCf.out _ uJ
                clear hK K
                try simp only [Act.put, List.setIfInBounds_toArray, List.set_cons_zero, List.set_cons_succ]
                refine wpAnyH_take (i := 19) (oi := ⟨some 244, _, _, _, _, _⟩) (v := ?vz20) rfl (by kernel_rfl) (by kernel_rfl) (by kernel_rfl) (fun _ _ _ h => h) (Or.inl ⟨by rfl, ?yz20⟩) (by assumption) ?rz20
                case yz20 => (intro w hSw; (try dsimp only at hSw); go_simp; try with_reducible rfl)
                try simp only [Act.put, List.setIfInBounds_toArray, List.set_cons_zero, List.set_cons_succ]
                refine wpAnyH_take (i := 20) (oi := ⟨some 245, _, _, _, _, _⟩) (v := ?vz21) rfl (by kernel_rfl) (by kernel_rfl) (by kernel_rfl) (fun _ _ _ h => h) (Or.inl ⟨by rfl, ?yz21⟩) (by assumption) ?rz21
                case yz21 => (intro w hSw; (try dsimp only at hSw); go_simp; try with_reducible rfl)
                try simp only [Act.put, List.setIfInBounds_toArray, List.set_cons_zero, List.set_cons_succ]
                refine wpAnyH_take (i := 21) (oi := ⟨some 246, _, _, _, _, _⟩) (v := ?vz22) rfl (by kernel_rfl) (by kernel_rfl) (by kernel_rfl) (fun _ _ _ h => h) (Or.inl ⟨by rfl, ?yz22⟩) (by assumption) ?rz22
                case yz22 => (intro w hSw; (try dsimp only at hSw); go_simp; try with_reducible rfl)
                try simp only [Act.put, List.setIfInBounds_toArray, List.set_cons_zero, List.set_cons_succ]
                refine wpAnyH_take (i := 22) (oi := ⟨some 247, _, _, _, _, _⟩) (v := ?vz23) rfl (by kernel_rfl) (by kernel_rfl) (by kernel_rfl) (fun _ _ _ h => h) (Or.inl ⟨by rfl, ?yz23⟩) (by assumption) ?rz23
                case yz23 => (intro w hSw; (try dsimp only at hSw); go_simp; try with_reducible rfl)
                try simp only [Act.put, List.setIfInBounds_toArray, List.set_cons_zero, List.set_cons_succ]
                refine wpAnyH_take (i := 23) (oi := ⟨some 248, _, _, _, _, _⟩) (v := ?vz24) rfl (by kernel_rfl) (by kernel_rfl) (by kernel_rfl) (fun _ _ _ h => h) (Or.inl ⟨by rfl, ?yz24⟩) (by assumption) ?rz24
                case yz24 => (intro w hSw; (try dsimp only at hSw); go_simp; try with_reducible rfl)
                try simp only [Act.put, List.setIfInBounds_toArray, List.set_cons_zero, List.set_cons_succ]
                refine wpAnyH_take (i := 27) (oi := ⟨some 252, _, _, _, _, _⟩) (v := ?vz25) rfl (by kernel_rfl) (by kernel_rfl) (by kernel_rfl) (fun _ _ _ h => h) (Or.inl ⟨by rfl, ?yz25⟩) (by assumption) ?rz25
                case yz25 => (intro w hSw; (try dsimp only at hSw); go_simp; try with_reducible rfl)
                try simp only [Act.put, List.setIfInBounds_toArray, List.set_cons_zero, List.set_cons_succ]
                refine wpAnyH_take (i := 28) (oi := ⟨some 253, _, _, _, _, _⟩) (v := ?vz26) rfl (by kernel_rfl) (by kernel_rfl) (by kernel_rfl) (fun _ _ _ h => h) (Or.inl ⟨by rfl, ?yz26⟩) (by assumption) ?rz26
                case yz26 => (intro w hSw; (try dsimp only at hSw); go_simp; try with_reducible rfl)
                try simp only [Act.put, List.setIfInBounds_toArray, List.set_cons_zero, List.set_cons_succ]
                refine wpAnyH_take (i := 29) (oi := ⟨some 254, _, _, _, _, _⟩) (v := ?vz27) rfl (by kernel_rfl) (by kernel_rfl) (by kernel_rfl) (fun _ _ _ h => h) (Or.inl ⟨by rfl, ?yz27⟩) (by assumption) ?rz27
                case yz27 => (intro w hSw; (try dsimp only at hSw); go_simp; try with_reducible rfl)
                try simp only [Act.put, List.setIfInBounds_toArray, List.set_cons_zero, List.set_cons_succ]
                refine wpAnyH_ready (rs := [24]) (by kernel_rfl) (by simp) ?_
                refine AllReadyH.cons (o := ⟨some 249, _, _, _, _, _⟩) rfl (fun K hK => ?_) AllReadyH.nil
                go_simp
                go_at_call 15; (with_reducible refine (HKf.out _ (by first | assumption | exact HRf.out.drew | exact Up.drew (by assumption))).mono ?_); rintro e wK ⟨gK, cK, rfl, xK, kK⟩; have uK : Up Nul wBe wK := Up.trans (by first | assumption | exact HRf.out.drew | exact Up.drew (by assumption)) kK; clear kK
                refine hK.out _ _ ?kz28 (fun hHeld => ?_)
                case kz28 => exact HCf.out _ uK
                clear hK K
                try simp only [Act.put, List.setIfInBounds_toArray, List.set_cons_zero, List.set_cons_succ]
                have hHeldz29 : ((fun V : World => V.cell? ⟨kg, 0, none⟩ = some (.string ka) ∧ V.cell? ⟨gK, 0, none⟩ = some (.string ka))) _ := ⟨HCf.out _ uK, xK⟩
                refine wpAnyH_sub (S := (fun V : World => V.cell? ⟨kg, 0, none⟩ = some (.string ka) ∧ V.cell? ⟨gK, 0, none⟩ = some (.string ka))) (fun _ h => h.1) ?_
                refine wpAnyH_take (i := 25) (oi := ⟨some 250, _, _, _, _, _⟩) (v := ?vz30) rfl (by kernel_rfl) (by kernel_rfl) (by kernel_rfl) (fun _ _ _ h => h) (Or.inl ⟨by rfl, ?yz30⟩) (by assumption) ?rz30
                case yz30 => (intro w hSw; (try dsimp only at hSw); go_simp; try with_reducible rfl)
                try simp only [Act.put, List.setIfInBounds_toArray, List.set_cons_zero, List.set_cons_succ]
                refine wpAnyH_take (i := 26) (oi := ⟨some 251, _, _, _, _, _⟩) (v := ?vz31) rfl (by kernel_rfl) (by kernel_rfl) (by kernel_rfl) (fun _ _ _ h => h) (Or.inl ⟨by rfl, ?yz31⟩) (by assumption) ?rz31
                case yz31 => (intro w hSw; (try dsimp only at hSw); go_simp; try with_reducible rfl)
                try simp only [Act.put, List.setIfInBounds_toArray, List.set_cons_zero, List.set_cons_succ]
                refine wpAnyH_take (i := 30) (oi := ⟨some 255, _, _, _, _, _⟩) (v := ?vz32) rfl (by kernel_rfl) (by kernel_rfl) (by kernel_rfl) (fun _ _ _ h => h) (Or.inl ⟨by rfl, ?yz32⟩) (by assumption) ?rz32
                case yz32 => (intro w hSw; (try dsimp only at hSw); go_simp; try with_reducible rfl)
                try simp only [Act.put, List.setIfInBounds_toArray, List.set_cons_zero, List.set_cons_succ]
                refine wpAnyH_take (i := 31) (oi := ⟨some 256, _, _, _, _, _⟩) (v := ?vz33) rfl (by kernel_rfl) (by kernel_rfl) (by kernel_rfl) (fun _ _ _ h => h) (Or.inl ⟨by rfl, ?yz33⟩) (by assumption) ?rz33
                case yz33 => (intro w hSw; (try dsimp only at hSw); go_simp; try with_reducible rfl)
                try simp only [Act.put, List.setIfInBounds_toArray, List.set_cons_zero, List.set_cons_succ]
                refine wpAnyH_take (i := 32) (oi := ⟨some 257, _, _, _, _, _⟩) (v := ?vz34) rfl (by kernel_rfl) (by kernel_rfl) (by kernel_rfl) (fun _ _ _ h => h) (Or.inl ⟨by rfl, ?yz34⟩) (by assumption) ?rz34
                case yz34 => (intro w hSw; (try dsimp only at hSw); go_simp; try with_reducible rfl)
                try simp only [Act.put, List.setIfInBounds_toArray, List.set_cons_zero, List.set_cons_succ]
                refine wpAnyH_take (i := 33) (oi := ⟨some 258, _, _, _, _, _⟩) (v := ?vz35) rfl (by kernel_rfl) (by kernel_rfl) (by kernel_rfl) (fun _ _ _ h => h) (Or.inl ⟨by rfl, ?yz35⟩) (by assumption) ?rz35
                case yz35 => (intro w hSw; (try dsimp only at hSw); go_simp; try with_reducible rfl)
                try simp only [Act.put, List.setIfInBounds_toArray, List.set_cons_zero, List.set_cons_succ]
                refine wpAnyH_ready (rs := [34]) (by kernel_rfl) (by simp) ?_
                refine AllReadyH.cons (o := ⟨some 259, _, _, _, _, _⟩) rfl (fun K hK => ?_) AllReadyH.nil
                go_simp
                go_at_call 8; (with_reducible refine (HNf.out _ (by first | assumption | exact HRf.out.drew | exact Up.drew (by assumption))).mono ?_); rintro e wN ⟨rfl, rfl⟩; skip
                refine hK.out _ _ ?kz36 (fun hHeld => ?_)
                case kz36 => exact ⟨HCf.out _ uK, xK⟩
                clear hK K
                try simp only [Act.put, List.setIfInBounds_toArray, List.set_cons_zero, List.set_cons_succ]
                refine wpAnyH_take (i := 35) (oi := ⟨some 260, _, _, _, _, _⟩) (v := ?vz37) rfl (by kernel_rfl) (by kernel_rfl) (by kernel_rfl) (fun _ _ _ h => h) (Or.inl ⟨by rfl, ?yz37⟩) (by assumption) ?rz37
                case yz37 => (intro w hSw; (try dsimp only at hSw); go_simp; try with_reducible rfl)
                try simp only [Act.put, List.setIfInBounds_toArray, List.set_cons_zero, List.set_cons_succ]
                refine wpAnyH_take (i := 36) (oi := ⟨some 261, _, _, _, _, _⟩) (v := ?vz38) rfl (by kernel_rfl) (by kernel_rfl) (by kernel_rfl) (fun _ _ _ h => h) (Or.inl ⟨by rfl, ?yz38⟩) (by assumption) ?rz38
                case yz38 => (intro w hSw; (try dsimp only at hSw); go_simp; try with_reducible rfl)
                try simp only [Act.put, List.setIfInBounds_toArray, List.set_cons_zero, List.set_cons_succ]
                refine wpAnyH_take (i := 37) (oi := ⟨some 262, _, _, _, _, _⟩) (v := ?vz39) rfl (by kernel_rfl) (by kernel_rfl) (by kernel_rfl) (fun _ _ _ h => h) (Or.inl ⟨by rfl, ?yz39⟩) (by assumption) ?rz39
                case yz39 => (intro w hSw; (try dsimp only at hSw); go_simp; try with_reducible rfl)
                try simp only [Act.put, List.setIfInBounds_toArray, List.set_cons_zero, List.set_cons_succ]
                refine wpAnyH_ready (rs := [38]) (by kernel_rfl) (by simp) ?_
                refine AllReadyH.cons (o := ⟨some 263, _, _, _, _, _⟩) rfl (fun K hK => ?_) AllReadyH.nil
                go_simp
                go_at_call 9; (with_reducible refine (HAf.out _ (by first | assumption | exact HRf.out.drew | exact Up.drew (by assumption))).mono ?_); rintro e wZ ⟨rfl, kZ⟩; have uZ : Up Nul wBe wZ := Up.trans (by first | assumption | exact HRf.out.drew | exact Up.drew (by assumption)) kZ; have xZ := (kZ.cell (p := ⟨gK, 0, none⟩) (lt_of_cell xK) (fun e => e)).trans xK; clear kZ
                refine hK.out _ _ ?kz40 (fun hHeld => ?_)
                case kz40 => exact ⟨HCf.out _ uZ, xZ⟩
                clear hK K
                try simp only [Act.put, List.setIfInBounds_toArray, List.set_cons_zero, List.set_cons_succ]
                refine wpAnyH_take (i := 39) (oi := ⟨some 264, _, _, _, _, _⟩) (v := ?vz41) rfl (by kernel_rfl) (by kernel_rfl) (by kernel_rfl) (fun _ _ _ h => h) (Or.inl ⟨by rfl, ?yz41⟩) (by assumption) ?rz41
                case yz41 => (intro w hSw; (try dsimp only at hSw); go_simp; try with_reducible rfl)
                try simp only [Act.put, List.setIfInBounds_toArray, List.set_cons_zero, List.set_cons_succ]
                refine wpAnyH_take (i := 40) (oi := ⟨some 8, _, _, _, _, _⟩) (v := ?vz42) rfl (by kernel_rfl) (by kernel_rfl) (by kernel_rfl) (fun _ _ _ h => h) (Or.inl ⟨by rfl, ?yz42⟩) (by assumption) ?rz42
                case yz42 => (intro w hSw; (try dsimp only at hSw); go_simp; try with_reducible rfl)
                try simp only [Act.put, List.setIfInBounds_toArray, List.set_cons_zero, List.set_cons_succ]
                refine wpAnyH_done (by kernel_rfl) ?_ _
                have HUZ := hid (HWf.out.trans uZ)
                go_wp2
                go_ret
                exact ⟨rfl, HUZ.out⟩
theorem way_walk (a0 a1 a2 a3 : Int) (w : World) (hS : Shp w) :
    Calls Tryd.prog 4 #[.int .i64 a0, .int .i64 a1, .int .i64 a2, .int .i64 a3] w fun e w' => e = .returned (.bool true) ∧ Below w.heap.size w w' :=
  (way_any a0 a1 a2 a3 w hS).mono fun e w' ⟨h, u⟩ => ⟨h, u.below (Nat.le_refl _) fun _ _ h => h⟩
end Go.Proofs.YtmhmlfgikmeejaaDoor
