/- The document's RecBytes of a record that may be: its bytes. -/
import Derived.Test.YtpdkcpjofofkoaaDoorPkTidy
import Derived.Test.YtpdkcpjofofkoaaDoorPq15
import Derived.Test.YtpdkcpjofofkoaaDoorPq16
import Derived.Test.YtpdkcpjofofkoaaDoorPq17
import Derived.Test.YtpdkcpjofofkoaaDoorPq18
import Derived.Test.YtpdkcpjofofkoaaDoorPq19
import Derived.Test.YtpdkcpjofofkoaaDoorPq20
import Derived.Test.YtpdkcpjofofkoaaDoorPq21
import Derived.Test.YtpdkcpjofofkoaaDoorPq22
import Derived.Test.YtpdkcpjofofkoaaDoorPq14
set_option maxRecDepth 100000
namespace Go.Proofs.YtpdkcpjofofkoaaDoor
open Go.RowKit
set_option linter.unusedVariables false
theorem rby_any (r : Rc) (sa la : Option Addr) (sc lc : Nat) (w : World) (hR : RH w r sa la) (F : OkF r) :
  Calls Tryd.prog 12 #[rv r (.slice sa r.sids.length sc) (.slice la r.locs.length lc)] w fun e w' => e = .returned (.string (strOf (encR r))) ∧ Up Nul w w' := by
 have h1 := F.k1
 have h8 := F.k8
 have hk := F.kk
 have hk : r.kind = 1 ∨ r.kind = 2 ∨ r.kind = 3 ∨ r.kind = 4 ∨ r.kind = 5 ∨ r.kind = 6 ∨ r.kind = 7 ∨ r.kind = 8 := by omega
 rcases hk with hk | hk | hk | hk | hk | hk | hk | hk
 ·exact rby1 r sa la sc lc w hR F hk
 ·exact rby2 r sa la sc lc w hR F hk
 ·exact rby3 r sa la sc lc w hR F hk
 ·exact rby4 r sa la sc lc w hR F hk
 ·exact rby5 r sa la sc lc w hR F hk
 ·exact rby6 r sa la sc lc w hR F hk
 ·exact rby7 r sa la sc lc w hR F hk
 ·exact rby8 r sa la sc lc w hR F hk
end Go.Proofs.YtpdkcpjofofkoaaDoor
set_option maxRecDepth 100000
namespace Go.Proofs.YtpdkcpjofofkoaaDoor
open Go.RowKit
set_option linter.unusedVariables false
set_option maxHeartbeats 8000000 in
theorem rof_none (z : List Nat) (w : World) (hz : ∀ x ∈ z, x < 256) (hl : z.length ≤ 100000) (hk : spn 1 8 ((fold8 (tk 1 z) : Nat) : Int) = false) :
  Calls Tryd.prog 15 #[.string (strOf z)] w fun e w' => RofP w (decO z) (decR z).isSome e w' := by
 have HK := hid hk
 clear hk
 have HZ0 := hid hz
 have HL0 := hid hl
 obtain ⟨D, hDe⟩ : ∃ D, D = decO z := ⟨_, rfl⟩
 obtain ⟨ib, hib⟩ : ∃ ib, ib = (decR z).isSome := ⟨_, rfl⟩
 rw [← hDe, ← hib]
 have HDD := hid (And.intro hDe hib)
 obtain ⟨s0, hs0⟩ : ∃ s, s = strOf z := ⟨_, rfl⟩
 rw [← hs0]
 have HS0 := hid hs0
 have HSZ : Hid (s0.size = z.length) := by show _ = _; rw [hs0, strOf_size]
 obtain ⟨W2, hW2⟩ : ∃ W, W = (w.alloc (.cells #[.int .i64 0, .string ⟨#[]⟩, .int .i64 0, .int .i64 0, .slice none 0 0, .int .i64 0, .slice none 0 0, .int .i64 0, .int .i64 0, .int .i64 0, .int .i64 0, .int .i64 0, .int .i64 0] 27)).alloc (.cells #[.string s0, .bool false] 75) := ⟨_, rfl⟩
 have hr2 : RB W2 w.heap.size rc0 (.slice none 0 0) (.slice none 0 0) := by
  rw [hW2]
  exact (Below.heap_alloc _ _ _ (by simp)).trans (heap_alloc_new _ _)
 have hd2 : Rd W2 (w.heap.size + 1) z false := by
  show W2.heap[_]? = _
  rw [hW2, ← hs0]
  have := heap_alloc_new (w.alloc (.cells #[.int .i64 0, .string ⟨#[]⟩, .int .i64 0, .int .i64 0, .slice none 0 0, .int .i64 0, .slice none 0 0, .int .i64 0, .int .i64 0, .int .i64 0, .int .i64 0, .int .i64 0, .int .i64 0] 27)) (.cells #[.string s0, .bool false] 75)
  simpa using this
 have U2 : Up Nul w W2 := by rw [hW2]; exact ((Up.refl Nul w).alloc _).alloc _
 clear hDe hib hs0
 go_enter Tryd.func15, Tryd.ntmps15
 go_upto_region 2 with fail
 rw [← hW2]
 clear hW2
 obtain ⟨pr, hpr⟩ : ∃ p, p = w.heap.size := ⟨_, rfl⟩
 obtain ⟨pd, hpd⟩ : ∃ p, p = w.heap.size + 1 := ⟨_, rfl⟩
 have HPR := hid (Nat.le_of_eq hpr.symm)
 have HPD := hid (show w.heap.size ≤ pd by omega)
 have HNE := hid (show pr ≠ pd by omega)
 rw [← hpd, ← hpr]
 rw [← hpr] at hr2
 rw [← hpd] at hd2
 have HR2 := hid hr2
 have HD2 := hid hd2
 have HU2 := hid U2
 clear hpr hpd hr2 hd2 U2 hz hl
 go_wp2_with fail
 refine (num_s _ pd 1 z false HD2.out HZ0.out HL0.out (by omega)).mono ?_
 rintro e w3 ⟨rfl, d3, u3⟩
 have HR3 := hid (HR2.out.up u3 HNE.out)
 have HU3 := hid (HU2.out.newest u3 (fun i hi e => by have e : i = pd := e; have := HPD.out; omega))
 have HDE : Hid (D = rc0 ∧ ib = false) := by
  rw [HDD.out.1, HDD.out.2]
  refine decR_no fun r F e => ?_
  have hb := spn_no HK.out
  have h1 := F.k1
  have h8 := F.k8
  have e1 : z = [kn r] ++ (encR r).tail := by rw [← e]; unfold encR; have := F.kk; simp [kn]
  have e2 : tk 1 z = [kn r] := (st_app (b := false) 1 rfl ⟨rfl, e1⟩).2.2
  rw [e2, fold8_one] at hb
  omega
 clear d3 u3 HR2 HU2 HD2
 obtain ⟨k0, hk0⟩ : ∃ k0, k0 = fold8 (tk 1 z) := ⟨_, rfl⟩
 rw [← hk0] at HK ⊢
 clear hk0
 go_wp2_with fail
 refine (in_any _ _ _ _).mono ?_
 rintro e w4 ⟨rfl, rfl⟩
 rw [HK.out]
 have HRES := hid (HR3.out.nxt ((Up.refl Nul w3).alloc (.cells #[.int .i64 (k0 : Nat), .string ⟨#[]⟩, .int .i64 0, .int .i64 0, .slice none 0 0, .int .i64 0, .slice none 0 0, .int .i64 0, .int .i64 0, .int .i64 0, .int .i64 0, .int .i64 0, .int .i64 0] 27)))
 have HUX := hid (HU3.out.alloc (.cells #[.int .i64 (k0 : Nat), .string ⟨#[]⟩, .int .i64 0, .int .i64 0, .slice none 0 0, .int .i64 0, .slice none 0 0, .int .i64 0, .int .i64 0, .int .i64 0, .int .i64 0, .int .i64 0, .int .i64 0] 27))
 obtain ⟨b0, b1, b2, b3, b4, b5, b6, b7, b8, b9, b10, b11, b12⟩ := HRES.out.cells
 obtain ⟨f0, f1, f2, f3, f4, f5, f6, f7, f8, f9, f10, f11, f12⟩ := HRES.out.frozs
 go_wp2_with fail
 have hld := run_loadVar_row (P := Tryd.prog) _ pr _ 27 _ _ _ (heap13s HRES.out (.int .i64 0) (.string ⟨#[]⟩) (.int .i64 0) (.int .i64 0) (.slice none 0 0) (.int .i64 0) (.slice none 0 0) (.int .i64 0) (.int .i64 0) (.int .i64 0) (.int .i64 0) (.int .i64 0) (.int .i64 0)) Tryd.underlying27 rfl info_rec13
 refine bodyPost_ret (v := .tuple #[.agg #[.int .i64 0, .string ⟨#[]⟩, .int .i64 0, .int .i64 0, .slice none 0 0, .int .i64 0, .slice none 0 0, .int .i64 0, .int .i64 0, .int .i64 0, .int .i64 0, .int .i64 0, .int .i64 0], .bool false]) (by rw [results_cell_tmp rfl]; simp [asAddr, hld, Result.andThen]) rfl ?_
 rw [HDE.out.1, HDE.out.2]
 exact ⟨none, 0, none, 0, rfl, ⟨RowI.nil _ _, RowL.nil _ _, by show 0 ≤ 100000; omega, by show 0 ≤ 100000; omega⟩, Up.newest HUX.out (up13 _ pr _ _ _ _ _ _ _ _ _ _ _ _ _) (fun i hi e => by have e : i = pr := e; have := HPR.out; omega)⟩
end Go.Proofs.YtpdkcpjofofkoaaDoor
