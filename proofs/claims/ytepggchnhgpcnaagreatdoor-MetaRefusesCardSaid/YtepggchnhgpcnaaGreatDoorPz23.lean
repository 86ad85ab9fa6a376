/- Part 1 of what the walks rest on: RcNext, RcNum, RcRead0, RcRead1, RcRead, RcKey, RcNx, RcRs, RcLoc, RcRec. -/
import Derived.Test.YtepggchnhgpcnaaGreatDoorPkTidy
import Derived.Test.YtepggchnhgpcnaaGreatDoorPz1
import Derived.Deep.RegionLaw
import Derived.Laws.BitsLemmas
import Derived.Laws.BitsAllLaws
import Derived.Laws.EntriesVeiled
import Derived.Deep.QuietTactic
import Derived.Laws.StructEq
import Derived.Deep.MidRow
namespace Go.Proofs.YtepggchnhgpcnaaGreatDoor
open Go.RowKit
set_option linter.unusedVariables false
set_option maxRecDepth 100000


def nx (m : Nat) (z : List Nat) : List Nat := z.take m ++ zer (m - z.length)

def fold8 (z : List Nat) : Nat := z.foldl (fun x c => x * 256 + c) 0
def num (m : Nat) (z : List Nat) : Nat := fold8 (nx m z)
theorem info_loc3 : (Tryz.prog.info? 64).map (·.size) = some 3 := by kernel_rfl
def rsKey (k : Nat) (b : List Nat) : List Nat := if 0 < sh k 1 then (b.drop 1).drop (num 1 b) else b
def rsNum (h : Int) (m : Nat) (b : List Nat) : List Nat := if 0 < h then b.drop m else b
def b2 (k : Nat) (b : List Nat) := rsKey k b
def b3 (k : Nat) (b : List Nat) := rsNum (sh k 3) 1 (b2 k b)
def b4 (k : Nat) (b : List Nat) := rsNum (sh k 5) 4 (b3 k b)
def b5 (k : Nat) (b : List Nat) := rsNum (sh k 7) 1 (b4 k b)
def b6 (k : Nat) (b : List Nat) := (b5 k b).drop (4 * (sh k 8).toNat)
def b7 (k : Nat) (b : List Nat) := rsNum (sh k 12) 1 (b6 k b)
theorem heap13s {w : World} {g : Nat} {T : TypeId} {fr : Nat × Nat} {c0 c1 c2 c3 c4 c5 c6 c7 c8 c9 c10 c11 c12 : Value} (h : w.heap[g]? = some (.cells #[c0, c1, c2, c3, c4, c5, c6, c7, c8, c9, c10, c11, c12] T fr)) (v0 v1 v2 v3 v4 v5 v6 v7 v8 v9 v10 v11 v12 : Value) :
  (((((((((((((w.setCell ⟨g, 0, none⟩ v0).setCell ⟨g, 1, none⟩ v1).setCell ⟨g, 2, none⟩ v2).setCell ⟨g, 3, none⟩ v3).setCell ⟨g, 4, none⟩ v4).setCell ⟨g, 5, none⟩ v5).setCell ⟨g, 6, none⟩ v6).setCell ⟨g, 7, none⟩ v7).setCell ⟨g, 8, none⟩ v8).setCell ⟨g, 9, none⟩ v9).setCell ⟨g, 10, none⟩ v10).setCell ⟨g, 11, none⟩ v11).setCell ⟨g, 12, none⟩ v12).heap[g]? = some (.cells #[v0, v1, v2, v3, v4, v5, v6, v7, v8, v9, v10, v11, v12] T fr) := by
 have h0 : (w.setCell ⟨g, 0, none⟩ v0).heap[g]? = some (.cells #[v0, c1, c2, c3, c4, c5, c6, c7, c8, c9, c10, c11, c12] T fr) := heap_set_same h 0 v0
 have h1 : ((w.setCell ⟨g, 0, none⟩ v0).setCell ⟨g, 1, none⟩ v1).heap[g]? = some (.cells #[v0, v1, c2, c3, c4, c5, c6, c7, c8, c9, c10, c11, c12] T fr) := heap_set_same h0 1 v1
 have h2 : (((w.setCell ⟨g, 0, none⟩ v0).setCell ⟨g, 1, none⟩ v1).setCell ⟨g, 2, none⟩ v2).heap[g]? = some (.cells #[v0, v1, v2, c3, c4, c5, c6, c7, c8, c9, c10, c11, c12] T fr) := heap_set_same h1 2 v2
 have h3 : ((((w.setCell ⟨g, 0, none⟩ v0).setCell ⟨g, 1, none⟩ v1).setCell ⟨g, 2, none⟩ v2).setCell ⟨g, 3, none⟩ v3).heap[g]? = some (.cells #[v0, v1, v2, v3, c4, c5, c6, c7, c8, c9, c10, c11, c12] T fr) := heap_set_same h2 3 v3
 have h4 : (((((w.setCell ⟨g, 0, none⟩ v0).setCell ⟨g, 1, none⟩ v1).setCell ⟨g, 2, none⟩ v2).setCell ⟨g, 3, none⟩ v3).setCell ⟨g, 4, none⟩ v4).heap[g]? = some (.cells #[v0, v1, v2, v3, v4, c5, c6, c7, c8, c9, c10, c11, c12] T fr) := heap_set_same h3 4 v4
 have h5 : ((((((w.setCell ⟨g, 0, none⟩ v0).setCell ⟨g, 1, none⟩ v1).setCell ⟨g, 2, none⟩ v2).setCell ⟨g, 3, none⟩ v3).setCell ⟨g, 4, none⟩ v4).setCell ⟨g, 5, none⟩ v5).heap[g]? = some (.cells #[v0, v1, v2, v3, v4, v5, c6, c7, c8, c9, c10, c11, c12] T fr) := heap_set_same h4 5 v5
 have h6 : (((((((w.setCell ⟨g, 0, none⟩ v0).setCell ⟨g, 1, none⟩ v1).setCell ⟨g, 2, none⟩ v2).setCell ⟨g, 3, none⟩ v3).setCell ⟨g, 4, none⟩ v4).setCell ⟨g, 5, none⟩ v5).setCell ⟨g, 6, none⟩ v6).heap[g]? = some (.cells #[v0, v1, v2, v3, v4, v5, v6, c7, c8, c9, c10, c11, c12] T fr) := heap_set_same h5 6 v6
 have h7 : ((((((((w.setCell ⟨g, 0, none⟩ v0).setCell ⟨g, 1, none⟩ v1).setCell ⟨g, 2, none⟩ v2).setCell ⟨g, 3, none⟩ v3).setCell ⟨g, 4, none⟩ v4).setCell ⟨g, 5, none⟩ v5).setCell ⟨g, 6, none⟩ v6).setCell ⟨g, 7, none⟩ v7).heap[g]? = some (.cells #[v0, v1, v2, v3, v4, v5, v6, v7, c8, c9, c10, c11, c12] T fr) := heap_set_same h6 7 v7
 have h8 : (((((((((w.setCell ⟨g, 0, none⟩ v0).setCell ⟨g, 1, none⟩ v1).setCell ⟨g, 2, none⟩ v2).setCell ⟨g, 3, none⟩ v3).setCell ⟨g, 4, none⟩ v4).setCell ⟨g, 5, none⟩ v5).setCell ⟨g, 6, none⟩ v6).setCell ⟨g, 7, none⟩ v7).setCell ⟨g, 8, none⟩ v8).heap[g]? = some (.cells #[v0, v1, v2, v3, v4, v5, v6, v7, v8, c9, c10, c11, c12] T fr) := heap_set_same h7 8 v8
 have h9 : ((((((((((w.setCell ⟨g, 0, none⟩ v0).setCell ⟨g, 1, none⟩ v1).setCell ⟨g, 2, none⟩ v2).setCell ⟨g, 3, none⟩ v3).setCell ⟨g, 4, none⟩ v4).setCell ⟨g, 5, none⟩ v5).setCell ⟨g, 6, none⟩ v6).setCell ⟨g, 7, none⟩ v7).setCell ⟨g, 8, none⟩ v8).setCell ⟨g, 9, none⟩ v9).heap[g]? = some (.cells #[v0, v1, v2, v3, v4, v5, v6, v7, v8, v9, c10, c11, c12] T fr) := heap_set_same h8 9 v9
 have h10 : (((((((((((w.setCell ⟨g, 0, none⟩ v0).setCell ⟨g, 1, none⟩ v1).setCell ⟨g, 2, none⟩ v2).setCell ⟨g, 3, none⟩ v3).setCell ⟨g, 4, none⟩ v4).setCell ⟨g, 5, none⟩ v5).setCell ⟨g, 6, none⟩ v6).setCell ⟨g, 7, none⟩ v7).setCell ⟨g, 8, none⟩ v8).setCell ⟨g, 9, none⟩ v9).setCell ⟨g, 10, none⟩ v10).heap[g]? = some (.cells #[v0, v1, v2, v3, v4, v5, v6, v7, v8, v9, v10, c11, c12] T fr) := heap_set_same h9 10 v10
 have h11 : ((((((((((((w.setCell ⟨g, 0, none⟩ v0).setCell ⟨g, 1, none⟩ v1).setCell ⟨g, 2, none⟩ v2).setCell ⟨g, 3, none⟩ v3).setCell ⟨g, 4, none⟩ v4).setCell ⟨g, 5, none⟩ v5).setCell ⟨g, 6, none⟩ v6).setCell ⟨g, 7, none⟩ v7).setCell ⟨g, 8, none⟩ v8).setCell ⟨g, 9, none⟩ v9).setCell ⟨g, 10, none⟩ v10).setCell ⟨g, 11, none⟩ v11).heap[g]? = some (.cells #[v0, v1, v2, v3, v4, v5, v6, v7, v8, v9, v10, v11, c12] T fr) := heap_set_same h10 11 v11
 have h12 : (((((((((((((w.setCell ⟨g, 0, none⟩ v0).setCell ⟨g, 1, none⟩ v1).setCell ⟨g, 2, none⟩ v2).setCell ⟨g, 3, none⟩ v3).setCell ⟨g, 4, none⟩ v4).setCell ⟨g, 5, none⟩ v5).setCell ⟨g, 6, none⟩ v6).setCell ⟨g, 7, none⟩ v7).setCell ⟨g, 8, none⟩ v8).setCell ⟨g, 9, none⟩ v9).setCell ⟨g, 10, none⟩ v10).setCell ⟨g, 11, none⟩ v11).setCell ⟨g, 12, none⟩ v12).heap[g]? = some (.cells #[v0, v1, v2, v3, v4, v5, v6, v7, v8, v9, v10, v11, v12] T fr) := heap_set_same h11 12 v12
 exact h12
theorem info_rec13 : (Tryz.prog.info? 28).map (·.size) = some 13 := by kernel_rfl
theorem OwnI.rowb {base : Nat} {w : World} {v : Value} {zs : List Int} (h : OwnI base w v zs) : ∃ a c, v = .slice a zs.length c ∧ RowI w a zs ∧ (zs ≠ [] → ∀ x, a = some x → base ≤ x.block) := by
 obtain ⟨a, c, e, r⟩ := h.row
 refine ⟨a, c, e, r, fun _ x hx => ?_⟩
 subst hx
 exact h.bs x.block (by rw [e]; rfl)
theorem OwnLo.rowb {base : Nat} {w : World} {v : Value} {ls : List Lo} (h : OwnLo base w v ls) : ∃ a c, v = .slice a ls.length c ∧ RowL w a ls ∧ (ls ≠ [] → ∀ x, a = some x → base ≤ x.block) := by
 obtain ⟨a, c, e, r⟩ := h.row
 refine ⟨a, c, e, r, fun _ x hx => ?_⟩
 subst hx
 exact h.bs x.block (by rw [e]; rfl)
theorem up13 (w : World) (g : Nat) (v0 v1 v2 v3 v4 v5 v6 v7 v8 v9 v10 v11 v12 : Value) : Up (One g) w (((((((((((((w.setCell ⟨g, 0, none⟩ v0).setCell ⟨g, 1, none⟩ v1).setCell ⟨g, 2, none⟩ v2).setCell ⟨g, 3, none⟩ v3).setCell ⟨g, 4, none⟩ v4).setCell ⟨g, 5, none⟩ v5).setCell ⟨g, 6, none⟩ v6).setCell ⟨g, 7, none⟩ v7).setCell ⟨g, 8, none⟩ v8).setCell ⟨g, 9, none⟩ v9).setCell ⟨g, 10, none⟩ v10).setCell ⟨g, 11, none⟩ v11).setCell ⟨g, 12, none⟩ v12) := by
 have u0 : Up (One g) w (w.setCell ⟨g, 0, none⟩ v0) := Up.put (Up.refl (One g) w) (b := g) rfl 0 v0
 have u1 : Up (One g) w ((w.setCell ⟨g, 0, none⟩ v0).setCell ⟨g, 1, none⟩ v1) := Up.put (u0) (b := g) rfl 1 v1
 have u2 : Up (One g) w (((w.setCell ⟨g, 0, none⟩ v0).setCell ⟨g, 1, none⟩ v1).setCell ⟨g, 2, none⟩ v2) := Up.put (u1) (b := g) rfl 2 v2
 have u3 : Up (One g) w ((((w.setCell ⟨g, 0, none⟩ v0).setCell ⟨g, 1, none⟩ v1).setCell ⟨g, 2, none⟩ v2).setCell ⟨g, 3, none⟩ v3) := Up.put (u2) (b := g) rfl 3 v3
 have u4 : Up (One g) w (((((w.setCell ⟨g, 0, none⟩ v0).setCell ⟨g, 1, none⟩ v1).setCell ⟨g, 2, none⟩ v2).setCell ⟨g, 3, none⟩ v3).setCell ⟨g, 4, none⟩ v4) := Up.put (u3) (b := g) rfl 4 v4
 have u5 : Up (One g) w ((((((w.setCell ⟨g, 0, none⟩ v0).setCell ⟨g, 1, none⟩ v1).setCell ⟨g, 2, none⟩ v2).setCell ⟨g, 3, none⟩ v3).setCell ⟨g, 4, none⟩ v4).setCell ⟨g, 5, none⟩ v5) := Up.put (u4) (b := g) rfl 5 v5
 have u6 : Up (One g) w (((((((w.setCell ⟨g, 0, none⟩ v0).setCell ⟨g, 1, none⟩ v1).setCell ⟨g, 2, none⟩ v2).setCell ⟨g, 3, none⟩ v3).setCell ⟨g, 4, none⟩ v4).setCell ⟨g, 5, none⟩ v5).setCell ⟨g, 6, none⟩ v6) := Up.put (u5) (b := g) rfl 6 v6
 have u7 : Up (One g) w ((((((((w.setCell ⟨g, 0, none⟩ v0).setCell ⟨g, 1, none⟩ v1).setCell ⟨g, 2, none⟩ v2).setCell ⟨g, 3, none⟩ v3).setCell ⟨g, 4, none⟩ v4).setCell ⟨g, 5, none⟩ v5).setCell ⟨g, 6, none⟩ v6).setCell ⟨g, 7, none⟩ v7) := Up.put (u6) (b := g) rfl 7 v7
 have u8 : Up (One g) w (((((((((w.setCell ⟨g, 0, none⟩ v0).setCell ⟨g, 1, none⟩ v1).setCell ⟨g, 2, none⟩ v2).setCell ⟨g, 3, none⟩ v3).setCell ⟨g, 4, none⟩ v4).setCell ⟨g, 5, none⟩ v5).setCell ⟨g, 6, none⟩ v6).setCell ⟨g, 7, none⟩ v7).setCell ⟨g, 8, none⟩ v8) := Up.put (u7) (b := g) rfl 8 v8
 have u9 : Up (One g) w ((((((((((w.setCell ⟨g, 0, none⟩ v0).setCell ⟨g, 1, none⟩ v1).setCell ⟨g, 2, none⟩ v2).setCell ⟨g, 3, none⟩ v3).setCell ⟨g, 4, none⟩ v4).setCell ⟨g, 5, none⟩ v5).setCell ⟨g, 6, none⟩ v6).setCell ⟨g, 7, none⟩ v7).setCell ⟨g, 8, none⟩ v8).setCell ⟨g, 9, none⟩ v9) := Up.put (u8) (b := g) rfl 9 v9
 have u10 : Up (One g) w (((((((((((w.setCell ⟨g, 0, none⟩ v0).setCell ⟨g, 1, none⟩ v1).setCell ⟨g, 2, none⟩ v2).setCell ⟨g, 3, none⟩ v3).setCell ⟨g, 4, none⟩ v4).setCell ⟨g, 5, none⟩ v5).setCell ⟨g, 6, none⟩ v6).setCell ⟨g, 7, none⟩ v7).setCell ⟨g, 8, none⟩ v8).setCell ⟨g, 9, none⟩ v9).setCell ⟨g, 10, none⟩ v10) := Up.put (u9) (b := g) rfl 10 v10
 have u11 : Up (One g) w ((((((((((((w.setCell ⟨g, 0, none⟩ v0).setCell ⟨g, 1, none⟩ v1).setCell ⟨g, 2, none⟩ v2).setCell ⟨g, 3, none⟩ v3).setCell ⟨g, 4, none⟩ v4).setCell ⟨g, 5, none⟩ v5).setCell ⟨g, 6, none⟩ v6).setCell ⟨g, 7, none⟩ v7).setCell ⟨g, 8, none⟩ v8).setCell ⟨g, 9, none⟩ v9).setCell ⟨g, 10, none⟩ v10).setCell ⟨g, 11, none⟩ v11) := Up.put (u10) (b := g) rfl 11 v11
 have u12 : Up (One g) w (((((((((((((w.setCell ⟨g, 0, none⟩ v0).setCell ⟨g, 1, none⟩ v1).setCell ⟨g, 2, none⟩ v2).setCell ⟨g, 3, none⟩ v3).setCell ⟨g, 4, none⟩ v4).setCell ⟨g, 5, none⟩ v5).setCell ⟨g, 6, none⟩ v6).setCell ⟨g, 7, none⟩ v7).setCell ⟨g, 8, none⟩ v8).setCell ⟨g, 9, none⟩ v9).setCell ⟨g, 10, none⟩ v10).setCell ⟨g, 11, none⟩ v11).setCell ⟨g, 12, none⟩ v12) := Up.put (u11) (b := g) rfl 12 v12
 exact u12

def keyL (x : Nat) : ByteArray := match x with
 | 0 => ⟨#[97]⟩ | 1 => ⟨#[98]⟩ | 2 => ⟨#[99]⟩ | 3 => ⟨#[100]⟩ | 4 => ⟨#[101]⟩ | 5 => ⟨#[102]⟩ | 6 => ⟨#[103]⟩ | 7 => ⟨#[104]⟩ | 8 => ⟨#[105]⟩ | 9 => ⟨#[106]⟩ | 10 => ⟨#[107]⟩
 | _ => ⟨#[108, 111, 110, 103, 45, 107, 101, 121, 45, 111, 102, 45, 49, 54, 45, 98]⟩
theorem keyL_ok : ∀ x, x < 12 → (1 ≤ (keyL x).size ∧ (keyL x).size ≤ 16) ∧ ∀ c ∈ nums (keyL x), 33 ≤ c ∧ c ≤ 126 := by
 intro x hx
 match x, hx with
 | 0, _ => decide
 | 1, _ => decide
 | 2, _ => decide
 | 3, _ => decide
 | 4, _ => decide
 | 5, _ => decide
 | 6, _ => decide
 | 7, _ => decide
 | 8, _ => decide
 | 9, _ => decide
 | 10, _ => decide
 | 11, _ => decide
set_option maxHeartbeats 2000000 in
theorem key_any (x : Nat) (hx : x < 12) (w : World) : Calls Tryz.prog 53 #[.int .i64 (x : Nat)] w fun e w' => ∃ s, e = .returned (.string s) ∧ ((1 ≤ s.size ∧ s.size ≤ 16) ∧ ∀ c ∈ nums s, 33 ≤ c ∧ c ≤ 126) ∧ Up Nul w w' := by
 match x, hx with
 | 0, _ =>
  have HK := hid (keyL_ok 0 (by omega))
  have HU : Hid (∀ o, Up Nul w (w.alloc o)) := fun o => (Up.refl Nul w).alloc o
  go_enter Tryz.func53, Tryz.ntmps53
  go_wp2
  go_ret
  exact ⟨keyL 0, rfl, HK.out, HU.out _⟩
 | 1, _ =>
  have HK := hid (keyL_ok 1 (by omega))
  have HU : Hid (∀ o, Up Nul w (w.alloc o)) := fun o => (Up.refl Nul w).alloc o
  go_enter Tryz.func53, Tryz.ntmps53
  go_wp2
  go_ret
  exact ⟨keyL 1, rfl, HK.out, HU.out _⟩
 | 2, _ =>
  have HK := hid (keyL_ok 2 (by omega))
  have HU : Hid (∀ o, Up Nul w (w.alloc o)) := fun o => (Up.refl Nul w).alloc o
  go_enter Tryz.func53, Tryz.ntmps53
  go_wp2
  go_ret
  exact ⟨keyL 2, rfl, HK.out, HU.out _⟩
 | 3, _ =>
  have HK := hid (keyL_ok 3 (by omega))
  have HU : Hid (∀ o, Up Nul w (w.alloc o)) := fun o => (Up.refl Nul w).alloc o
  go_enter Tryz.func53, Tryz.ntmps53
  go_wp2
  go_ret
  exact ⟨keyL 3, rfl, HK.out, HU.out _⟩
 | 4, _ =>
  have HK := hid (keyL_ok 4 (by omega))
  have HU : Hid (∀ o, Up Nul w (w.alloc o)) := fun o => (Up.refl Nul w).alloc o
  go_enter Tryz.func53, Tryz.ntmps53
  go_wp2
  go_ret
  exact ⟨keyL 4, rfl, HK.out, HU.out _⟩
 | 5, _ =>
  have HK := hid (keyL_ok 5 (by omega))
  have HU : Hid (∀ o, Up Nul w (w.alloc o)) := fun o => (Up.refl Nul w).alloc o
  go_enter Tryz.func53, Tryz.ntmps53
  go_wp2
  go_ret
  exact ⟨keyL 5, rfl, HK.out, HU.out _⟩
 | 6, _ =>
  have HK := hid (keyL_ok 6 (by omega))
  have HU : Hid (∀ o, Up Nul w (w.alloc o)) := fun o => (Up.refl Nul w).alloc o
  go_enter Tryz.func53, Tryz.ntmps53
  go_wp2
  go_ret
  exact ⟨keyL 6, rfl, HK.out, HU.out _⟩
 | 7, _ =>
  have HK := hid (keyL_ok 7 (by omega))
  have HU : Hid (∀ o, Up Nul w (w.alloc o)) := fun o => (Up.refl Nul w).alloc o
  go_enter Tryz.func53, Tryz.ntmps53
  go_wp2
  go_ret
  exact ⟨keyL 7, rfl, HK.out, HU.out _⟩
 | 8, _ =>
  have HK := hid (keyL_ok 8 (by omega))
  have HU : Hid (∀ o, Up Nul w (w.alloc o)) := fun o => (Up.refl Nul w).alloc o
  go_enter Tryz.func53, Tryz.ntmps53
  go_wp2
  go_ret
  exact ⟨keyL 8, rfl, HK.out, HU.out _⟩
 | 9, _ =>
  have HK := hid (keyL_ok 9 (by omega))
  have HU : Hid (∀ o, Up Nul w (w.alloc o)) := fun o => (Up.refl Nul w).alloc o
  go_enter Tryz.func53, Tryz.ntmps53
  go_wp2
  go_ret
  exact ⟨keyL 9, rfl, HK.out, HU.out _⟩
 | 10, _ =>
  have HK := hid (keyL_ok 10 (by omega))
  have HU : Hid (∀ o, Up Nul w (w.alloc o)) := fun o => (Up.refl Nul w).alloc o
  go_enter Tryz.func53, Tryz.ntmps53
  go_wp2
  go_ret
  exact ⟨keyL 10, rfl, HK.out, HU.out _⟩
 | 11, _ =>
  have HK := hid (keyL_ok 11 (by omega))
  have HU : Hid (∀ o, Up Nul w (w.alloc o)) := fun o => (Up.refl Nul w).alloc o
  go_enter Tryz.func53, Tryz.ntmps53
  go_wp2
  go_ret
  exact ⟨keyL 11, rfl, HK.out, HU.out _⟩
namespace RcL
theorem i64_mask (m : Nat) (hm : m < 63) (n : Int) : ∃ k : Nat, bits .and .i64 n ((2 ^ m - 1 : Nat) : Int) = (k : Int) ∧ k < 2 ^ m := by
 have hp : 2 ^ m ≤ 2 ^ 62 := Nat.pow_le_pow_right (by omega) (by omega)
 have key : (BitVec.ofInt 64 n &&& BitVec.ofInt 64 ((2 ^ m - 1 : Nat) : Int)).toNat = (n % ((2 ^ 64 : Nat) : Int)).toNat % 2 ^ m := by
  have e : (BitVec.ofInt 64 ((2 ^ m - 1 : Nat) : Int)).toNat = 2 ^ m - 1 := by
   rw [BitVec.toNat_ofInt]
   have : (((2 ^ m - 1 : Nat) : Int) % ((2 ^ 64 : Nat) : Int)) = ((2 ^ m - 1 : Nat) : Int) := Int.emod_eq_of_lt (by omega) (by omega)
   rw [this]
   omega
  rw [BitVec.toNat_and, BitVec.toNat_ofInt, e, Nat.and_two_pow_sub_one_eq_mod]
 refine ⟨(n % ((2 ^ 64 : Nat) : Int)).toNat % 2 ^ m, ?_, Nat.mod_lt _ (Nat.two_pow_pos m)⟩
 show IntKind.i64.wrap ((BitVec.ofInt 64 n &&& BitVec.ofInt 64 ((2 ^ m - 1 : Nat) : Int)).toNat : Nat) = _
 rw [key, IntKind.wrap_i64]
 have := Nat.mod_lt (n % ((2 ^ 64 : Nat) : Int)).toNat (Nat.two_pow_pos m)
 generalize (n % ((2 ^ 64 : Nat) : Int)).toNat % 2 ^ m = x at this ⊢
 omega
theorem mask24 (n : Int) : ∃ k : Nat, bits .and .i64 n 16777215 = (k : Int) ∧ k < 16777216 := i64_mask 24 (by omega) n
end RcL
def RowO (A : Nat) (w : World) (a : Option Addr) (zs : List Int) : Prop := zs = [] ∨ ∃ g o, a = some ⟨g, o, none⟩ ∧ g < w.heap.size ∧ g < A ∧ ∀ i x, zs[i]? = some x → w.cell? ⟨g, o + i, none⟩ = some (.int .i64 x)
structure Nx (W : World) (A Lb k : Nat) (zs : List Int) : Prop where
 at_ : W.heap[A]? = some (.cells #[.int .i64 (k : Nat)] 3 (0, 0))
 l : ∃ a c, W.heap[Lb]? = some (.cells #[.slice a zs.length c] 23 (0, 0)) ∧ RowO A W a zs
 le : k ≤ 1000
 nl : zs.length ≤ 9223372036854775807
 ne : A ≠ Lb
theorem Nx.keep {W W' : World} {A Lb k k' : Nat} {zs : List Int} {T : Nat → Prop} (h : Nx W A Lb k zs) (hk : k' ≤ 1000) (u : Up T W W') (ha : W'.heap[A]? = some (.cells #[.int .i64 (k' : Nat)] 3 (0, 0))) (hT : ∀ j, T j → A ≤ j ∧ j ≠ Lb) : Nx W' A Lb k' zs := by
 obtain ⟨h1, ⟨a, c, h2, h3⟩, h4, h5, h6⟩ := h
 have hL := (Array.getElem?_eq_some_iff.1 h2).1
 refine ⟨ha, ⟨a, c, (u.block Lb hL (fun e => (hT _ e).2 rfl)).trans h2, ?_⟩, hk, h5, h6⟩
 rcases h3 with e | ⟨g, o, e, hg, hA, hc⟩
 ·exact .inl e
 ·exact .inr ⟨g, o, e, Nat.lt_of_lt_of_le hg u.size, hA, fun i x hi => (u.cell (p := ⟨g, o + i, none⟩) hg (fun e => by have e : T g := e; have := (hT g e).1; omega)).trans (hc i x hi)⟩
theorem Nx.nxt {W W' : World} {A Lb k : Nat} {zs : List Int} (h : Nx W A Lb k zs) (u : Up Nul W W') : Nx W' A Lb k zs := h.keep h.le u ((u.block A (Array.getElem?_eq_some_iff.1 h.at_).1 id).trans h.at_) fun _ e => e.elim
set_option maxHeartbeats 1000000 in
theorem nxt_any (W : World) (A Lb k n : Nat) (zs : List Int) (h : Nx W A Lb k zs) (hn : 1 ≤ n) (hn2 : n ≤ 100000) (hk : k + 1 ≤ 1000) :
  Calls Tryz.prog 51 #[.int .i64 (n : Nat), .pointer (some ⟨A, 0, none⟩), .pointer (some ⟨Lb, 0, none⟩)] W fun e w' => ∃ x : Nat, e = .returned (.int .i64 (x : Nat)) ∧ x < n ∧ Nx w' A Lb (k + 1) zs ∧ Up (One A) W w' := by
 have x0 : W.cell? ⟨A, 0, none⟩ = some (.int .i64 (k : Nat)) := by simp [World.cell?, h.at_]
 have f0 : W.frozen? ⟨A, 0, none⟩ = false := by simp [World.frozen?, h.at_]
 obtain ⟨a, c, hL, hrow⟩ := h.l
 obtain ⟨W1, hW1⟩ : ∃ w, w = W.setCell ⟨A, 0, none⟩ (.int .i64 ((k : Int) + 1)) := ⟨_, rfl⟩
 have hU : Up (One A) W W1 := by rw [hW1]; exact (Up.refl (One A) W).put rfl 0 _
 have hA1 : W1.heap[A]? = some (.cells #[.int .i64 ((k + 1 : Nat) : Int)] 3 (0, 0)) := by rw [hW1, heap_set_same h.at_]; rfl
 have HN : Hid (Nx W1 A Lb (k + 1) zs) := h.keep hk hU hA1 fun j e => by have e : j = A := e; subst e; exact ⟨Nat.le_refl _, h.ne⟩
 have y0 : W1.cell? ⟨A, 0, none⟩ = some (.int .i64 ((k : Int) + 1)) := by simp [World.cell?, hA1]
 have hL1 := (hU.block Lb (Array.getElem?_eq_some_iff.1 hL).1 (fun e => h.ne e.symm)).trans hL
 have y1 : W1.cell? ⟨Lb, 0, none⟩ = some (.slice a zs.length c) := by simp [World.cell?, hL1]
 have HU := hid hU
 have HR : Hid (∀ t x, zs[t]? = some x → ∃ g o, a = some ⟨g, o, none⟩ ∧ W1.cell? ⟨g, o + t, none⟩ = some (.int .i64 x)) := fun t x hx => by
  obtain ⟨g, o, e, hg, hgA, hc⟩ := hrow.resolve_left (fun e => by rw [e] at hx; cases hx)
  exact ⟨g, o, e, (hU.cell (p := ⟨g, o + t, none⟩) hg (fun e => by have e : g = A := e; omega)).trans (hc t x hx)⟩
 have hnl := h.nl
 have HNN := hid (And.intro hn hn2)
 have j1 : IntKind.i64.wrap ((k : Int) + 1) = (k : Int) + 1 := IntWalk.i64_in _ (by omega)
 have e1 : ((n : Nat) : Int) ≠ 0 := by omega
 have e0 : (((n : Nat) : Int) == 0) = false := by simpa using e1
 clear hU hA1 h hL hrow hL1
 by_cases hgt : zs.length < k + 1
 ·have i1 : ((zs.length : Nat) : Int) < (k : Int) + 1 := by omega
  obtain ⟨m, hm⟩ : ∃ m : Nat, m = (k + 1) * 7 % n := ⟨_, rfl⟩
  have HM : Hid (m < n) := by show m < n; rw [hm]; exact Nat.mod_lt _ hn
  have i2 : IntKind.i64.wrap (((k : Int) + 1) * 7) = ((k : Int) + 1) * 7 := IntWalk.i64_in _ (by omega)
  have i4 : wrap64 (((k : Int) + 1) * 7) = ((k : Int) + 1) * 7 := by rw [← IntWalk.i64_left]; exact i2
  have i3 : (((k : Int) + 1) * 7).tmod (n : Int) = (m : Int) := by rw [hm, Int.tmod_eq_emod_of_nonneg (by omega)]; simp
  have i5 : (((k : Int) + 1) * 7) % (n : Int) = (m : Int) := by rw [hm]; simp
  subst hW1
  clear hm hgt hn hn2 hk HNN HR
  go_enter Tryz.func51, Tryz.ntmps51
  go_wp2_with fail
  go_ret
  exact ⟨m, rfl, HM.out, HN.out, HU.out⟩
 ·have i1 : ¬ ((zs.length : Nat) : Int) < (k : Int) + 1 := by omega
  have hkl : k < zs.length := by omega
  obtain ⟨g, o, rfl, hc⟩ := HR.out k _ (List.getElem?_eq_getElem hkl)
  obtain ⟨y, hy, hy2⟩ := RcL.mask24 zs[k]
  obtain ⟨m, hm⟩ : ∃ m : Nat, m = y % n := ⟨_, rfl⟩
  have HM : Hid (m < n) := by show m < n; rw [hm]; exact Nat.mod_lt _ hn
  generalize zs[k] = x at hc hy
  have i2 : IntKind.i64.wrap ((k : Int) + 1 - 1) = (k : Int) := by rw [show (k : Int) + 1 - 1 = (k : Int) by omega]; exact IntWalk.i64_in _ (by omega)
  have i4 : wrap64 ((k : Int) + 1 - 1) = (k : Int) := by rw [← IntWalk.i64_left]; exact i2
  have i7 : (k : Int) + 1 - 1 = (k : Int) := by omega
  have i3 : ((y : Nat) : Int).tmod (n : Int) = (m : Int) := by rw [hm, Int.tmod_eq_emod_of_nonneg (by omega)]; simp
  have i5 : ((y : Nat) : Int) % (n : Int) = (m : Int) := by rw [hm]; simp
  have i6 : (k : Int) < ((zs.length : Nat) : Int) := by omega
  have i8 : (0 : Int) ≤ (k : Int) := by omega
  subst hW1
  clear hm hgt hn hn2 hk HNN HR hy2 hkl
  go_enter Tryz.func51, Tryz.ntmps51
  go_wp2_with fail
  go_ret
  exact ⟨m, rfl, HM.out, HN.out, HU.out⟩

theorem nxt_int (W : World) (A Lb k : Nat) (n : Int) (zs : List Int) (h : Nx W A Lb k zs) (hn : 1 ≤ n) (hn2 : n ≤ 100000) (hk : k + 1 ≤ 1000) :
  Calls Tryz.prog 51 #[.int .i64 n, .pointer (some ⟨A, 0, none⟩), .pointer (some ⟨Lb, 0, none⟩)] W fun e w' => ∃ x : Nat, e = .returned (.int .i64 (x : Nat)) ∧ (x : Int) < n ∧ Nx w' A Lb (k + 1) zs ∧ Up (One A) W w' := by
 obtain ⟨m, rfl⟩ := Int.eq_ofNat_of_zero_le (show 0 ≤ n by omega)
 refine (nxt_any W A Lb k m zs h (by omega) (by omega) hk).mono ?_
 rintro e w' ⟨x, rfl, hx, hnx, u⟩
 exact ⟨x, rfl, by omega, hnx, u⟩
abbrev nextV (A Lb : Nat) : Value := .func (.func 51) #[] #[.pointer (some ⟨A, 0, none⟩), .pointer (some ⟨Lb, 0, none⟩)]
abbrev rcellsL (r : Rc) (sv lv : Value) : Array Value := #[.int .i64 r.kind, .string r.key, .int .i64 r.n, .int .i64 r.sid, sv, .int .i64 r.colour, lv, .int .i64 r.t.hot, .int .i64 r.t.warm, .int .i64 r.t.gap, .int .i64 r.t.add, .int .i64 r.t.top, .int .i64 r.t.half]
structure Rs (w0 : World) (W : World) (A Lb F p k : Nat) (zs : List Int) (C : Array Value) (G : Option (Nat × Array Value)) : Prop where
 nx : Nx W A Lb k zs
 cl : W.heap[F]? = some (.cells #[nextV A Lb] 96 (0, 0))
 pc : W.heap[p]? = some (.cells C 28 (0, 0))
 gc : ∀ g cs, G = some (g, cs) → W.heap[g]? = some (.cells cs 3 (0, 0)) ∧ g ≠ A ∧ g ≠ p ∧ w0.heap.size ≤ g
 up : Up Nul w0 W
 a : w0.heap.size ≤ A ∧ w0.heap.size ≤ p
 ne : A ≠ F ∧ A ≠ p ∧ F ≠ p ∧ p ≠ Lb ∧ A ≤ p
section
variable {w0 W : World} {A Lb F p k : Nat} {zs : List Int} {C : Array Value} {G : Option (Nat × Array Value)}
theorem Rs.clc (h : Rs w0 W A Lb F p k zs C G) : W.cell? ⟨F, 0, none⟩ = some (nextV A Lb) := by simp [World.cell?, h.cl]
theorem Rs.cell (h : Rs w0 W A Lb F p k zs C G) {i : Nat} {v : Value} (hv : C[i]? = some v) : W.cell? ⟨p, i, none⟩ = some v := by simp [World.cell?, h.pc, hv]
theorem Rs.froz (h : Rs w0 W A Lb F p k zs C G) (i : Nat) : W.frozen? ⟨p, i, none⟩ = false := by simp [World.frozen?, h.pc]
end
section
variable {w0 W W' : World} {A Lb F p k : Nat} {zs : List Int} {C : Array Value} {G : Option (Nat × Array Value)}
theorem Rs.nxt (h : Rs w0 W A Lb F p k zs C G) (u : Up Nul W W') : Rs w0 W' A Lb F p k zs C G :=
 ⟨h.nx.nxt u, (u.block F (Array.getElem?_eq_some_iff.1 h.cl).1 id).trans h.cl, (u.block p (Array.getElem?_eq_some_iff.1 h.pc).1 id).trans h.pc, fun g cs e => ⟨(u.block g (Array.getElem?_eq_some_iff.1 (h.gc g cs e).1).1 id).trans (h.gc g cs e).1, (h.gc g cs e).2⟩, h.up.trans u, h.a, h.ne⟩
end
section
variable {w0 W W' : World} {A Lb F p k k' : Nat} {zs : List Int} {C : Array Value} {G : Option (Nat × Array Value)}
theorem Rs.call (h : Rs w0 W A Lb F p k zs C G) (n : Nx W' A Lb k' zs) (u : Up (One A) W W') : Rs w0 W' A Lb F p k' zs C G :=
 ⟨n, (u.block F (Array.getElem?_eq_some_iff.1 h.cl).1 fun e => h.ne.1 e.symm).trans h.cl, (u.block p (Array.getElem?_eq_some_iff.1 h.pc).1 fun e => h.ne.2.1 e.symm).trans h.pc,
  fun g cs e => ⟨(u.block g (Array.getElem?_eq_some_iff.1 (h.gc g cs e).1).1 fun e2 => (h.gc g cs e).2.1 e2).trans (h.gc g cs e).1, (h.gc g cs e).2⟩,
  ⟨u.os.trans h.up.os, u.tape.trans h.up.tape, u.output.trans h.up.output, Nat.le_trans h.up.size u.size, fun j hj _ => (u.block j (Nat.lt_of_lt_of_le hj h.up.size) (fun e => by have e : j = A := e; have := h.a.1; omega)).trans (h.up.block j hj id)⟩, h.a, h.ne⟩
end
section
variable {w0 W : World} {A Lb F p k : Nat} {zs : List Int} {C : Array Value} {G : Option (Nat × Array Value)}
theorem Rs.set (h : Rs w0 W A Lb F p k zs C G) (i : Nat) (v : Value) : Rs w0 (W.setCell ⟨p, i, none⟩ v) A Lb F p k zs (C.setIfInBounds i v) G := by
 have u : Up (One p) W (W.setCell ⟨p, i, none⟩ v) := (Up.refl (One p) W).put rfl i v
 exact ⟨h.nx.keep h.nx.le u ((u.block A (Array.getElem?_eq_some_iff.1 h.nx.at_).1 h.ne.2.1).trans h.nx.at_) (fun j e => by have e : j = p := e; subst e; exact ⟨h.ne.2.2.2.2, h.ne.2.2.2.1⟩),
  (u.block F (Array.getElem?_eq_some_iff.1 h.cl).1 h.ne.2.2.1).trans h.cl, heap_set_same h.pc i v,
  fun g cs e => ⟨(u.block g (Array.getElem?_eq_some_iff.1 (h.gc g cs e).1).1 (h.gc g cs e).2.2.1).trans (h.gc g cs e).1, (h.gc g cs e).2⟩, h.up.setCell (.inl h.a.2) v, h.a, h.ne⟩
end
section
variable {w0 W : World} {A Lb F p k : Nat} {zs : List Int} {C : Array Value}
theorem Rs.row3 (h : Rs w0 W A Lb F p k zs C none) (cs : Array Value) : Rs w0 (W.alloc (.cells cs 3)) A Lb F p k zs C (some (W.heap.size, cs)) := by
 have h2 := h.nxt ((Up.refl Nul W).alloc (.cells cs 3))
 refine ⟨h2.nx, h2.cl, h2.pc, fun g cs' e => ?_, h2.up, h2.a, h2.ne⟩
 cases e
 refine ⟨heap_alloc_new _ _, ?_, ?_, h.up.size⟩
 ·have := (Array.getElem?_eq_some_iff.1 h.nx.at_).1; omega
 ·have := (Array.getElem?_eq_some_iff.1 h.pc).1; omega
end
structure OkP (r : Rc) (L : Nat) : Prop where
 k1 : 1 ≤ kn r
 k8 : kn r ≤ 8
 kk : r.kind = (kn r : Int)
 key : sh (kn r) 0 ≤ (r.key.size : Nat) ∧ ((r.key.size : Nat) : Int) ≤ sh (kn r) 1
 pl : ∀ c ∈ nums r.key, 33 ≤ c ∧ c ≤ 126
 n : sh (kn r) 2 ≤ r.n ∧ r.n ≤ sh (kn r) 3
 sid : sh (kn r) 4 ≤ r.sid ∧ r.sid ≤ sh (kn r) 5
 co : sh (kn r) 6 ≤ r.colour ∧ r.colour ≤ sh (kn r) 7
 ns : ((r.sids.length : Nat) : Int) = sh (kn r) 8
 sids : ∀ x ∈ r.sids, sh (kn r) 9 ≤ x ∧ x ≤ sh (kn r) 10
 nl : ((L : Nat) : Int) = sh (kn r) 11 + sh (kn r) 12 * ((nz r.sids : Nat) : Int)
 t : ∀ x ∈ r.t.l, sh (kn r) 13 ≤ x ∧ x ≤ sh (kn r) 14
 l6 : L ≤ 6
theorem OkP.done {r : Rc} {L : Nat} (h : OkP r L) (ls : List Lo) (hl : ls.length = L) (hs : ∀ l ∈ ls, (0 ≤ l.d ∧ l.d ≤ 23) ∧ (0 ≤ l.s ∧ l.s ≤ 63) ∧ 1 ≤ l.i ∧ l.i ≤ 2147483647) : OkF { r with locs := ls } :=
 ⟨h.k1, h.k8, h.kk, h.key, h.pl, h.n, h.sid, h.co, h.ns, h.sids, by show ((ls.length : Nat) : Int) = _; rw [hl]; exact h.nl, hs, h.t⟩
abbrev rcells (r : Rc) (sv : Value) : Array Value := #[.int .i64 r.kind, .string r.key, .int .i64 r.n, .int .i64 r.sid, sv, .int .i64 r.colour, .slice none 0 0, .int .i64 r.t.hot, .int .i64 r.t.warm, .int .i64 r.t.gap, .int .i64 r.t.add, .int .i64 r.t.top, .int .i64 r.t.half]
def Svs (r : Rc) (sv : Value) (G : Option (Nat × Array Value)) : Prop := (r.sids = [] ∧ sv = .slice none 0 0) ∨ ∃ g a b c, G = some (g, #[.int .i64 a, .int .i64 b, .int .i64 c]) ∧ r.sids = [a, b, c] ∧ sv = .slice (some ⟨g, 0, none⟩) 3 3

structure Ls (W0 W : World) (A Lb F r k : Nat) (zs : List Int) (C : Array Value) : Prop where
 nx : Nx W A Lb k zs
 cl : W.heap[F]? = some (.cells #[nextV A Lb] 96 (0, 0))
 pc : W.heap[r]? = some (.cells C 64 (0, 0))
 up : Up (One A) W0 W
 ne : A ≠ F ∧ A ≠ r ∧ F ≠ r ∧ r ≠ Lb ∧ A ≤ r ∧ W0.heap.size ≤ r
section
variable {W0 W : World} {A Lb F r k : Nat} {zs : List Int} {C : Array Value}
theorem Ls.clc (h : Ls W0 W A Lb F r k zs C) : W.cell? ⟨F, 0, none⟩ = some (nextV A Lb) := by simp [World.cell?, h.cl]
end
section
variable {W0 W W' : World} {A Lb F r k k' : Nat} {zs : List Int} {C : Array Value}
theorem Ls.call (h : Ls W0 W A Lb F r k zs C) (n : Nx W' A Lb k' zs) (u : Up (One A) W W') : Ls W0 W' A Lb F r k' zs C :=
 ⟨n, (u.block F (Array.getElem?_eq_some_iff.1 h.cl).1 fun e => h.ne.1 e.symm).trans h.cl, (u.block r (Array.getElem?_eq_some_iff.1 h.pc).1 fun e => h.ne.2.1 e.symm).trans h.pc, h.up.trans u, h.ne⟩
end
section
variable {W0 W : World} {A Lb F r k : Nat} {zs : List Int} {C : Array Value}
theorem Ls.drew (h : Ls W0 W A Lb F r k zs C) : Ls W0 W.drew A Lb F r k zs C := ⟨h.nx.nxt (Up.refl Nul W).drew, h.cl, h.pc, h.up.drew, h.ne⟩
theorem Ls.set (h : Ls W0 W A Lb F r k zs C) (i : Nat) (v : Value) : Ls W0 (W.setCell ⟨r, i, none⟩ v) A Lb F r k zs (C.setIfInBounds i v) := by
 have u : Up (One r) W (W.setCell ⟨r, i, none⟩ v) := (Up.refl (One r) W).put rfl i v
 exact ⟨h.nx.keep h.nx.le u ((u.block A (Array.getElem?_eq_some_iff.1 h.nx.at_).1 h.ne.2.1).trans h.nx.at_) (fun j e => by have e : j = r := e; subst e; exact ⟨h.ne.2.2.2.2.1, h.ne.2.2.2.1⟩),
  (u.block F (Array.getElem?_eq_some_iff.1 h.cl).1 h.ne.2.2.1).trans h.cl, heap_set_same h.pc i v, h.up.setCell (.inl h.ne.2.2.2.2.2) v, h.ne⟩
theorem Ls.cells (h : Ls W0 W A Lb F r k zs C) {i : Nat} {v : Value} (hv : C[i]? = some v) : W.cell? ⟨r, i, none⟩ = some v ∧ W.frozen? ⟨r, i, none⟩ = false := ⟨by simp [World.cell?, h.pc, hv], by simp [World.frozen?, h.pc]⟩
end
set_option maxHeartbeats 1000000 in
theorem locL_any (W : World) (A Lb F k : Nat) (zs : List Int) (h : Nx W A Lb k zs) (hc : W.heap[F]? = some (.cells #[nextV A Lb] 96 (0, 0))) (hF : A ≠ F) (hk : k + 3 ≤ 1000) (hL : Lb < W.heap.size) :
  Calls Tryz.prog 52 #[.pointer (some ⟨F, 0, none⟩)] W fun e w' => ∃ d s i : Nat, e = .returned (.agg #[.int .i64 (d : Nat), .int .i64 (s : Nat), .int .i64 (i : Nat)]) ∧ (d ≤ 23 ∧ s ≤ 63 ∧ 1 ≤ i ∧ i ≤ 1000) ∧ Nx w' A Lb (k + 3) zs ∧ Up (One A) W w' := by
 obtain ⟨W1, hW1⟩ : ∃ w, w = W.alloc (.cells #[.int .i64 0, .int .i64 0, .int .i64 0] 64) := ⟨_, rfl⟩
 have U1 : Up Nul W W1 := by rw [hW1]; exact (Up.refl Nul W).alloc _
 have hA := (Array.getElem?_eq_some_iff.1 h.at_).1
 have hFl := (Array.getElem?_eq_some_iff.1 hc).1
 obtain ⟨r, R⟩ : ∃ r, Hid (W.heap.size = r) := ⟨_, rfl⟩
 have HR : Hid (Ls W W1 A Lb F r k zs #[.int .i64 0, .int .i64 0, .int .i64 0]) := ⟨h.nxt U1, (U1.block F hFl id).trans hc, by rw [hW1, ← R.out]; exact heap_alloc_new _ _, U1.nul, by have := R.out; omega⟩
 have HKK := hid hk
 clear h hc hF hL U1 hA hFl hk
 go_enter Tryz.func52, Tryz.ntmps52
 go_wp2_with fail
 rw [← hW1, R.out]
 clear hW1
 have HR := hid HR.out.drew
 refine wp_region_held_drew (S := (fun W => W.cell? ⟨F, 0, none⟩ = some (nextV A Lb))) (by kernel_rfl) (by exact HR.out.clc) (fun hHeld => ?_)
 refine tkv 0 (some 2) rfl ?_
 refine tkv 2 (some 4) rfl ?_
 refine tkv 4 (some 6) rfl ?_
 refine one 1 (some 3) rfl (fun K hK => ?_)
 go_simp
 go_at_call 51
 refine (nxt_int _ A Lb _ _ zs HR.out.nx (by omega) (by omega) (by have := HKK.out; omega)).mono ?_
 rintro e wc ⟨x3, rfl, h3, hn, hu⟩
 have HR := hid (HR.out.call hn hu)
 clear hn hu
 have v3 : IntKind.i64.wrap ((x3 : Int) + 1) = (x3 : Int) + 1 := IntWalk.i64_in _ (by omega)
 refine hK.out _ _ (HR.out.clc) (fun hHeld => ?_)
 clear hK K
 try simp only [tdy]
 refine one 3 (some 5) rfl (fun K hK => ?_)
 go_simp
 go_at_call 51
 refine (nxt_int _ A Lb _ _ zs HR.out.nx (by omega) (by omega) (by have := HKK.out; omega)).mono ?_
 rintro e wc ⟨x5, rfl, h5, hn, hu⟩
 have HR := hid (HR.out.call hn hu)
 clear hn hu
 have v5 : IntKind.i64.wrap ((x5 : Int) + 1) = (x5 : Int) + 1 := IntWalk.i64_in _ (by omega)
 refine hK.out _ _ (HR.out.clc) (fun hHeld => ?_)
 clear hK K
 try simp only [tdy]
 refine one 5 (some 7) rfl (fun K hK => ?_)
 go_simp
 go_at_call 51
 refine (nxt_int _ A Lb _ _ zs HR.out.nx (by omega) (by omega) (by have := HKK.out; omega)).mono ?_
 rintro e wc ⟨x7, rfl, h7, hn, hu⟩
 have HR := hid (HR.out.call hn hu)
 clear hn hu
 have v7 : IntKind.i64.wrap ((x7 : Int) + 1) = (x7 : Int) + 1 := IntWalk.i64_in _ (by omega)
 refine hK.out _ _ (HR.out.clc) (fun hHeld => ?_)
 clear hK K
 try simp only [tdy]
 refine tkv 6 (some 8) rfl ?_
 refine tkv 7 (some 9) rfl ?_
 have c0 := HR.out.cells (i := 0) rfl
 obtain ⟨c0, f0⟩ := c0
 have c1 := HR.out.cells (i := 1) rfl
 obtain ⟨c1, f1⟩ := c1
 have c2 := HR.out.cells (i := 2) rfl
 obtain ⟨c2, f2⟩ := c2
 refine one 8 none rfl (fun K hK => ?_)
 go_simp
 have HR := hid (((HR.out.set 0 (.int .i64 (x3 : Nat))).set 1 (.int .i64 (x5 : Nat))).set 2 (.int .i64 ((x7 : Int) + 1)))
 refine hK.out _ _ (HR.out.clc) (fun hHeld => ?_)
 clear hK K
 try simp only [tdy]
 refine wpAnyH_done (by kernel_rfl) ?_ _
 go_wp2_with fail
 refine bodyPost_ret (results_cell_row (P := Tryz.prog) (ty := 64) rfl _ _ r _ _ _ _ rfl HR.out.pc Tryz.underlying64 rfl info_loc3) rfl ?_
 exact ⟨x3, x5, x7 + 1, rfl, by omega, HR.out.nx, HR.out.up⟩

theorem came_o {w : World} {a : Option Addr} {len cap : Nat} {zs : List Int} (h : CameI w a len cap zs) (A : Nat) (hA : w.heap.size ≤ A) : ∃ ys, ys.length = len ∧ RowO A w a ys ∧ len ≤ 9223372036854775807 := by
 rcases h with ⟨_, rfl, _⟩ | ⟨x, rfl, hl, hm, hz, hc, hw⟩
 ·exact ⟨[], rfl, .inl rfl, by omega⟩
 ·unfold maxLen at hm
  refine ⟨zs.take len, by rw [List.length_take]; omega, ?_, by omega⟩
  by_cases h0 : len = 0
  ·exact .inl (by rw [h0]; rfl)
  ·obtain ⟨b, o, spot⟩ := x
   have hc0 := hc 0 (by omega)
   have hs : spot = none := by simpa [Addr.add] using World.cell?_spot hc0
   subst hs
   have hb := lt_of_cell hc0
   have hb : b < w.heap.size := by simpa [Addr.add] using hb
   refine .inr ⟨b, o, rfl, hb, by omega, fun i x hi => ?_⟩
   rw [List.getElem?_take] at hi
   split at hi
   ·next hil =>
    have := hc i (by omega)
    rw [add_off, List.getD_eq_getElem?_getD, hi] at this
    exact this
   ·cases hi
structure Rt (w0 W : World) (A Lb F p k : Nat) (zs : List Int) (C : Array Value) (G : Option (Nat × Array Value)) (r0 : Nat) : Prop where
 rs : Rs w0 W A Lb F p k zs C G
 rc : W.heap[r0]? = some (.cells #[.int .i64 0, .string ⟨#[]⟩, .int .i64 0, .int .i64 0, .slice none 0 0, .int .i64 0, .slice none 0 0, .int .i64 0, .int .i64 0, .int .i64 0, .int .i64 0, .int .i64 0, .int .i64 0] 28 (0, 0))
 ne : r0 ≠ A ∧ r0 ≠ p ∧ w0.heap.size ≤ r0
section
variable {w0 W W' : World} {A Lb F p k r0 : Nat} {zs : List Int} {C : Array Value} {G : Option (Nat × Array Value)}
theorem Rt.nxt (h : Rt w0 W A Lb F p k zs C G r0) (u : Up Nul W W') : Rt w0 W' A Lb F p k zs C G r0 := ⟨h.rs.nxt u, (u.block r0 (Array.getElem?_eq_some_iff.1 h.rc).1 id).trans h.rc, h.ne⟩
end
section
variable {w0 W W' : World} {A Lb F p k k' r0 : Nat} {zs : List Int} {C : Array Value} {G : Option (Nat × Array Value)}
theorem Rt.call (h : Rt w0 W A Lb F p k zs C G r0) (n : Nx W' A Lb k' zs) (u : Up (One A) W W') : Rt w0 W' A Lb F p k' zs C G r0 := ⟨h.rs.call n u, (u.block r0 (Array.getElem?_eq_some_iff.1 h.rc).1 h.ne.1).trans h.rc, h.ne⟩
end
section
variable {w0 W : World} {A Lb F p k r0 : Nat} {zs : List Int} {C : Array Value} {G : Option (Nat × Array Value)}
theorem Rt.set (h : Rt w0 W A Lb F p k zs C G r0) (i : Nat) (v : Value) : Rt w0 (W.setCell ⟨p, i, none⟩ v) A Lb F p k zs (C.setIfInBounds i v) G r0 :=
 ⟨h.rs.set i v, (((Up.refl (One p) W).put rfl i v : Up (One p) W _).block r0 (Array.getElem?_eq_some_iff.1 h.rc).1 h.ne.2.1).trans h.rc, h.ne⟩
end
section
variable {w0 W : World} {A Lb F p k r0 : Nat} {zs : List Int} {C : Array Value}
theorem Rt.row3 (h : Rt w0 W A Lb F p k zs C none r0) (g : Nat) (hg : g = W.heap.size) (cs : Array Value) : Rt w0 (W.alloc (.cells cs 3)) A Lb F p k zs C (some (g, cs)) r0 :=
 ⟨by rw [hg]; exact h.rs.row3 cs, (Below.heap_alloc _ _ _ (Array.getElem?_eq_some_iff.1 h.rc).1).trans h.rc, h.ne⟩
end
section
variable {w0 W : World} {A Lb F p k r0 : Nat} {zs : List Int} {C : Array Value} {G : Option (Nat × Array Value)}
theorem Rt.cell (h : Rt w0 W A Lb F p k zs C G r0) {i : Nat} {v : Value} (hv : C[i]? = some v) : W.cell? ⟨p, i, none⟩ = some v ∧ W.frozen? ⟨p, i, none⟩ = false := ⟨h.rs.cell hv, h.rs.froz i⟩
end
section
variable {w0 W : World} {A Lb F p k r0 : Nat} {zs : List Int} {C : Array Value}
theorem Rt.gcell {a b c : Int} {g : Nat} (h : Rt w0 W A Lb F p k zs C (some (g, #[.int .i64 a, .int .i64 b, .int .i64 c])) r0) {t : Nat} (ht : t < 3) : W.cell? ⟨g, t, none⟩ = some (.int .i64 ([a, b, c].getD t 0)) := by
 have := (h.rs.gc _ _ rfl).1
 match t, ht with
 | 0, _ => simp [World.cell?, this]
 | 1, _ => simp [World.cell?, this]
 | 2, _ => simp [World.cell?, this]
end
def Ry (w0 : World) (A Lb F p r0 : Nat) (zs : List Int) (s7 : Value) (wx : World) : Prop := ∃ (r : Rc) (sv : Value) (L k : Nat) (G : Option (Nat × Array Value)), s7 = .int .i64 ((L : Nat) : Int) ∧ Rt w0 wx A Lb F p k zs (rcells r sv) G r0 ∧ Svs r sv G ∧ OkP r L ∧ k ≤ 20
theorem Rt.grow {w0 W W' : World} {A Lb F p k r0 base : Nat} {zs : List Int} {C : Array Value} {G : Option (Nat × Array Value)} {row : Option Nat} (h : Rt w0 W A Lb F p k zs C G r0) (hb : A < base ∧ Lb < base ∧ F < base ∧ p < base ∧ r0 < base ∧ w0.heap.size ≤ base ∧ ∀ g cs, G = some (g, cs) → g < base) (g : W.grownBy W' row) (hr : ∀ k, row = some k → base ≤ k) : Rt w0 W' A Lb F p k zs C G r0 := by
 obtain ⟨b1, b2, b3, b4, b5, b6, b7⟩ := hb
 have u : Up (fun j => row = some j) W W' := ⟨g.os, g.tape, g.output, g.size, fun k hk hs => g.block k hk fun e => hs e.symm⟩
 have kp : ∀ j, j < base → j < W.heap.size → W'.heap[j]? = W.heap[j]? := fun j hj hl => g.block j hl fun e => by have := hr j e.symm; omega
 have hA := (Array.getElem?_eq_some_iff.1 h.rs.nx.at_).1
 have hF := (Array.getElem?_eq_some_iff.1 h.rs.cl).1
 have hp := (Array.getElem?_eq_some_iff.1 h.rs.pc).1
 have h0 := (Array.getElem?_eq_some_iff.1 h.rc).1
 refine ⟨⟨h.rs.nx.keep h.rs.nx.le u ((kp A b1 hA).trans h.rs.nx.at_) (fun j e => by have := hr j e; omega), (kp F b3 hF).trans h.rs.cl, (kp p b4 hp).trans h.rs.pc, fun q cs e => ⟨(kp q (b7 q cs e) (Array.getElem?_eq_some_iff.1 (h.rs.gc q cs e).1).1).trans (h.rs.gc q cs e).1, (h.rs.gc q cs e).2⟩, ⟨u.os.trans h.rs.up.os, u.tape.trans h.rs.up.tape, u.output.trans h.rs.up.output, Nat.le_trans h.rs.up.size u.size, fun j hj _ => (kp j (by omega) (Nat.lt_of_lt_of_le hj h.rs.up.size)).trans (h.rs.up.block j hj id)⟩, h.rs.a, h.rs.ne⟩, (kp r0 b5 h0).trans h.rc, h.ne⟩
theorem OwnLo.base_le {base : Nat} {w : World} {v : Value} {ls : List Lo} {x : Lo} (h : OwnLo base w v (ls ++ [x])) : base ≤ w.heap.size := by
 rcases h.2 with ⟨_, h0⟩ | ⟨g, cap, cur, h1, h2, h3, h4⟩
 ·simp at h0
 ·have := (Array.getElem?_eq_some_iff.1 h3).1; omega
theorem Rt.lts {w0 W : World} {A Lb F p k r0 : Nat} {zs : List Int} {C : Array Value} {G : Option (Nat × Array Value)} (h : Rt w0 W A Lb F p k zs C G r0) : A < W.heap.size ∧ Lb < W.heap.size ∧ F < W.heap.size ∧ p < W.heap.size ∧ r0 < W.heap.size ∧ w0.heap.size ≤ W.heap.size ∧ ∀ g cs, G = some (g, cs) → g < W.heap.size := by
 obtain ⟨a, c, h2, _⟩ := h.rs.nx.l
 exact ⟨(Array.getElem?_eq_some_iff.1 h.rs.nx.at_).1, (Array.getElem?_eq_some_iff.1 h2).1, (Array.getElem?_eq_some_iff.1 h.rs.cl).1, (Array.getElem?_eq_some_iff.1 h.rs.pc).1, (Array.getElem?_eq_some_iff.1 h.rc).1, h.rs.up.size, fun g cs e => (Array.getElem?_eq_some_iff.1 (h.rs.gc g cs e).1).1⟩
theorem exec_build (o : Oper) (ev : Operand → Value) (t : TypeId) (parts : Array (Nat × Operand)) (ho : o.op = .build t parts) (vs : Array (Nat × Value)) (hvs : parts.map (fun p => (p.1, ev p.2)) = vs) (v : Value) (w : World) (h : (Instr.build t vs).run Tryz.prog w = .ok v w) :
  (execOp ev o).run Tryz.prog w = .ok (.value v) w := by
 unfold execOp
 simp only [ho]
 have e : parts.map (fun x => match x with | (i, p) => (i, ev p)) = vs := hvs
 simp [e, h]
theorem wp_exec {w w' : World} {o : Oper} {a : Act} {K : Act → World → Prop} {Q : Exit → Act → World → Prop} {v : Value} (h : (execOp a.eval o).run Tryz.prog w = .ok (.value v) w') (hk : K (a.put o.dst v) w') : Oper.wp Tryz.prog o a w K Q := by
 unfold Oper.wp
 rw [h]
 exact hk
theorem build_tab (a b c d e f : Int) (w : World) : (Instr.build 26 #[(0, .int .i64 a), (1, .int .i64 b), (2, .int .i64 c), (3, .int .i64 d), (4, .int .i64 e), (5, .int .i64 f)]).run Tryz.prog w = .ok (.agg #[.int .i64 a, .int .i64 b, .int .i64 c, .int .i64 d, .int .i64 e, .int .i64 f]) w :=
 run_build w _ _ _ (by kernel_rfl)
theorem exec_tab (o : Oper) (ev : Operand → Value) (p0 p1 p2 p3 p4 p5 : Operand) (ho : o.op = .build 26 #[(0, p0), (1, p1), (2, p2), (3, p3), (4, p4), (5, p5)]) (a b c d e f : Int) (h0 : ev p0 = .int .i64 a) (h1 : ev p1 = .int .i64 b) (h2 : ev p2 = .int .i64 c) (h3 : ev p3 = .int .i64 d) (h4 : ev p4 = .int .i64 e) (h5 : ev p5 = .int .i64 f) (w : World) :
  (execOp ev o).run Tryz.prog w = .ok (.value (.agg #[.int .i64 a, .int .i64 b, .int .i64 c, .int .i64 d, .int .i64 e, .int .i64 f])) w :=
 exec_build o ev _ _ ho _ (by simp [h0, h1, h2, h3, h4, h5]) _ _ (build_tab a b c d e f w)
theorem kn_lit (k : Nat) (key : ByteArray) (n sid : Int) (sids : List Int) (co : Int) (ls : List Lo) (t : Tb) : kn ⟨(k : Int), key, n, sid, sids, co, ls, t⟩ = k := by simp [kn]
theorem okP_of (k : Nat) (key : ByteArray) (n sid : Int) (sids : List Int) (co : Int) (t : Tb) (L : Nat) (h1 : 1 ≤ k) (h8 : k ≤ 8) (hk : sh k 0 ≤ (key.size : Nat) ∧ ((key.size : Nat) : Int) ≤ sh k 1) (hp : ∀ c ∈ nums key, 33 ≤ c ∧ c ≤ 126)
  (hn : sh k 2 ≤ n ∧ n ≤ sh k 3) (hs : sh k 4 ≤ sid ∧ sid ≤ sh k 5) (hc : sh k 6 ≤ co ∧ co ≤ sh k 7) (hns : ((sids.length : Nat) : Int) = sh k 8) (hsi : ∀ x ∈ sids, sh k 9 ≤ x ∧ x ≤ sh k 10) (hl : ((L : Nat) : Int) = sh k 11 + sh k 12 * ((nz sids : Nat) : Int))
  (ht : ∀ x ∈ t.l, sh k 13 ≤ x ∧ x ≤ sh k 14) (h6 : L ≤ 6) : OkP ⟨(k : Int), key, n, sid, sids, co, [], t⟩ L := by
 have e : kn ⟨(k : Int), key, n, sid, sids, co, [], t⟩ = k := kn_lit k _ _ _ _ _ _ _
 exact ⟨by rw [e]; exact h1, by rw [e]; exact h8, by rw [e], by rw [e]; exact hk, hp, by rw [e]; exact hn, by rw [e]; exact hs, by rw [e]; exact hc, by rw [e]; exact hns, by rw [e]; exact hsi, by rw [e]; exact hl, by rw [e]; exact ht, h6⟩
theorem tb0_ok (lo hi : Int) (h : lo ≤ 0 ∧ 0 ≤ hi) : ∀ x ∈ tb0.l, lo ≤ x ∧ x ≤ hi := by
 intro x hx
 simp [Tb.l, tb0] at hx
 omega
structure RO (B : Nat) (w : World) (r : Rc) (sa : Option Addr) (la : Option Addr) (lc : Nat) : Prop where
 s : r.sids = [] ∨ ∃ g, sa = some ⟨g, 0, none⟩ ∧ B ≤ g ∧ w.heap[g]? = some (.cells (intV r.sids).toArray 3 (0, 0))
 l : OwnLo B w (.slice la r.locs.length lc) r.locs
theorem OwnLo.weak {B B' : Nat} {w : World} {v : Value} {ls : List Lo} (h : OwnLo B w v ls) (hb : B' ≤ B) : OwnLo B' w v ls := by
 refine ⟨h.1, ?_⟩
 rcases h.2 with hn | ⟨g, cap, cur, h1, h2, h3⟩
 ·exact .inl hn
 ·exact .inr ⟨g, cap, cur, h1, Nat.le_trans hb h2, h3⟩
end Go.Proofs.YtepggchnhgpcnaaGreatDoor
