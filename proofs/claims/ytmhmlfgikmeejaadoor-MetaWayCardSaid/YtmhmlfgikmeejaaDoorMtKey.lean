/- The law's own records: 'Key'. -/
import Derived.Test.YtmhmlfgikmeejaaDoorMtLo
namespace Go.Proofs.YtmhmlfgikmeejaaDoor
open Go.RowKit
set_option linter.unusedVariables false

def keyL (x : Nat) : ByteArray := match x with
  | 0 => ⟨#[97]⟩ | 1 => ⟨#[98]⟩ | 2 => ⟨#[99]⟩ | 3 => ⟨#[100]⟩ | 4 => ⟨#[101]⟩ | 5 => ⟨#[102]⟩ | 6 => ⟨#[103]⟩ | 7 => ⟨#[104]⟩ | 8 => ⟨#[105]⟩ | 9 => ⟨#[106]⟩ | 10 => ⟨#[107]⟩
  | _ => ⟨#[108, 111, 110, 103, 45, 107, 101, 121, 45, 111, 102, 45, 49, 54, 45, 98]⟩
theorem keyL_ok : ∀ x, x < 12 → (1 ≤ (keyL x).size ∧ (keyL x).size ≤ 16) ∧ ∀ c ∈ nums (keyL x), 33 ≤ c ∧ c ≤ 126 := by
  intro x hx
  match x, hx with
  | 0, _ => decide
  | 1, _ => decide
  | 2, _ => decide
  | 3, _ => decide
  | 4, _ => decide
  | 5, _ => decide
  | 6, _ => decide
  | 7, _ => decide
  | 8, _ => decide
  | 9, _ => decide
  | 10, _ => decide
  | 11, _ => decide
set_option maxHeartbeats 2000000 in
theorem key_any (x : Nat) (hx : x < 12) (w : World) : Calls Tryd.prog 6 #[.int .i64 (x : Nat)] w fun e w' => e = .returned (.string (keyL x)) ∧ Up Nul w w' := by
  match x, hx with
  | 0, _ =>
    have HK := hid (keyL_ok 0 (by omega))
    have HU : Hid (∀ o, Up Nul w (w.alloc o)) := fun o => (Up.refl Nul w).alloc o
    go_enter Tryd.func6, Tryd.ntmps6
    go_wp2
    go_ret
    exact ⟨rfl, HU.out _⟩
  | 1, _ =>
    have HK := hid (keyL_ok 1 (by omega))
    have HU : Hid (∀ o, Up Nul w (w.alloc o)) := fun o => (Up.refl Nul w).alloc o
    go_enter Tryd.func6, Tryd.ntmps6
    go_wp2
    go_ret
    exact ⟨rfl, HU.out _⟩
  | 2, _ =>
    have HK := hid (keyL_ok 2 (by omega))
    have HU : Hid (∀ o, Up Nul w (w.alloc o)) := fun o => (Up.refl Nul w).alloc o
    go_enter Tryd.func6, Tryd.ntmps6
    go_wp2
    go_ret
    exact ⟨rfl, HU.out _⟩
  | 3, _ =>
    have HK := hid (keyL_ok 3 (by omega))
    have HU : Hid (∀ o, Up Nul w (w.alloc o)) := fun o => (Up.refl Nul w).alloc o
    go_enter Tryd.func6, Tryd.ntmps6
    go_wp2
    go_ret
    exact ⟨rfl, HU.out _⟩
  | 4, _ =>
    have HK := hid (keyL_ok 4 (by omega))
    have HU : Hid (∀ o, Up Nul w (w.alloc o)) := fun o => (Up.refl Nul w).alloc o
    go_enter Tryd.func6, Tryd.ntmps6
    go_wp2
    go_ret
    exact ⟨rfl, HU.out _⟩
  | 5, _ =>
    have HK := hid (keyL_ok 5 (by omega))
    have HU : Hid (∀ o, Up Nul w (w.alloc o)) := fun o => (Up.refl Nul w).alloc o
    go_enter Tryd.func6, Tryd.ntmps6
    go_wp2
    go_ret
    exact ⟨rfl, HU.out _⟩
  | 6, _ =>
    have HK := hid (keyL_ok 6 (by omega))
    have HU : Hid (∀ o, Up Nul w (w.alloc o)) := fun o => (Up.refl Nul w).alloc o
    go_enter Tryd.func6, Tryd.ntmps6
    go_wp2
    go_ret
    exact ⟨rfl, HU.out _⟩
  | 7, _ =>
    have HK := hid (keyL_ok 7 (by omega))
    have HU : Hid (∀ o, Up Nul w (w.alloc o)) := fun o => (Up.refl Nul w).alloc o
    go_enter Tryd.func6, Tryd.ntmps6
    go_wp2
    go_ret
    exact ⟨rfl, HU.out _⟩
  | 8, _ =>
    have HK := hid (keyL_ok 8 (by omega))
    have HU : Hid (∀ o, Up Nul w (w.alloc o)) := fun o => (Up.refl Nul w).alloc o
    go_enter Tryd.func6, Tryd.ntmps6
    go_wp2
    go_ret
    exact ⟨rfl, HU.out _⟩
  | 9, _ =>
    have HK := hid (keyL_ok 9 (by omega))
    have HU : Hid (∀ o, Up Nul w (w.alloc o)) := fun o => (Up.refl Nul w).alloc o
    go_enter Tryd.func6, Tryd.ntmps6
    go_wp2
    go_ret
    exact ⟨rfl, HU.out _⟩
  | 10, _ =>
    have HK := hid (keyL_ok 10 (by omega))
    have HU : Hid (∀ o, Up Nul w (w.alloc o)) := fun o => (Up.refl Nul w).alloc o
    go_enter Tryd.func6, Tryd.ntmps6
    go_wp2
    go_ret
    exact ⟨rfl, HU.out _⟩
  | 11, _ =>
    have HK := hid (keyL_ok 11 (by omega))
    have HU : Hid (∀ o, Up Nul w (w.alloc o)) := fun o => (Up.refl Nul w).alloc o
    go_enter Tryd.func6, Tryd.ntmps6
    go_wp2
    go_ret
    exact ⟨rfl, HU.out _⟩
end Go.Proofs.YtmhmlfgikmeejaaDoor
