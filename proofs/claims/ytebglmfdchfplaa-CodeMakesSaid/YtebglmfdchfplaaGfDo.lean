/- '(*sync.Once).Do' with a Field's fill: the first call makes the tables, a later one leaves all as it is. -/
import Derived.Test.YtebglmfdchfplaaGfFill
namespace Go.Proofs.Ytebglmfdchfplaa
open Go.RowKit

set_option maxRecDepth 100000 in
set_option maxHeartbeats 1600000 in
theorem slow_first (b : Nat) (w : World) (hf : Fresh b w) :
    Calls Try.prog 86 #[.pointer (some ⟨b, 0, none⟩), .func (.func 80) #[.pointer (some ⟨b, 0, none⟩)] #[]] w fun e w' => e = .returned (.tuple #[]) ∧ (Out b w w' ∧ Full b w') := by
  have HF : Hid _ := hf
  have h1 := hf.lock
  have f1 := hf.raw.fr 1
  have h0' : (w.setCell ⟨b, 1, none⟩ (.int .i32 1)).cell? ⟨b, 0, none⟩ = some (.int .u32 0) := (World.cell?_setCell_other _ ⟨b, 1, none⟩ ⟨b, 0, none⟩ _ (by simp)).trans hf.done
  have hr1 := hf.raw.setCell 1 (.int .i32 1)
  have h3' : (w.setCell ⟨b, 1, none⟩ (.int .i32 1)).cell? ⟨b, 3, none⟩ = some (.int .i32 0) := (World.cell?_setCell_other _ ⟨b, 1, none⟩ ⟨b, 3, none⟩ _ (by simp)).trans hf.made
  clear hf
  have hnot : ∀ (x : Bool) (w : World), (Op.unary .not (.bool x)).run Try.prog w = .ok (.bool (!x)) w := fun _ _ => rfl
  go_enter_defers Try.func86, Try.ntmps86
  go_wp2_with (first
    | (go_at_call 89; refine (lock_free ⟨b, 1, none⟩ _ h1 f1).mono ?_; rintro e w' ⟨rfl, rfl⟩)
    | (go_at_call 85; refine (bool_load ⟨b, 0, none⟩ 0 _ h0').mono ?_; rintro e w' ⟨rfl, rfl⟩))
  refine (fill_any b _ hr1 h3').mono ?_
  rintro e w' ⟨rfl, hfd⟩
  have hz0 := (hfd.head 0 (by omega)).trans h0'
  have hz1 := hfd.raw.fr 0
  have hz2 : (w'.drew.setCell ⟨b, 0, none⟩ (.int .u32 1)).cell? ⟨b, 1, none⟩ = some (.int .i32 1) := by
    rw [World.cell?_setCell_other _ ⟨b, 0, none⟩ ⟨b, 1, none⟩ _ (by simp), World.cell?_drew]
    exact (hfd.head 1 (by omega)).trans (World.cell?_setCell_same w _ _ h1)
  have hz3 : (w'.drew.setCell ⟨b, 0, none⟩ (.int .u32 1)).frozen? ⟨b, 1, none⟩ = false := by simp [hfd.raw.fr 1]
  have HD : Hid _ := hfd
  clear hfd
  go_wp2
  -- the door: two deferred calls, the last laid first
  refine leaves_cons (f := 91) (args := #[.pointer (some ⟨b, 0, none⟩), .bool true]) (by simp) (by simp [go_sem]) ?_
  refine (store_deferred ⟨b, 0, none⟩ (.int .u32 0) .returning _ hz0 hz1).mono ?_
  rintro e u' w'' ⟨rfl, rfl, rfl⟩
  refine leaves_cons (f := 90) (args := #[.pointer (some ⟨b, 1, none⟩)]) (by simp [settle]) (by simp [go_sem]) ?_
  refine (unlock_deferred ⟨b, 1, none⟩ _ _ hz2 hz3).mono ?_
  rintro e u' w'' ⟨rfl, rfl, rfl⟩
  have hend : Out b w ((w'.drew.setCell ⟨b, 0, none⟩ (.int .u32 1)).setCell ⟨b, 1, none⟩ (.int .i32 0)) ∧ Full b ((w'.drew.setCell ⟨b, 0, none⟩ (.int .u32 1)).setCell ⟨b, 1, none⟩ (.int .i32 0)) := by
    have hd := HD.out
    refine ⟨((Out.refl b w).setCell _ _).trans ((hd.out.drew.setCell _ _).setCell _ _), ⟨(hd.raw.drew.setCell _ _).setCell _ _, World.cell?_setCell_same _ _ _ hz2, ?_, ?_, ⟨fun j hj => ?_, fun j hj => ?_⟩⟩⟩
    · rw [World.cell?_setCell_other _ ⟨b, 1, none⟩ ⟨b, 0, none⟩ _ (by simp)]
      exact World.cell?_setCell_same _ _ _ (by rw [World.cell?_drew]; exact hz0)
    · rw [World.cell?_setCell_other _ ⟨b, 1, none⟩ ⟨b, 3, none⟩ _ (by simp), World.cell?_setCell_other _ ⟨b, 0, none⟩ ⟨b, 3, none⟩ _ (by simp), World.cell?_drew]
      exact hd.made
    · rw [World.cell?_setCell_other _ _ _ _ (by simp <;> omega), World.cell?_setCell_other _ _ _ _ (by simp <;> omega), World.cell?_drew]
      exact hd.tabs.ex j hj
    · rw [World.cell?_setCell_other _ _ _ _ (by simp <;> omega), World.cell?_setCell_other _ _ _ _ (by simp <;> omega), World.cell?_drew]
      exact hd.tabs.lg j hj
  simp [Leaves, settle, results, Try.results86]
  exact hend

/-- Do: whatever state the Field is in, behind it the tables are there. -/
theorem do_first (b : Nat) (w : World) (hf : Fresh b w) :
    Calls Try.prog 79 #[.pointer (some ⟨b, 0, none⟩), .func (.func 80) #[.pointer (some ⟨b, 0, none⟩)] #[]] w fun e w' => e = .returned (.tuple #[]) ∧ (Out b w w' ∧ Full b w') := by
  have h0 := hf.done
  have hnot : ∀ (x : Bool) (w : World), (Op.unary .not (.bool x)).run Try.prog w = .ok (.bool (!x)) w := fun _ _ => rfl
  have HF : Hid _ := hf
  clear hf
  go_enter Try.func79, Try.ntmps79
  go_wp2_with (first
    | (go_at_call 85; refine (bool_load ⟨b, 0, none⟩ 0 _ h0).mono ?_; rintro e w' ⟨rfl, rfl⟩)
    | (go_at_call 86; refine (slow_first b _ HF.out).mono ?_; rintro e w' ⟨rfl, hw⟩))
  go_end0
  exact ⟨rfl, hw⟩
theorem do_done (b : Nat) (w : World) (fv : Value) (hf : Full b w) :
    Calls Try.prog 79 #[.pointer (some ⟨b, 0, none⟩), fv] w fun e w' => e = .returned (.tuple #[]) ∧ (Out b w w' ∧ Full b w') := by
  have h0 := hf.done
  have hnot : ∀ (x : Bool) (w : World), (Op.unary .not (.bool x)).run Try.prog w = .ok (.bool (!x)) w := fun _ _ => rfl
  have HF : Hid _ := hf
  clear hf
  go_enter Try.func79, Try.ntmps79
  go_wp2_with (go_at_call 85; refine (bool_load ⟨b, 0, none⟩ 1 _ h0).mono ?_; rintro e w' ⟨rfl, rfl⟩)
  go_end0
  exact ⟨rfl, Out.refl _ _, HF.out⟩
theorem do_any (b : Nat) (w : World) (hf : Fld b w) :
    Calls Try.prog 79 #[.pointer (some ⟨b, 0, none⟩), .func (.func 80) #[.pointer (some ⟨b, 0, none⟩)] #[]] w fun e w' => e = .returned (.tuple #[]) ∧ (Out b w w' ∧ Full b w') := by
  rcases hf with h | h
  · exact do_first b w h
  · exact do_done b w _ h
end Go.Proofs.Ytebglmfdchfplaa
