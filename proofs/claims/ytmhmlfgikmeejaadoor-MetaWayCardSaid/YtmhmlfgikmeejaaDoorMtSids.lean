/- 'newSids' of the Kinds but RSplit. -/
import Derived.Test.YtmhmlfgikmeejaaDoorMtPut
import Derived.Test.YtmhmlfgikmeejaaDoorMtOk
namespace Go.Proofs.YtmhmlfgikmeejaaDoor
open Go.RowKit Go.Maps
set_option linter.unusedVariables false

theorem cell_new2 (w : World) (A : Obj) (x : Value) (T : TypeId) : ((w.alloc A).alloc (.cells #[x] T)).cell? ⟨w.heap.size + 1, 0, none⟩ = some x := by
  have h := World.cell?_alloc_new (w.alloc A) #[x] T 0
  rw [World.size_alloc] at h
  exact h
/-- What newSids tells. -/
def SidsP (w : World) (zs : List Int) (e : Ending) (w' : World) : Prop := ∃ a c, e = .returned (.slice a zs.length c) ∧ RowI w' a zs ∧ Up Nul w w'
set_option maxRecDepth 10000 in
set_option maxHeartbeats 4000000 in
theorem sids_one (kind : Int) (key : ByteArray) (n sid : Int) (sv : Value) (colour : Int) (lv : Value) (a b c d e f : Int) (w : World) (hk : kind = 1 ∨ kind = 3 ∨ kind = 4 ∨ kind = 5) :
    Calls Tryd.prog 17 #[.agg #[.int .i64 kind, .string key, .int .i64 n, .int .i64 sid, sv, .int .i64 colour, lv, .int .i64 a, .int .i64 b, .int .i64 c, .int .i64 d, .int .i64 e, .int .i64 f]] w (SidsP w [sid]) := by
  rcases hk with rfl | rfl | rfl | rfl
  all_goals
    go_enter Tryd.func17, Tryd.ntmps17
    go_wp2
    go_ret
    refine ⟨_, _, rfl, rowI_one (cell_new2 _ _ _ _), ((Up.refl _ _).alloc _).alloc _⟩
set_option maxRecDepth 10000 in
set_option maxHeartbeats 4000000 in
theorem sids_none (kind : Int) (key : ByteArray) (n sid : Int) (sv : Value) (colour : Int) (lv : Value) (a b c d e f : Int) (w : World) (hk : kind = 2 ∨ kind = 7 ∨ kind = 8) :
    Calls Tryd.prog 17 #[.agg #[.int .i64 kind, .string key, .int .i64 n, .int .i64 sid, sv, .int .i64 colour, lv, .int .i64 a, .int .i64 b, .int .i64 c, .int .i64 d, .int .i64 e, .int .i64 f]] w (SidsP w []) := by
  rcases hk with rfl | rfl | rfl
  all_goals
    go_enter Tryd.func17, Tryd.ntmps17
    go_wp2
    go_ret
    exact ⟨none, 0, rfl, .inl rfl, (Up.refl _ _).alloc _⟩
end Go.Proofs.YtmhmlfgikmeejaaDoor
