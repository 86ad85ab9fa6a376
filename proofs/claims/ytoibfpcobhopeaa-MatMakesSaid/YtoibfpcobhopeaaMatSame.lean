/- The statements' own 'same'; the document's unit; 'Unit'. -/
import Derived.Test.YtoibfpcobhopeaaMatMake1
namespace Go.Proofs.Ytoibfpcobhopeaa
open Go.RowKit
set_option linter.unusedVariables false

set_option maxRecDepth 100000 in
set_option maxHeartbeats 1600000 in
theorem same_yes (p q F r c b o n cap : Nat) (z : List Nat) (w : World) (hm : Mat w p q F r c z) (hr : Row w b o z) (hb : b < w.heap.size) (hn : n = r * c) :
    Calls Try.prog 14 #[.pointer (some ⟨p, 0, none⟩), .agg #[.int .i64 r, .int .i64 c, .slice (some ⟨b, o, none⟩) n cap]] w
      fun e w' => e = .returned (.bool true) ∧ Up Nul w w' := by
  obtain ⟨w0, W0⟩ : ∃ x, x = w.alloc (.cells #[.int .i64 r, .int .i64 c, .slice (some ⟨b, o, none⟩) n cap] 35) := ⟨_, rfl⟩
  have hst : St w0 w.heap.size r c (.slice (some ⟨b, o, none⟩) n cap) := by rw [W0]; exact St.new w r c _ _
  have hu : Up Nul w w0 := by rw [W0]; exact (Up.refl _ _).alloc _
  have hm0 := hm.up hu id id
  have hr0 := hr.up hu hb id
  have HS := hid (size_any p q F r c z w0 hm0)
  have HX := hid (And.intro hm0 (And.intro hr0 (And.intro hst hu)))
  have HB := hid (Nat.lt_of_lt_of_le hb hu.size)
  have HN := hid (hm.len.trans hn.symm)
  have HNN := hid hn
  clear hm hr hb hn hst hu hm0 hr0
  go_enter Try.func14, Try.ntmps14
  go_wp2_with fail
  rw [← W0]
  refine HS.out.mono ?_
  rintro e w1 ⟨rfl, m1, E1⟩
  have hx1 : Mat w1.drew p q F r c z ∧ Row w1.drew b o z ∧ St w1 w.heap.size r c (.slice (some ⟨b, o, none⟩) n cap) ∧ Up Nul w w1.drew := by
    rw [E1]
    exact ⟨(HX.out.1.drewN m1).drew, ⟨HX.out.2.1.cells, HX.out.2.1.small⟩, HX.out.2.2.1.drewN m1, (HX.out.2.2.2.drewN m1).drew⟩
  have hb1 : b < w1.drew.heap.size := by rw [E1]; exact HB.out
  have c0 := hx1.2.2.1.c0
  have c1 := hx1.2.2.1.c1
  have c2 := hx1.2.2.1.c2
  have cv : (convert 24 9 (.slice (some ⟨b, o, none⟩) n cap)).run Try.prog w1.drew = .ok (.string (strOf z)) w1.drew := conv_row hx1.2.1 HN.out
  have HC := hid (cells_any p q F r c z w1.drew hx1.1)
  have HX1 := hid hx1
  have HB1 := hid hb1
  generalize w.heap.size = B at *
  clear W0 E1 HS HX HB hx1 hb1
  go_wp2_with fail
  go_region_with ((go_at_call 18; (with_reducible refine HC.out.mono ?_); rintro e w2 ⟨g, cap2, rfl, r2, _, _, u2⟩; have d0 := (HX1.out.2.2.1.drewN 1).up u2 id; have e0 := d0.c0; have e1 := d0.c1; have e2 := d0.c2; have e3 : (convert 24 9 (.slice (some ⟨b, o, none⟩) n cap)).run Try.prog w2 = .ok (.string (strOf z)) w2 := conv_row (HX1.out.2.1.up u2 HB1.out id) HN.out; have e4 : (convert 24 9 (.slice (some ⟨g, 0, none⟩) (r * c) cap2)).run Try.prog w2 = .ok (.string (strOf z)) w2 := conv_row r2 (by rw [HN.out, HNN.out]); have U2 := hid u2; clear d0 r2 u2))
  all_goals (go_wp2)
  all_goals go_ret
  all_goals exact ⟨rfl, HX1.out.2.2.2.trans U2.out⟩
end Go.Proofs.Ytoibfpcobhopeaa
