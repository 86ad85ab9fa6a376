/- The document's SameRec. -/
import Derived.Test.YtpdkcpjofofkoaaDoorPkTidy
import Derived.Test.YtpdkcpjofofkoaaDoorPr35
import Derived.Test.YtpdkcpjofofkoaaDoorPq1
namespace Go.Proofs.YtpdkcpjofofkoaaDoor
open Go.RowKit
set_option linter.unusedVariables false
set_option linter.unusedSimpArgs false
set_option maxRecDepth 100000 in
set_option maxHeartbeats 4000000 in
theorem srec_case1 (w : World) (k1 k2 n1 n2 d1 d2 o1 o2 : Int) (s1 s2 : ByteArray) (sa1 sa2 la1 la2 : Option Addr) (ns1 cs1 ns2 cs2 nl1 cl1 nl2 cl2 : Nat) (t1 t2 : Tb) (bI bL : Bool)
  (hI : ∀ W, Up Nul w W → Calls Tryd.prog 37 #[.slice sa1 ns1 cs1, .slice sa2 ns2 cs2] W fun e w' => e = .returned (.bool bI) ∧ Up Nul W w')
  (hL : ∀ W, Up Nul w W → Calls Tryd.prog 38 #[.slice la1 nl1 cl1, .slice la2 nl2 cl2] W fun e w' => e = .returned (.bool bL) ∧ Up Nul W w')
  (e1 : (k1 == k2) = false) :
  Calls Tryd.prog 14 #[.agg #[.int .i64 k1, .string s1, .int .i64 n1, .int .i64 d1, .slice sa1 ns1 cs1, .int .i64 o1, .slice la1 nl1 cl1, .int .i64 t1.hot, .int .i64 t1.warm, .int .i64 t1.gap, .int .i64 t1.add, .int .i64 t1.top, .int .i64 t1.half], .agg #[.int .i64 k2, .string s2, .int .i64 n2, .int .i64 d2, .slice sa2 ns2 cs2, .int .i64 o2, .slice la2 nl2 cl2, .int .i64 t2.hot, .int .i64 t2.warm, .int .i64 t2.gap, .int .i64 t2.add, .int .i64 t2.top, .int .i64 t2.half]] w fun e w' => e = .returned (.bool false) ∧ Up Nul w w' := by
 obtain ⟨C1, hC1⟩ : ∃ C : Array Value, C = #[.int .i64 k1, .string s1, .int .i64 n1, .int .i64 d1, .slice sa1 ns1 cs1, .int .i64 o1, .slice la1 nl1 cl1, .int .i64 t1.hot, .int .i64 t1.warm, .int .i64 t1.gap, .int .i64 t1.add, .int .i64 t1.top, .int .i64 t1.half] := ⟨_, rfl⟩
 obtain ⟨C2, hC2⟩ : ∃ C : Array Value, C = #[.int .i64 k2, .string s2, .int .i64 n2, .int .i64 d2, .slice sa2 ns2 cs2, .int .i64 o2, .slice la2 nl2 cl2, .int .i64 t2.hot, .int .i64 t2.warm, .int .i64 t2.gap, .int .i64 t2.add, .int .i64 t2.top, .int .i64 t2.half] := ⟨_, rfl⟩
 have HI := hid hI
 have HL := hid hL
 clear hI hL
 go_enter Tryd.func14, Tryd.ntmps14
 go_upto_region 1 with fail
 try simp only [List.append]
 rw [← hC1, ← hC2]
 obtain ⟨W2, hW2⟩ : ∃ W, W = (w.alloc (.cells C1 27)).alloc (.cells C2 27) := ⟨_, rfl⟩
 have HU : Hid (Up Nul w W2) := by show Up _ _ _; rw [hW2]; exact ((Up.refl Nul w).alloc _).alloc _
 have q1 : W2.heap[w.heap.size]? = some (.cells C1 27 (0, 0)) := by rw [hW2]; exact (Below.heap_alloc _ _ _ (by first | (simp; done) | (simp; omega))).trans (heap_alloc_new _ _)
 have q2 : W2.heap[w.heap.size + 1]? = some (.cells C2 27 (0, 0)) := by rw [hW2]; have := heap_alloc_new (w.alloc (.cells C1 27)) (.cells C2 27); simpa using this
 have l1 := (Array.getElem?_eq_some_iff.1 q1).1
 have l2 := (Array.getElem?_eq_some_iff.1 q2).1
 rw [hC1] at q1
 rw [hC2] at q2
 rw [← hW2]
 clear hW2
 generalize w.heap.size + 1 = p2 at q2 l2 ⊢
 generalize w.heap.size = p1 at q1 l1 ⊢
 have F1_0 := celN 0 (.int .i64 k1) l1 q1 rfl
 have F1_1 := celN 1 (.string s1) l1 q1 rfl
 have F1_2 := celN 2 (.int .i64 n1) l1 q1 rfl
 have F1_3 := celN 3 (.int .i64 d1) l1 q1 rfl
 have F1_4 := celN 4 (.slice sa1 ns1 cs1) l1 q1 rfl
 have F1_5 := celN 5 (.int .i64 o1) l1 q1 rfl
 have F1_6 := celN 6 (.slice la1 nl1 cl1) l1 q1 rfl
 have F1_7 := celN 7 (.int .i64 t1.hot) l1 q1 rfl
 have F1_8 := celN 8 (.int .i64 t1.warm) l1 q1 rfl
 have F1_9 := celN 9 (.int .i64 t1.gap) l1 q1 rfl
 have F1_10 := celN 10 (.int .i64 t1.add) l1 q1 rfl
 have F1_11 := celN 11 (.int .i64 t1.top) l1 q1 rfl
 have F1_12 := celN 12 (.int .i64 t1.half) l1 q1 rfl
 have F2_0 := celN 0 (.int .i64 k2) l2 q2 rfl
 have F2_1 := celN 1 (.string s2) l2 q2 rfl
 have F2_2 := celN 2 (.int .i64 n2) l2 q2 rfl
 have F2_3 := celN 3 (.int .i64 d2) l2 q2 rfl
 have F2_4 := celN 4 (.slice sa2 ns2 cs2) l2 q2 rfl
 have F2_5 := celN 5 (.int .i64 o2) l2 q2 rfl
 have F2_6 := celN 6 (.slice la2 nl2 cl2) l2 q2 rfl
 have F2_7 := celN 7 (.int .i64 t2.hot) l2 q2 rfl
 have F2_8 := celN 8 (.int .i64 t2.warm) l2 q2 rfl
 have F2_9 := celN 9 (.int .i64 t2.gap) l2 q2 rfl
 have F2_10 := celN 10 (.int .i64 t2.add) l2 q2 rfl
 have F2_11 := celN 11 (.int .i64 t2.top) l2 q2 rfl
 have F2_12 := celN 12 (.int .i64 t2.half) l2 q2 rfl
 clear q1 q2 l1 l2 hC1 hC2
 have x1_0 := F1_0.out _ (Up.refl Nul W2)
 have x1_1 := F1_1.out _ (Up.refl Nul W2)
 have x1_2 := F1_2.out _ (Up.refl Nul W2)
 have x1_3 := F1_3.out _ (Up.refl Nul W2)
 have x1_4 := F1_4.out _ (Up.refl Nul W2)
 have x2_0 := F2_0.out _ (Up.refl Nul W2)
 have x2_1 := F2_1.out _ (Up.refl Nul W2)
 have x2_2 := F2_2.out _ (Up.refl Nul W2)
 have x2_3 := F2_3.out _ (Up.refl Nul W2)
 have x2_4 := F2_4.out _ (Up.refl Nul W2)
 go_wp2_with fail
 go_ret
 exact ⟨by first | rfl | simp, HU.out.trans (Up.refl Nul W2)⟩
set_option maxRecDepth 100000 in
set_option maxHeartbeats 4000000 in
theorem srec_case2 (w : World) (k1 k2 n1 n2 d1 d2 o1 o2 : Int) (s1 s2 : ByteArray) (sa1 sa2 la1 la2 : Option Addr) (ns1 cs1 ns2 cs2 nl1 cl1 nl2 cl2 : Nat) (t1 t2 : Tb) (bI bL : Bool)
  (hI : ∀ W, Up Nul w W → Calls Tryd.prog 37 #[.slice sa1 ns1 cs1, .slice sa2 ns2 cs2] W fun e w' => e = .returned (.bool bI) ∧ Up Nul W w')
  (hL : ∀ W, Up Nul w W → Calls Tryd.prog 38 #[.slice la1 nl1 cl1, .slice la2 nl2 cl2] W fun e w' => e = .returned (.bool bL) ∧ Up Nul W w')
  (e1 : (k1 == k2) = true) (e2 : (s1.toList == s2.toList) = false) :
  Calls Tryd.prog 14 #[.agg #[.int .i64 k1, .string s1, .int .i64 n1, .int .i64 d1, .slice sa1 ns1 cs1, .int .i64 o1, .slice la1 nl1 cl1, .int .i64 t1.hot, .int .i64 t1.warm, .int .i64 t1.gap, .int .i64 t1.add, .int .i64 t1.top, .int .i64 t1.half], .agg #[.int .i64 k2, .string s2, .int .i64 n2, .int .i64 d2, .slice sa2 ns2 cs2, .int .i64 o2, .slice la2 nl2 cl2, .int .i64 t2.hot, .int .i64 t2.warm, .int .i64 t2.gap, .int .i64 t2.add, .int .i64 t2.top, .int .i64 t2.half]] w fun e w' => e = .returned (.bool false) ∧ Up Nul w w' := by
 obtain ⟨C1, hC1⟩ : ∃ C : Array Value, C = #[.int .i64 k1, .string s1, .int .i64 n1, .int .i64 d1, .slice sa1 ns1 cs1, .int .i64 o1, .slice la1 nl1 cl1, .int .i64 t1.hot, .int .i64 t1.warm, .int .i64 t1.gap, .int .i64 t1.add, .int .i64 t1.top, .int .i64 t1.half] := ⟨_, rfl⟩
 obtain ⟨C2, hC2⟩ : ∃ C : Array Value, C = #[.int .i64 k2, .string s2, .int .i64 n2, .int .i64 d2, .slice sa2 ns2 cs2, .int .i64 o2, .slice la2 nl2 cl2, .int .i64 t2.hot, .int .i64 t2.warm, .int .i64 t2.gap, .int .i64 t2.add, .int .i64 t2.top, .int .i64 t2.half] := ⟨_, rfl⟩
 have HI := hid hI
 have HL := hid hL
 clear hI hL
 go_enter Tryd.func14, Tryd.ntmps14
 go_upto_region 1 with fail
 try simp only [List.append]
 rw [← hC1, ← hC2]
 obtain ⟨W2, hW2⟩ : ∃ W, W = (w.alloc (.cells C1 27)).alloc (.cells C2 27) := ⟨_, rfl⟩
 have HU : Hid (Up Nul w W2) := by show Up _ _ _; rw [hW2]; exact ((Up.refl Nul w).alloc _).alloc _
 have q1 : W2.heap[w.heap.size]? = some (.cells C1 27 (0, 0)) := by rw [hW2]; exact (Below.heap_alloc _ _ _ (by first | (simp; done) | (simp; omega))).trans (heap_alloc_new _ _)
 have q2 : W2.heap[w.heap.size + 1]? = some (.cells C2 27 (0, 0)) := by rw [hW2]; have := heap_alloc_new (w.alloc (.cells C1 27)) (.cells C2 27); simpa using this
 have l1 := (Array.getElem?_eq_some_iff.1 q1).1
 have l2 := (Array.getElem?_eq_some_iff.1 q2).1
 rw [hC1] at q1
 rw [hC2] at q2
 rw [← hW2]
 clear hW2
 generalize w.heap.size + 1 = p2 at q2 l2 ⊢
 generalize w.heap.size = p1 at q1 l1 ⊢
 have F1_0 := celN 0 (.int .i64 k1) l1 q1 rfl
 have F1_1 := celN 1 (.string s1) l1 q1 rfl
 have F1_2 := celN 2 (.int .i64 n1) l1 q1 rfl
 have F1_3 := celN 3 (.int .i64 d1) l1 q1 rfl
 have F1_4 := celN 4 (.slice sa1 ns1 cs1) l1 q1 rfl
 have F1_5 := celN 5 (.int .i64 o1) l1 q1 rfl
 have F1_6 := celN 6 (.slice la1 nl1 cl1) l1 q1 rfl
 have F1_7 := celN 7 (.int .i64 t1.hot) l1 q1 rfl
 have F1_8 := celN 8 (.int .i64 t1.warm) l1 q1 rfl
 have F1_9 := celN 9 (.int .i64 t1.gap) l1 q1 rfl
 have F1_10 := celN 10 (.int .i64 t1.add) l1 q1 rfl
 have F1_11 := celN 11 (.int .i64 t1.top) l1 q1 rfl
 have F1_12 := celN 12 (.int .i64 t1.half) l1 q1 rfl
 have F2_0 := celN 0 (.int .i64 k2) l2 q2 rfl
 have F2_1 := celN 1 (.string s2) l2 q2 rfl
 have F2_2 := celN 2 (.int .i64 n2) l2 q2 rfl
 have F2_3 := celN 3 (.int .i64 d2) l2 q2 rfl
 have F2_4 := celN 4 (.slice sa2 ns2 cs2) l2 q2 rfl
 have F2_5 := celN 5 (.int .i64 o2) l2 q2 rfl
 have F2_6 := celN 6 (.slice la2 nl2 cl2) l2 q2 rfl
 have F2_7 := celN 7 (.int .i64 t2.hot) l2 q2 rfl
 have F2_8 := celN 8 (.int .i64 t2.warm) l2 q2 rfl
 have F2_9 := celN 9 (.int .i64 t2.gap) l2 q2 rfl
 have F2_10 := celN 10 (.int .i64 t2.add) l2 q2 rfl
 have F2_11 := celN 11 (.int .i64 t2.top) l2 q2 rfl
 have F2_12 := celN 12 (.int .i64 t2.half) l2 q2 rfl
 clear q1 q2 l1 l2 hC1 hC2
 have x1_0 := F1_0.out _ (Up.refl Nul W2)
 have x1_1 := F1_1.out _ (Up.refl Nul W2)
 have x1_2 := F1_2.out _ (Up.refl Nul W2)
 have x1_3 := F1_3.out _ (Up.refl Nul W2)
 have x1_4 := F1_4.out _ (Up.refl Nul W2)
 have x2_0 := F2_0.out _ (Up.refl Nul W2)
 have x2_1 := F2_1.out _ (Up.refl Nul W2)
 have x2_2 := F2_2.out _ (Up.refl Nul W2)
 have x2_3 := F2_3.out _ (Up.refl Nul W2)
 have x2_4 := F2_4.out _ (Up.refl Nul W2)
 go_wp2_with fail
 go_ret
 exact ⟨by first | rfl | simp, HU.out.trans (Up.refl Nul W2)⟩
set_option maxRecDepth 100000 in
set_option maxHeartbeats 4000000 in
theorem srec_case3 (w : World) (k1 k2 n1 n2 d1 d2 o1 o2 : Int) (s1 s2 : ByteArray) (sa1 sa2 la1 la2 : Option Addr) (ns1 cs1 ns2 cs2 nl1 cl1 nl2 cl2 : Nat) (t1 t2 : Tb) (bI bL : Bool)
  (hI : ∀ W, Up Nul w W → Calls Tryd.prog 37 #[.slice sa1 ns1 cs1, .slice sa2 ns2 cs2] W fun e w' => e = .returned (.bool bI) ∧ Up Nul W w')
  (hL : ∀ W, Up Nul w W → Calls Tryd.prog 38 #[.slice la1 nl1 cl1, .slice la2 nl2 cl2] W fun e w' => e = .returned (.bool bL) ∧ Up Nul W w')
  (e1 : (k1 == k2) = true) (e2 : (s1.toList == s2.toList) = true) (e3 : (n1 == n2) = false) :
  Calls Tryd.prog 14 #[.agg #[.int .i64 k1, .string s1, .int .i64 n1, .int .i64 d1, .slice sa1 ns1 cs1, .int .i64 o1, .slice la1 nl1 cl1, .int .i64 t1.hot, .int .i64 t1.warm, .int .i64 t1.gap, .int .i64 t1.add, .int .i64 t1.top, .int .i64 t1.half], .agg #[.int .i64 k2, .string s2, .int .i64 n2, .int .i64 d2, .slice sa2 ns2 cs2, .int .i64 o2, .slice la2 nl2 cl2, .int .i64 t2.hot, .int .i64 t2.warm, .int .i64 t2.gap, .int .i64 t2.add, .int .i64 t2.top, .int .i64 t2.half]] w fun e w' => e = .returned (.bool false) ∧ Up Nul w w' := by
 obtain ⟨C1, hC1⟩ : ∃ C : Array Value, C = #[.int .i64 k1, .string s1, .int .i64 n1, .int .i64 d1, .slice sa1 ns1 cs1, .int .i64 o1, .slice la1 nl1 cl1, .int .i64 t1.hot, .int .i64 t1.warm, .int .i64 t1.gap, .int .i64 t1.add, .int .i64 t1.top, .int .i64 t1.half] := ⟨_, rfl⟩
 obtain ⟨C2, hC2⟩ : ∃ C : Array Value, C = #[.int .i64 k2, .string s2, .int .i64 n2, .int .i64 d2, .slice sa2 ns2 cs2, .int .i64 o2, .slice la2 nl2 cl2, .int .i64 t2.hot, .int .i64 t2.warm, .int .i64 t2.gap, .int .i64 t2.add, .int .i64 t2.top, .int .i64 t2.half] := ⟨_, rfl⟩
 have HI := hid hI
 have HL := hid hL
 clear hI hL
 go_enter Tryd.func14, Tryd.ntmps14
 go_upto_region 1 with fail
 try simp only [List.append]
 rw [← hC1, ← hC2]
 obtain ⟨W2, hW2⟩ : ∃ W, W = (w.alloc (.cells C1 27)).alloc (.cells C2 27) := ⟨_, rfl⟩
 have HU : Hid (Up Nul w W2) := by show Up _ _ _; rw [hW2]; exact ((Up.refl Nul w).alloc _).alloc _
 have q1 : W2.heap[w.heap.size]? = some (.cells C1 27 (0, 0)) := by rw [hW2]; exact (Below.heap_alloc _ _ _ (by first | (simp; done) | (simp; omega))).trans (heap_alloc_new _ _)
 have q2 : W2.heap[w.heap.size + 1]? = some (.cells C2 27 (0, 0)) := by rw [hW2]; have := heap_alloc_new (w.alloc (.cells C1 27)) (.cells C2 27); simpa using this
 have l1 := (Array.getElem?_eq_some_iff.1 q1).1
 have l2 := (Array.getElem?_eq_some_iff.1 q2).1
 rw [hC1] at q1
 rw [hC2] at q2
 rw [← hW2]
 clear hW2
 generalize w.heap.size + 1 = p2 at q2 l2 ⊢
 generalize w.heap.size = p1 at q1 l1 ⊢
 have F1_0 := celN 0 (.int .i64 k1) l1 q1 rfl
 have F1_1 := celN 1 (.string s1) l1 q1 rfl
 have F1_2 := celN 2 (.int .i64 n1) l1 q1 rfl
 have F1_3 := celN 3 (.int .i64 d1) l1 q1 rfl
 have F1_4 := celN 4 (.slice sa1 ns1 cs1) l1 q1 rfl
 have F1_5 := celN 5 (.int .i64 o1) l1 q1 rfl
 have F1_6 := celN 6 (.slice la1 nl1 cl1) l1 q1 rfl
 have F1_7 := celN 7 (.int .i64 t1.hot) l1 q1 rfl
 have F1_8 := celN 8 (.int .i64 t1.warm) l1 q1 rfl
 have F1_9 := celN 9 (.int .i64 t1.gap) l1 q1 rfl
 have F1_10 := celN 10 (.int .i64 t1.add) l1 q1 rfl
 have F1_11 := celN 11 (.int .i64 t1.top) l1 q1 rfl
 have F1_12 := celN 12 (.int .i64 t1.half) l1 q1 rfl
 have F2_0 := celN 0 (.int .i64 k2) l2 q2 rfl
 have F2_1 := celN 1 (.string s2) l2 q2 rfl
 have F2_2 := celN 2 (.int .i64 n2) l2 q2 rfl
 have F2_3 := celN 3 (.int .i64 d2) l2 q2 rfl
 have F2_4 := celN 4 (.slice sa2 ns2 cs2) l2 q2 rfl
 have F2_5 := celN 5 (.int .i64 o2) l2 q2 rfl
 have F2_6 := celN 6 (.slice la2 nl2 cl2) l2 q2 rfl
 have F2_7 := celN 7 (.int .i64 t2.hot) l2 q2 rfl
 have F2_8 := celN 8 (.int .i64 t2.warm) l2 q2 rfl
 have F2_9 := celN 9 (.int .i64 t2.gap) l2 q2 rfl
 have F2_10 := celN 10 (.int .i64 t2.add) l2 q2 rfl
 have F2_11 := celN 11 (.int .i64 t2.top) l2 q2 rfl
 have F2_12 := celN 12 (.int .i64 t2.half) l2 q2 rfl
 clear q1 q2 l1 l2 hC1 hC2
 have x1_0 := F1_0.out _ (Up.refl Nul W2)
 have x1_1 := F1_1.out _ (Up.refl Nul W2)
 have x1_2 := F1_2.out _ (Up.refl Nul W2)
 have x1_3 := F1_3.out _ (Up.refl Nul W2)
 have x1_4 := F1_4.out _ (Up.refl Nul W2)
 have x2_0 := F2_0.out _ (Up.refl Nul W2)
 have x2_1 := F2_1.out _ (Up.refl Nul W2)
 have x2_2 := F2_2.out _ (Up.refl Nul W2)
 have x2_3 := F2_3.out _ (Up.refl Nul W2)
 have x2_4 := F2_4.out _ (Up.refl Nul W2)
 go_wp2_with fail
 go_ret
 exact ⟨by first | rfl | simp, HU.out.trans (Up.refl Nul W2)⟩
set_option maxRecDepth 100000 in
set_option maxHeartbeats 4000000 in
theorem srec_case4 (w : World) (k1 k2 n1 n2 d1 d2 o1 o2 : Int) (s1 s2 : ByteArray) (sa1 sa2 la1 la2 : Option Addr) (ns1 cs1 ns2 cs2 nl1 cl1 nl2 cl2 : Nat) (t1 t2 : Tb) (bI bL : Bool)
  (hI : ∀ W, Up Nul w W → Calls Tryd.prog 37 #[.slice sa1 ns1 cs1, .slice sa2 ns2 cs2] W fun e w' => e = .returned (.bool bI) ∧ Up Nul W w')
  (hL : ∀ W, Up Nul w W → Calls Tryd.prog 38 #[.slice la1 nl1 cl1, .slice la2 nl2 cl2] W fun e w' => e = .returned (.bool bL) ∧ Up Nul W w')
  (e1 : (k1 == k2) = true) (e2 : (s1.toList == s2.toList) = true) (e3 : (n1 == n2) = true) (e4 : (d1 == d2) = false) :
  Calls Tryd.prog 14 #[.agg #[.int .i64 k1, .string s1, .int .i64 n1, .int .i64 d1, .slice sa1 ns1 cs1, .int .i64 o1, .slice la1 nl1 cl1, .int .i64 t1.hot, .int .i64 t1.warm, .int .i64 t1.gap, .int .i64 t1.add, .int .i64 t1.top, .int .i64 t1.half], .agg #[.int .i64 k2, .string s2, .int .i64 n2, .int .i64 d2, .slice sa2 ns2 cs2, .int .i64 o2, .slice la2 nl2 cl2, .int .i64 t2.hot, .int .i64 t2.warm, .int .i64 t2.gap, .int .i64 t2.add, .int .i64 t2.top, .int .i64 t2.half]] w fun e w' => e = .returned (.bool false) ∧ Up Nul w w' := by
 obtain ⟨C1, hC1⟩ : ∃ C : Array Value, C = #[.int .i64 k1, .string s1, .int .i64 n1, .int .i64 d1, .slice sa1 ns1 cs1, .int .i64 o1, .slice la1 nl1 cl1, .int .i64 t1.hot, .int .i64 t1.warm, .int .i64 t1.gap, .int .i64 t1.add, .int .i64 t1.top, .int .i64 t1.half] := ⟨_, rfl⟩
 obtain ⟨C2, hC2⟩ : ∃ C : Array Value, C = #[.int .i64 k2, .string s2, .int .i64 n2, .int .i64 d2, .slice sa2 ns2 cs2, .int .i64 o2, .slice la2 nl2 cl2, .int .i64 t2.hot, .int .i64 t2.warm, .int .i64 t2.gap, .int .i64 t2.add, .int .i64 t2.top, .int .i64 t2.half] := ⟨_, rfl⟩
 have HI := hid hI
 have HL := hid hL
 clear hI hL
 go_enter Tryd.func14, Tryd.ntmps14
 go_upto_region 1 with fail
 try simp only [List.append]
 rw [← hC1, ← hC2]
 obtain ⟨W2, hW2⟩ : ∃ W, W = (w.alloc (.cells C1 27)).alloc (.cells C2 27) := ⟨_, rfl⟩
 have HU : Hid (Up Nul w W2) := by show Up _ _ _; rw [hW2]; exact ((Up.refl Nul w).alloc _).alloc _
 have q1 : W2.heap[w.heap.size]? = some (.cells C1 27 (0, 0)) := by rw [hW2]; exact (Below.heap_alloc _ _ _ (by first | (simp; done) | (simp; omega))).trans (heap_alloc_new _ _)
 have q2 : W2.heap[w.heap.size + 1]? = some (.cells C2 27 (0, 0)) := by rw [hW2]; have := heap_alloc_new (w.alloc (.cells C1 27)) (.cells C2 27); simpa using this
 have l1 := (Array.getElem?_eq_some_iff.1 q1).1
 have l2 := (Array.getElem?_eq_some_iff.1 q2).1
 rw [hC1] at q1
 rw [hC2] at q2
 rw [← hW2]
 clear hW2
 generalize w.heap.size + 1 = p2 at q2 l2 ⊢
 generalize w.heap.size = p1 at q1 l1 ⊢
 have F1_0 := celN 0 (.int .i64 k1) l1 q1 rfl
 have F1_1 := celN 1 (.string s1) l1 q1 rfl
 have F1_2 := celN 2 (.int .i64 n1) l1 q1 rfl
 have F1_3 := celN 3 (.int .i64 d1) l1 q1 rfl
 have F1_4 := celN 4 (.slice sa1 ns1 cs1) l1 q1 rfl
 have F1_5 := celN 5 (.int .i64 o1) l1 q1 rfl
 have F1_6 := celN 6 (.slice la1 nl1 cl1) l1 q1 rfl
 have F1_7 := celN 7 (.int .i64 t1.hot) l1 q1 rfl
 have F1_8 := celN 8 (.int .i64 t1.warm) l1 q1 rfl
 have F1_9 := celN 9 (.int .i64 t1.gap) l1 q1 rfl
 have F1_10 := celN 10 (.int .i64 t1.add) l1 q1 rfl
 have F1_11 := celN 11 (.int .i64 t1.top) l1 q1 rfl
 have F1_12 := celN 12 (.int .i64 t1.half) l1 q1 rfl
 have F2_0 := celN 0 (.int .i64 k2) l2 q2 rfl
 have F2_1 := celN 1 (.string s2) l2 q2 rfl
 have F2_2 := celN 2 (.int .i64 n2) l2 q2 rfl
 have F2_3 := celN 3 (.int .i64 d2) l2 q2 rfl
 have F2_4 := celN 4 (.slice sa2 ns2 cs2) l2 q2 rfl
 have F2_5 := celN 5 (.int .i64 o2) l2 q2 rfl
 have F2_6 := celN 6 (.slice la2 nl2 cl2) l2 q2 rfl
 have F2_7 := celN 7 (.int .i64 t2.hot) l2 q2 rfl
 have F2_8 := celN 8 (.int .i64 t2.warm) l2 q2 rfl
 have F2_9 := celN 9 (.int .i64 t2.gap) l2 q2 rfl
 have F2_10 := celN 10 (.int .i64 t2.add) l2 q2 rfl
 have F2_11 := celN 11 (.int .i64 t2.top) l2 q2 rfl
 have F2_12 := celN 12 (.int .i64 t2.half) l2 q2 rfl
 clear q1 q2 l1 l2 hC1 hC2
 have x1_0 := F1_0.out _ (Up.refl Nul W2)
 have x1_1 := F1_1.out _ (Up.refl Nul W2)
 have x1_2 := F1_2.out _ (Up.refl Nul W2)
 have x1_3 := F1_3.out _ (Up.refl Nul W2)
 have x1_4 := F1_4.out _ (Up.refl Nul W2)
 have x2_0 := F2_0.out _ (Up.refl Nul W2)
 have x2_1 := F2_1.out _ (Up.refl Nul W2)
 have x2_2 := F2_2.out _ (Up.refl Nul W2)
 have x2_3 := F2_3.out _ (Up.refl Nul W2)
 have x2_4 := F2_4.out _ (Up.refl Nul W2)
 go_wp2_with fail
 go_ret
 exact ⟨by first | rfl | simp, HU.out.trans (Up.refl Nul W2)⟩
set_option maxRecDepth 100000 in
set_option maxHeartbeats 4000000 in
theorem srec_case5 (w : World) (k1 k2 n1 n2 d1 d2 o1 o2 : Int) (s1 s2 : ByteArray) (sa1 sa2 la1 la2 : Option Addr) (ns1 cs1 ns2 cs2 nl1 cl1 nl2 cl2 : Nat) (t1 t2 : Tb) (bI bL : Bool)
  (hI : ∀ W, Up Nul w W → Calls Tryd.prog 37 #[.slice sa1 ns1 cs1, .slice sa2 ns2 cs2] W fun e w' => e = .returned (.bool bI) ∧ Up Nul W w')
  (hL : ∀ W, Up Nul w W → Calls Tryd.prog 38 #[.slice la1 nl1 cl1, .slice la2 nl2 cl2] W fun e w' => e = .returned (.bool bL) ∧ Up Nul W w')
  (e1 : (k1 == k2) = true) (e2 : (s1.toList == s2.toList) = true) (e3 : (n1 == n2) = true) (e4 : (d1 == d2) = true) (eI : bI = false) :
  Calls Tryd.prog 14 #[.agg #[.int .i64 k1, .string s1, .int .i64 n1, .int .i64 d1, .slice sa1 ns1 cs1, .int .i64 o1, .slice la1 nl1 cl1, .int .i64 t1.hot, .int .i64 t1.warm, .int .i64 t1.gap, .int .i64 t1.add, .int .i64 t1.top, .int .i64 t1.half], .agg #[.int .i64 k2, .string s2, .int .i64 n2, .int .i64 d2, .slice sa2 ns2 cs2, .int .i64 o2, .slice la2 nl2 cl2, .int .i64 t2.hot, .int .i64 t2.warm, .int .i64 t2.gap, .int .i64 t2.add, .int .i64 t2.top, .int .i64 t2.half]] w fun e w' => e = .returned (.bool false) ∧ Up Nul w w' := by
 subst eI
 obtain ⟨C1, hC1⟩ : ∃ C : Array Value, C = #[.int .i64 k1, .string s1, .int .i64 n1, .int .i64 d1, .slice sa1 ns1 cs1, .int .i64 o1, .slice la1 nl1 cl1, .int .i64 t1.hot, .int .i64 t1.warm, .int .i64 t1.gap, .int .i64 t1.add, .int .i64 t1.top, .int .i64 t1.half] := ⟨_, rfl⟩
 obtain ⟨C2, hC2⟩ : ∃ C : Array Value, C = #[.int .i64 k2, .string s2, .int .i64 n2, .int .i64 d2, .slice sa2 ns2 cs2, .int .i64 o2, .slice la2 nl2 cl2, .int .i64 t2.hot, .int .i64 t2.warm, .int .i64 t2.gap, .int .i64 t2.add, .int .i64 t2.top, .int .i64 t2.half] := ⟨_, rfl⟩
 have HI := hid hI
 have HL := hid hL
 clear hI hL
 go_enter Tryd.func14, Tryd.ntmps14
 go_upto_region 1 with fail
 try simp only [List.append]
 rw [← hC1, ← hC2]
 obtain ⟨W2, hW2⟩ : ∃ W, W = (w.alloc (.cells C1 27)).alloc (.cells C2 27) := ⟨_, rfl⟩
 have HU : Hid (Up Nul w W2) := by show Up _ _ _; rw [hW2]; exact ((Up.refl Nul w).alloc _).alloc _
 have q1 : W2.heap[w.heap.size]? = some (.cells C1 27 (0, 0)) := by rw [hW2]; exact (Below.heap_alloc _ _ _ (by first | (simp; done) | (simp; omega))).trans (heap_alloc_new _ _)
 have q2 : W2.heap[w.heap.size + 1]? = some (.cells C2 27 (0, 0)) := by rw [hW2]; have := heap_alloc_new (w.alloc (.cells C1 27)) (.cells C2 27); simpa using this
 have l1 := (Array.getElem?_eq_some_iff.1 q1).1
 have l2 := (Array.getElem?_eq_some_iff.1 q2).1
 rw [hC1] at q1
 rw [hC2] at q2
 rw [← hW2]
 clear hW2
 generalize w.heap.size + 1 = p2 at q2 l2 ⊢
 generalize w.heap.size = p1 at q1 l1 ⊢
 have F1_0 := celN 0 (.int .i64 k1) l1 q1 rfl
 have F1_1 := celN 1 (.string s1) l1 q1 rfl
 have F1_2 := celN 2 (.int .i64 n1) l1 q1 rfl
 have F1_3 := celN 3 (.int .i64 d1) l1 q1 rfl
 have F1_4 := celN 4 (.slice sa1 ns1 cs1) l1 q1 rfl
 have F1_5 := celN 5 (.int .i64 o1) l1 q1 rfl
 have F1_6 := celN 6 (.slice la1 nl1 cl1) l1 q1 rfl
 have F1_7 := celN 7 (.int .i64 t1.hot) l1 q1 rfl
 have F1_8 := celN 8 (.int .i64 t1.warm) l1 q1 rfl
 have F1_9 := celN 9 (.int .i64 t1.gap) l1 q1 rfl
 have F1_10 := celN 10 (.int .i64 t1.add) l1 q1 rfl
 have F1_11 := celN 11 (.int .i64 t1.top) l1 q1 rfl
 have F1_12 := celN 12 (.int .i64 t1.half) l1 q1 rfl
 have F2_0 := celN 0 (.int .i64 k2) l2 q2 rfl
 have F2_1 := celN 1 (.string s2) l2 q2 rfl
 have F2_2 := celN 2 (.int .i64 n2) l2 q2 rfl
 have F2_3 := celN 3 (.int .i64 d2) l2 q2 rfl
 have F2_4 := celN 4 (.slice sa2 ns2 cs2) l2 q2 rfl
 have F2_5 := celN 5 (.int .i64 o2) l2 q2 rfl
 have F2_6 := celN 6 (.slice la2 nl2 cl2) l2 q2 rfl
 have F2_7 := celN 7 (.int .i64 t2.hot) l2 q2 rfl
 have F2_8 := celN 8 (.int .i64 t2.warm) l2 q2 rfl
 have F2_9 := celN 9 (.int .i64 t2.gap) l2 q2 rfl
 have F2_10 := celN 10 (.int .i64 t2.add) l2 q2 rfl
 have F2_11 := celN 11 (.int .i64 t2.top) l2 q2 rfl
 have F2_12 := celN 12 (.int .i64 t2.half) l2 q2 rfl
 clear q1 q2 l1 l2 hC1 hC2
 have x1_0 := F1_0.out _ (Up.refl Nul W2)
 have x1_1 := F1_1.out _ (Up.refl Nul W2)
 have x1_2 := F1_2.out _ (Up.refl Nul W2)
 have x1_3 := F1_3.out _ (Up.refl Nul W2)
 have x1_4 := F1_4.out _ (Up.refl Nul W2)
 have x2_0 := F2_0.out _ (Up.refl Nul W2)
 have x2_1 := F2_1.out _ (Up.refl Nul W2)
 have x2_2 := F2_2.out _ (Up.refl Nul W2)
 have x2_3 := F2_3.out _ (Up.refl Nul W2)
 have x2_4 := F2_4.out _ (Up.refl Nul W2)
 go_wp2_with fail
 refine (HI.out _ (HU.out.trans (Up.refl Nul W2))).mono ?_
 rintro e v0 ⟨rfl, kb⟩
 have K0 := hid (Up.trans (Up.refl Nul W2) kb)
 clear kb x1_0 x1_1 x1_2 x1_3 x1_4 x2_0 x2_1 x2_2 x2_3 x2_4
 have x1_5 := F1_5.out _ K0.out
 have x1_6 := F1_6.out _ K0.out
 have x2_5 := F2_5.out _ K0.out
 have x2_6 := F2_6.out _ K0.out
 go_wp2_with fail
 go_ret
 exact ⟨by first | rfl | simp, HU.out.trans K0.out⟩
set_option maxRecDepth 100000 in
set_option maxHeartbeats 4000000 in
theorem srec_case6 (w : World) (k1 k2 n1 n2 d1 d2 o1 o2 : Int) (s1 s2 : ByteArray) (sa1 sa2 la1 la2 : Option Addr) (ns1 cs1 ns2 cs2 nl1 cl1 nl2 cl2 : Nat) (t1 t2 : Tb) (bI bL : Bool)
  (hI : ∀ W, Up Nul w W → Calls Tryd.prog 37 #[.slice sa1 ns1 cs1, .slice sa2 ns2 cs2] W fun e w' => e = .returned (.bool bI) ∧ Up Nul W w')
  (hL : ∀ W, Up Nul w W → Calls Tryd.prog 38 #[.slice la1 nl1 cl1, .slice la2 nl2 cl2] W fun e w' => e = .returned (.bool bL) ∧ Up Nul W w')
  (e1 : (k1 == k2) = true) (e2 : (s1.toList == s2.toList) = true) (e3 : (n1 == n2) = true) (e4 : (d1 == d2) = true) (eI : bI = true) (e6 : (o1 == o2) = false) :
  Calls Tryd.prog 14 #[.agg #[.int .i64 k1, .string s1, .int .i64 n1, .int .i64 d1, .slice sa1 ns1 cs1, .int .i64 o1, .slice la1 nl1 cl1, .int .i64 t1.hot, .int .i64 t1.warm, .int .i64 t1.gap, .int .i64 t1.add, .int .i64 t1.top, .int .i64 t1.half], .agg #[.int .i64 k2, .string s2, .int .i64 n2, .int .i64 d2, .slice sa2 ns2 cs2, .int .i64 o2, .slice la2 nl2 cl2, .int .i64 t2.hot, .int .i64 t2.warm, .int .i64 t2.gap, .int .i64 t2.add, .int .i64 t2.top, .int .i64 t2.half]] w fun e w' => e = .returned (.bool false) ∧ Up Nul w w' := by
 subst eI
 obtain ⟨C1, hC1⟩ : ∃ C : Array Value, C = #[.int .i64 k1, .string s1, .int .i64 n1, .int .i64 d1, .slice sa1 ns1 cs1, .int .i64 o1, .slice la1 nl1 cl1, .int .i64 t1.hot, .int .i64 t1.warm, .int .i64 t1.gap, .int .i64 t1.add, .int .i64 t1.top, .int .i64 t1.half] := ⟨_, rfl⟩
 obtain ⟨C2, hC2⟩ : ∃ C : Array Value, C = #[.int .i64 k2, .string s2, .int .i64 n2, .int .i64 d2, .slice sa2 ns2 cs2, .int .i64 o2, .slice la2 nl2 cl2, .int .i64 t2.hot, .int .i64 t2.warm, .int .i64 t2.gap, .int .i64 t2.add, .int .i64 t2.top, .int .i64 t2.half] := ⟨_, rfl⟩
 have HI := hid hI
 have HL := hid hL
 clear hI hL
 go_enter Tryd.func14, Tryd.ntmps14
 go_upto_region 1 with fail
 try simp only [List.append]
 rw [← hC1, ← hC2]
 obtain ⟨W2, hW2⟩ : ∃ W, W = (w.alloc (.cells C1 27)).alloc (.cells C2 27) := ⟨_, rfl⟩
 have HU : Hid (Up Nul w W2) := by show Up _ _ _; rw [hW2]; exact ((Up.refl Nul w).alloc _).alloc _
 have q1 : W2.heap[w.heap.size]? = some (.cells C1 27 (0, 0)) := by rw [hW2]; exact (Below.heap_alloc _ _ _ (by first | (simp; done) | (simp; omega))).trans (heap_alloc_new _ _)
 have q2 : W2.heap[w.heap.size + 1]? = some (.cells C2 27 (0, 0)) := by rw [hW2]; have := heap_alloc_new (w.alloc (.cells C1 27)) (.cells C2 27); simpa using this
 have l1 := (Array.getElem?_eq_some_iff.1 q1).1
 have l2 := (Array.getElem?_eq_some_iff.1 q2).1
 rw [hC1] at q1
 rw [hC2] at q2
 rw [← hW2]
 clear hW2
 generalize w.heap.size + 1 = p2 at q2 l2 ⊢
 generalize w.heap.size = p1 at q1 l1 ⊢
 have F1_0 := celN 0 (.int .i64 k1) l1 q1 rfl
 have F1_1 := celN 1 (.string s1) l1 q1 rfl
 have F1_2 := celN 2 (.int .i64 n1) l1 q1 rfl
 have F1_3 := celN 3 (.int .i64 d1) l1 q1 rfl
 have F1_4 := celN 4 (.slice sa1 ns1 cs1) l1 q1 rfl
 have F1_5 := celN 5 (.int .i64 o1) l1 q1 rfl
 have F1_6 := celN 6 (.slice la1 nl1 cl1) l1 q1 rfl
 have F1_7 := celN 7 (.int .i64 t1.hot) l1 q1 rfl
 have F1_8 := celN 8 (.int .i64 t1.warm) l1 q1 rfl
 have F1_9 := celN 9 (.int .i64 t1.gap) l1 q1 rfl
 have F1_10 := celN 10 (.int .i64 t1.add) l1 q1 rfl
 have F1_11 := celN 11 (.int .i64 t1.top) l1 q1 rfl
 have F1_12 := celN 12 (.int .i64 t1.half) l1 q1 rfl
 have F2_0 := celN 0 (.int .i64 k2) l2 q2 rfl
 have F2_1 := celN 1 (.string s2) l2 q2 rfl
 have F2_2 := celN 2 (.int .i64 n2) l2 q2 rfl
 have F2_3 := celN 3 (.int .i64 d2) l2 q2 rfl
 have F2_4 := celN 4 (.slice sa2 ns2 cs2) l2 q2 rfl
 have F2_5 := celN 5 (.int .i64 o2) l2 q2 rfl
 have F2_6 := celN 6 (.slice la2 nl2 cl2) l2 q2 rfl
 have F2_7 := celN 7 (.int .i64 t2.hot) l2 q2 rfl
 have F2_8 := celN 8 (.int .i64 t2.warm) l2 q2 rfl
 have F2_9 := celN 9 (.int .i64 t2.gap) l2 q2 rfl
 have F2_10 := celN 10 (.int .i64 t2.add) l2 q2 rfl
 have F2_11 := celN 11 (.int .i64 t2.top) l2 q2 rfl
 have F2_12 := celN 12 (.int .i64 t2.half) l2 q2 rfl
 clear q1 q2 l1 l2 hC1 hC2
 have x1_0 := F1_0.out _ (Up.refl Nul W2)
 have x1_1 := F1_1.out _ (Up.refl Nul W2)
 have x1_2 := F1_2.out _ (Up.refl Nul W2)
 have x1_3 := F1_3.out _ (Up.refl Nul W2)
 have x1_4 := F1_4.out _ (Up.refl Nul W2)
 have x2_0 := F2_0.out _ (Up.refl Nul W2)
 have x2_1 := F2_1.out _ (Up.refl Nul W2)
 have x2_2 := F2_2.out _ (Up.refl Nul W2)
 have x2_3 := F2_3.out _ (Up.refl Nul W2)
 have x2_4 := F2_4.out _ (Up.refl Nul W2)
 go_wp2_with fail
 refine (HI.out _ (HU.out.trans (Up.refl Nul W2))).mono ?_
 rintro e v0 ⟨rfl, kb⟩
 have K0 := hid (Up.trans (Up.refl Nul W2) kb)
 clear kb x1_0 x1_1 x1_2 x1_3 x1_4 x2_0 x2_1 x2_2 x2_3 x2_4
 have x1_5 := F1_5.out _ K0.out
 have x1_6 := F1_6.out _ K0.out
 have x2_5 := F2_5.out _ K0.out
 have x2_6 := F2_6.out _ K0.out
 go_wp2_with fail
 go_ret
 exact ⟨by first | rfl | simp, HU.out.trans K0.out⟩
set_option maxRecDepth 100000 in
set_option maxHeartbeats 4000000 in
theorem srec_case7 (w : World) (k1 k2 n1 n2 d1 d2 o1 o2 : Int) (s1 s2 : ByteArray) (sa1 sa2 la1 la2 : Option Addr) (ns1 cs1 ns2 cs2 nl1 cl1 nl2 cl2 : Nat) (t1 t2 : Tb) (bI bL : Bool)
  (hI : ∀ W, Up Nul w W → Calls Tryd.prog 37 #[.slice sa1 ns1 cs1, .slice sa2 ns2 cs2] W fun e w' => e = .returned (.bool bI) ∧ Up Nul W w')
  (hL : ∀ W, Up Nul w W → Calls Tryd.prog 38 #[.slice la1 nl1 cl1, .slice la2 nl2 cl2] W fun e w' => e = .returned (.bool bL) ∧ Up Nul W w')
  (e1 : (k1 == k2) = true) (e2 : (s1.toList == s2.toList) = true) (e3 : (n1 == n2) = true) (e4 : (d1 == d2) = true) (eI : bI = true) (e6 : (o1 == o2) = true) (eL : bL = false) :
  Calls Tryd.prog 14 #[.agg #[.int .i64 k1, .string s1, .int .i64 n1, .int .i64 d1, .slice sa1 ns1 cs1, .int .i64 o1, .slice la1 nl1 cl1, .int .i64 t1.hot, .int .i64 t1.warm, .int .i64 t1.gap, .int .i64 t1.add, .int .i64 t1.top, .int .i64 t1.half], .agg #[.int .i64 k2, .string s2, .int .i64 n2, .int .i64 d2, .slice sa2 ns2 cs2, .int .i64 o2, .slice la2 nl2 cl2, .int .i64 t2.hot, .int .i64 t2.warm, .int .i64 t2.gap, .int .i64 t2.add, .int .i64 t2.top, .int .i64 t2.half]] w fun e w' => e = .returned (.bool false) ∧ Up Nul w w' := by
 subst eI
 subst eL
 obtain ⟨C1, hC1⟩ : ∃ C : Array Value, C = #[.int .i64 k1, .string s1, .int .i64 n1, .int .i64 d1, .slice sa1 ns1 cs1, .int .i64 o1, .slice la1 nl1 cl1, .int .i64 t1.hot, .int .i64 t1.warm, .int .i64 t1.gap, .int .i64 t1.add, .int .i64 t1.top, .int .i64 t1.half] := ⟨_, rfl⟩
 obtain ⟨C2, hC2⟩ : ∃ C : Array Value, C = #[.int .i64 k2, .string s2, .int .i64 n2, .int .i64 d2, .slice sa2 ns2 cs2, .int .i64 o2, .slice la2 nl2 cl2, .int .i64 t2.hot, .int .i64 t2.warm, .int .i64 t2.gap, .int .i64 t2.add, .int .i64 t2.top, .int .i64 t2.half] := ⟨_, rfl⟩
 have HI := hid hI
 have HL := hid hL
 clear hI hL
 go_enter Tryd.func14, Tryd.ntmps14
 go_upto_region 1 with fail
 try simp only [List.append]
 rw [← hC1, ← hC2]
 obtain ⟨W2, hW2⟩ : ∃ W, W = (w.alloc (.cells C1 27)).alloc (.cells C2 27) := ⟨_, rfl⟩
 have HU : Hid (Up Nul w W2) := by show Up _ _ _; rw [hW2]; exact ((Up.refl Nul w).alloc _).alloc _
 have q1 : W2.heap[w.heap.size]? = some (.cells C1 27 (0, 0)) := by rw [hW2]; exact (Below.heap_alloc _ _ _ (by first | (simp; done) | (simp; omega))).trans (heap_alloc_new _ _)
 have q2 : W2.heap[w.heap.size + 1]? = some (.cells C2 27 (0, 0)) := by rw [hW2]; have := heap_alloc_new (w.alloc (.cells C1 27)) (.cells C2 27); simpa using this
 have l1 := (Array.getElem?_eq_some_iff.1 q1).1
 have l2 := (Array.getElem?_eq_some_iff.1 q2).1
 rw [hC1] at q1
 rw [hC2] at q2
 rw [← hW2]
 clear hW2
 generalize w.heap.size + 1 = p2 at q2 l2 ⊢
 generalize w.heap.size = p1 at q1 l1 ⊢
 have F1_0 := celN 0 (.int .i64 k1) l1 q1 rfl
 have F1_1 := celN 1 (.string s1) l1 q1 rfl
 have F1_2 := celN 2 (.int .i64 n1) l1 q1 rfl
 have F1_3 := celN 3 (.int .i64 d1) l1 q1 rfl
 have F1_4 := celN 4 (.slice sa1 ns1 cs1) l1 q1 rfl
 have F1_5 := celN 5 (.int .i64 o1) l1 q1 rfl
 have F1_6 := celN 6 (.slice la1 nl1 cl1) l1 q1 rfl
 have F1_7 := celN 7 (.int .i64 t1.hot) l1 q1 rfl
 have F1_8 := celN 8 (.int .i64 t1.warm) l1 q1 rfl
 have F1_9 := celN 9 (.int .i64 t1.gap) l1 q1 rfl
 have F1_10 := celN 10 (.int .i64 t1.add) l1 q1 rfl
 have F1_11 := celN 11 (.int .i64 t1.top) l1 q1 rfl
 have F1_12 := celN 12 (.int .i64 t1.half) l1 q1 rfl
 have F2_0 := celN 0 (.int .i64 k2) l2 q2 rfl
 have F2_1 := celN 1 (.string s2) l2 q2 rfl
 have F2_2 := celN 2 (.int .i64 n2) l2 q2 rfl
 have F2_3 := celN 3 (.int .i64 d2) l2 q2 rfl
 have F2_4 := celN 4 (.slice sa2 ns2 cs2) l2 q2 rfl
 have F2_5 := celN 5 (.int .i64 o2) l2 q2 rfl
 have F2_6 := celN 6 (.slice la2 nl2 cl2) l2 q2 rfl
 have F2_7 := celN 7 (.int .i64 t2.hot) l2 q2 rfl
 have F2_8 := celN 8 (.int .i64 t2.warm) l2 q2 rfl
 have F2_9 := celN 9 (.int .i64 t2.gap) l2 q2 rfl
 have F2_10 := celN 10 (.int .i64 t2.add) l2 q2 rfl
 have F2_11 := celN 11 (.int .i64 t2.top) l2 q2 rfl
 have F2_12 := celN 12 (.int .i64 t2.half) l2 q2 rfl
 clear q1 q2 l1 l2 hC1 hC2
 have x1_0 := F1_0.out _ (Up.refl Nul W2)
 have x1_1 := F1_1.out _ (Up.refl Nul W2)
 have x1_2 := F1_2.out _ (Up.refl Nul W2)
 have x1_3 := F1_3.out _ (Up.refl Nul W2)
 have x1_4 := F1_4.out _ (Up.refl Nul W2)
 have x2_0 := F2_0.out _ (Up.refl Nul W2)
 have x2_1 := F2_1.out _ (Up.refl Nul W2)
 have x2_2 := F2_2.out _ (Up.refl Nul W2)
 have x2_3 := F2_3.out _ (Up.refl Nul W2)
 have x2_4 := F2_4.out _ (Up.refl Nul W2)
 go_wp2_with fail
 refine (HI.out _ (HU.out.trans (Up.refl Nul W2))).mono ?_
 rintro e v0 ⟨rfl, kb⟩
 have K0 := hid (Up.trans (Up.refl Nul W2) kb)
 clear kb x1_0 x1_1 x1_2 x1_3 x1_4 x2_0 x2_1 x2_2 x2_3 x2_4
 have x1_5 := F1_5.out _ K0.out
 have x1_6 := F1_6.out _ K0.out
 have x2_5 := F2_5.out _ K0.out
 have x2_6 := F2_6.out _ K0.out
 go_wp2_with fail
 refine (HL.out _ (HU.out.trans K0.out)).mono ?_
 rintro e v1 ⟨rfl, kb⟩
 have K1 := hid (Up.trans K0.out kb)
 clear kb x1_5 x1_6 x2_5 x2_6
 have x1_7 := F1_7.out _ K1.out
 have x1_8 := F1_8.out _ K1.out
 have x1_9 := F1_9.out _ K1.out
 have x1_10 := F1_10.out _ K1.out
 have x1_11 := F1_11.out _ K1.out
 have x1_12 := F1_12.out _ K1.out
 have x2_7 := F2_7.out _ K1.out
 have x2_8 := F2_8.out _ K1.out
 have x2_9 := F2_9.out _ K1.out
 have x2_10 := F2_10.out _ K1.out
 have x2_11 := F2_11.out _ K1.out
 have x2_12 := F2_12.out _ K1.out
 go_wp2_with fail
 go_ret
 exact ⟨by first | rfl | simp, HU.out.trans K1.out⟩
set_option maxRecDepth 100000 in
set_option maxHeartbeats 4000000 in
theorem srec_case8 (w : World) (k1 k2 n1 n2 d1 d2 o1 o2 : Int) (s1 s2 : ByteArray) (sa1 sa2 la1 la2 : Option Addr) (ns1 cs1 ns2 cs2 nl1 cl1 nl2 cl2 : Nat) (t1 t2 : Tb) (bI bL : Bool)
  (hI : ∀ W, Up Nul w W → Calls Tryd.prog 37 #[.slice sa1 ns1 cs1, .slice sa2 ns2 cs2] W fun e w' => e = .returned (.bool bI) ∧ Up Nul W w')
  (hL : ∀ W, Up Nul w W → Calls Tryd.prog 38 #[.slice la1 nl1 cl1, .slice la2 nl2 cl2] W fun e w' => e = .returned (.bool bL) ∧ Up Nul W w')
  (e1 : (k1 == k2) = true) (e2 : (s1.toList == s2.toList) = true) (e3 : (n1 == n2) = true) (e4 : (d1 == d2) = true) (eI : bI = true) (e6 : (o1 == o2) = true) (eL : bL = true) (e8 : (t1.hot == t2.hot) = false) :
  Calls Tryd.prog 14 #[.agg #[.int .i64 k1, .string s1, .int .i64 n1, .int .i64 d1, .slice sa1 ns1 cs1, .int .i64 o1, .slice la1 nl1 cl1, .int .i64 t1.hot, .int .i64 t1.warm, .int .i64 t1.gap, .int .i64 t1.add, .int .i64 t1.top, .int .i64 t1.half], .agg #[.int .i64 k2, .string s2, .int .i64 n2, .int .i64 d2, .slice sa2 ns2 cs2, .int .i64 o2, .slice la2 nl2 cl2, .int .i64 t2.hot, .int .i64 t2.warm, .int .i64 t2.gap, .int .i64 t2.add, .int .i64 t2.top, .int .i64 t2.half]] w fun e w' => e = .returned (.bool false) ∧ Up Nul w w' := by
 subst eI
 subst eL
 obtain ⟨C1, hC1⟩ : ∃ C : Array Value, C = #[.int .i64 k1, .string s1, .int .i64 n1, .int .i64 d1, .slice sa1 ns1 cs1, .int .i64 o1, .slice la1 nl1 cl1, .int .i64 t1.hot, .int .i64 t1.warm, .int .i64 t1.gap, .int .i64 t1.add, .int .i64 t1.top, .int .i64 t1.half] := ⟨_, rfl⟩
 obtain ⟨C2, hC2⟩ : ∃ C : Array Value, C = #[.int .i64 k2, .string s2, .int .i64 n2, .int .i64 d2, .slice sa2 ns2 cs2, .int .i64 o2, .slice la2 nl2 cl2, .int .i64 t2.hot, .int .i64 t2.warm, .int .i64 t2.gap, .int .i64 t2.add, .int .i64 t2.top, .int .i64 t2.half] := ⟨_, rfl⟩
 have HI := hid hI
 have HL := hid hL
 clear hI hL
 go_enter Tryd.func14, Tryd.ntmps14
 go_upto_region 1 with fail
 try simp only [List.append]
 rw [← hC1, ← hC2]
 obtain ⟨W2, hW2⟩ : ∃ W, W = (w.alloc (.cells C1 27)).alloc (.cells C2 27) := ⟨_, rfl⟩
 have HU : Hid (Up Nul w W2) := by show Up _ _ _; rw [hW2]; exact ((Up.refl Nul w).alloc _).alloc _
 have q1 : W2.heap[w.heap.size]? = some (.cells C1 27 (0, 0)) := by rw [hW2]; exact (Below.heap_alloc _ _ _ (by first | (simp; done) | (simp; omega))).trans (heap_alloc_new _ _)
 have q2 : W2.heap[w.heap.size + 1]? = some (.cells C2 27 (0, 0)) := by rw [hW2]; have := heap_alloc_new (w.alloc (.cells C1 27)) (.cells C2 27); simpa using this
 have l1 := (Array.getElem?_eq_some_iff.1 q1).1
 have l2 := (Array.getElem?_eq_some_iff.1 q2).1
 rw [hC1] at q1
 rw [hC2] at q2
 rw [← hW2]
 clear hW2
 generalize w.heap.size + 1 = p2 at q2 l2 ⊢
 generalize w.heap.size = p1 at q1 l1 ⊢
 have F1_0 := celN 0 (.int .i64 k1) l1 q1 rfl
 have F1_1 := celN 1 (.string s1) l1 q1 rfl
 have F1_2 := celN 2 (.int .i64 n1) l1 q1 rfl
 have F1_3 := celN 3 (.int .i64 d1) l1 q1 rfl
 have F1_4 := celN 4 (.slice sa1 ns1 cs1) l1 q1 rfl
 have F1_5 := celN 5 (.int .i64 o1) l1 q1 rfl
 have F1_6 := celN 6 (.slice la1 nl1 cl1) l1 q1 rfl
 have F1_7 := celN 7 (.int .i64 t1.hot) l1 q1 rfl
 have F1_8 := celN 8 (.int .i64 t1.warm) l1 q1 rfl
 have F1_9 := celN 9 (.int .i64 t1.gap) l1 q1 rfl
 have F1_10 := celN 10 (.int .i64 t1.add) l1 q1 rfl
 have F1_11 := celN 11 (.int .i64 t1.top) l1 q1 rfl
 have F1_12 := celN 12 (.int .i64 t1.half) l1 q1 rfl
 have F2_0 := celN 0 (.int .i64 k2) l2 q2 rfl
 have F2_1 := celN 1 (.string s2) l2 q2 rfl
 have F2_2 := celN 2 (.int .i64 n2) l2 q2 rfl
 have F2_3 := celN 3 (.int .i64 d2) l2 q2 rfl
 have F2_4 := celN 4 (.slice sa2 ns2 cs2) l2 q2 rfl
 have F2_5 := celN 5 (.int .i64 o2) l2 q2 rfl
 have F2_6 := celN 6 (.slice la2 nl2 cl2) l2 q2 rfl
 have F2_7 := celN 7 (.int .i64 t2.hot) l2 q2 rfl
 have F2_8 := celN 8 (.int .i64 t2.warm) l2 q2 rfl
 have F2_9 := celN 9 (.int .i64 t2.gap) l2 q2 rfl
 have F2_10 := celN 10 (.int .i64 t2.add) l2 q2 rfl
 have F2_11 := celN 11 (.int .i64 t2.top) l2 q2 rfl
 have F2_12 := celN 12 (.int .i64 t2.half) l2 q2 rfl
 clear q1 q2 l1 l2 hC1 hC2
 have x1_0 := F1_0.out _ (Up.refl Nul W2)
 have x1_1 := F1_1.out _ (Up.refl Nul W2)
 have x1_2 := F1_2.out _ (Up.refl Nul W2)
 have x1_3 := F1_3.out _ (Up.refl Nul W2)
 have x1_4 := F1_4.out _ (Up.refl Nul W2)
 have x2_0 := F2_0.out _ (Up.refl Nul W2)
 have x2_1 := F2_1.out _ (Up.refl Nul W2)
 have x2_2 := F2_2.out _ (Up.refl Nul W2)
 have x2_3 := F2_3.out _ (Up.refl Nul W2)
 have x2_4 := F2_4.out _ (Up.refl Nul W2)
 go_wp2_with fail
 refine (HI.out _ (HU.out.trans (Up.refl Nul W2))).mono ?_
 rintro e v0 ⟨rfl, kb⟩
 have K0 := hid (Up.trans (Up.refl Nul W2) kb)
 clear kb x1_0 x1_1 x1_2 x1_3 x1_4 x2_0 x2_1 x2_2 x2_3 x2_4
 have x1_5 := F1_5.out _ K0.out
 have x1_6 := F1_6.out _ K0.out
 have x2_5 := F2_5.out _ K0.out
 have x2_6 := F2_6.out _ K0.out
 go_wp2_with fail
 refine (HL.out _ (HU.out.trans K0.out)).mono ?_
 rintro e v1 ⟨rfl, kb⟩
 have K1 := hid (Up.trans K0.out kb)
 clear kb x1_5 x1_6 x2_5 x2_6
 have x1_7 := F1_7.out _ K1.out
 have x1_8 := F1_8.out _ K1.out
 have x1_9 := F1_9.out _ K1.out
 have x1_10 := F1_10.out _ K1.out
 have x1_11 := F1_11.out _ K1.out
 have x1_12 := F1_12.out _ K1.out
 have x2_7 := F2_7.out _ K1.out
 have x2_8 := F2_8.out _ K1.out
 have x2_9 := F2_9.out _ K1.out
 have x2_10 := F2_10.out _ K1.out
 have x2_11 := F2_11.out _ K1.out
 have x2_12 := F2_12.out _ K1.out
 go_wp2_with fail
 go_ret
 exact ⟨by first | rfl | simp, HU.out.trans K1.out⟩
set_option maxRecDepth 100000 in
set_option maxHeartbeats 4000000 in
theorem srec_case9 (w : World) (k1 k2 n1 n2 d1 d2 o1 o2 : Int) (s1 s2 : ByteArray) (sa1 sa2 la1 la2 : Option Addr) (ns1 cs1 ns2 cs2 nl1 cl1 nl2 cl2 : Nat) (t1 t2 : Tb) (bI bL : Bool)
  (hI : ∀ W, Up Nul w W → Calls Tryd.prog 37 #[.slice sa1 ns1 cs1, .slice sa2 ns2 cs2] W fun e w' => e = .returned (.bool bI) ∧ Up Nul W w')
  (hL : ∀ W, Up Nul w W → Calls Tryd.prog 38 #[.slice la1 nl1 cl1, .slice la2 nl2 cl2] W fun e w' => e = .returned (.bool bL) ∧ Up Nul W w')
  (e1 : (k1 == k2) = true) (e2 : (s1.toList == s2.toList) = true) (e3 : (n1 == n2) = true) (e4 : (d1 == d2) = true) (eI : bI = true) (e6 : (o1 == o2) = true) (eL : bL = true) (e8 : (t1.hot == t2.hot) = true) (e9 : (t1.warm == t2.warm) = false) :
  Calls Tryd.prog 14 #[.agg #[.int .i64 k1, .string s1, .int .i64 n1, .int .i64 d1, .slice sa1 ns1 cs1, .int .i64 o1, .slice la1 nl1 cl1, .int .i64 t1.hot, .int .i64 t1.warm, .int .i64 t1.gap, .int .i64 t1.add, .int .i64 t1.top, .int .i64 t1.half], .agg #[.int .i64 k2, .string s2, .int .i64 n2, .int .i64 d2, .slice sa2 ns2 cs2, .int .i64 o2, .slice la2 nl2 cl2, .int .i64 t2.hot, .int .i64 t2.warm, .int .i64 t2.gap, .int .i64 t2.add, .int .i64 t2.top, .int .i64 t2.half]] w fun e w' => e = .returned (.bool false) ∧ Up Nul w w' := by
 subst eI
 subst eL
 obtain ⟨C1, hC1⟩ : ∃ C : Array Value, C = #[.int .i64 k1, .string s1, .int .i64 n1, .int .i64 d1, .slice sa1 ns1 cs1, .int .i64 o1, .slice la1 nl1 cl1, .int .i64 t1.hot, .int .i64 t1.warm, .int .i64 t1.gap, .int .i64 t1.add, .int .i64 t1.top, .int .i64 t1.half] := ⟨_, rfl⟩
 obtain ⟨C2, hC2⟩ : ∃ C : Array Value, C = #[.int .i64 k2, .string s2, .int .i64 n2, .int .i64 d2, .slice sa2 ns2 cs2, .int .i64 o2, .slice la2 nl2 cl2, .int .i64 t2.hot, .int .i64 t2.warm, .int .i64 t2.gap, .int .i64 t2.add, .int .i64 t2.top, .int .i64 t2.half] := ⟨_, rfl⟩
 have HI := hid hI
 have HL := hid hL
 clear hI hL
 go_enter Tryd.func14, Tryd.ntmps14
 go_upto_region 1 with fail
 try simp only [List.append]
 rw [← hC1, ← hC2]
 obtain ⟨W2, hW2⟩ : ∃ W, W = (w.alloc (.cells C1 27)).alloc (.cells C2 27) := ⟨_, rfl⟩
 have HU : Hid (Up Nul w W2) := by show Up _ _ _; rw [hW2]; exact ((Up.refl Nul w).alloc _).alloc _
 have q1 : W2.heap[w.heap.size]? = some (.cells C1 27 (0, 0)) := by rw [hW2]; exact (Below.heap_alloc _ _ _ (by first | (simp; done) | (simp; omega))).trans (heap_alloc_new _ _)
 have q2 : W2.heap[w.heap.size + 1]? = some (.cells C2 27 (0, 0)) := by rw [hW2]; have := heap_alloc_new (w.alloc (.cells C1 27)) (.cells C2 27); simpa using this
 have l1 := (Array.getElem?_eq_some_iff.1 q1).1
 have l2 := (Array.getElem?_eq_some_iff.1 q2).1
 rw [hC1] at q1
 rw [hC2] at q2
 rw [← hW2]
 clear hW2
 generalize w.heap.size + 1 = p2 at q2 l2 ⊢
 generalize w.heap.size = p1 at q1 l1 ⊢
 have F1_0 := celN 0 (.int .i64 k1) l1 q1 rfl
 have F1_1 := celN 1 (.string s1) l1 q1 rfl
 have F1_2 := celN 2 (.int .i64 n1) l1 q1 rfl
 have F1_3 := celN 3 (.int .i64 d1) l1 q1 rfl
 have F1_4 := celN 4 (.slice sa1 ns1 cs1) l1 q1 rfl
 have F1_5 := celN 5 (.int .i64 o1) l1 q1 rfl
 have F1_6 := celN 6 (.slice la1 nl1 cl1) l1 q1 rfl
 have F1_7 := celN 7 (.int .i64 t1.hot) l1 q1 rfl
 have F1_8 := celN 8 (.int .i64 t1.warm) l1 q1 rfl
 have F1_9 := celN 9 (.int .i64 t1.gap) l1 q1 rfl
 have F1_10 := celN 10 (.int .i64 t1.add) l1 q1 rfl
 have F1_11 := celN 11 (.int .i64 t1.top) l1 q1 rfl
 have F1_12 := celN 12 (.int .i64 t1.half) l1 q1 rfl
 have F2_0 := celN 0 (.int .i64 k2) l2 q2 rfl
 have F2_1 := celN 1 (.string s2) l2 q2 rfl
 have F2_2 := celN 2 (.int .i64 n2) l2 q2 rfl
 have F2_3 := celN 3 (.int .i64 d2) l2 q2 rfl
 have F2_4 := celN 4 (.slice sa2 ns2 cs2) l2 q2 rfl
 have F2_5 := celN 5 (.int .i64 o2) l2 q2 rfl
 have F2_6 := celN 6 (.slice la2 nl2 cl2) l2 q2 rfl
 have F2_7 := celN 7 (.int .i64 t2.hot) l2 q2 rfl
 have F2_8 := celN 8 (.int .i64 t2.warm) l2 q2 rfl
 have F2_9 := celN 9 (.int .i64 t2.gap) l2 q2 rfl
 have F2_10 := celN 10 (.int .i64 t2.add) l2 q2 rfl
 have F2_11 := celN 11 (.int .i64 t2.top) l2 q2 rfl
 have F2_12 := celN 12 (.int .i64 t2.half) l2 q2 rfl
 clear q1 q2 l1 l2 hC1 hC2
 have x1_0 := F1_0.out _ (Up.refl Nul W2)
 have x1_1 := F1_1.out _ (Up.refl Nul W2)
 have x1_2 := F1_2.out _ (Up.refl Nul W2)
 have x1_3 := F1_3.out _ (Up.refl Nul W2)
 have x1_4 := F1_4.out _ (Up.refl Nul W2)
 have x2_0 := F2_0.out _ (Up.refl Nul W2)
 have x2_1 := F2_1.out _ (Up.refl Nul W2)
 have x2_2 := F2_2.out _ (Up.refl Nul W2)
 have x2_3 := F2_3.out _ (Up.refl Nul W2)
 have x2_4 := F2_4.out _ (Up.refl Nul W2)
 go_wp2_with fail
 refine (HI.out _ (HU.out.trans (Up.refl Nul W2))).mono ?_
 rintro e v0 ⟨rfl, kb⟩
 have K0 := hid (Up.trans (Up.refl Nul W2) kb)
 clear kb x1_0 x1_1 x1_2 x1_3 x1_4 x2_0 x2_1 x2_2 x2_3 x2_4
 have x1_5 := F1_5.out _ K0.out
 have x1_6 := F1_6.out _ K0.out
 have x2_5 := F2_5.out _ K0.out
 have x2_6 := F2_6.out _ K0.out
 go_wp2_with fail
 refine (HL.out _ (HU.out.trans K0.out)).mono ?_
 rintro e v1 ⟨rfl, kb⟩
 have K1 := hid (Up.trans K0.out kb)
 clear kb x1_5 x1_6 x2_5 x2_6
 have x1_7 := F1_7.out _ K1.out
 have x1_8 := F1_8.out _ K1.out
 have x1_9 := F1_9.out _ K1.out
 have x1_10 := F1_10.out _ K1.out
 have x1_11 := F1_11.out _ K1.out
 have x1_12 := F1_12.out _ K1.out
 have x2_7 := F2_7.out _ K1.out
 have x2_8 := F2_8.out _ K1.out
 have x2_9 := F2_9.out _ K1.out
 have x2_10 := F2_10.out _ K1.out
 have x2_11 := F2_11.out _ K1.out
 have x2_12 := F2_12.out _ K1.out
 go_wp2_with fail
 go_ret
 exact ⟨by first | rfl | simp, HU.out.trans K1.out⟩
set_option maxRecDepth 100000 in
set_option maxHeartbeats 4000000 in
theorem srec_case10 (w : World) (k1 k2 n1 n2 d1 d2 o1 o2 : Int) (s1 s2 : ByteArray) (sa1 sa2 la1 la2 : Option Addr) (ns1 cs1 ns2 cs2 nl1 cl1 nl2 cl2 : Nat) (t1 t2 : Tb) (bI bL : Bool)
  (hI : ∀ W, Up Nul w W → Calls Tryd.prog 37 #[.slice sa1 ns1 cs1, .slice sa2 ns2 cs2] W fun e w' => e = .returned (.bool bI) ∧ Up Nul W w')
  (hL : ∀ W, Up Nul w W → Calls Tryd.prog 38 #[.slice la1 nl1 cl1, .slice la2 nl2 cl2] W fun e w' => e = .returned (.bool bL) ∧ Up Nul W w')
  (e1 : (k1 == k2) = true) (e2 : (s1.toList == s2.toList) = true) (e3 : (n1 == n2) = true) (e4 : (d1 == d2) = true) (eI : bI = true) (e6 : (o1 == o2) = true) (eL : bL = true) (e8 : (t1.hot == t2.hot) = true) (e9 : (t1.warm == t2.warm) = true) (e10 : (t1.gap == t2.gap) = false) :
  Calls Tryd.prog 14 #[.agg #[.int .i64 k1, .string s1, .int .i64 n1, .int .i64 d1, .slice sa1 ns1 cs1, .int .i64 o1, .slice la1 nl1 cl1, .int .i64 t1.hot, .int .i64 t1.warm, .int .i64 t1.gap, .int .i64 t1.add, .int .i64 t1.top, .int .i64 t1.half], .agg #[.int .i64 k2, .string s2, .int .i64 n2, .int .i64 d2, .slice sa2 ns2 cs2, .int .i64 o2, .slice la2 nl2 cl2, .int .i64 t2.hot, .int .i64 t2.warm, .int .i64 t2.gap, .int .i64 t2.add, .int .i64 t2.top, .int .i64 t2.half]] w fun e w' => e = .returned (.bool false) ∧ Up Nul w w' := by
 subst eI
 subst eL
 obtain ⟨C1, hC1⟩ : ∃ C : Array Value, C = #[.int .i64 k1, .string s1, .int .i64 n1, .int .i64 d1, .slice sa1 ns1 cs1, .int .i64 o1, .slice la1 nl1 cl1, .int .i64 t1.hot, .int .i64 t1.warm, .int .i64 t1.gap, .int .i64 t1.add, .int .i64 t1.top, .int .i64 t1.half] := ⟨_, rfl⟩
 obtain ⟨C2, hC2⟩ : ∃ C : Array Value, C = #[.int .i64 k2, .string s2, .int .i64 n2, .int .i64 d2, .slice sa2 ns2 cs2, .int .i64 o2, .slice la2 nl2 cl2, .int .i64 t2.hot, .int .i64 t2.warm, .int .i64 t2.gap, .int .i64 t2.add, .int .i64 t2.top, .int .i64 t2.half] := ⟨_, rfl⟩
 have HI := hid hI
 have HL := hid hL
 clear hI hL
 go_enter Tryd.func14, Tryd.ntmps14
 go_upto_region 1 with fail
 try simp only [List.append]
 rw [← hC1, ← hC2]
 obtain ⟨W2, hW2⟩ : ∃ W, W = (w.alloc (.cells C1 27)).alloc (.cells C2 27) := ⟨_, rfl⟩
 have HU : Hid (Up Nul w W2) := by show Up _ _ _; rw [hW2]; exact ((Up.refl Nul w).alloc _).alloc _
 have q1 : W2.heap[w.heap.size]? = some (.cells C1 27 (0, 0)) := by rw [hW2]; exact (Below.heap_alloc _ _ _ (by first | (simp; done) | (simp; omega))).trans (heap_alloc_new _ _)
 have q2 : W2.heap[w.heap.size + 1]? = some (.cells C2 27 (0, 0)) := by rw [hW2]; have := heap_alloc_new (w.alloc (.cells C1 27)) (.cells C2 27); simpa using this
 have l1 := (Array.getElem?_eq_some_iff.1 q1).1
 have l2 := (Array.getElem?_eq_some_iff.1 q2).1
 rw [hC1] at q1
 rw [hC2] at q2
 rw [← hW2]
 clear hW2
 generalize w.heap.size + 1 = p2 at q2 l2 ⊢
 generalize w.heap.size = p1 at q1 l1 ⊢
 have F1_0 := celN 0 (.int .i64 k1) l1 q1 rfl
 have F1_1 := celN 1 (.string s1) l1 q1 rfl
 have F1_2 := celN 2 (.int .i64 n1) l1 q1 rfl
 have F1_3 := celN 3 (.int .i64 d1) l1 q1 rfl
 have F1_4 := celN 4 (.slice sa1 ns1 cs1) l1 q1 rfl
 have F1_5 := celN 5 (.int .i64 o1) l1 q1 rfl
 have F1_6 := celN 6 (.slice la1 nl1 cl1) l1 q1 rfl
 have F1_7 := celN 7 (.int .i64 t1.hot) l1 q1 rfl
 have F1_8 := celN 8 (.int .i64 t1.warm) l1 q1 rfl
 have F1_9 := celN 9 (.int .i64 t1.gap) l1 q1 rfl
 have F1_10 := celN 10 (.int .i64 t1.add) l1 q1 rfl
 have F1_11 := celN 11 (.int .i64 t1.top) l1 q1 rfl
 have F1_12 := celN 12 (.int .i64 t1.half) l1 q1 rfl
 have F2_0 := celN 0 (.int .i64 k2) l2 q2 rfl
 have F2_1 := celN 1 (.string s2) l2 q2 rfl
 have F2_2 := celN 2 (.int .i64 n2) l2 q2 rfl
 have F2_3 := celN 3 (.int .i64 d2) l2 q2 rfl
 have F2_4 := celN 4 (.slice sa2 ns2 cs2) l2 q2 rfl
 have F2_5 := celN 5 (.int .i64 o2) l2 q2 rfl
 have F2_6 := celN 6 (.slice la2 nl2 cl2) l2 q2 rfl
 have F2_7 := celN 7 (.int .i64 t2.hot) l2 q2 rfl
 have F2_8 := celN 8 (.int .i64 t2.warm) l2 q2 rfl
 have F2_9 := celN 9 (.int .i64 t2.gap) l2 q2 rfl
 have F2_10 := celN 10 (.int .i64 t2.add) l2 q2 rfl
 have F2_11 := celN 11 (.int .i64 t2.top) l2 q2 rfl
 have F2_12 := celN 12 (.int .i64 t2.half) l2 q2 rfl
 clear q1 q2 l1 l2 hC1 hC2
 have x1_0 := F1_0.out _ (Up.refl Nul W2)
 have x1_1 := F1_1.out _ (Up.refl Nul W2)
 have x1_2 := F1_2.out _ (Up.refl Nul W2)
 have x1_3 := F1_3.out _ (Up.refl Nul W2)
 have x1_4 := F1_4.out _ (Up.refl Nul W2)
 have x2_0 := F2_0.out _ (Up.refl Nul W2)
 have x2_1 := F2_1.out _ (Up.refl Nul W2)
 have x2_2 := F2_2.out _ (Up.refl Nul W2)
 have x2_3 := F2_3.out _ (Up.refl Nul W2)
 have x2_4 := F2_4.out _ (Up.refl Nul W2)
 go_wp2_with fail
 refine (HI.out _ (HU.out.trans (Up.refl Nul W2))).mono ?_
 rintro e v0 ⟨rfl, kb⟩
 have K0 := hid (Up.trans (Up.refl Nul W2) kb)
 clear kb x1_0 x1_1 x1_2 x1_3 x1_4 x2_0 x2_1 x2_2 x2_3 x2_4
 have x1_5 := F1_5.out _ K0.out
 have x1_6 := F1_6.out _ K0.out
 have x2_5 := F2_5.out _ K0.out
 have x2_6 := F2_6.out _ K0.out
 go_wp2_with fail
 refine (HL.out _ (HU.out.trans K0.out)).mono ?_
 rintro e v1 ⟨rfl, kb⟩
 have K1 := hid (Up.trans K0.out kb)
 clear kb x1_5 x1_6 x2_5 x2_6
 have x1_7 := F1_7.out _ K1.out
 have x1_8 := F1_8.out _ K1.out
 have x1_9 := F1_9.out _ K1.out
 have x1_10 := F1_10.out _ K1.out
 have x1_11 := F1_11.out _ K1.out
 have x1_12 := F1_12.out _ K1.out
 have x2_7 := F2_7.out _ K1.out
 have x2_8 := F2_8.out _ K1.out
 have x2_9 := F2_9.out _ K1.out
 have x2_10 := F2_10.out _ K1.out
 have x2_11 := F2_11.out _ K1.out
 have x2_12 := F2_12.out _ K1.out
 go_wp2_with fail
 go_ret
 exact ⟨by first | rfl | simp, HU.out.trans K1.out⟩
set_option maxRecDepth 100000 in
set_option maxHeartbeats 4000000 in
theorem srec_case11 (w : World) (k1 k2 n1 n2 d1 d2 o1 o2 : Int) (s1 s2 : ByteArray) (sa1 sa2 la1 la2 : Option Addr) (ns1 cs1 ns2 cs2 nl1 cl1 nl2 cl2 : Nat) (t1 t2 : Tb) (bI bL : Bool)
  (hI : ∀ W, Up Nul w W → Calls Tryd.prog 37 #[.slice sa1 ns1 cs1, .slice sa2 ns2 cs2] W fun e w' => e = .returned (.bool bI) ∧ Up Nul W w')
  (hL : ∀ W, Up Nul w W → Calls Tryd.prog 38 #[.slice la1 nl1 cl1, .slice la2 nl2 cl2] W fun e w' => e = .returned (.bool bL) ∧ Up Nul W w')
  (e1 : (k1 == k2) = true) (e2 : (s1.toList == s2.toList) = true) (e3 : (n1 == n2) = true) (e4 : (d1 == d2) = true) (eI : bI = true) (e6 : (o1 == o2) = true) (eL : bL = true) (e8 : (t1.hot == t2.hot) = true) (e9 : (t1.warm == t2.warm) = true) (e10 : (t1.gap == t2.gap) = true) (e11 : (t1.add == t2.add) = false) :
  Calls Tryd.prog 14 #[.agg #[.int .i64 k1, .string s1, .int .i64 n1, .int .i64 d1, .slice sa1 ns1 cs1, .int .i64 o1, .slice la1 nl1 cl1, .int .i64 t1.hot, .int .i64 t1.warm, .int .i64 t1.gap, .int .i64 t1.add, .int .i64 t1.top, .int .i64 t1.half], .agg #[.int .i64 k2, .string s2, .int .i64 n2, .int .i64 d2, .slice sa2 ns2 cs2, .int .i64 o2, .slice la2 nl2 cl2, .int .i64 t2.hot, .int .i64 t2.warm, .int .i64 t2.gap, .int .i64 t2.add, .int .i64 t2.top, .int .i64 t2.half]] w fun e w' => e = .returned (.bool false) ∧ Up Nul w w' := by
 subst eI
 subst eL
 obtain ⟨C1, hC1⟩ : ∃ C : Array Value, C = #[.int .i64 k1, .string s1, .int .i64 n1, .int .i64 d1, .slice sa1 ns1 cs1, .int .i64 o1, .slice la1 nl1 cl1, .int .i64 t1.hot, .int .i64 t1.warm, .int .i64 t1.gap, .int .i64 t1.add, .int .i64 t1.top, .int .i64 t1.half] := ⟨_, rfl⟩
 obtain ⟨C2, hC2⟩ : ∃ C : Array Value, C = #[.int .i64 k2, .string s2, .int .i64 n2, .int .i64 d2, .slice sa2 ns2 cs2, .int .i64 o2, .slice la2 nl2 cl2, .int .i64 t2.hot, .int .i64 t2.warm, .int .i64 t2.gap, .int .i64 t2.add, .int .i64 t2.top, .int .i64 t2.half] := ⟨_, rfl⟩
 have HI := hid hI
 have HL := hid hL
 clear hI hL
 go_enter Tryd.func14, Tryd.ntmps14
 go_upto_region 1 with fail
 try simp only [List.append]
 rw [← hC1, ← hC2]
 obtain ⟨W2, hW2⟩ : ∃ W, W = (w.alloc (.cells C1 27)).alloc (.cells C2 27) := ⟨_, rfl⟩
 have HU : Hid (Up Nul w W2) := by show Up _ _ _; rw [hW2]; exact ((Up.refl Nul w).alloc _).alloc _
 have q1 : W2.heap[w.heap.size]? = some (.cells C1 27 (0, 0)) := by rw [hW2]; exact (Below.heap_alloc _ _ _ (by first | (simp; done) | (simp; omega))).trans (heap_alloc_new _ _)
 have q2 : W2.heap[w.heap.size + 1]? = some (.cells C2 27 (0, 0)) := by rw [hW2]; have := heap_alloc_new (w.alloc (.cells C1 27)) (.cells C2 27); simpa using this
 have l1 := (Array.getElem?_eq_some_iff.1 q1).1
 have l2 := (Array.getElem?_eq_some_iff.1 q2).1
 rw [hC1] at q1
 rw [hC2] at q2
 rw [← hW2]
 clear hW2
 generalize w.heap.size + 1 = p2 at q2 l2 ⊢
 generalize w.heap.size = p1 at q1 l1 ⊢
 have F1_0 := celN 0 (.int .i64 k1) l1 q1 rfl
 have F1_1 := celN 1 (.string s1) l1 q1 rfl
 have F1_2 := celN 2 (.int .i64 n1) l1 q1 rfl
 have F1_3 := celN 3 (.int .i64 d1) l1 q1 rfl
 have F1_4 := celN 4 (.slice sa1 ns1 cs1) l1 q1 rfl
 have F1_5 := celN 5 (.int .i64 o1) l1 q1 rfl
 have F1_6 := celN 6 (.slice la1 nl1 cl1) l1 q1 rfl
 have F1_7 := celN 7 (.int .i64 t1.hot) l1 q1 rfl
 have F1_8 := celN 8 (.int .i64 t1.warm) l1 q1 rfl
 have F1_9 := celN 9 (.int .i64 t1.gap) l1 q1 rfl
 have F1_10 := celN 10 (.int .i64 t1.add) l1 q1 rfl
 have F1_11 := celN 11 (.int .i64 t1.top) l1 q1 rfl
 have F1_12 := celN 12 (.int .i64 t1.half) l1 q1 rfl
 have F2_0 := celN 0 (.int .i64 k2) l2 q2 rfl
 have F2_1 := celN 1 (.string s2) l2 q2 rfl
 have F2_2 := celN 2 (.int .i64 n2) l2 q2 rfl
 have F2_3 := celN 3 (.int .i64 d2) l2 q2 rfl
 have F2_4 := celN 4 (.slice sa2 ns2 cs2) l2 q2 rfl
 have F2_5 := celN 5 (.int .i64 o2) l2 q2 rfl
 have F2_6 := celN 6 (.slice la2 nl2 cl2) l2 q2 rfl
 have F2_7 := celN 7 (.int .i64 t2.hot) l2 q2 rfl
 have F2_8 := celN 8 (.int .i64 t2.warm) l2 q2 rfl
 have F2_9 := celN 9 (.int .i64 t2.gap) l2 q2 rfl
 have F2_10 := celN 10 (.int .i64 t2.add) l2 q2 rfl
 have F2_11 := celN 11 (.int .i64 t2.top) l2 q2 rfl
 have F2_12 := celN 12 (.int .i64 t2.half) l2 q2 rfl
 clear q1 q2 l1 l2 hC1 hC2
 have x1_0 := F1_0.out _ (Up.refl Nul W2)
 have x1_1 := F1_1.out _ (Up.refl Nul W2)
 have x1_2 := F1_2.out _ (Up.refl Nul W2)
 have x1_3 := F1_3.out _ (Up.refl Nul W2)
 have x1_4 := F1_4.out _ (Up.refl Nul W2)
 have x2_0 := F2_0.out _ (Up.refl Nul W2)
 have x2_1 := F2_1.out _ (Up.refl Nul W2)
 have x2_2 := F2_2.out _ (Up.refl Nul W2)
 have x2_3 := F2_3.out _ (Up.refl Nul W2)
 have x2_4 := F2_4.out _ (Up.refl Nul W2)
 go_wp2_with fail
 refine (HI.out _ (HU.out.trans (Up.refl Nul W2))).mono ?_
 rintro e v0 ⟨rfl, kb⟩
 have K0 := hid (Up.trans (Up.refl Nul W2) kb)
 clear kb x1_0 x1_1 x1_2 x1_3 x1_4 x2_0 x2_1 x2_2 x2_3 x2_4
 have x1_5 := F1_5.out _ K0.out
 have x1_6 := F1_6.out _ K0.out
 have x2_5 := F2_5.out _ K0.out
 have x2_6 := F2_6.out _ K0.out
 go_wp2_with fail
 refine (HL.out _ (HU.out.trans K0.out)).mono ?_
 rintro e v1 ⟨rfl, kb⟩
 have K1 := hid (Up.trans K0.out kb)
 clear kb x1_5 x1_6 x2_5 x2_6
 have x1_7 := F1_7.out _ K1.out
 have x1_8 := F1_8.out _ K1.out
 have x1_9 := F1_9.out _ K1.out
 have x1_10 := F1_10.out _ K1.out
 have x1_11 := F1_11.out _ K1.out
 have x1_12 := F1_12.out _ K1.out
 have x2_7 := F2_7.out _ K1.out
 have x2_8 := F2_8.out _ K1.out
 have x2_9 := F2_9.out _ K1.out
 have x2_10 := F2_10.out _ K1.out
 have x2_11 := F2_11.out _ K1.out
 have x2_12 := F2_12.out _ K1.out
 go_wp2_with fail
 go_ret
 exact ⟨by first | rfl | simp, HU.out.trans K1.out⟩
set_option maxRecDepth 100000 in
set_option maxHeartbeats 4000000 in
theorem srec_case12 (w : World) (k1 k2 n1 n2 d1 d2 o1 o2 : Int) (s1 s2 : ByteArray) (sa1 sa2 la1 la2 : Option Addr) (ns1 cs1 ns2 cs2 nl1 cl1 nl2 cl2 : Nat) (t1 t2 : Tb) (bI bL : Bool)
  (hI : ∀ W, Up Nul w W → Calls Tryd.prog 37 #[.slice sa1 ns1 cs1, .slice sa2 ns2 cs2] W fun e w' => e = .returned (.bool bI) ∧ Up Nul W w')
  (hL : ∀ W, Up Nul w W → Calls Tryd.prog 38 #[.slice la1 nl1 cl1, .slice la2 nl2 cl2] W fun e w' => e = .returned (.bool bL) ∧ Up Nul W w')
  (e1 : (k1 == k2) = true) (e2 : (s1.toList == s2.toList) = true) (e3 : (n1 == n2) = true) (e4 : (d1 == d2) = true) (eI : bI = true) (e6 : (o1 == o2) = true) (eL : bL = true) (e8 : (t1.hot == t2.hot) = true) (e9 : (t1.warm == t2.warm) = true) (e10 : (t1.gap == t2.gap) = true) (e11 : (t1.add == t2.add) = true) (e12 : (t1.top == t2.top) = false) :
  Calls Tryd.prog 14 #[.agg #[.int .i64 k1, .string s1, .int .i64 n1, .int .i64 d1, .slice sa1 ns1 cs1, .int .i64 o1, .slice la1 nl1 cl1, .int .i64 t1.hot, .int .i64 t1.warm, .int .i64 t1.gap, .int .i64 t1.add, .int .i64 t1.top, .int .i64 t1.half], .agg #[.int .i64 k2, .string s2, .int .i64 n2, .int .i64 d2, .slice sa2 ns2 cs2, .int .i64 o2, .slice la2 nl2 cl2, .int .i64 t2.hot, .int .i64 t2.warm, .int .i64 t2.gap, .int .i64 t2.add, .int .i64 t2.top, .int .i64 t2.half]] w fun e w' => e = .returned (.bool false) ∧ Up Nul w w' := by
 subst eI
 subst eL
 obtain ⟨C1, hC1⟩ : ∃ C : Array Value, C = #[.int .i64 k1, .string s1, .int .i64 n1, .int .i64 d1, .slice sa1 ns1 cs1, .int .i64 o1, .slice la1 nl1 cl1, .int .i64 t1.hot, .int .i64 t1.warm, .int .i64 t1.gap, .int .i64 t1.add, .int .i64 t1.top, .int .i64 t1.half] := ⟨_, rfl⟩
 obtain ⟨C2, hC2⟩ : ∃ C : Array Value, C = #[.int .i64 k2, .string s2, .int .i64 n2, .int .i64 d2, .slice sa2 ns2 cs2, .int .i64 o2, .slice la2 nl2 cl2, .int .i64 t2.hot, .int .i64 t2.warm, .int .i64 t2.gap, .int .i64 t2.add, .int .i64 t2.top, .int .i64 t2.half] := ⟨_, rfl⟩
 have HI := hid hI
 have HL := hid hL
 clear hI hL
 go_enter Tryd.func14, Tryd.ntmps14
 go_upto_region 1 with fail
 try simp only [List.append]
 rw [← hC1, ← hC2]
 obtain ⟨W2, hW2⟩ : ∃ W, W = (w.alloc (.cells C1 27)).alloc (.cells C2 27) := ⟨_, rfl⟩
 have HU : Hid (Up Nul w W2) := by show Up _ _ _; rw [hW2]; exact ((Up.refl Nul w).alloc _).alloc _
 have q1 : W2.heap[w.heap.size]? = some (.cells C1 27 (0, 0)) := by rw [hW2]; exact (Below.heap_alloc _ _ _ (by first | (simp; done) | (simp; omega))).trans (heap_alloc_new _ _)
 have q2 : W2.heap[w.heap.size + 1]? = some (.cells C2 27 (0, 0)) := by rw [hW2]; have := heap_alloc_new (w.alloc (.cells C1 27)) (.cells C2 27); simpa using this
 have l1 := (Array.getElem?_eq_some_iff.1 q1).1
 have l2 := (Array.getElem?_eq_some_iff.1 q2).1
 rw [hC1] at q1
 rw [hC2] at q2
 rw [← hW2]
 clear hW2
 generalize w.heap.size + 1 = p2 at q2 l2 ⊢
 generalize w.heap.size = p1 at q1 l1 ⊢
 have F1_0 := celN 0 (.int .i64 k1) l1 q1 rfl
 have F1_1 := celN 1 (.string s1) l1 q1 rfl
 have F1_2 := celN 2 (.int .i64 n1) l1 q1 rfl
 have F1_3 := celN 3 (.int .i64 d1) l1 q1 rfl
 have F1_4 := celN 4 (.slice sa1 ns1 cs1) l1 q1 rfl
 have F1_5 := celN 5 (.int .i64 o1) l1 q1 rfl
 have F1_6 := celN 6 (.slice la1 nl1 cl1) l1 q1 rfl
 have F1_7 := celN 7 (.int .i64 t1.hot) l1 q1 rfl
 have F1_8 := celN 8 (.int .i64 t1.warm) l1 q1 rfl
 have F1_9 := celN 9 (.int .i64 t1.gap) l1 q1 rfl
 have F1_10 := celN 10 (.int .i64 t1.add) l1 q1 rfl
 have F1_11 := celN 11 (.int .i64 t1.top) l1 q1 rfl
 have F1_12 := celN 12 (.int .i64 t1.half) l1 q1 rfl
 have F2_0 := celN 0 (.int .i64 k2) l2 q2 rfl
 have F2_1 := celN 1 (.string s2) l2 q2 rfl
 have F2_2 := celN 2 (.int .i64 n2) l2 q2 rfl
 have F2_3 := celN 3 (.int .i64 d2) l2 q2 rfl
 have F2_4 := celN 4 (.slice sa2 ns2 cs2) l2 q2 rfl
 have F2_5 := celN 5 (.int .i64 o2) l2 q2 rfl
 have F2_6 := celN 6 (.slice la2 nl2 cl2) l2 q2 rfl
 have F2_7 := celN 7 (.int .i64 t2.hot) l2 q2 rfl
 have F2_8 := celN 8 (.int .i64 t2.warm) l2 q2 rfl
 have F2_9 := celN 9 (.int .i64 t2.gap) l2 q2 rfl
 have F2_10 := celN 10 (.int .i64 t2.add) l2 q2 rfl
 have F2_11 := celN 11 (.int .i64 t2.top) l2 q2 rfl
 have F2_12 := celN 12 (.int .i64 t2.half) l2 q2 rfl
 clear q1 q2 l1 l2 hC1 hC2
 have x1_0 := F1_0.out _ (Up.refl Nul W2)
 have x1_1 := F1_1.out _ (Up.refl Nul W2)
 have x1_2 := F1_2.out _ (Up.refl Nul W2)
 have x1_3 := F1_3.out _ (Up.refl Nul W2)
 have x1_4 := F1_4.out _ (Up.refl Nul W2)
 have x2_0 := F2_0.out _ (Up.refl Nul W2)
 have x2_1 := F2_1.out _ (Up.refl Nul W2)
 have x2_2 := F2_2.out _ (Up.refl Nul W2)
 have x2_3 := F2_3.out _ (Up.refl Nul W2)
 have x2_4 := F2_4.out _ (Up.refl Nul W2)
 go_wp2_with fail
 refine (HI.out _ (HU.out.trans (Up.refl Nul W2))).mono ?_
 rintro e v0 ⟨rfl, kb⟩
 have K0 := hid (Up.trans (Up.refl Nul W2) kb)
 clear kb x1_0 x1_1 x1_2 x1_3 x1_4 x2_0 x2_1 x2_2 x2_3 x2_4
 have x1_5 := F1_5.out _ K0.out
 have x1_6 := F1_6.out _ K0.out
 have x2_5 := F2_5.out _ K0.out
 have x2_6 := F2_6.out _ K0.out
 go_wp2_with fail
 refine (HL.out _ (HU.out.trans K0.out)).mono ?_
 rintro e v1 ⟨rfl, kb⟩
 have K1 := hid (Up.trans K0.out kb)
 clear kb x1_5 x1_6 x2_5 x2_6
 have x1_7 := F1_7.out _ K1.out
 have x1_8 := F1_8.out _ K1.out
 have x1_9 := F1_9.out _ K1.out
 have x1_10 := F1_10.out _ K1.out
 have x1_11 := F1_11.out _ K1.out
 have x1_12 := F1_12.out _ K1.out
 have x2_7 := F2_7.out _ K1.out
 have x2_8 := F2_8.out _ K1.out
 have x2_9 := F2_9.out _ K1.out
 have x2_10 := F2_10.out _ K1.out
 have x2_11 := F2_11.out _ K1.out
 have x2_12 := F2_12.out _ K1.out
 go_wp2_with fail
 go_ret
 exact ⟨by first | rfl | simp, HU.out.trans K1.out⟩
set_option maxRecDepth 100000 in
set_option maxHeartbeats 4000000 in
theorem srec_case13 (w : World) (k1 k2 n1 n2 d1 d2 o1 o2 : Int) (s1 s2 : ByteArray) (sa1 sa2 la1 la2 : Option Addr) (ns1 cs1 ns2 cs2 nl1 cl1 nl2 cl2 : Nat) (t1 t2 : Tb) (bI bL : Bool)
  (hI : ∀ W, Up Nul w W → Calls Tryd.prog 37 #[.slice sa1 ns1 cs1, .slice sa2 ns2 cs2] W fun e w' => e = .returned (.bool bI) ∧ Up Nul W w')
  (hL : ∀ W, Up Nul w W → Calls Tryd.prog 38 #[.slice la1 nl1 cl1, .slice la2 nl2 cl2] W fun e w' => e = .returned (.bool bL) ∧ Up Nul W w')
  (e1 : (k1 == k2) = true) (e2 : (s1.toList == s2.toList) = true) (e3 : (n1 == n2) = true) (e4 : (d1 == d2) = true) (eI : bI = true) (e6 : (o1 == o2) = true) (eL : bL = true) (e8 : (t1.hot == t2.hot) = true) (e9 : (t1.warm == t2.warm) = true) (e10 : (t1.gap == t2.gap) = true) (e11 : (t1.add == t2.add) = true) (e12 : (t1.top == t2.top) = true) (e13 : (t1.half == t2.half) = false) :
  Calls Tryd.prog 14 #[.agg #[.int .i64 k1, .string s1, .int .i64 n1, .int .i64 d1, .slice sa1 ns1 cs1, .int .i64 o1, .slice la1 nl1 cl1, .int .i64 t1.hot, .int .i64 t1.warm, .int .i64 t1.gap, .int .i64 t1.add, .int .i64 t1.top, .int .i64 t1.half], .agg #[.int .i64 k2, .string s2, .int .i64 n2, .int .i64 d2, .slice sa2 ns2 cs2, .int .i64 o2, .slice la2 nl2 cl2, .int .i64 t2.hot, .int .i64 t2.warm, .int .i64 t2.gap, .int .i64 t2.add, .int .i64 t2.top, .int .i64 t2.half]] w fun e w' => e = .returned (.bool false) ∧ Up Nul w w' := by
 subst eI
 subst eL
 obtain ⟨C1, hC1⟩ : ∃ C : Array Value, C = #[.int .i64 k1, .string s1, .int .i64 n1, .int .i64 d1, .slice sa1 ns1 cs1, .int .i64 o1, .slice la1 nl1 cl1, .int .i64 t1.hot, .int .i64 t1.warm, .int .i64 t1.gap, .int .i64 t1.add, .int .i64 t1.top, .int .i64 t1.half] := ⟨_, rfl⟩
 obtain ⟨C2, hC2⟩ : ∃ C : Array Value, C = #[.int .i64 k2, .string s2, .int .i64 n2, .int .i64 d2, .slice sa2 ns2 cs2, .int .i64 o2, .slice la2 nl2 cl2, .int .i64 t2.hot, .int .i64 t2.warm, .int .i64 t2.gap, .int .i64 t2.add, .int .i64 t2.top, .int .i64 t2.half] := ⟨_, rfl⟩
 have HI := hid hI
 have HL := hid hL
 clear hI hL
 go_enter Tryd.func14, Tryd.ntmps14
 go_upto_region 1 with fail
 try simp only [List.append]
 rw [← hC1, ← hC2]
 obtain ⟨W2, hW2⟩ : ∃ W, W = (w.alloc (.cells C1 27)).alloc (.cells C2 27) := ⟨_, rfl⟩
 have HU : Hid (Up Nul w W2) := by show Up _ _ _; rw [hW2]; exact ((Up.refl Nul w).alloc _).alloc _
 have q1 : W2.heap[w.heap.size]? = some (.cells C1 27 (0, 0)) := by rw [hW2]; exact (Below.heap_alloc _ _ _ (by first | (simp; done) | (simp; omega))).trans (heap_alloc_new _ _)
 have q2 : W2.heap[w.heap.size + 1]? = some (.cells C2 27 (0, 0)) := by rw [hW2]; have := heap_alloc_new (w.alloc (.cells C1 27)) (.cells C2 27); simpa using this
 have l1 := (Array.getElem?_eq_some_iff.1 q1).1
 have l2 := (Array.getElem?_eq_some_iff.1 q2).1
 rw [hC1] at q1
 rw [hC2] at q2
 rw [← hW2]
 clear hW2
 generalize w.heap.size + 1 = p2 at q2 l2 ⊢
 generalize w.heap.size = p1 at q1 l1 ⊢
 have F1_0 := celN 0 (.int .i64 k1) l1 q1 rfl
 have F1_1 := celN 1 (.string s1) l1 q1 rfl
 have F1_2 := celN 2 (.int .i64 n1) l1 q1 rfl
 have F1_3 := celN 3 (.int .i64 d1) l1 q1 rfl
 have F1_4 := celN 4 (.slice sa1 ns1 cs1) l1 q1 rfl
 have F1_5 := celN 5 (.int .i64 o1) l1 q1 rfl
 have F1_6 := celN 6 (.slice la1 nl1 cl1) l1 q1 rfl
 have F1_7 := celN 7 (.int .i64 t1.hot) l1 q1 rfl
 have F1_8 := celN 8 (.int .i64 t1.warm) l1 q1 rfl
 have F1_9 := celN 9 (.int .i64 t1.gap) l1 q1 rfl
 have F1_10 := celN 10 (.int .i64 t1.add) l1 q1 rfl
 have F1_11 := celN 11 (.int .i64 t1.top) l1 q1 rfl
 have F1_12 := celN 12 (.int .i64 t1.half) l1 q1 rfl
 have F2_0 := celN 0 (.int .i64 k2) l2 q2 rfl
 have F2_1 := celN 1 (.string s2) l2 q2 rfl
 have F2_2 := celN 2 (.int .i64 n2) l2 q2 rfl
 have F2_3 := celN 3 (.int .i64 d2) l2 q2 rfl
 have F2_4 := celN 4 (.slice sa2 ns2 cs2) l2 q2 rfl
 have F2_5 := celN 5 (.int .i64 o2) l2 q2 rfl
 have F2_6 := celN 6 (.slice la2 nl2 cl2) l2 q2 rfl
 have F2_7 := celN 7 (.int .i64 t2.hot) l2 q2 rfl
 have F2_8 := celN 8 (.int .i64 t2.warm) l2 q2 rfl
 have F2_9 := celN 9 (.int .i64 t2.gap) l2 q2 rfl
 have F2_10 := celN 10 (.int .i64 t2.add) l2 q2 rfl
 have F2_11 := celN 11 (.int .i64 t2.top) l2 q2 rfl
 have F2_12 := celN 12 (.int .i64 t2.half) l2 q2 rfl
 clear q1 q2 l1 l2 hC1 hC2
 have x1_0 := F1_0.out _ (Up.refl Nul W2)
 have x1_1 := F1_1.out _ (Up.refl Nul W2)
 have x1_2 := F1_2.out _ (Up.refl Nul W2)
 have x1_3 := F1_3.out _ (Up.refl Nul W2)
 have x1_4 := F1_4.out _ (Up.refl Nul W2)
 have x2_0 := F2_0.out _ (Up.refl Nul W2)
 have x2_1 := F2_1.out _ (Up.refl Nul W2)
 have x2_2 := F2_2.out _ (Up.refl Nul W2)
 have x2_3 := F2_3.out _ (Up.refl Nul W2)
 have x2_4 := F2_4.out _ (Up.refl Nul W2)
 go_wp2_with fail
 refine (HI.out _ (HU.out.trans (Up.refl Nul W2))).mono ?_
 rintro e v0 ⟨rfl, kb⟩
 have K0 := hid (Up.trans (Up.refl Nul W2) kb)
 clear kb x1_0 x1_1 x1_2 x1_3 x1_4 x2_0 x2_1 x2_2 x2_3 x2_4
 have x1_5 := F1_5.out _ K0.out
 have x1_6 := F1_6.out _ K0.out
 have x2_5 := F2_5.out _ K0.out
 have x2_6 := F2_6.out _ K0.out
 go_wp2_with fail
 refine (HL.out _ (HU.out.trans K0.out)).mono ?_
 rintro e v1 ⟨rfl, kb⟩
 have K1 := hid (Up.trans K0.out kb)
 clear kb x1_5 x1_6 x2_5 x2_6
 have x1_7 := F1_7.out _ K1.out
 have x1_8 := F1_8.out _ K1.out
 have x1_9 := F1_9.out _ K1.out
 have x1_10 := F1_10.out _ K1.out
 have x1_11 := F1_11.out _ K1.out
 have x1_12 := F1_12.out _ K1.out
 have x2_7 := F2_7.out _ K1.out
 have x2_8 := F2_8.out _ K1.out
 have x2_9 := F2_9.out _ K1.out
 have x2_10 := F2_10.out _ K1.out
 have x2_11 := F2_11.out _ K1.out
 have x2_12 := F2_12.out _ K1.out
 go_wp2_with fail
 go_ret
 exact ⟨by first | rfl | simp, HU.out.trans K1.out⟩
set_option maxRecDepth 100000 in
set_option maxHeartbeats 4000000 in
theorem srec_case14 (w : World) (k1 k2 n1 n2 d1 d2 o1 o2 : Int) (s1 s2 : ByteArray) (sa1 sa2 la1 la2 : Option Addr) (ns1 cs1 ns2 cs2 nl1 cl1 nl2 cl2 : Nat) (t1 t2 : Tb) (bI bL : Bool)
  (hI : ∀ W, Up Nul w W → Calls Tryd.prog 37 #[.slice sa1 ns1 cs1, .slice sa2 ns2 cs2] W fun e w' => e = .returned (.bool bI) ∧ Up Nul W w')
  (hL : ∀ W, Up Nul w W → Calls Tryd.prog 38 #[.slice la1 nl1 cl1, .slice la2 nl2 cl2] W fun e w' => e = .returned (.bool bL) ∧ Up Nul W w')
  (e1 : (k1 == k2) = true) (e2 : (s1.toList == s2.toList) = true) (e3 : (n1 == n2) = true) (e4 : (d1 == d2) = true) (eI : bI = true) (e6 : (o1 == o2) = true) (eL : bL = true) (e8 : (t1.hot == t2.hot) = true) (e9 : (t1.warm == t2.warm) = true) (e10 : (t1.gap == t2.gap) = true) (e11 : (t1.add == t2.add) = true) (e12 : (t1.top == t2.top) = true) (e13 : (t1.half == t2.half) = true) :
  Calls Tryd.prog 14 #[.agg #[.int .i64 k1, .string s1, .int .i64 n1, .int .i64 d1, .slice sa1 ns1 cs1, .int .i64 o1, .slice la1 nl1 cl1, .int .i64 t1.hot, .int .i64 t1.warm, .int .i64 t1.gap, .int .i64 t1.add, .int .i64 t1.top, .int .i64 t1.half], .agg #[.int .i64 k2, .string s2, .int .i64 n2, .int .i64 d2, .slice sa2 ns2 cs2, .int .i64 o2, .slice la2 nl2 cl2, .int .i64 t2.hot, .int .i64 t2.warm, .int .i64 t2.gap, .int .i64 t2.add, .int .i64 t2.top, .int .i64 t2.half]] w fun e w' => e = .returned (.bool true) ∧ Up Nul w w' := by
 subst eI
 subst eL
 obtain ⟨C1, hC1⟩ : ∃ C : Array Value, C = #[.int .i64 k1, .string s1, .int .i64 n1, .int .i64 d1, .slice sa1 ns1 cs1, .int .i64 o1, .slice la1 nl1 cl1, .int .i64 t1.hot, .int .i64 t1.warm, .int .i64 t1.gap, .int .i64 t1.add, .int .i64 t1.top, .int .i64 t1.half] := ⟨_, rfl⟩
 obtain ⟨C2, hC2⟩ : ∃ C : Array Value, C = #[.int .i64 k2, .string s2, .int .i64 n2, .int .i64 d2, .slice sa2 ns2 cs2, .int .i64 o2, .slice la2 nl2 cl2, .int .i64 t2.hot, .int .i64 t2.warm, .int .i64 t2.gap, .int .i64 t2.add, .int .i64 t2.top, .int .i64 t2.half] := ⟨_, rfl⟩
 have HI := hid hI
 have HL := hid hL
 clear hI hL
 go_enter Tryd.func14, Tryd.ntmps14
 go_upto_region 1 with fail
 try simp only [List.append]
 rw [← hC1, ← hC2]
 obtain ⟨W2, hW2⟩ : ∃ W, W = (w.alloc (.cells C1 27)).alloc (.cells C2 27) := ⟨_, rfl⟩
 have HU : Hid (Up Nul w W2) := by show Up _ _ _; rw [hW2]; exact ((Up.refl Nul w).alloc _).alloc _
 have q1 : W2.heap[w.heap.size]? = some (.cells C1 27 (0, 0)) := by rw [hW2]; exact (Below.heap_alloc _ _ _ (by first | (simp; done) | (simp; omega))).trans (heap_alloc_new _ _)
 have q2 : W2.heap[w.heap.size + 1]? = some (.cells C2 27 (0, 0)) := by rw [hW2]; have := heap_alloc_new (w.alloc (.cells C1 27)) (.cells C2 27); simpa using this
 have l1 := (Array.getElem?_eq_some_iff.1 q1).1
 have l2 := (Array.getElem?_eq_some_iff.1 q2).1
 rw [hC1] at q1
 rw [hC2] at q2
 rw [← hW2]
 clear hW2
 generalize w.heap.size + 1 = p2 at q2 l2 ⊢
 generalize w.heap.size = p1 at q1 l1 ⊢
 have F1_0 := celN 0 (.int .i64 k1) l1 q1 rfl
 have F1_1 := celN 1 (.string s1) l1 q1 rfl
 have F1_2 := celN 2 (.int .i64 n1) l1 q1 rfl
 have F1_3 := celN 3 (.int .i64 d1) l1 q1 rfl
 have F1_4 := celN 4 (.slice sa1 ns1 cs1) l1 q1 rfl
 have F1_5 := celN 5 (.int .i64 o1) l1 q1 rfl
 have F1_6 := celN 6 (.slice la1 nl1 cl1) l1 q1 rfl
 have F1_7 := celN 7 (.int .i64 t1.hot) l1 q1 rfl
 have F1_8 := celN 8 (.int .i64 t1.warm) l1 q1 rfl
 have F1_9 := celN 9 (.int .i64 t1.gap) l1 q1 rfl
 have F1_10 := celN 10 (.int .i64 t1.add) l1 q1 rfl
 have F1_11 := celN 11 (.int .i64 t1.top) l1 q1 rfl
 have F1_12 := celN 12 (.int .i64 t1.half) l1 q1 rfl
 have F2_0 := celN 0 (.int .i64 k2) l2 q2 rfl
 have F2_1 := celN 1 (.string s2) l2 q2 rfl
 have F2_2 := celN 2 (.int .i64 n2) l2 q2 rfl
 have F2_3 := celN 3 (.int .i64 d2) l2 q2 rfl
 have F2_4 := celN 4 (.slice sa2 ns2 cs2) l2 q2 rfl
 have F2_5 := celN 5 (.int .i64 o2) l2 q2 rfl
 have F2_6 := celN 6 (.slice la2 nl2 cl2) l2 q2 rfl
 have F2_7 := celN 7 (.int .i64 t2.hot) l2 q2 rfl
 have F2_8 := celN 8 (.int .i64 t2.warm) l2 q2 rfl
 have F2_9 := celN 9 (.int .i64 t2.gap) l2 q2 rfl
 have F2_10 := celN 10 (.int .i64 t2.add) l2 q2 rfl
 have F2_11 := celN 11 (.int .i64 t2.top) l2 q2 rfl
 have F2_12 := celN 12 (.int .i64 t2.half) l2 q2 rfl
 clear q1 q2 l1 l2 hC1 hC2
 have x1_0 := F1_0.out _ (Up.refl Nul W2)
 have x1_1 := F1_1.out _ (Up.refl Nul W2)
 have x1_2 := F1_2.out _ (Up.refl Nul W2)
 have x1_3 := F1_3.out _ (Up.refl Nul W2)
 have x1_4 := F1_4.out _ (Up.refl Nul W2)
 have x2_0 := F2_0.out _ (Up.refl Nul W2)
 have x2_1 := F2_1.out _ (Up.refl Nul W2)
 have x2_2 := F2_2.out _ (Up.refl Nul W2)
 have x2_3 := F2_3.out _ (Up.refl Nul W2)
 have x2_4 := F2_4.out _ (Up.refl Nul W2)
 go_wp2_with fail
 refine (HI.out _ (HU.out.trans (Up.refl Nul W2))).mono ?_
 rintro e v0 ⟨rfl, kb⟩
 have K0 := hid (Up.trans (Up.refl Nul W2) kb)
 clear kb x1_0 x1_1 x1_2 x1_3 x1_4 x2_0 x2_1 x2_2 x2_3 x2_4
 have x1_5 := F1_5.out _ K0.out
 have x1_6 := F1_6.out _ K0.out
 have x2_5 := F2_5.out _ K0.out
 have x2_6 := F2_6.out _ K0.out
 go_wp2_with fail
 refine (HL.out _ (HU.out.trans K0.out)).mono ?_
 rintro e v1 ⟨rfl, kb⟩
 have K1 := hid (Up.trans K0.out kb)
 clear kb x1_5 x1_6 x2_5 x2_6
 have x1_7 := F1_7.out _ K1.out
 have x1_8 := F1_8.out _ K1.out
 have x1_9 := F1_9.out _ K1.out
 have x1_10 := F1_10.out _ K1.out
 have x1_11 := F1_11.out _ K1.out
 have x1_12 := F1_12.out _ K1.out
 have x2_7 := F2_7.out _ K1.out
 have x2_8 := F2_8.out _ K1.out
 have x2_9 := F2_9.out _ K1.out
 have x2_10 := F2_10.out _ K1.out
 have x2_11 := F2_11.out _ K1.out
 have x2_12 := F2_12.out _ K1.out
 go_wp2_with fail
 go_ret
 exact ⟨by first | rfl | simp, HU.out.trans K1.out⟩
end Go.Proofs.YtpdkcpjofofkoaaDoor
