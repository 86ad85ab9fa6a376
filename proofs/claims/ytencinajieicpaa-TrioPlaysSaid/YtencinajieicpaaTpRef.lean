/- The document's Tape in memory; what its calls do. -/
import Derived.Test.YtencinajieicpaaTB
import Derived.StillTailTactics
namespace Go.Proofs.Ytencinajieicpaa
open Go.RowKit
set_option linter.unusedVariables false

/-- What turns none but blocks that are new since u. -/
theorem Up.past {S : Nat → Prop} {u w w' : World} (h : Up Nul u w) (k : Up S w w') (hs : ∀ g, S g → u.heap.size ≤ g) : Up Nul u w' := h.newer k fun i hi e => by have := hs i e; omega
/-- What a Tape holds: its bytes, how many of them are loose; whether it is live. -/
structure TS where
  B : List Nat
  loose : Nat
  live : Bool
/-- What is left of a Tape's bytes behind a crash. -/
def TS.crash (S : TS) (x : Int) : TS := ⟨S.B.take (S.B.length - S.loose + min (max x 0).toNat S.loose), 0, S.live⟩
structure RTp (w : World) (m f : Nat) (S : TS) : Prop where
  heap : w.heap[m]? = some (.cells #[.string (strOf S.B), .int .i64 (S.loose : Nat), .bool S.live, .pointer (some ⟨f, 0, none⟩)] 65 (0, 0))
  le : S.B.length ≤ 65536
  lo : S.loose ≤ S.B.length
section
variable {w w' : World} {m f : Nat} {S : TS} {k : Option Nat}
theorem RTp.lt (h : RTp w m f S) : m < w.heap.size := (Array.getElem?_eq_some_iff.1 h.heap).1
theorem RTp.c0 (h : RTp w m f S) : w.cell? ⟨m, 0, none⟩ = some (.string (strOf S.B)) := by simp [World.cell?, h.heap]
theorem RTp.c1 (h : RTp w m f S) : w.cell? ⟨m, 1, none⟩ = some (.int .i64 (S.loose : Nat)) := by simp [World.cell?, h.heap]
theorem RTp.c2 (h : RTp w m f S) : w.cell? ⟨m, 2, none⟩ = some (.bool S.live) := by simp [World.cell?, h.heap]
theorem RTp.c3 (h : RTp w m f S) : w.cell? ⟨m, 3, none⟩ = some (.pointer (some ⟨f, 0, none⟩)) := by simp [World.cell?, h.heap]
theorem RTp.fr (h : RTp w m f S) (i : Nat) : w.frozen? ⟨m, i, none⟩ = false := by simp [World.frozen?, h.heap]
theorem RTp.up {T : Nat → Prop} (h : RTp w m f S) (u : Up T w w') (hs : ¬ T m) : RTp w' m f S := ⟨(u.block m h.lt hs).trans h.heap, h.le, h.lo⟩
theorem RTp.ne (h : RTp w m f S) (hf : RFz w f k) : m ≠ f := ne_type h.heap hf.heap (by decide)
/-- The bytes and what is loose are others. -/
theorem RTp.put (h : RTp w m f S) (B : List Nat) (l : Nat) (hB : B.length ≤ 65536) (hl : l ≤ B.length) : RTp ((w.setCell ⟨m, 0, none⟩ (.string (strOf B))).setCell ⟨m, 1, none⟩ (.int .i64 (l : Nat))) m f ⟨B, l, S.live⟩ :=
  ⟨heap_setCell_same _ m 1 _ _ _ (heap_setCell_same w m 0 _ _ _ h.heap), hB, hl⟩
theorem RTp.sure (h : RTp w m f S) : RTp (w.setCell ⟨m, 1, none⟩ (.int .i64 0)) m f ⟨S.B, 0, S.live⟩ :=
  ⟨heap_setCell_same w m 1 _ _ _ h.heap, h.le, Nat.zero_le _⟩
theorem rt_new (f : Nat) (w : World) : Calls Try.prog 27 #[.pointer (some ⟨f, 0, none⟩)] w fun e w' => ∃ m, e = .returned (.pointer (some ⟨m, 0, none⟩)) ∧ RTp w' m f ⟨[], 0, true⟩ ∧ Up Nul w w' ∧ w.heap.size ≤ m := by
  have HE : Hid (RTp (w.alloc (.cells #[.string ⟨#[]⟩, .int .i64 0, .bool true, .pointer (some ⟨f, 0, none⟩)] 65)) w.heap.size f ⟨[], 0, true⟩) := ⟨heap_alloc_new _ _, by simp, by simp⟩
  have HU := hid ((Up.refl Nul w).alloc (.cells #[.string ⟨#[]⟩, .int .i64 0, .bool true, .pointer (some ⟨f, 0, none⟩)] 65))
  go_enter Try.func27, Try.ntmps27
  go_wp2
  go_ret
  exact ⟨_, rfl, HE.out, HU.out, Nat.le_refl _⟩
theorem rt_append (h : RTp w m f S) (hf : RFz w f k) (z : List Nat) (hz : z.length ≤ 100000) : Calls Try.prog 52 #[.pointer (some ⟨m, 0, none⟩), .string (strOf z)] w fun e w' =>
    (S.live = false ∧ e = .returned (.int .i64 5) ∧ w' = w) ∨ (S.live = true ∧ 65536 < S.B.length + z.length ∧ e = .returned (.int .i64 7) ∧ w' = w) ∨ (S.live = true ∧ S.B.length + z.length ≤ 65536 ∧ k = some 0 ∧ e = .returned (.int .i64 4) ∧ w' = w) ∨
    (S.live = true ∧ S.B.length + z.length ≤ 65536 ∧ k ≠ some 0 ∧ e = .returned (.int .i64 0) ∧ RTp w' m f ⟨S.B ++ z, S.loose + z.length, true⟩ ∧ RFz w' f (less k) ∧ Up (fun g => g = m ∨ g = f) w w') := by
  obtain ⟨B, l, live⟩ := S
  have c0 := h.c0
  have c1 := h.c1
  have c2 := h.c2
  have c3 := h.c3
  have hs1 : ((strOf z).size : Int) = (z.length : Int) := by rw [strOf_size]
  have hs2 : ((strOf B).size : Int) = (B.length : Int) := by rw [strOf_size]
  have hB := h.le
  have hlo := h.lo
  dsimp only at c0 c1 c2 c3 hB hlo ⊢
  have b1 : (B.length : Int) ≤ 65536 := by omega
  have b2 : (z.length : Int) ≤ 100000 := by omega
  cases live with
  | false =>
    clear h
    go_enter Try.func52, Try.ntmps52
    go_wp2
    go_ret
    exact .inl ⟨by first | rfl | trivial, rfl, rfl⟩
  | true =>
    have i1 : IntKind.i64.wrap (65536 - (B.length : Int)) = 65536 - (B.length : Int) := IntWalk.i64_in _ (by omega)
    by_cases hfit : 65536 < B.length + z.length
    · have i2 : 65536 - (B.length : Int) < (z.length : Int) := by omega
      have HFT := hid hfit
      clear h hfit
      go_enter Try.func52, Try.ntmps52
      go_wp2
      go_ret
      exact .inr (.inl ⟨by first | rfl | trivial, HFT.out, rfl, rfl⟩)
    · have i2 : ¬ 65536 - (B.length : Int) < (z.length : Int) := by omega
      have HFT : Hid (B.length + z.length ≤ 65536) := by show _ ≤ _; omega
      by_cases hk : k = some 0
      · subst hk
        have HS := hid (rspend_dead f w hf)
        clear h hfit
        go_enter Try.func52, Try.ntmps52
        go_wp2_with fail
        refine HS.out.mono ?_
        rintro e w1 ⟨rfl, rfl⟩
        go_wp2
        go_ret
        exact .inr (.inr (.inl ⟨by first | rfl | trivial, HFT.out, by first | rfl | trivial, rfl, rfl⟩))
      · have HS := hid (rspend_live f k w hf hk)
        have HK := hid hk
        have HR := hid h
        have HNE := hid (h.ne hf)
        have hsz : Hid ((strOf B).size ≤ 100000 ∧ (strOf z).size ≤ 100000) := ⟨by rw [strOf_size]; omega, by rw [strOf_size]; omega⟩
        have i3 : IntKind.i64.wrap ((l : Int) + (z.length : Int)) = ((l + z.length : Nat) : Int) := by rw [IntWalk.i64_in _ (by omega)]; omega
        clear h hfit hk c0 c1 c2
        go_enter Try.func52, Try.ntmps52
        have c2 := HR.out.c2
        have c0 := HR.out.c0
        dsimp only at c2 c0
        go_wp2_with fail
        refine HS.out.mono ?_
        rintro e w1 ⟨rfl, hf1, u1⟩
        have HF1 := hid hf1
        have U1 := hid u1
        have HR1 := hid (HR.out.up u1 HNE.out)
        clear hf1 u1 c0 c2
        have c0 := HR1.out.c0
        have c1 := HR1.out.c1
        have f0 := HR1.out.fr 0
        have f1 := HR1.out.fr 1
        dsimp only at c0 c1
        have e0 : strOf B ++ strOf z = strOf (B ++ z) := strOf_append B z
        have HP := hid (HR1.out.put (B ++ z) (l + z.length) (by rw [List.length_append]; exact HFT.out) (by rw [List.length_append]; have := HR1.out.lo; dsimp only at this; omega))
        have UP : Hid (Up (fun g => g = m ∨ g = f) w ((w1.setCell ⟨m, 0, none⟩ (.string (strOf (B ++ z)))).setCell ⟨m, 1, none⟩ (.int .i64 ((l + z.length : Nat) : Int)))) := ((U1.out.mono fun g _ (e : g = f) => .inr e).put (.inl rfl) 0 _).put (.inl rfl) 1 _
        have HFP : Hid (RFz ((w1.setCell ⟨m, 0, none⟩ (.string (strOf (B ++ z)))).setCell ⟨m, 1, none⟩ (.int .i64 ((l + z.length : Nat) : Int))) f (less k)) := HF1.out.up (S := One m) (((Up.refl (One m) _).put rfl 0 _).put rfl 1 _) fun e => HNE.out (show f = m from e).symm
        have el : ((l + z.length : Nat) : Int) = (l : Int) + (z.length : Int) := by omega
        rw [el] at HP UP HFP
        clear el U1 HF1
        go_wp2
        go_ret
        exact .inr (.inr (.inr ⟨by first | rfl | trivial, HFT.out, HK.out, rfl, HP.out, HFP.out, UP.out⟩))
theorem rt_sync (h : RTp w m f S) (hf : RFz w f k) : Calls Try.prog 53 #[.pointer (some ⟨m, 0, none⟩)] w fun e w' =>
    (S.live = false ∧ e = .returned (.int .i64 5) ∧ w' = w) ∨ (S.live = true ∧ k = some 0 ∧ e = .returned (.int .i64 4) ∧ w' = w) ∨
    (S.live = true ∧ k ≠ some 0 ∧ e = .returned (.int .i64 0) ∧ RTp w' m f ⟨S.B, 0, true⟩ ∧ RFz w' f k ∧ Up (fun g => g = m ∨ g = f) w w') := by
  obtain ⟨B, l, live⟩ := S
  have c2 := h.c2
  have c3 := h.c3
  have f1 := h.fr 1
  have c1 := h.c1
  dsimp only at c1 c2 c3 ⊢
  cases live with
  | false =>
    clear h
    go_enter Try.func53, Try.ntmps53
    go_wp2
    go_ret
    exact .inl ⟨by first | rfl | trivial, rfl, rfl⟩
  | true =>
    have HD := hid (rdead_any f k w hf)
    by_cases hk : k = some 0
    · subst hk
      have HD : Hid (Calls Try.prog 66 #[.pointer (some ⟨f, 0, none⟩)] w fun e w' => e = .returned (.bool true) ∧ w' = w) := HD
      clear h
      go_enter Try.func53, Try.ntmps53
      go_wp2_with fail
      refine HD.out.mono ?_
      rintro e w1 ⟨rfl, rfl⟩
      go_wp2
      go_ret
      exact .inr (.inl ⟨by first | rfl | trivial, by first | rfl | trivial, rfl, rfl⟩)
    · have hkb : (k == some 0) = false := by simp [hk]
      rw [hkb] at HD
      have HK := hid hk
      have HP := hid h.sure
      have UP : Hid (Up (fun g => g = m ∨ g = f) w (w.setCell ⟨m, 1, none⟩ (.int .i64 0))) := (Up.refl (fun g => g = m ∨ g = f) _).put (.inl rfl) 1 _
      have HFP : Hid (RFz (w.setCell ⟨m, 1, none⟩ (.int .i64 0)) f k) := hf.up (S := One m) ((Up.refl (One m) _).put rfl 1 _) fun e => h.ne hf (show f = m from e).symm
      clear h hk hkb
      go_enter Try.func53, Try.ntmps53
      go_wp2_with fail
      refine HD.out.mono ?_
      rintro e w1 ⟨rfl, rfl⟩
      go_wp2
      go_ret
      exact .inr (.inr ⟨by first | rfl | trivial, HK.out, rfl, HP.out, HFP.out, UP.out⟩)
/-- What a Cut tells, and does. -/
def RCutP (S : TS) (k : Option Nat) (m f : Nat) (x : Int) (w : World) (e : Ending) (w' : World) : Prop :=
    (S.live = false ∧ e = .returned (.int .i64 5) ∧ w' = w) ∨ (S.live = true ∧ (x < 0 ∨ (S.B.length : Int) < x) ∧ e = .returned (.int .i64 1) ∧ w' = w) ∨ (S.live = true ∧ (0 ≤ x ∧ x ≤ (S.B.length : Int)) ∧ k = some 0 ∧ e = .returned (.int .i64 4) ∧ w' = w) ∨
    (S.live = true ∧ (0 ≤ x ∧ x ≤ (S.B.length : Int)) ∧ k ≠ some 0 ∧ e = .returned (.int .i64 0) ∧ RTp w' m f ⟨S.B.take x.toNat, 0, true⟩ ∧ RFz w' f (less k) ∧ Up (fun g => g = m ∨ g = f) w w')
theorem rt_cut (h : RTp w m f S) (hf : RFz w f k) (x : Int) : Calls Try.prog 54 #[.pointer (some ⟨m, 0, none⟩), .int .i64 x] w (RCutP S k m f x w) := by
  obtain ⟨B, l, live⟩ := S
  have c0 := h.c0
  have c2 := h.c2
  have c3 := h.c3
  have hs2 : ((strOf B).size : Int) = (B.length : Int) := by rw [strOf_size]
  dsimp only at c0 c2 c3
  cases live with
  | false =>
    have HT : Hid (RCutP ⟨B, l, false⟩ k m f x w (.returned (.int .i64 5)) w) := .inl ⟨rfl, rfl, rfl⟩
    generalize RCutP ⟨B, l, false⟩ k m f x w = K at HT ⊢
    clear h
    go_enter Try.func54, Try.ntmps54
    go_wp2
    first | exact HT.out | (go_ret; exact HT.out)
  | true =>
    by_cases hx : x < 0 ∨ (B.length : Int) < x
    · have HT : Hid (RCutP ⟨B, l, true⟩ k m f x w (.returned (.int .i64 1)) w) := .inr (.inl ⟨rfl, hx, rfl, rfl⟩)
      generalize RCutP ⟨B, l, true⟩ k m f x w = K at HT ⊢
      by_cases h0 : x < 0
      · clear h hx
        go_enter Try.func54, Try.ntmps54
        go_wp2
        first | exact HT.out | (go_ret; exact HT.out)
      · have h2 : (B.length : Int) < x := by omega
        clear h hx
        go_enter Try.func54, Try.ntmps54
        go_wp2
        first | exact HT.out | (go_ret; exact HT.out)
    · obtain ⟨n, rfl⟩ : ∃ n : Nat, x = n := ⟨x.toNat, by omega⟩
      have n0 : ¬ (n : Int) < 0 := by omega
      have n1 : ¬ (B.length : Int) < (n : Int) := by omega
      have HX : Hid (0 ≤ (n : Int) ∧ (n : Int) ≤ (B.length : Int)) := ⟨by omega, by omega⟩
      have HN : Hid (n ≤ B.length) := by show _ ≤ _; omega
      by_cases hk : k = some 0
      · subst hk
        have HS := hid (rspend_dead f w hf)
        have HT : Hid (RCutP ⟨B, l, true⟩ (some 0) m f n w (.returned (.int .i64 4)) w) := .inr (.inr (.inl ⟨rfl, HX.out, rfl, rfl, rfl⟩))
        generalize RCutP ⟨B, l, true⟩ (some 0) m f n w = K at HT ⊢
        clear h hx
        go_enter Try.func54, Try.ntmps54
        go_wp2_with fail
        refine HS.out.mono ?_
        rintro e w1 ⟨rfl, rfl⟩
        go_wp2
        first | exact HT.out | (go_ret; exact HT.out)
      · have HS := hid (rspend_live f k w hf hk)
        have HK := hid hk
        have HR := hid h
        have HNE := hid (h.ne hf)
        have HT := hid fun (w' : World) (q1 : RTp w' m f ⟨B.take n, 0, true⟩) (q2 : RFz w' f (less k)) (q3 : Up (fun g => g = m ∨ g = f) w w') => (show RCutP ⟨B, l, true⟩ k m f n w (.returned (.int .i64 0)) w' from .inr (.inr (.inr ⟨rfl, HX.out, hk, rfl, q1, q2, q3⟩)))
        generalize RCutP ⟨B, l, true⟩ k m f n w = K at HT ⊢
        clear h hx hk c0 c2 c3
        go_enter Try.func54, Try.ntmps54
        have c2 := HR.out.c2
        have c0 := HR.out.c0
        have c3 := HR.out.c3
        dsimp only at c2 c0 c3
        go_wp2_with fail
        refine HS.out.mono ?_
        rintro e w1 ⟨rfl, hf1, u1⟩
        have HF1 := hid hf1
        have U1 := hid u1
        have HR1 := hid (HR.out.up u1 HNE.out)
        clear hf1 u1 c0 c2 c3
        have c0 := HR1.out.c0
        have c1 := HR1.out.c1
        have f0 := HR1.out.fr 0
        have f1 := HR1.out.fr 1
        dsimp only at c0 c1
        have hsl := slice_to (strOf B) n (by rw [strOf_size]; exact HN.out) w1
        have he : (strOf B).extract 0 n = strOf (B.take n) := by rw [strOf_extract]; simp
        rw [he] at hsl
        have HP := hid (HR1.out.put (B.take n) 0 (by rw [List.length_take]; have := HR1.out.le; dsimp only at this; omega) (Nat.zero_le _))
        have UP : Hid (Up (fun g => g = m ∨ g = f) w ((w1.setCell ⟨m, 0, none⟩ (.string (strOf (B.take n)))).setCell ⟨m, 1, none⟩ (.int .i64 ((0 : Nat) : Int)))) := ((U1.out.mono fun g _ (e : g = f) => .inr e).put (.inl rfl) 0 _).put (.inl rfl) 1 _
        have HFP : Hid (RFz ((w1.setCell ⟨m, 0, none⟩ (.string (strOf (B.take n)))).setCell ⟨m, 1, none⟩ (.int .i64 ((0 : Nat) : Int))) f (less k)) := HF1.out.up (S := One m) (((Up.refl (One m) _).put rfl 0 _).put rfl 1 _) fun e => HNE.out (show f = m from e).symm
        clear U1 HF1 he
        go_wp2
        first | exact HT.out _ HP.out HFP.out UP.out | (go_ret; exact HT.out _ HP.out HFP.out UP.out)
theorem rt_replace (h : RTp w m f S) : Calls Try.prog 29 #[.pointer (some ⟨m, 0, none⟩)] w fun e w' => e = .returned (.tuple #[]) ∧ RTp w' m f ⟨[], 0, true⟩ ∧ Up (One m) w w' := by
  have c0 := h.c0
  have c1 := h.c1
  have c2 := h.c2
  have f0 := h.fr 0
  have f1 := h.fr 1
  have f2 := h.fr 2
  have HP : Hid (RTp (((w.setCell ⟨m, 0, none⟩ (.string ⟨#[]⟩)).setCell ⟨m, 1, none⟩ (.int .i64 0)).setCell ⟨m, 2, none⟩ (.bool true)) m f ⟨[], 0, true⟩) :=
    ⟨heap_setCell_same _ m 2 _ _ _ (heap_setCell_same _ m 1 _ _ _ (heap_setCell_same w m 0 _ _ _ h.heap)), by simp, by simp⟩
  have UP : Hid (Up (One m) w (((w.setCell ⟨m, 0, none⟩ (.string ⟨#[]⟩)).setCell ⟨m, 1, none⟩ (.int .i64 0)).setCell ⟨m, 2, none⟩ (.bool true))) := (((Up.refl (One m) _).put rfl 0 _).put rfl 1 _).put rfl 2 _
  clear h
  go_enter Try.func29, Try.ntmps29
  go_wp2
  go_end0
  exact ⟨rfl, HP.out, UP.out⟩
set_option maxRecDepth 100000 in
theorem rt_crash (h : RTp w m f S) (x : Int) : Calls Try.prog 32 #[.pointer (some ⟨m, 0, none⟩), .int .i64 x] w fun e w' => e = .returned (.tuple #[]) ∧ RTp w' m f (S.crash x) ∧ Up (One m) w w' := by
  obtain ⟨B, l, live⟩ := S
  have c0 := h.c0
  have c1 := h.c1
  have f0 := h.fr 0
  have f1 := h.fr 1
  have hB := h.le
  have hlo := h.lo
  unfold TS.crash
  dsimp only at c0 c1 hB hlo ⊢
  obtain ⟨q, hq, hql⟩ : ∃ q : Nat, min (max x 0) (l : Int) = (q : Int) ∧ min (max x 0).toNat l = q := ⟨min (max x 0).toNat l, by omega, rfl⟩
  rw [hql]
  obtain ⟨n, N⟩ : ∃ n, B.length - l + q = n := ⟨_, rfl⟩
  rw [N]
  have hqle : q ≤ l := by omega
  have hs2 : ((strOf B).size : Int) = (B.length : Int) := by rw [strOf_size]
  have i1 : IntKind.i64.wrap ((B.length : Int) - (l : Int)) = (B.length : Int) - (l : Int) := IntWalk.i64_in _ (by omega)
  have i2 : IntKind.i64.wrap ((B.length : Int) - (l : Int) + (q : Int)) = (n : Int) := by rw [IntWalk.i64_in _ (by omega)]; omega
  have i3 : (B.length : Int) - (l : Int) + (q : Int) = (n : Int) := by omega
  have i4 : IntKind.i64.wrap (n : Int) = (n : Int) := IntWalk.i64_in _ (by omega)
  have hn : n ≤ B.length := by omega
  have hsl := fun W => slice_to (strOf B) n (by rw [strOf_size]; exact hn) W
  have he : (strOf B).extract 0 n = strOf (B.take n) := by rw [strOf_extract]; simp
  rw [he] at hsl
  have HL : Hid ((B.take n).length ≤ 65536) := by show _ ≤ _; rw [List.length_take]; omega
  have HR := hid h
  clear h hql N he hqle
  go_enter Try.func32, Try.ntmps32
  go_upto_region 1 with fail
  go_still_tail 20, (by kernel_rfl)
  change wpList _ _ _ _ _ w.drew
  have UD : Hid (Up (One m) w w.drew) := (Up.refl _ _).drew
  have HR2 : Hid (RTp w.drew m f ⟨B, l, live⟩) := HR.out.up ((Up.refl Nul w).drew) fun h => h
  generalize w.drew = w2 at UD HR2 ⊢
  clear c0 c1 f0 f1
  have c0 := HR2.out.c0
  have c1 := HR2.out.c1
  dsimp only at c0 c1
  have f0 := HR2.out.fr 0
  have f1 := HR2.out.fr 1
  have HP := hid (HR2.out.put (B.take n) 0 HL.out (Nat.zero_le _))
  have UP : Hid (Up (One m) w ((w2.setCell ⟨m, 0, none⟩ (.string (strOf (B.take n)))).setCell ⟨m, 1, none⟩ (.int .i64 ((0 : Nat) : Int)))) := (UD.out.put rfl 0 _).put rfl 1 _
  clear UD
  go_wp2
  go_end0
  exact ⟨rfl, HP.out, UP.out⟩
end
end Go.Proofs.Ytencinajieicpaa
