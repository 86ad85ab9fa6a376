/- 'Stripe'. -/
import Derived.Test.YtmhmlfgikmeejaaDoorMtMerge
namespace Go.Proofs.YtmhmlfgikmeejaaDoor
open Go.RowKit Go.Maps
set_option linter.unusedVariables false

theorem info_st : (Tryd.prog.info? 43).map (·.size) = some 6 := by kernel_rfl
section
variable {F : Nat → Prop} {w : World} {p bm bs n : Nat} {Q : Int → Value} {M : MM}
set_option maxRecDepth 10000 in
set_option maxHeartbeats 4000000 in
theorem stripe_some (h : MT F w p bm bs n Q M) (sid : Int) (hx : (Lit.int .i64 sid).wf = true) (s : St) (hs : M.s sid = some s) (hl : 1 ≤ s.locs.length ∧ s.locs.length ≤ 1000) :
    Calls Tryd.prog 11 #[.pointer (some ⟨p, 0, none⟩), .int .i64 sid] w fun e w' => ∃ g c, e = .returned (.tuple #[stv s (.slice (some ⟨g, 0, none⟩) s.locs.length c), .bool true]) ∧ w.heap.size ≤ g ∧ g < w'.heap.size ∧ OwnLo 0 w' (.slice (some ⟨g, 0, none⟩) s.locs.length c) s.locs ∧ Up Nul w w' := by
  obtain ⟨g, c, hq, hF, ho⟩ := h.row sid s hs
  have hlk : ∀ W, Up Nul w W → (Instr.lookup 55 (.map (some bs)) (.int .i64 sid) true).run Tryd.prog W = .ok (.tuple #[.agg #[.int .i64 s.kind, .int .i64 s.colour, .string s.k0, .string s.k1, .string s.k2, .slice (some ⟨g, 0, none⟩) s.locs.length c], .bool true]) W := fun W u => by
    have := (h.nxt u).ms.look2 Tryd.underlying55 (zero_st _) hx
    rw [hs] at this
    simp only [Option.map_some, Option.getD_some, Option.isSome_some, hq, stv] at this
    exact this
  have HR : Hid (RowL w (some ⟨g, 0, none⟩) s.locs) := by
    rw [hq] at ho
    obtain ⟨a, c', e, h⟩ := ho.row
    injection e with e
    rw [e]; exact h
  have HH := hid h
  have HLK := hid hlk
  have HL := hid hl
  obtain ⟨sl, SL⟩ : ∃ x, Hid (s.locs.length = x) := ⟨_, rfl⟩
  rw [SL.out] at HLK HL ⊢
  have uA : Up Nul w (w.alloc (.cells #[.int .i64 0, .int .i64 0, .string ⟨#[]⟩, .string ⟨#[]⟩, .string ⟨#[]⟩, .slice none 0 0] 43)) := (Up.refl _ _).alloc _
  obtain ⟨c0, c1, _⟩ := h.cells
  obtain ⟨e0, e1, _⟩ := (h.nxt uA).cells
  have lA := HLK.out _ uA
  have lB := HLK.out _ (Up.refl _ _)
  clear h hlk hs hq hF ho hl
  go_enter Tryd.func11, Tryd.ntmps11
  go_wp2_with fail
  obtain ⟨wa, hwa⟩ : ∃ W, W = w.alloc (.cells #[.int .i64 0, .int .i64 0, .string ⟨#[]⟩, .string ⟨#[]⟩, .string ⟨#[]⟩, .slice none 0 0] 43) := ⟨_, rfl⟩
  obtain ⟨wb, hwb⟩ : ∃ W, W = wa.alloc (.cells #[.int .i64 s.kind, .int .i64 s.colour, .string s.k0, .string s.k1, .string s.k2, .slice (some ⟨g, 0, none⟩) sl c] 43) := ⟨_, rfl⟩
  rw [← hwa, ← hwb]
  have za : wa.heap.size = w.heap.size + 1 := by rw [hwa]; exact World.size_alloc _ _
  have ua : Up Nul w wa := by rw [hwa]; exact uA
  have ub : Up Nul wa wb := by rw [hwb]; exact (Up.refl _ _).alloc _
  have ba : wb.heap[w.heap.size]? = some (.cells #[.int .i64 0, .int .i64 0, .string ⟨#[]⟩, .string ⟨#[]⟩, .string ⟨#[]⟩, .slice none 0 0] 43 (0, 0)) := (ub.block w.heap.size (by omega) id).trans (by rw [hwa]; exact heap_alloc_new _ _)
  have bb : wb.heap[w.heap.size + 1]? = some (.cells #[.int .i64 s.kind, .int .i64 s.colour, .string s.k0, .string s.k1, .string s.k2, .slice (some ⟨g, 0, none⟩) sl c] 43 (0, 0)) := by rw [← za, hwb]; exact heap_alloc_new _ _
  have HCL := hid (clone_sh wb (some ⟨g, 0, none⟩) c s.locs (HR.out.nxt (ua.trans ub)) (fun e => by have := HL.out; have := SL.out; rw [e] at this; simp at this; omega) (by rw [SL.out]; exact HL.out.2))
  rw [SL.out] at HCL
  have HU : Hid (Up Nul w wb) := ua.trans ub
  obtain ⟨pr, PR⟩ : ∃ x, Hid (w.heap.size = x) := ⟨_, rfl⟩
  obtain ⟨pb, PB⟩ : ∃ x, Hid (w.heap.size + 1 = x) := ⟨_, rfl⟩
  rw [PB.out] at bb
  rw [PB.out, PR.out]
  rw [PR.out] at ba
  have hpr : pr ≠ pb := by have := PB.out; have := PR.out; omega
  have HBA := hid ba
  have HBB := hid bb
  clear ba bb ua ub hwa hwb za c0 c1 e0 e1 lA lB uA
  refine HCL.out.mono ?_
  rintro e wc ⟨g2, c2, rfl, hg2, hgl2, ho2, u2⟩
  have b1 := (u2.block pr (Array.getElem?_eq_some_iff.1 HBA.out).1 id).trans HBA.out
  have b2 := (u2.block pb (Array.getElem?_eq_some_iff.1 HBB.out).1 id).trans HBB.out
  obtain ⟨wd, hwd⟩ : ∃ W, W = wc.setCell ⟨pb, 5, none⟩ (.slice (some ⟨g2, 0, none⟩) sl c2) := ⟨_, rfl⟩
  have hg2b : pb < wb.heap.size := (Array.getElem?_eq_some_iff.1 HBB.out).1
  have hg2a : pr < wb.heap.size := (Array.getElem?_eq_some_iff.1 HBA.out).1
  have ud : Up (One pb) wc wd := by rw [hwd]; exact (Up.refl (One pb) wc).put rfl 5 _
  have d2 : wd.heap[pb]? = some (.cells #[.int .i64 s.kind, .int .i64 s.colour, .string s.k0, .string s.k1, .string s.k2, .slice (some ⟨g2, 0, none⟩) sl c2] 43 (0, 0)) := by rw [hwd]; exact heap_set_same b2 5 _
  have d1 := (ud.block pr (Array.getElem?_eq_some_iff.1 b1).1 (fun e => hpr e)).trans b1
  have hod : OwnLo 0 wd (.slice (some ⟨g2, 0, none⟩) sl c2) s.locs := lo_up ho2 ud (fun k hk e => by
    have e1 : g2 = k := by injection hk
    have e2 : k = pb := e
    omega)
  have HOD := hid hod
  have HU2 : Hid (Up Nul w wd) := (HU.out.trans u2).thn ud (fun j e => .inr (by have e : j = pb := e; have := PB.out; omega))
  have HG2 : Hid (w.heap.size ≤ g2 ∧ pr < g2 ∧ pb < g2 ∧ g2 < wd.heap.size) := ⟨by have := HU.out.size; omega, by omega, by omega, Nat.lt_of_lt_of_le hgl2 ud.size⟩
  have f5 : wc.frozen? ⟨pb, 5, none⟩ = false := by simp [World.frozen?, b2]
  have t5 : wc.cell? ⟨pb, 5, none⟩ = some (.slice (some ⟨g, 0, none⟩) sl c) := by simp [World.cell?, b2]
  have y0 : wc.cell? ⟨pb, 0, none⟩ = some (.int .i64 s.kind) := by simp [World.cell?, b2]
  have y1 : wc.cell? ⟨pb, 1, none⟩ = some (.int .i64 s.colour) := by simp [World.cell?, b2]
  have y2 : wc.cell? ⟨pb, 2, none⟩ = some (.string s.k0) := by simp [World.cell?, b2]
  have y3 : wc.cell? ⟨pb, 3, none⟩ = some (.string s.k1) := by simp [World.cell?, b2]
  have y4 : wc.cell? ⟨pb, 4, none⟩ = some (.string s.k2) := by simp [World.cell?, b2]
  have z0 : wc.cell? ⟨pr, 0, none⟩ = some (.int .i64 0) := by simp [World.cell?, b1]
  have fz0 : wc.frozen? ⟨pr, 0, none⟩ = false := by simp [World.frozen?, b1]
  have z1 : wc.cell? ⟨pr, 1, none⟩ = some (.int .i64 0) := by simp [World.cell?, b1]
  have fz1 : wc.frozen? ⟨pr, 1, none⟩ = false := by simp [World.frozen?, b1]
  have z2 : wc.cell? ⟨pr, 2, none⟩ = some (.string ⟨#[]⟩) := by simp [World.cell?, b1]
  have fz2 : wc.frozen? ⟨pr, 2, none⟩ = false := by simp [World.frozen?, b1]
  have z3 : wc.cell? ⟨pr, 3, none⟩ = some (.string ⟨#[]⟩) := by simp [World.cell?, b1]
  have fz3 : wc.frozen? ⟨pr, 3, none⟩ = false := by simp [World.frozen?, b1]
  have z4 : wc.cell? ⟨pr, 4, none⟩ = some (.string ⟨#[]⟩) := by simp [World.cell?, b1]
  have fz4 : wc.frozen? ⟨pr, 4, none⟩ = false := by simp [World.frozen?, b1]
  have z5 : wc.cell? ⟨pr, 5, none⟩ = some (.slice none 0 0) := by simp [World.cell?, b1]
  have fz5 : wc.frozen? ⟨pr, 5, none⟩ = false := by simp [World.frozen?, b1]
  have hpr2 : pb ≠ pr := fun e => hpr e.symm
  have HWD := hid hwd
  have HD1 := hid d1
  have HD2 := hid d2
  clear ho2 u2 b1 b2 hwd ud d1 d2 hod hg2 hgl2 hg2b hg2a
  go_wp2_with fail
  rw [← HWD.out]
  have q1 := heap_set_same HD1.out 0 (.int .i64 s.kind)
  have q2 := heap_set_same q1 1 (.int .i64 s.colour)
  have q3 := heap_set_same q2 2 (.string s.k0)
  have q4 := heap_set_same q3 3 (.string s.k1)
  have q5 := heap_set_same q4 4 (.string s.k2)
  have q6 : _ = some (Obj.cells #[.int .i64 s.kind, .int .i64 s.colour, .string s.k0, .string s.k1, .string s.k2, .slice (some ⟨g2, 0, none⟩) sl c2] 43 (0, 0)) := heap_set_same q5 5 (.slice (some ⟨g2, 0, none⟩) sl c2)
  have ue : Up (One pr) wd _ := (((((((Up.refl (One pr) wd).put rfl 0 (.int .i64 s.kind)).put rfl 1 (.int .i64 s.colour)).put rfl 2 (.string s.k0)).put rfl 3 (.string s.k1)).put rfl 4 (.string s.k2)).put rfl 5 (.slice (some ⟨g2, 0, none⟩) sl c2))
  revert q6 ue
  generalize ((((((wd.setCell ⟨pr, 0, none⟩ (.int .i64 s.kind)).setCell ⟨pr, 1, none⟩ (.int .i64 s.colour)).setCell ⟨pr, 2, none⟩ (.string s.k0)).setCell ⟨pr, 3, none⟩ (.string s.k1)).setCell ⟨pr, 4, none⟩ (.string s.k2)).setCell ⟨pr, 5, none⟩ (.slice (some ⟨g2, 0, none⟩) sl c2)) = we
  intro q6 ue
  have hld := run_loadVar_row (P := Tryd.prog) _ _ _ 43 _ _ _ q6 Tryd.underlying43 rfl info_st
  refine bodyPost_ret (v := .tuple #[.agg #[.int .i64 s.kind, .int .i64 s.colour, .string s.k0, .string s.k1, .string s.k2, .slice (some ⟨g2, 0, none⟩) sl c2], .bool true]) (by rw [results_cell_tmp rfl]; simp [asAddr, hld, Result.andThen]) rfl ?_
  have hg := HG2.out
  refine ⟨g2, c2, rfl, hg.1, Nat.lt_of_lt_of_le hg.2.2.2 ue.size, lo_up HOD.out ue (fun k hk e => by
    have e1 : g2 = k := by injection hk
    have e2 : k = pr := e
    omega), HU2.out.thn ue (fun j e => .inr (by have e : j = pr := e; have := PR.out; omega))⟩
end
end Go.Proofs.YtmhmlfgikmeejaaDoor
