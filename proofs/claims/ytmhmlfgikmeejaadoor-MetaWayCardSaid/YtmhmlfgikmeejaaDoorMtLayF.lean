/- 'lay'. -/
import Derived.Test.YtmhmlfgikmeejaaDoorMtDrop
namespace Go.Proofs.YtmhmlfgikmeejaaDoor
open Go.RowKit Go.Maps
set_option linter.unusedVariables false

def St.key (s : St) : Nat → ByteArray
  | 0 => s.k0
  | 1 => s.k1
  | _ => s.k2
def layT (b : ByteArray → Option Bl) (s : St) (sid : Int) : Nat → ByteArray → Option Bl
  | 0 => b
  | t + 1 => lay1 (layT b s sid t) (s.key t) sid (t : Nat)
theorem layT_three (M : MM) (s : St) (sid : Int) : layT M.b s sid 3 = (M.lay sid s).b := rfl
section
variable {F : Nat → Prop} {w : World} {p bm bs n : Nat} {Q : Int → Value} {M : MM}
set_option maxRecDepth 10000 in
set_option maxHeartbeats 4000000 in
theorem lay_any (h : MT F w p bm bs n Q M) (hFw : ∀ k, F k → k < w.heap.size) (sid : Int) (hx : (Lit.int .i64 sid).wf = true) (s : St) (g c : Nat) (hg : F g) (ho : OwnLo 0 w (.slice (some ⟨g, 0, none⟩) s.locs.length c) s.locs)
    (hd : ∀ j s', M.s j = some s' → sid ≠ j → (Value.slice (some ⟨g, 0, none⟩) s.locs.length c).ownBlock ≠ (Q j).ownBlock) (hk : ∀ t, (s.key t).size ≤ maxLen) (hn : n + 4 ≤ maxLen) :
    Calls Tryd.prog 52 #[.pointer (some ⟨p, 0, none⟩), .int .i64 sid, stv s (.slice (some ⟨g, 0, none⟩) s.locs.length c)] w fun e w' => e = .returned (.tuple #[]) ∧
      (∃ Q', MT F w' p bm bs (n + 4) Q' (M.lay sid s)) ∧ Up (Two bm bs) w w' := by
  obtain ⟨w1, hw1⟩ : ∃ W, W = w.alloc (.cells #[.int .i64 s.kind, .int .i64 s.colour, .string s.k0, .string s.k1, .string s.k2, .slice (some ⟨g, 0, none⟩) s.locs.length c] 43) := ⟨_, rfl⟩
  have u1 : Up Nul w w1 := by rw [hw1]; exact (Up.refl _ _).alloc _
  have b1 : w1.heap[w.heap.size]? = some (.cells #[.int .i64 s.kind, .int .i64 s.colour, .string s.k0, .string s.k1, .string s.k2, .slice (some ⟨g, 0, none⟩) s.locs.length c] 43 (0, 0)) := by rw [hw1]; exact heap_alloc_new _ _
  have h1 := h.nxt u1
  obtain ⟨w2, hput, h2, u2⟩ := (h1.nxt (Up.refl _ _).drew).putS (by omega) hx s (.slice (some ⟨g, 0, none⟩) s.locs.length c) ⟨g, c, rfl, hg, lo_up (ho.up u1 (fun _ _ _ => id)) ((Up.refl Nul w1).drew) (fun _ _ => id)⟩ hd
  have b2 := (u2.block w.heap.size (by have := (Array.getElem?_eq_some_iff.1 b1).1; exact this) (fun e => by have := hFw _ h.fs; omega)).trans b1
  obtain ⟨c0, c1, _⟩ := h1.cells
  have g0 : w1.cell? ⟨w.heap.size, 0, none⟩ = some (.int .i64 s.kind) := by simp [World.cell?, b1]
  have g1 : w1.cell? ⟨w.heap.size, 1, none⟩ = some (.int .i64 s.colour) := by simp [World.cell?, b1]
  have g2 : w1.cell? ⟨w.heap.size, 2, none⟩ = some (.string s.k0) := by simp [World.cell?, b1]
  have g3 : w1.cell? ⟨w.heap.size, 3, none⟩ = some (.string s.k1) := by simp [World.cell?, b1]
  have g4 : w1.cell? ⟨w.heap.size, 4, none⟩ = some (.string s.k2) := by simp [World.cell?, b1]
  have g5 : w1.cell? ⟨w.heap.size, 5, none⟩ = some (.slice (some ⟨g, 0, none⟩) s.locs.length c) := by simp [World.cell?, b1]
  have k2 : w2.cell? ⟨w.heap.size, 2, none⟩ = some (.string s.k0) := by simp [World.cell?, b2]
  have k3 : w2.cell? ⟨w.heap.size, 3, none⟩ = some (.string s.k1) := by simp [World.cell?, b2]
  have k4 : w2.cell? ⟨w.heap.size, 4, none⟩ = some (.string s.k2) := by simp [World.cell?, b2]
  have HH := hid h2
  have HU : Hid (Up (Two bm bs) w w2) := (u1.nul.thn (Up.trans (Up.drew (Up.refl (fun k => k = bs) w1)) u2) (fun j e => .inl (.inr e)))
  have HK := hid hk
  have HN := hid hn
  have HP := hid hput
  have HPM : Hid (∀ W x, Up (Two bm bs) w W → W.heap.size = x → F p ∧ p < x ∧ w.heap.size ≤ x) := fun W x u e => ⟨h.fp, by have := h.lt; have := u.size; omega, by have := u.size; omega⟩
  obtain ⟨R, HR⟩ : ∃ R, Hid (M.lay sid s = R) := ⟨_, rfl⟩
  rw [HR.out]
  obtain ⟨L, LL⟩ : ∃ L, Hid (s.locs.length = L) := ⟨_, rfl⟩
  rw [LL.out] at hw1 g5 HP HH ⊢
  clear h h1 h2 u1 u2 b1 b2 ho hd hk hn hx hput
  go_enter Tryd.func52, Tryd.ntmps52
  go_wp2
  rw [← hw1]
  clear hw1
  generalize w.heap.size = pz at g0 g1 g2 g3 g4 g5 k2 k3 k4 HPM ⊢
  go_still_tail 6, (by kernel_rfl)
  change wpList _ _ _ _ _ w1.drew
  refine wpList_put_eqv rfl _ _ _ _ rfl _ _ _ rfl rfl rfl HP.out ?_
  clear c0 c1 g0 g1 g2 g3 g4 g5
  go_wp2
  go_loopw [18] (fun i wr => ∃ t : Nat, t ≤ 3 ∧ i = .int .i64 (t : Nat) ∧ MT F wr p bm bs (n + 1 + t) (upd Q sid (.slice (some ⟨g, 0, none⟩) L c)) { M with s := upd M.s sid (some s), b := layT M.b s sid t } ∧ Up (Two bm bs) w wr) (fun i _ => 3 - (intOf i).toNat)
  case atStart => exact ⟨0, by omega, rfl, HH.out, HU.out⟩
  case round =>
    obtain ⟨t, ht, rfl, hm, hu⟩ := hrel
    by_cases hlt : t < 3
    · obtain rfl | rfl | rfl : t = 0 ∨ t = 1 ∨ t = 2 := by omega
      · obtain ⟨c0, c1, c2⟩ := hm.cells
        have hix : (Instr.index 41 (.agg #[.string s.k0, .string s.k1, .string s.k2]) (.int .i64 0)).run Tryd.prog wr = .ok (.string s.k0) wr := by kernel_rfl
        have HT : Hid (layT M.b s sid 1 = lay1 (layT M.b s sid 0) s.k0 sid (0 : Nat)) := rfl
        have hlk := hm.mb.look2 Tryd.underlying54 (zero_bl _) (show s.k0.size ≤ maxLen from HK.out 0)
        have HM := hid hm
        have HUU := hid hu
        cases hb : layT M.b s sid 0 s.k0 with
        | none =>
          dsimp only at hlk
          rw [hb] at hlk
          simp only [Option.map_none, Option.getD_none, Option.isSome_none] at hlk
          have HB := hid hb
          clear hb hm hu
          go_wp2_with fail
          go_roundw
          case rel => exact ⟨1, by omega, by go_num, by
            have e : layT M.b s sid 1 = layT M.b s sid 0 := by rw [HT.out]; unfold lay1; rw [HB.out]
            rw [e]
            exact (HM.out.nxt ((Up.refl _ _).alloc _)).mono (by omega), HUU.out.trans ((Up.refl _ _).alloc _)⟩
          case measure => simp [intOf]
        | some x =>
          obtain ⟨xn, xi, xp⟩ := x
          dsimp only at hlk
          rw [hb] at hlk
          simp only [Option.map_some, Option.getD_some, Option.isSome_some, blv] at hlk
          have HB := hid hb
          clear hb hm hu
          go_wp2_with fail
          obtain ⟨w3, hw3⟩ : ∃ W, W = wr.alloc (.cells #[.int .i64 xn, .int .i64 xi, .int .i64 xp] 47) := ⟨_, rfl⟩
          have u3 : Up Nul wr w3 := by rw [hw3]; exact (Up.refl _ _).alloc _
          have b3 : w3.heap[wr.heap.size]? = some (.cells #[.int .i64 xn, .int .i64 xi, .int .i64 xp] 47 (0, 0)) := by rw [hw3]; exact heap_alloc_new _ _
          rw [← hw3]
          clear hw3
          have h3 := HM.out.nxt u3
          obtain ⟨w4, hput, h4, u4⟩ := (h3.nxt (Up.refl _ _).drew).putB (by have := HN.out; omega) (show s.k0.size ≤ maxLen from HK.out 0) ⟨xn, sid, (0 : Nat)⟩
          obtain ⟨d0, d1, d2⟩ := h3.cells
          have x0 : w3.cell? ⟨wr.heap.size, 0, none⟩ = some (.int .i64 xn) := by simp [World.cell?, b3]
          have HPUT := hid hput
          have H4 := hid h4
          have HU4 : Hid (Up (Two bm bs) wr w4) := u3.nul.thn (Up.trans (Up.drew (Up.refl (fun k => k = bm) w3)) u4) (fun j e => .inl (.inl e))
          clear h3 h4 u3 u4 b3 hput c0 c1 c2 d1 d2 hlk
          go_still_tail 10, (by kernel_rfl)
          change wpList _ _ _ _ _ w3.drew
          refine wpList_put_eqv rfl _ _ _ _ rfl _ _ _ rfl rfl rfl HPUT.out ?_
          go_wp2
          go_roundw
          case rel => exact ⟨1, by omega, by go_num, by
            have e : layT M.b s sid 1 = upd (layT M.b s sid 0) s.k0 (some ⟨xn, sid, (0 : Nat)⟩) := by rw [HT.out]; unfold lay1; rw [HB.out]
            rw [e]
            exact H4.out.mono (by omega), HUU.out.trans HU4.out⟩
          case measure => simp [intOf]
      · obtain ⟨c0, c1, c2⟩ := hm.cells
        have hix : (Instr.index 41 (.agg #[.string s.k0, .string s.k1, .string s.k2]) (.int .i64 1)).run Tryd.prog wr = .ok (.string s.k1) wr := by kernel_rfl
        have HT : Hid (layT M.b s sid 2 = lay1 (layT M.b s sid 1) s.k1 sid (1 : Nat)) := rfl
        have hlk := hm.mb.look2 Tryd.underlying54 (zero_bl _) (show s.k1.size ≤ maxLen from HK.out 1)
        have HM := hid hm
        have HUU := hid hu
        cases hb : layT M.b s sid 1 s.k1 with
        | none =>
          dsimp only at hlk
          rw [hb] at hlk
          simp only [Option.map_none, Option.getD_none, Option.isSome_none] at hlk
          have HB := hid hb
          clear hb hm hu
          go_wp2_with fail
          go_roundw
          case rel => exact ⟨2, by omega, by go_num, by
            have e : layT M.b s sid 2 = layT M.b s sid 1 := by rw [HT.out]; unfold lay1; rw [HB.out]
            rw [e]
            exact (HM.out.nxt ((Up.refl _ _).alloc _)).mono (by omega), HUU.out.trans ((Up.refl _ _).alloc _)⟩
          case measure => simp [intOf]
        | some x =>
          obtain ⟨xn, xi, xp⟩ := x
          dsimp only at hlk
          rw [hb] at hlk
          simp only [Option.map_some, Option.getD_some, Option.isSome_some, blv] at hlk
          have HB := hid hb
          clear hb hm hu
          go_wp2_with fail
          obtain ⟨w3, hw3⟩ : ∃ W, W = wr.alloc (.cells #[.int .i64 xn, .int .i64 xi, .int .i64 xp] 47) := ⟨_, rfl⟩
          have u3 : Up Nul wr w3 := by rw [hw3]; exact (Up.refl _ _).alloc _
          have b3 : w3.heap[wr.heap.size]? = some (.cells #[.int .i64 xn, .int .i64 xi, .int .i64 xp] 47 (0, 0)) := by rw [hw3]; exact heap_alloc_new _ _
          rw [← hw3]
          clear hw3
          have h3 := HM.out.nxt u3
          obtain ⟨w4, hput, h4, u4⟩ := (h3.nxt (Up.refl _ _).drew).putB (by have := HN.out; omega) (show s.k1.size ≤ maxLen from HK.out 1) ⟨xn, sid, (1 : Nat)⟩
          obtain ⟨d0, d1, d2⟩ := h3.cells
          have x0 : w3.cell? ⟨wr.heap.size, 0, none⟩ = some (.int .i64 xn) := by simp [World.cell?, b3]
          have HPUT := hid hput
          have H4 := hid h4
          have HU4 : Hid (Up (Two bm bs) wr w4) := u3.nul.thn (Up.trans (Up.drew (Up.refl (fun k => k = bm) w3)) u4) (fun j e => .inl (.inl e))
          clear h3 h4 u3 u4 b3 hput c0 c1 c2 d1 d2 hlk
          go_still_tail 10, (by kernel_rfl)
          change wpList _ _ _ _ _ w3.drew
          refine wpList_put_eqv rfl _ _ _ _ rfl _ _ _ rfl rfl rfl HPUT.out ?_
          go_wp2
          go_roundw
          case rel => exact ⟨2, by omega, by go_num, by
            have e : layT M.b s sid 2 = upd (layT M.b s sid 1) s.k1 (some ⟨xn, sid, (1 : Nat)⟩) := by rw [HT.out]; unfold lay1; rw [HB.out]
            rw [e]
            exact H4.out.mono (by omega), HUU.out.trans HU4.out⟩
          case measure => simp [intOf]
      · obtain ⟨c0, c1, c2⟩ := hm.cells
        have hix : (Instr.index 41 (.agg #[.string s.k0, .string s.k1, .string s.k2]) (.int .i64 2)).run Tryd.prog wr = .ok (.string s.k2) wr := by kernel_rfl
        have HT : Hid (layT M.b s sid 3 = lay1 (layT M.b s sid 2) s.k2 sid (2 : Nat)) := rfl
        have hlk := hm.mb.look2 Tryd.underlying54 (zero_bl _) (show s.k2.size ≤ maxLen from HK.out 2)
        have HM := hid hm
        have HUU := hid hu
        cases hb : layT M.b s sid 2 s.k2 with
        | none =>
          dsimp only at hlk
          rw [hb] at hlk
          simp only [Option.map_none, Option.getD_none, Option.isSome_none] at hlk
          have HB := hid hb
          clear hb hm hu
          go_wp2_with fail
          go_roundw
          case rel => exact ⟨3, by omega, by go_num, by
            have e : layT M.b s sid 3 = layT M.b s sid 2 := by rw [HT.out]; unfold lay1; rw [HB.out]
            rw [e]
            exact (HM.out.nxt ((Up.refl _ _).alloc _)).mono (by omega), HUU.out.trans ((Up.refl _ _).alloc _)⟩
          case measure => simp [intOf]
        | some x =>
          obtain ⟨xn, xi, xp⟩ := x
          dsimp only at hlk
          rw [hb] at hlk
          simp only [Option.map_some, Option.getD_some, Option.isSome_some, blv] at hlk
          have HB := hid hb
          clear hb hm hu
          go_wp2_with fail
          obtain ⟨w3, hw3⟩ : ∃ W, W = wr.alloc (.cells #[.int .i64 xn, .int .i64 xi, .int .i64 xp] 47) := ⟨_, rfl⟩
          have u3 : Up Nul wr w3 := by rw [hw3]; exact (Up.refl _ _).alloc _
          have b3 : w3.heap[wr.heap.size]? = some (.cells #[.int .i64 xn, .int .i64 xi, .int .i64 xp] 47 (0, 0)) := by rw [hw3]; exact heap_alloc_new _ _
          rw [← hw3]
          clear hw3
          have h3 := HM.out.nxt u3
          obtain ⟨w4, hput, h4, u4⟩ := (h3.nxt (Up.refl _ _).drew).putB (by have := HN.out; omega) (show s.k2.size ≤ maxLen from HK.out 2) ⟨xn, sid, (2 : Nat)⟩
          obtain ⟨d0, d1, d2⟩ := h3.cells
          have x0 : w3.cell? ⟨wr.heap.size, 0, none⟩ = some (.int .i64 xn) := by simp [World.cell?, b3]
          have HPUT := hid hput
          have H4 := hid h4
          have HU4 : Hid (Up (Two bm bs) wr w4) := u3.nul.thn (Up.trans (Up.drew (Up.refl (fun k => k = bm) w3)) u4) (fun j e => .inl (.inl e))
          clear h3 h4 u3 u4 b3 hput c0 c1 c2 d1 d2 hlk
          go_still_tail 10, (by kernel_rfl)
          change wpList _ _ _ _ _ w3.drew
          refine wpList_put_eqv rfl _ _ _ _ rfl _ _ _ rfl rfl rfl HPUT.out ?_
          go_wp2
          go_roundw
          case rel => exact ⟨3, by omega, by go_num, by
            have e : layT M.b s sid 3 = upd (layT M.b s sid 2) s.k2 (some ⟨xn, sid, (2 : Nat)⟩) := by rw [HT.out]; unfold lay1; rw [HB.out]
            rw [e]
            exact H4.out.mono (by omega), HUU.out.trans HU4.out⟩
          case measure => simp [intOf]
    · obtain rfl : t = 3 := by omega
      have HM := hid hm
      have HUU := hid hu
      clear hm hu ht
      go_wp2
      go_end0
      refine ⟨rfl, ⟨upd Q sid (.slice (some ⟨g, 0, none⟩) L c), ?_⟩, HUU.out⟩
      rw [← HR.out]
      exact HM.out
end
end Go.Proofs.YtmhmlfgikmeejaaDoor
