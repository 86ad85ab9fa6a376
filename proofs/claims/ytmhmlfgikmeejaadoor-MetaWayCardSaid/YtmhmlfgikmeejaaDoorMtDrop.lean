/- 'drop'. -/
import Derived.Test.YtmhmlfgikmeejaaDoorMtBlob
import Derived.Test.YtmhmlfgikmeejaaDoorMtEq
import Derived.BigRegion
namespace Go.Proofs.YtmhmlfgikmeejaaDoor
open Go.RowKit Go.Maps
set_option linter.unusedVariables false

theorem zero_st (w : World) : (zeroValue 43).run Tryd.prog w = .ok (.agg #[.int .i64 0, .int .i64 0, .string ⟨#[]⟩, .string ⟨#[]⟩, .string ⟨#[]⟩, .slice none 0 0]) w := by kernel_rfl
/-- The blocks of the two maps. -/
abbrev st0 : Obj := .cells #[.int .i64 0, .int .i64 0, .string ⟨#[]⟩, .string ⟨#[]⟩, .string ⟨#[]⟩, .slice none 0 0] 43
theorem upd_upd {α β : Type} [DecidableEq α] (f : α → β) (k : α) (v v' : β) : upd (upd f k v) k v' = upd f k v' := by
  funext x
  unfold upd
  split <;> rfl
abbrev Two (bm bs : Nat) (k : Nat) : Prop := k = bm ∨ k = bs
section
variable {F : Nat → Prop} {w : World} {p bm bs n : Nat} {Q : Int → Value} {M : MM}
theorem drop_none (h : MT F w p bm bs n Q M) (k : ByteArray) (hk : k.size ≤ maxLen) (hb : M.b k = none) :
    Calls Tryd.prog 35 #[.pointer (some ⟨p, 0, none⟩), .string k] w fun e w' => e = .returned (.int .i64 9) ∧ Up Nul w w' := by
  obtain ⟨c0, c1, c2⟩ := h.cells
  have hl := h.mb.look2 Tryd.underlying54 (zero_bl _) hk
  rw [hb] at hl
  simp only [Option.map_none, Option.getD_none, Option.isSome_none] at hl
  have HU : Hid (∀ o, Up Nul w (w.alloc o)) := fun o => (Up.refl _ _).alloc o
  clear h hk hb
  go_enter Tryd.func35, Tryd.ntmps35
  go_wp2_with fail
  go_ret
  exact ⟨rfl, HU.out _⟩
set_option maxRecDepth 10000 in
set_option maxHeartbeats 4000000 in
theorem drop_some (h : MT F w p bm bs n Q M) (hFw : ∀ k, F k → k < w.heap.size) (k : ByteArray) (hk : k.size ≤ maxLen) (xn xi xp : Int) (hb : M.b k = some ⟨xn, xi, xp⟩) (s : St) (hs : M.s xi = some s) (hx : (Lit.int .i64 xi).wf = true) (hp : xp = 0 ∨ xp = 1 ∨ xp = 2) (hn : n < maxLen) :
    Calls Tryd.prog 35 #[.pointer (some ⟨p, 0, none⟩), .string k] w fun e w' => e = .returned (.int .i64 0) ∧
      (∃ Q', MT F w' p bm bs (n + 1) Q' { M with b := upd M.b k none, s := upd M.s xi (if (s.off xp).dead then none else some (s.off xp)) }) ∧ Up (Two bm bs) w w' := by
  obtain ⟨c0, c1, c2⟩ := h.cells
  have hl := h.mb.look2 Tryd.underlying54 (zero_bl _) hk
  rw [hb] at hl
  simp only [Option.map_some, Option.getD_some, Option.isSome_some, blv] at hl
  have u1 : Up Nul w (w.alloc (.cells #[.int .i64 xn, .int .i64 xi, .int .i64 xp] 47)) := (Up.refl _ _).alloc _
  have h1 := h.nxt u1
  have b1 := heap_alloc_new w (.cells #[.int .i64 xn, .int .i64 xi, .int .i64 xp] 47)
  obtain ⟨w2, hdel, h2, u2⟩ := h1.delB hk 0
  have hlt := h.lt
  have hbm : w.heap.size ≠ bm := by have := h.mb.lt; omega
  have b2 := (u2.block w.heap.size (by rw [World.size_alloc]; omega) hbm).trans b1
  obtain ⟨d0, d1, d2⟩ := h2.cells
  have x1 : w2.cell? ⟨w.heap.size, 1, none⟩ = some (.int .i64 xi) := by simp [World.cell?, b2]
  have x2 : w2.cell? ⟨w.heap.size, 2, none⟩ = some (.int .i64 xp) := by simp [World.cell?, b2]
  have c1' := (h1.cells).1
  have hl2 : ∀ W, MT F W p bm bs n Q { M with b := upd M.b k none } → (Instr.lookup 55 (.map (some bs)) (.int .i64 xi) false).run Tryd.prog W.drew = .ok (stv s (Q xi)) W.drew := fun W h2 => by
    have := (MapI.drew h2.ms).look1 Tryd.underlying55 (zero_st _) hx
    rw [hs] at this
    exact this
  obtain ⟨g, c, hq, hF, ho⟩ := h2.row xi s hs
  rw [hq] at hl2
  have u3 : Up Nul w2 (w2.alloc (.cells #[.int .i64 0, .int .i64 0, .string ⟨#[]⟩, .string ⟨#[]⟩, .string ⟨#[]⟩, .slice none 0 0] 43)) := (Up.refl _ _).alloc _
  have hl3 := hl2 _ (h2.nxt u3)
  have hl4 := hl2 _ h2
  clear hl2
  obtain ⟨e0, e1, e2⟩ := (h2.nxt u3).cells
  have hsz : w.heap.size < w2.heap.size := Nat.lt_of_lt_of_le (by rw [World.size_alloc]; omega) u2.size
  have y1 := (u3.cell (p := ⟨w.heap.size, 1, none⟩) hsz id).trans x1
  have y2 := (u3.cell (p := ⟨w.heap.size, 2, none⟩) hsz id).trans x2
  have HH := hid h2
  have HU := hid (u1.nul.trans u2 : Up (fun k => k = bm) w w2)
  clear h h1 h2 u1 u2 u3 b1 hk hb
  have HSS := hid hs
  have HXX := hid hx
  have HNN := hid hn
  have HQQ := hid hq
  clear hs hx hn hq
  obtain ⟨L, LL⟩ : ∃ L, Hid (s.locs.length = L) := ⟨_, rfl⟩
  rw [LL.out] at hl4 hl3
  rcases hp with rfl | rfl | rfl
  all_goals generalize hR : ({ M with b := upd M.b k none, s := upd M.s xi (if (s.off _).dead then none else some (s.off _)) } : MM) = R
  all_goals have HR := hid hR
  all_goals clear hR
  all_goals
    go_enter Tryd.func35, Tryd.ntmps35
    go_wp2_with (first | (at_delete; refine wpList_del_eqv rfl _ _ _ _ rfl _ _ rfl rfl hdel ?_))
    go_region
    all_goals
      have u4 : Up Nul w2 (w2.alloc (.cells #[.int .i64 s.kind, .int .i64 s.colour, .string s.k0, .string s.k1, .string s.k2, .slice (some ⟨g, 0, none⟩) L c] 43)).drew := ((Up.refl _ _).alloc _).drew
      have b4 : (w2.alloc (.cells #[.int .i64 s.kind, .int .i64 s.colour, .string s.k0, .string s.k1, .string s.k2, .slice (some ⟨g, 0, none⟩) L c] 43)).drew.heap[w2.heap.size]? = some (.cells #[.int .i64 s.kind, .int .i64 s.colour, .string s.k0, .string s.k1, .string s.k2, .slice (some ⟨g, 0, none⟩) L c] 43 (0, 0)) := heap_alloc_new w2 _
      have z4 : (w2.alloc (.cells #[.int .i64 s.kind, .int .i64 s.colour, .string s.k0, .string s.k1, .string s.k2, .slice (some ⟨g, 0, none⟩) L c] 43)).drew.heap.size = w2.heap.size + 1 := World.size_alloc _ _
      generalize (w2.alloc (.cells #[.int .i64 s.kind, .int .i64 s.colour, .string s.k0, .string s.k1, .string s.k2, .slice (some ⟨g, 0, none⟩) L c] 43)).drew = w4 at u4 b4 z4 ⊢
      have b5 := (u4.block w.heap.size hsz id).trans b2
      have HH4 := hid (HH.out.nxt u4)
      obtain ⟨f0, f1, f2⟩ := HH4.out.cells
      have v1 := (u4.cell (p := ⟨w.heap.size, 1, none⟩) hsz id).trans x1
      have v2 := (u4.cell (p := ⟨w.heap.size, 2, none⟩) hsz id).trans x2
      generalize w2.heap.size = ps at b4 z4 hsz ⊢
      have g0 : w4.cell? ⟨ps, 0, none⟩ = some (.int .i64 s.kind) := by simp [World.cell?, b4]
      have g1 : w4.cell? ⟨ps, 1, none⟩ = some (.int .i64 s.colour) := by simp [World.cell?, b4]
      have g2 : w4.cell? ⟨ps, 2, none⟩ = some (.string s.k0) := by simp [World.cell?, b4]
      have g3 : w4.cell? ⟨ps, 3, none⟩ = some (.string s.k1) := by simp [World.cell?, b4]
      have g4 : w4.cell? ⟨ps, 4, none⟩ = some (.string s.k2) := by simp [World.cell?, b4]
      have g5 : w4.cell? ⟨ps, 5, none⟩ = some (.slice (some ⟨g, 0, none⟩) L c) := by simp [World.cell?, b4]
      have q2 : w4.frozen? ⟨ps, 2, none⟩ = false := by simp [World.frozen?, b4]
      have q3 : w4.frozen? ⟨ps, 3, none⟩ = false := by simp [World.frozen?, b4]
      have q4 : w4.frozen? ⟨ps, 4, none⟩ = false := by simp [World.frozen?, b4]
      have hpp : w.heap.size ≠ ps := by omega
      have hpp2 : ps ≠ w.heap.size := by omega
      have hpq : p ≠ ps := by omega
      have hpq2 : ps ≠ p := by omega
      have HU4 := hid u4
      clear u4 e0 e1 e2 d0 d1 d2 y1 y2 x1 x2 hl4 hl3
      go_wp2
      first
      | (obtain ⟨w5, hw5⟩ : ∃ W, W = w4.setCell ⟨ps, 2, none⟩ (.string ⟨#[]⟩) := ⟨_, rfl⟩
         have u5 : Up (One ps) w4 w5 := by rw [hw5]; exact (Up.refl (One ps) w4).put rfl _ _
         have b6 : w5.heap[ps]? = some (.cells #[.int .i64 (s.off 0).kind, .int .i64 (s.off 0).colour, .string (s.off 0).k0, .string (s.off 0).k1, .string (s.off 0).k2, .slice (some ⟨g, 0, none⟩) L c] 43 (0, 0)) := by rw [hw5]; exact heap_set_same b4 _ _
         rw [← hw5]
         obtain ⟨sq, hsq⟩ : ∃ x, s.off 0 = x := ⟨_, rfl⟩
         rw [hsq] at b6)
      | (obtain ⟨w5, hw5⟩ : ∃ W, W = w4.setCell ⟨ps, 3, none⟩ (.string ⟨#[]⟩) := ⟨_, rfl⟩
         have u5 : Up (One ps) w4 w5 := by rw [hw5]; exact (Up.refl (One ps) w4).put rfl _ _
         have b6 : w5.heap[ps]? = some (.cells #[.int .i64 (s.off 1).kind, .int .i64 (s.off 1).colour, .string (s.off 1).k0, .string (s.off 1).k1, .string (s.off 1).k2, .slice (some ⟨g, 0, none⟩) L c] 43 (0, 0)) := by rw [hw5]; exact heap_set_same b4 _ _
         rw [← hw5]
         obtain ⟨sq, hsq⟩ : ∃ x, s.off 1 = x := ⟨_, rfl⟩
         rw [hsq] at b6)
      | (obtain ⟨w5, hw5⟩ : ∃ W, W = w4.setCell ⟨ps, 4, none⟩ (.string ⟨#[]⟩) := ⟨_, rfl⟩
         have u5 : Up (One ps) w4 w5 := by rw [hw5]; exact (Up.refl (One ps) w4).put rfl _ _
         have b6 : w5.heap[ps]? = some (.cells #[.int .i64 (s.off 2).kind, .int .i64 (s.off 2).colour, .string (s.off 2).k0, .string (s.off 2).k1, .string (s.off 2).k2, .slice (some ⟨g, 0, none⟩) L c] 43 (0, 0)) := by rw [hw5]; exact heap_set_same b4 _ _
         rw [← hw5]
         obtain ⟨sq, hsq⟩ : ∃ x, s.off 2 = x := ⟨_, rfl⟩
         rw [hsq] at b6)
      have HSQ := hid hsq
      have v1' := (u5.cell (p := ⟨w.heap.size, 1, none⟩) (by have := lt_of_cell v1; exact this) hpp).trans v1
      have f1' := (u5.cell (p := ⟨p, 1, none⟩) (by have := lt_of_cell f1; exact this) hpq).trans f1
      have HU5 := hid u5
      have HH5 : Hid (MT F w5.drew p bm bs n Q { M with b := upd M.b k none }) := (HH4.out.up u5 (fun j hj e => by have e : j = ps := e; have := hFw j hj; omega)).nxt (Up.refl _ _).drew
      have hloc : sq.locs = s.locs := by rw [← hsq]; rfl
      obtain ⟨w6, hput, h6, u6⟩ := HH5.out.putS HNN.out HXX.out sq (.slice (some ⟨g, 0, none⟩) L c) (by
        obtain ⟨g1, c1, e1, e2, e3⟩ := HH5.out.row xi s HSS.out
        refine ⟨g, c, by rw [hloc, LL.out], hF, ?_⟩
        rw [HQQ.out, LL.out] at e3
        rw [hloc]
        exact e3) (fun j s' hj hne => by
        have := HH5.out.dis xi j s s' HSS.out hj hne
        rw [HQQ.out] at this
        exact this)
      have HB6 := hid b6
      have g0' : w5.cell? ⟨ps, 0, none⟩ = some (.int .i64 sq.kind) := by simp [World.cell?, b6]
      have g1' : w5.cell? ⟨ps, 1, none⟩ = some (.int .i64 sq.colour) := by simp [World.cell?, b6]
      have g2' : w5.cell? ⟨ps, 2, none⟩ = some (.string sq.k0) := by simp [World.cell?, b6]
      have g3' : w5.cell? ⟨ps, 3, none⟩ = some (.string sq.k1) := by simp [World.cell?, b6]
      have g4' : w5.cell? ⟨ps, 4, none⟩ = some (.string sq.k2) := by simp [World.cell?, b6]
      have g5' : w5.cell? ⟨ps, 5, none⟩ = some (.slice (some ⟨g, 0, none⟩) L c) := by simp [World.cell?, b6]
      clear hsq hw5 u5 b6 v1 f0 f1 f2 g0 g1 g2 g3 g4 g5 q2 q3 q4 v2 b5 b4 z4
      have HH6 := hid h6
      have HU6 := hid u6
      clear h6 u6 hloc
      have HPUT := hid hput
      clear hput
      go_still_tail 7, (by kernel_rfl)
      change wpList _ _ _ _ _ w5.drew
      refine wpList_put_eqv rfl _ _ _ _ rfl _ _ _ rfl rfl rfl HPUT.out ?_
      have f1'' := HH6.out.cells.2.1
      have v1'' := (HU6.out.cell (p := ⟨w.heap.size, 1, none⟩) (by have := lt_of_cell v1'; exact this) (fun e => by have e : w.heap.size = bs := e; have := hFw _ HH6.out.fs; omega)).trans v1'
      have b7 := (HU6.out.block ps (by have := lt_of_cell g0'; exact this) (fun e => by have e : ps = bs := e; have := hFw _ HH6.out.fs; omega)).trans HB6.out
      have k2 : w6.cell? ⟨ps, 2, none⟩ = some (.string sq.k0) := by simp [World.cell?, b7]
      have k3 : w6.cell? ⟨ps, 3, none⟩ = some (.string sq.k1) := by simp [World.cell?, b7]
      have k4 : w6.cell? ⟨ps, 4, none⟩ = some (.string sq.k2) := by simp [World.cell?, b7]
      have heq : ∀ W : World, (binOp .eql 41 (.agg #[.string sq.k0, .string sq.k1, .string sq.k2]) (.agg #[.string ⟨#[]⟩, .string ⟨#[]⟩, .string ⟨#[]⟩])).run Tryd.prog W = .ok (.bool sq.dead) W := fun W => eq3 _ _ _ W
      clear g0' g1' g2' g3' g4' g5' f1' v1' b7
      obtain ⟨w7, hdelS, h7, u7⟩ := (HH6.out.nxt (Up.refl _ _).drew).delS HXX.out 0
      have HH7 := hid h7
      have HU7 := hid u7
      have HDS := hid hdelS
      clear h7 u7 hdelS
      have HUA : Hid (Up (Two bm bs) w w6) := (((HU.out.mono (fun _ _ e => .inl e)).thn HU4.out (fun _ e => e.elim)).thn HU5.out (fun j e => .inr (by have e : j = ps := e; omega))).thn (((Up.refl (fun k => k = bs) w5).drew).trans HU6.out) (fun j e => .inl (.inr e))
      cases hdd : sq.dead with
      | true =>
        have HDD := hid hdd
        rw [hdd] at heq
        clear hdd
        go_wp2
        go_still_tail 6, (by kernel_rfl)
        change wpList _ _ _ _ _ w6.drew
        refine wpList_del_eqv rfl _ _ _ _ rfl _ _ rfl rfl HDS.out ?_
        go_wp2
        go_ret
        rw [← HR.out]
        refine ⟨rfl, ⟨upd Q xi (.slice (some ⟨g, 0, none⟩) L c), ?_⟩, HUA.out.thn (Up.trans (Up.drew (Up.refl (fun k => k = bs) w6)) HU7.out) (fun j e => .inl (.inr e))⟩
        have e7 := HH7.out
        rw [upd_upd] at e7
        rw [HSQ.out, HDD.out]
        exact e7
      | false =>
        have HDD := hid hdd
        rw [hdd] at heq
        clear hdd
        go_wp2
        go_ret
        rw [← HR.out]
        refine ⟨rfl, ⟨upd Q xi (.slice (some ⟨g, 0, none⟩) L c), ?_⟩, HUA.out⟩
        have e6 := HH6.out
        rw [HSQ.out, HDD.out]
        exact e6
end
end Go.Proofs.YtmhmlfgikmeejaaDoor
