/- 'split'. -/
import Derived.Test.YtepggchnhgpcnaaGreatDoorPkTidy
import Derived.Test.YtepggchnhgpcnaaGreatDoorPz12
namespace Go.Proofs.YtepggchnhgpcnaaGreatDoor
open Go.RowKit Go.Maps
set_option linter.unusedVariables false
theorem nz_liv {s : St} {z0 z1 z2 : Int} (h : ∀ j, j < 3 → badP s [z0, z1, z2] j = false) : nz [z0, z1, z2] = liv s 0 := by
 have h0 : (decide (s.key 0 = noK) != decide (z0 = 0)) = false := h 0 (by omega)
 have h1 : (decide (s.key 1 = noK) != decide (z1 = 0)) = false := h 1 (by omega)
 have h2 : (decide (s.key 2 = noK) != decide (z2 = 0)) = false := h 2 (by omega)
 unfold liv
 by_cases a0 : s.key 0 = noK <;> by_cases a1 : s.key 1 = noK <;> by_cases a2 : s.key 2 = noK <;> by_cases b0 : z0 = 0 <;> by_cases b1 : z1 = 0 <;> by_cases b2 : z2 = 0 <;> simp_all [nz]
theorem rowI_at {w : World} {g o : Nat} {z : Int} {zs : List Int} (h : RowI w (some ⟨g, o, none⟩) (z :: zs)) : ∀ i x, (z :: zs)[i]? = some x → w.cell? ⟨g, o + i, none⟩ = some (.int .i64 x) := by
 rcases h with e | ⟨g', o', e, _, h⟩
 ·cases e
 ·injection e with e
  injection e with e1 e2
  subst e1 e2
  exact h
section
variable {F : Nat → Prop} {w : World} {p bm bs n : Nat} {Q : Int → Value} {M : MM}
set_option maxRecDepth 10000 in
set_option maxHeartbeats 8000000 in
theorem split_any (h : MT F w p bm bs n Q M) (hFw : ∀ k, F k → k < w.heap.size) (hI : M.Inv3) (r : Rc) (z0 z1 z2 : Int) (hzs : r.sids = [z0, z1, z2]) (sa la : Option Addr) (sc lc : Nat) (hrs : RowI w sa [z0, z1, z2]) (hrl : RowL w la r.locs) (hsc : 3 ≤ sc ∧ (sc : Int) ≤ 9223372036854775807) (hz : ∀ z ∈ r.sids, 0 ≤ z ∧ z ≤ 2147483647) (hlc : r.locs.length ≤ lc ∧ (lc : Int) ≤ 9223372036854775807) (hll : r.locs.length = 2 * nz r.sids) (hs : 0 ≤ r.sid ∧ r.sid ≤ 2147483647) (hn : n ≤ 50000) :
  Calls Tryz.prog 69 #[.pointer (some ⟨p, 0, none⟩), rv r (.slice sa 3 sc) (.slice la r.locs.length lc)] w fun e w' => e = .returned (.int .i64 (M.split r).1) ∧
   (∃ Q', MT (Gr F w w') w' p bm bs (n + 12) Q' (M.split r).2) ∧ Up (Two bm bs) w w' := by
 obtain ⟨w1, hw1⟩ : ∃ W, W = w.alloc (.cells #[.int .i64 r.kind, .string r.key, .int .i64 r.n, .int .i64 r.sid, .slice sa 3 sc, .int .i64 r.colour, .slice la r.locs.length lc, .int .i64 r.t.hot, .int .i64 r.t.warm, .int .i64 r.t.gap, .int .i64 r.t.add, .int .i64 r.t.top, .int .i64 r.t.half] 28) := ⟨_, rfl⟩
 have u1 : Up Nul w w1 := by rw [hw1]; exact (Up.refl _ _).alloc _
 have b1 : w1.heap[w.heap.size]? = some (.cells #[.int .i64 r.kind, .string r.key, .int .i64 r.n, .int .i64 r.sid, .slice sa 3 sc, .int .i64 r.colour, .slice la r.locs.length lc, .int .i64 r.t.hot, .int .i64 r.t.warm, .int .i64 r.t.gap, .int .i64 r.t.add, .int .i64 r.t.top, .int .i64 r.t.half] 28 (0, 0)) := by rw [hw1]; exact heap_alloc_new _ _
 have HZ1 : Hid (w1.heap.size = w.heap.size + 1) := by show _ = _; rw [hw1]; exact World.size_alloc _ _
 have HB1 := hid b1
 have g3 : w1.cell? ⟨w.heap.size, 3, none⟩ = some (.int .i64 r.sid) := by simp [World.cell?, b1]
 have HH := hid (h.nxt u1)
 have HLT : Hid (∀ k, F k → k < w.heap.size) := hFw
 have HU1 := hid u1
 have HRS := hid (hrs.nxt u1)
 have HRL := hid (hrl.nxt u1)
 have HSC := hid hsc
 have HLC := hid hlc
 have HZZ : Hid ((0 ≤ z0 ∧ z0 ≤ 2147483647) ∧ (0 ≤ z1 ∧ z1 ≤ 2147483647) ∧ (0 ≤ z2 ∧ z2 ≤ 2147483647)) := by
  rw [hzs] at hz
  exact ⟨hz _ (by simp), hz _ (by simp), hz _ (by simp)⟩
 have HLL : Hid (r.locs.length = 2 * nz [z0, z1, z2]) := by rw [← hzs]; exact hll
 have HZS := hid hzs
 have HS := hid hs
 have HN := hid hn
 have HI := hid hI
 obtain ⟨R, HR⟩ : ∃ R, Hid (M.split r = R) := ⟨_, rfl⟩
 rw [HR.out]
 obtain ⟨nl, NL⟩ : ∃ x, Hid (r.locs.length = x) := ⟨_, rfl⟩
 rw [NL.out] at hw1 HB1 HLC ⊢
 show Calls Tryz.prog 69 #[.pointer (some ⟨p, 0, none⟩), .agg #[.int .i64 r.kind, .string r.key, .int .i64 r.n, .int .i64 r.sid, .slice sa 3 sc, .int .i64 r.colour, .slice la nl lc, .int .i64 r.t.hot, .int .i64 r.t.warm, .int .i64 r.t.gap, .int .i64 r.t.add, .int .i64 r.t.top, .int .i64 r.t.half]] w _
 obtain ⟨c0, c1, _⟩ := HH.out.cells
 have HBM : Hid (∀ k, F k → k ≠ w.heap.size) := fun k hk e => by have := hFw k hk; omega
 have hlk0 : ∀ W, Up Nul w1 W → _ := fun W u => (HH.out.nxt u).ms.look2 Tryz.underlying56 (zero_st _) (wfI hs.1 hs.2)
 have uA : Up Nul w1 (w1.alloc (.cells #[.int .i64 0, .int .i64 0, .string ⟨#[]⟩, .string ⟨#[]⟩, .string ⟨#[]⟩, .slice none 0 0] 46)) := (Up.refl _ _).alloc _
 obtain ⟨e0, e1, _⟩ := (HH.out.nxt uA).cells
 have gA := (uA.cell (p := ⟨w.heap.size, 3, none⟩) (by have := lt_of_cell g3; exact this) id).trans g3
 obtain ⟨pz, PZ⟩ : ∃ x, Hid (w.heap.size = x) := ⟨_, rfl⟩
 clear h hFw hrs hrl hsc hlc hz hll hs hn hI u1 b1 hzs
 go_enter Tryz.func69, Tryz.ntmps69
 cases hsz : M.s r.sid with
 | none =>
  have hlk : ∀ W, Up Nul w1 W → (Instr.lookup 56 (.map (some bs)) (.int .i64 r.sid) true).run Tryz.prog W = .ok (.tuple #[.agg #[.int .i64 0, .int .i64 0, .string ⟨#[]⟩, .string ⟨#[]⟩, .string ⟨#[]⟩, .slice none 0 0], .bool false]) W := fun W u => by
   have := hlk0 W u
   rw [hsz] at this
   simp only [Option.map_none, Option.getD_none, Option.isSome_none] at this
   exact this
  have HE : Hid (R = (11, M)) := by
   show R = _
   rw [← HR.out]
   unfold MM.split
   rw [hsz]
  clear hsz hlk0
  have lA := hlk _ (uA.drew)
  have lB := hlk _ ((Up.refl Nul w1).drew)
  clear hlk
  go_wp2_with fail
  rw [← hw1]
  clear hw1
  rw [PZ.out] at g3 gA ⊢
  go_region
  all_goals
   have u2 : Up Nul w1 (w1.alloc (.cells #[.int .i64 0, .int .i64 0, .string ⟨#[]⟩, .string ⟨#[]⟩, .string ⟨#[]⟩, .slice none 0 0] 46)).drew := ((Up.refl _ _).alloc _).drew
   have b2 : (w1.alloc (.cells #[.int .i64 0, .int .i64 0, .string ⟨#[]⟩, .string ⟨#[]⟩, .string ⟨#[]⟩, .slice none 0 0] 46)).drew.heap[w1.heap.size]? = some (.cells #[.int .i64 0, .int .i64 0, .string ⟨#[]⟩, .string ⟨#[]⟩, .string ⟨#[]⟩, .slice none 0 0] 46 (0, 0)) := heap_alloc_new w1 _
   have z2 : (w1.alloc (.cells #[.int .i64 0, .int .i64 0, .string ⟨#[]⟩, .string ⟨#[]⟩, .string ⟨#[]⟩, .slice none 0 0] 46)).drew.heap.size = w1.heap.size + 1 := World.size_alloc _ _
   generalize (w1.alloc (.cells #[.int .i64 0, .int .i64 0, .string ⟨#[]⟩, .string ⟨#[]⟩, .string ⟨#[]⟩, .slice none 0 0] 46)).drew = w2 at u2 b2 z2 ⊢
   obtain ⟨pw, PW⟩ : ∃ x, Hid (w1.heap.size = x) := ⟨_, rfl⟩
   rw [PW.out] at b2 z2 ⊢
   have HU2 := hid u2
   have HB2 := hid b2
   have HPW : Hid (pz + 1 = pw ∧ w2.heap.size = pw + 1) := by rw [← PW.out, ← PZ.out]; exact ⟨HZ1.out.symm, by rw [z2, PW.out]⟩
   clear u2 b2 z2 lA lB e0 e1 gA g3 c0 c1
  all_goals
   go_wp2
   go_ret
   rw [HE.out]
   exact ⟨rfl, ⟨Q, ((HH.out.nxt HU2.out).wide fun k hk => .inl hk).mono (by omega)⟩, (HU1.out.trans HU2.out).nul⟩
 | some s =>
  obtain ⟨g, c, hq, hF, ho⟩ := HH.out.row r.sid s hsz
  obtain ⟨sl, SL⟩ : ∃ x, Hid (s.locs.length = x) := ⟨_, rfl⟩
  have hlk : ∀ W, Up Nul w1 W → (Instr.lookup 56 (.map (some bs)) (.int .i64 r.sid) true).run Tryz.prog W = .ok (.tuple #[.agg #[.int .i64 s.kind, .int .i64 s.colour, .string s.k0, .string s.k1, .string s.k2, .slice (some ⟨g, 0, none⟩) sl c], .bool true]) W := fun W u => by
   have := hlk0 W u
   rw [hsz] at this
   simp only [Option.map_some, Option.getD_some, Option.isSome_some, hq, stv, SL.out] at this
   exact this
  have HSZ := hid hsz
  have HO : Hid (OwnLo 0 w1 (.slice (some ⟨g, 0, none⟩) sl c) s.locs) := by rw [hq, SL.out] at ho; exact ho
  have HQ := hid hq
  have HF := hid hF
  clear hsz hq ho hF hlk0
  have lA := hlk _ (uA.drew)
  have lB := hlk _ ((Up.refl Nul w1).drew)
  clear hlk
  go_wp2_with fail
  rw [← hw1]
  clear hw1
  rw [PZ.out] at g3 gA ⊢
  go_region
  all_goals
   have u2 : Up Nul w1 (w1.alloc (.cells #[.int .i64 s.kind, .int .i64 s.colour, .string s.k0, .string s.k1, .string s.k2, .slice (some ⟨g, 0, none⟩) sl c] 46)).drew := ((Up.refl _ _).alloc _).drew
   have b2 : (w1.alloc (.cells #[.int .i64 s.kind, .int .i64 s.colour, .string s.k0, .string s.k1, .string s.k2, .slice (some ⟨g, 0, none⟩) sl c] 46)).drew.heap[w1.heap.size]? = some (.cells #[.int .i64 s.kind, .int .i64 s.colour, .string s.k0, .string s.k1, .string s.k2, .slice (some ⟨g, 0, none⟩) sl c] 46 (0, 0)) := heap_alloc_new w1 _
   have z2 : (w1.alloc (.cells #[.int .i64 s.kind, .int .i64 s.colour, .string s.k0, .string s.k1, .string s.k2, .slice (some ⟨g, 0, none⟩) sl c] 46)).drew.heap.size = w1.heap.size + 1 := World.size_alloc _ _
   generalize (w1.alloc (.cells #[.int .i64 s.kind, .int .i64 s.colour, .string s.k0, .string s.k1, .string s.k2, .slice (some ⟨g, 0, none⟩) sl c] 46)).drew = w2 at u2 b2 z2 ⊢
   obtain ⟨pw, PW⟩ : ∃ x, Hid (w1.heap.size = x) := ⟨_, rfl⟩
   rw [PW.out] at b2 z2 ⊢
   have HU2 := hid u2
   have HB2 := hid b2
   have HPW : Hid (pz + 1 = pw ∧ w2.heap.size = pw + 1) := by rw [← PW.out, ← PZ.out]; exact ⟨HZ1.out.symm, by rw [z2, PW.out]⟩
   clear u2 b2 z2 lA lB e0 e1 gA g3 c0 c1
  all_goals
   have s0 : w2.cell? ⟨pw, 0, none⟩ = some (.int .i64 s.kind) := by have := HB2.out; simp [World.cell?, this]
   by_cases hk3 : s.kind = 3
   ·have k1 : (s.kind != 3) = false := by simp [hk3]
    have s2 : w2.cell? ⟨pw, 2, none⟩ = some (.string s.k0) := by have := HB2.out; simp [World.cell?, this]
    have s3 : w2.cell? ⟨pw, 3, none⟩ = some (.string s.k1) := by have := HB2.out; simp [World.cell?, this]
    have s4 : w2.cell? ⟨pw, 4, none⟩ = some (.string s.k2) := by have := HB2.out; simp [World.cell?, this]
    have HK3 := hid hk3
    clear hk3
    go_wp2_with fail
    obtain ⟨gz, oz, rfl, hgz, hcz0⟩ := (HRS.out.nxt HU2.out).resolve_left (fun e => by cases e)
    have HCZ := hid hcz0
    clear hcz0 s0 k1 s2 s3 s4
    have z4 : w2.cell? ⟨pz, 4, none⟩ = some (.slice (some ⟨gz, oz, none⟩) 3 sc) := by
     have := (HU2.out.block pz (by rw [← PZ.out]; exact (Array.getElem?_eq_some_iff.1 HB1.out).1) id).trans (PZ.out ▸ HB1.out)
     simp [World.cell?, this]
    have i3 : (3 : Int) ≤ (sc : Int) := by have := HSC.out.1; omega
    go_loopw [32] (fun i wr => ∃ t : Nat, t ≤ 3 ∧ i = .int .i64 (t : Nat) ∧ Hid (wr = w2) ∧ ∀ j, j < t → badP s [z0, z1, z2] j = false) (fun i _ => 3 - (intOf i).toNat)
    case atStart => exact ⟨0, by omega, rfl, hid rfl, fun j hj => by omega⟩
    case round =>
     obtain ⟨t, ht, rfl, hww, hj⟩ := hrel
     obtain rfl := hww.out.symm
     have HJ := hid hj
     have hcz := HCZ.out
     clear hj
     obtain rfl | rfl | rfl | rfl : t = 0 ∨ t = 1 ∨ t = 2 ∨ t = 3 := by omega
     ·have x1 : w2.cell? ⟨gz, oz, none⟩ = some (.int .i64 z0) := hcz 0 _ rfl
      have hix : (Instr.index 44 (.agg #[.string s.k0, .string s.k1, .string s.k2]) (.int .i64 0)).run Tryz.prog w2 = .ok (.string s.k0) w2 := by kernel_rfl
      clear hcz
      by_cases hx : s.k0 = noK
      ·have ex : s.k0.toList.isEmpty = true := by rw [hx]; exact nok_e
       by_cases hzx : z0 = 0
       ·have ez : (z0 == 0) = true := by simp [hzx]
        have HOK : Hid (badP s [z0, z1, z2] 0 = false) := by
         show (decide (s.k0 = noK) != decide (z0 = 0)) = false
         rw [decide_eq_true hx, decide_eq_true hzx]; rfl
        clear hx hzx
        go_wp2
        go_roundw
        case rel => exact ⟨1, by omega, by go_num, by first | exact hid rfl | exact hid trivial, fun j hj => by
         by_cases e : j = 0
         ·rw [e]; exact HOK.out
         ·exact HJ.out j (by omega)⟩
        case measure => simp [intOf]
       ·have ez : (z0 == 0) = false := by simp [hzx]
        have HE : Hid (R = (1, M)) := HR.out.symm.trans (split_bad HZS.out HSZ.out HK3.out (t := 0) (by omega) (by
         show (decide (s.k0 = noK) != decide (z0 = 0)) = true
         rw [decide_eq_true hx, decide_eq_false hzx]; rfl))
        clear hx hzx
        go_wp2
        go_ret
        rw [HE.out]
        exact ⟨rfl, ⟨Q, (((HH.out.nxt HU2.out).wide fun k hk => .inl hk).mono (by omega))⟩, (HU1.out.trans HU2.out).nul⟩
      ·have ex : s.k0.toList.isEmpty = false := str_ne hx
       by_cases hzx : z0 = 0
       ·have ez : (z0 == 0) = true := by simp [hzx]
        have HE : Hid (R = (1, M)) := HR.out.symm.trans (split_bad HZS.out HSZ.out HK3.out (t := 0) (by omega) (by
         show (decide (s.k0 = noK) != decide (z0 = 0)) = true
         rw [decide_eq_false hx, decide_eq_true hzx]; rfl))
        clear hx hzx
        go_wp2
        go_ret
        rw [HE.out]
        exact ⟨rfl, ⟨Q, (((HH.out.nxt HU2.out).wide fun k hk => .inl hk).mono (by omega))⟩, (HU1.out.trans HU2.out).nul⟩
       ·have ez : (z0 == 0) = false := by simp [hzx]
        have HOK : Hid (badP s [z0, z1, z2] 0 = false) := by
         show (decide (s.k0 = noK) != decide (z0 = 0)) = false
         rw [decide_eq_false hx, decide_eq_false hzx]; rfl
        clear hx hzx
        go_wp2
        go_roundw
        case rel => exact ⟨1, by omega, by go_num, by first | exact hid rfl | exact hid trivial, fun j hj => by
         by_cases e : j = 0
         ·rw [e]; exact HOK.out
         ·exact HJ.out j (by omega)⟩
        case measure => simp [intOf]
     ·have x1 : w2.cell? ⟨gz, oz + 1, none⟩ = some (.int .i64 z1) := hcz 1 _ rfl
      have hix : (Instr.index 44 (.agg #[.string s.k0, .string s.k1, .string s.k2]) (.int .i64 1)).run Tryz.prog w2 = .ok (.string s.k1) w2 := by kernel_rfl
      clear hcz
      by_cases hx : s.k1 = noK
      ·have ex : s.k1.toList.isEmpty = true := by rw [hx]; exact nok_e
       by_cases hzx : z1 = 0
       ·have ez : (z1 == 0) = true := by simp [hzx]
        have HOK : Hid (badP s [z0, z1, z2] 1 = false) := by
         show (decide (s.k1 = noK) != decide (z1 = 0)) = false
         rw [decide_eq_true hx, decide_eq_true hzx]; rfl
        clear hx hzx
        go_wp2
        go_roundw
        case rel => exact ⟨2, by omega, by go_num, by first | exact hid rfl | exact hid trivial, fun j hj => by
         by_cases e : j = 1
         ·rw [e]; exact HOK.out
         ·exact HJ.out j (by omega)⟩
        case measure => simp [intOf]
       ·have ez : (z1 == 0) = false := by simp [hzx]
        have HE : Hid (R = (1, M)) := HR.out.symm.trans (split_bad HZS.out HSZ.out HK3.out (t := 1) (by omega) (by
         show (decide (s.k1 = noK) != decide (z1 = 0)) = true
         rw [decide_eq_true hx, decide_eq_false hzx]; rfl))
        clear hx hzx
        go_wp2
        go_ret
        rw [HE.out]
        exact ⟨rfl, ⟨Q, (((HH.out.nxt HU2.out).wide fun k hk => .inl hk).mono (by omega))⟩, (HU1.out.trans HU2.out).nul⟩
      ·have ex : s.k1.toList.isEmpty = false := str_ne hx
       by_cases hzx : z1 = 0
       ·have ez : (z1 == 0) = true := by simp [hzx]
        have HE : Hid (R = (1, M)) := HR.out.symm.trans (split_bad HZS.out HSZ.out HK3.out (t := 1) (by omega) (by
         show (decide (s.k1 = noK) != decide (z1 = 0)) = true
         rw [decide_eq_false hx, decide_eq_true hzx]; rfl))
        clear hx hzx
        go_wp2
        go_ret
        rw [HE.out]
        exact ⟨rfl, ⟨Q, (((HH.out.nxt HU2.out).wide fun k hk => .inl hk).mono (by omega))⟩, (HU1.out.trans HU2.out).nul⟩
       ·have ez : (z1 == 0) = false := by simp [hzx]
        have HOK : Hid (badP s [z0, z1, z2] 1 = false) := by
         show (decide (s.k1 = noK) != decide (z1 = 0)) = false
         rw [decide_eq_false hx, decide_eq_false hzx]; rfl
        clear hx hzx
        go_wp2
        go_roundw
        case rel => exact ⟨2, by omega, by go_num, by first | exact hid rfl | exact hid trivial, fun j hj => by
         by_cases e : j = 1
         ·rw [e]; exact HOK.out
         ·exact HJ.out j (by omega)⟩
        case measure => simp [intOf]
     ·have x1 : w2.cell? ⟨gz, oz + 2, none⟩ = some (.int .i64 z2) := hcz 2 _ rfl
      have hix : (Instr.index 44 (.agg #[.string s.k0, .string s.k1, .string s.k2]) (.int .i64 2)).run Tryz.prog w2 = .ok (.string s.k2) w2 := by kernel_rfl
      clear hcz
      by_cases hx : s.k2 = noK
      ·have ex : s.k2.toList.isEmpty = true := by rw [hx]; exact nok_e
       by_cases hzx : z2 = 0
       ·have ez : (z2 == 0) = true := by simp [hzx]
        have HOK : Hid (badP s [z0, z1, z2] 2 = false) := by
         show (decide (s.k2 = noK) != decide (z2 = 0)) = false
         rw [decide_eq_true hx, decide_eq_true hzx]; rfl
        clear hx hzx
        go_wp2
        go_roundw
        case rel => exact ⟨3, by omega, by go_num, by first | exact hid rfl | exact hid trivial, fun j hj => by
         by_cases e : j = 2
         ·rw [e]; exact HOK.out
         ·exact HJ.out j (by omega)⟩
        case measure => simp [intOf]
       ·have ez : (z2 == 0) = false := by simp [hzx]
        have HE : Hid (R = (1, M)) := HR.out.symm.trans (split_bad HZS.out HSZ.out HK3.out (t := 2) (by omega) (by
         show (decide (s.k2 = noK) != decide (z2 = 0)) = true
         rw [decide_eq_true hx, decide_eq_false hzx]; rfl))
        clear hx hzx
        go_wp2
        go_ret
        rw [HE.out]
        exact ⟨rfl, ⟨Q, (((HH.out.nxt HU2.out).wide fun k hk => .inl hk).mono (by omega))⟩, (HU1.out.trans HU2.out).nul⟩
      ·have ex : s.k2.toList.isEmpty = false := str_ne hx
       by_cases hzx : z2 = 0
       ·have ez : (z2 == 0) = true := by simp [hzx]
        have HE : Hid (R = (1, M)) := HR.out.symm.trans (split_bad HZS.out HSZ.out HK3.out (t := 2) (by omega) (by
         show (decide (s.k2 = noK) != decide (z2 = 0)) = true
         rw [decide_eq_false hx, decide_eq_true hzx]; rfl))
        clear hx hzx
        go_wp2
        go_ret
        rw [HE.out]
        exact ⟨rfl, ⟨Q, (((HH.out.nxt HU2.out).wide fun k hk => .inl hk).mono (by omega))⟩, (HU1.out.trans HU2.out).nul⟩
       ·have ez : (z2 == 0) = false := by simp [hzx]
        have HOK : Hid (badP s [z0, z1, z2] 2 = false) := by
         show (decide (s.k2 = noK) != decide (z2 = 0)) = false
         rw [decide_eq_false hx, decide_eq_false hzx]; rfl
        clear hx hzx
        go_wp2
        go_roundw
        case rel => exact ⟨3, by omega, by go_num, by first | exact hid rfl | exact hid trivial, fun j hj => by
         by_cases e : j = 2
         ·rw [e]; exact HOK.out
         ·exact HJ.out j (by omega)⟩
        case measure => simp [intOf]
     ·have HM2 := hid (HH.out.nxt HU2.out)
      obtain ⟨d0, d1, _⟩ := HM2.out.cells
      have bz2 := (HU2.out.block pz (by rw [← PZ.out]; exact (Array.getElem?_eq_some_iff.1 HB1.out).1) id).trans (PZ.out ▸ HB1.out)
      have q3 : w2.cell? ⟨pz, 3, none⟩ = some (.int .i64 r.sid) := by simp [World.cell?, bz2]
      obtain ⟨w3, hdel, h3, u3'⟩ := (HM2.out.nxt (Up.refl _ _).drew).delS (wfI HS.out.1 HS.out.2) 0
      have u3 : Up (fun k => k = bs) w2 w3 := Up.trans (Up.drew (Up.refl _ w2)) u3'
      have HDEL := hid hdel
      have hnz : pz ≠ bs := fun e => HBM.out bs HH.out.fs (by rw [PZ.out, e])
      have hnw : pw ≠ bs := fun e => by have h1 := HLT.out bs HH.out.fs; have h2 := HPW.out; have h3 := PZ.out; omega
      have bz3 := (u3.block pz (Array.getElem?_eq_some_iff.1 bz2).1 hnz).trans bz2
      have bw3 := (u3.block pw (Array.getElem?_eq_some_iff.1 HB2.out).1 hnw).trans HB2.out
      have q4 : w3.cell? ⟨pz, 4, none⟩ = some (.slice (some ⟨gz, oz, none⟩) 3 sc) := by simp [World.cell?, bz3]
      have q6 : w3.cell? ⟨pz, 6, none⟩ = some (.slice la nl lc) := by simp [World.cell?, bz3]
      have e2 : w3.cell? ⟨pw, 2, none⟩ = some (.string s.k0) := by simp [World.cell?, bw3]
      have e3 : w3.cell? ⟨pw, 3, none⟩ = some (.string s.k1) := by simp [World.cell?, bw3]
      have e4 : w3.cell? ⟨pw, 4, none⟩ = some (.string s.k2) := by simp [World.cell?, bw3]
      have HBZ3 := hid bz3
      have HBW3 := hid bw3
      have HM3 := hid h3
      have HU3 : Hid (Up (Two bm bs) w w3) := (HU1.out.trans HU2.out).nul.trans (u3.mono fun _ _ e => .inr e)
      have HRI3 : Hid (RowI w3 (some ⟨gz, oz, none⟩) [z0, z1, z2]) := rowI_two HM2.out.maps (.inr ⟨gz, oz, rfl, hgz, HCZ.out⟩) (u3.mono fun _ _ e => .inr e)
      have HRL3 : Hid (RowL w3 la r.locs) := rowL_two HM2.out.maps (HRL.out.nxt HU2.out) (u3.mono fun _ _ e => .inr e)
      have HO3 : Hid (OwnLo 0 w3 (.slice (some ⟨g, 0, none⟩) sl c) s.locs) := lo_up (lo_up HO.out HU2.out (fun _ _ => id)) u3 (fun k hk e => (HH.out.rm HSZ.out).2 (by rw [HQ.out, ← e, ← hk]; rfl))
      clear hcz ht d0 h3 u3 u3' bz2 bz3 bw3 hnz hnw z4 i3 hdel hgz uA
      go_wp2_with fail
      go_still_tail 6, (by kernel_rfl)
      change wpList _ _ _ _ _ w2.drew
      refine wpList_del_eqv rfl _ _ _ _ rfl _ _ rfl rfl HDEL.out ?_
      clear d1 q3 HDEL
      go_wp2_with fail
      obtain ⟨M0, HM0⟩ : ∃ X, Hid (({ M with s := upd M.s r.sid none } : MM) = X) := ⟨_, rfl⟩
      rw [HM0.out] at HM3
      have H16 : Hid (s.locs.length = 16) := by
       have h1 := (HI.out.s _ s HSZ.out).2.1.locs
       rw [HK3.out] at h1
       exact h1
      obtain rfl : sl = 16 := SL.out.symm.trans H16.out
      have HKS : Hid (∀ t, (s.key t).size ≤ 100000) := (Inv3.two HI.out).s _ _ HSZ.out
      have HCP : Hid (16 ≤ c ∧ (c : Int) ≤ 9223372036854775807) := by
       rcases HO.out.2 with ⟨e, _⟩ | ⟨g', c', cur, e, _, _, e4, e5, _⟩
       ·cases e
       ·injection e with _ _ e
        subst e
        unfold maxLen at e5
        exact ⟨by rw [H16.out] at e4; exact e4, by omega⟩
      have HRR : Hid (RowL w3 (some ⟨g, 0, none⟩) s.locs) := by
       obtain ⟨a, c', e, h⟩ := HO3.out.row
       injection e with e
       rw [e]; exact h
      have HNB : Hid (¬ Two bm bs pz ∧ ¬ Two bm bs pw) := by
       have h1 := HLT.out bs HH.out.fs; have h2 := HLT.out bm HH.out.fm; have h3 := HPW.out; have h4 := PZ.out
       exact ⟨fun e => by rcases e with e | e <;> omega, fun e => by rcases e with e | e <;> omega⟩
      have HC : Hid (∀ V, Up (Two bm bs) w3 V → V.cell? ⟨pz, 4, none⟩ = some (.slice (some ⟨gz, oz, none⟩) 3 sc) ∧ V.cell? ⟨pw, 5, none⟩ = some (.slice (some ⟨g, 0, none⟩) 16 c) ∧ (∀ i x, [z0, z1, z2][i]? = some x → V.cell? ⟨gz, oz + i, none⟩ = some (.int .i64 x)) ∧ RowL V (some ⟨g, 0, none⟩) s.locs) := fun V u => by
       have b1 := (u.block pz (Array.getElem?_eq_some_iff.1 HBZ3.out).1 HNB.out.1).trans HBZ3.out
       have b2 := (u.block pw (Array.getElem?_eq_some_iff.1 HBW3.out).1 HNB.out.2).trans HBW3.out
       exact ⟨by simp [World.cell?, b1], by simp [World.cell?, b2], rowI_at (rowI_two HM3.out.maps HRI3.out u), rowL_two HM3.out.maps HRR.out u⟩
      have HG0 : Hid (SpI F w w3 w3 p bm bs n M0 s [z0, z1, z2] r.locs 0 la nl lc) := ⟨⟨Q, (HM3.out.wide fun k hk => .inl hk).mono (by omega)⟩, Up.refl _ _, HRL3.out, NL.out, by rw [← nz_liv HJ.out, ← NL.out]; exact HLL.out, HLC.out⟩
      have HRR2 : Hid (R = (0, (spl s [z0, z1, z2] M0 r.locs 3).1)) := by show R = _; rw [← HR.out, split_ok HZS.out HSZ.out HK3.out HJ.out, HM0.out]
      have j1 : (16 : Int) ≤ (c : Int) := by have := HCP.out; omega
      have j2 : (c : Int) ≤ 9223372036854775807 := HCP.out.2
      have j3 : (3 : Int) ≤ (sc : Int) := by have := HSC.out.1; omega
      clear q4 q6 e2 e3 e4
      go_loopw [10, 57] (fun v i wr => ∃ t : Nat, t ≤ 3 ∧ i = .int .i64 (t : Nat) ∧ ∃ pa pl pc, v = .slice pa pl pc ∧ SpI F w w3 wr p bm bs n M0 s [z0, z1, z2] r.locs t pa pl pc) (fun _ i _ => 3 - (intOf i).toNat)
      case atStart => exact ⟨0, by omega, rfl, la, nl, lc, rfl, HG0.out⟩
      case round =>
       obtain ⟨t, ht, rfl, pa, pl, pc, rfl, hg⟩ := hrel
       obtain rfl | rfl | rfl | rfl : t = 0 ∨ t = 1 ∨ t = 2 ∨ t = 3 := by omega
       ·have HG := hid hg
        have HUP := hid hg.up
        obtain ⟨y4, y5, yz, yr⟩ := HC.out _ hg.up
        have x1 : wr.cell? ⟨gz, oz, none⟩ = some (.int .i64 z0) := yz 0 _ rfl
        have hix : (Instr.index 44 (.agg #[.string s.k0, .string s.k1, .string s.k2]) (.int .i64 0)).run Tryz.prog wr = .ok (.string s.k0) wr := by kernel_rfl
        clear yz
        by_cases hx : s.k0 = noK
        ·have ex : s.k0.toList.isEmpty = true := by rw [hx]; exact nok_e
         have HG1 := hid (hg.dead (by omega) hx)
         clear hg hx yr y4 y5 x1
         go_wp2_with fail
         go_roundw
         case rel => exact ⟨1, by omega, by go_num, pa, pl, pc, by first | rfl | trivial, HG1.out⟩
         case measure => simp [intOf]
        ·have ex : s.k0.toList.isEmpty = false := str_ne hx
         have hl2 : 2 ≤ pl := by have := hg.liv; rw [liv_live (t := 0) (by omega) hx] at this; omega
         have hcp := hg.cap
         have HCAT := hid (hg.cat (by omega) hx g c H16.out yr 0 rfl (c - 0))
         have HLAY := hid (fun w' u g5 c5 a b o => hg.lay (w' := w') HLT.out (by have h1 := HU3.out.size; have h2 := hg.up.size; omega) (by omega) hx (show s.k0.size ≤ 100000 from HKS.out 0) (show 0 ≤ z0 ∧ z0 ≤ 2147483647 from HZZ.out.1) HN.out u g5 c5 a b o H16.out)
         clear hg hx yr
         by_cases hc2 : pc = 2
         ·obtain rfl : pl = 2 := by omega
          subst hc2
          go_wp2_with fail
          refine HCAT.out.mono ?_
          rintro e w4 ⟨g5, c5, rfl, hg5, hg5l, ho, u4⟩
          have HL := hid (HLAY.out w4 u4 g5 c5 hg5 hg5l ho)
          obtain ⟨y4', _, yz', _⟩ := HC.out _ (HUP.out.trans u4.nul)
          have x1' : w4.cell? ⟨gz, oz, none⟩ = some (.int .i64 z0) := yz' 0 _ rfl
          clear u4 hg5 hg5l ho yz'
          go_wp2_with fail
          refine HL.out.mono ?_
          rintro e w5 ⟨rfl, u5, hnx⟩
          go_wp2_with fail
          go_roundw
          case rel => exact ⟨1, by omega, by go_num, pa, 0, 0, by first | rfl | trivial, hnx _ _ (.inl (by first | rfl | trivial)) (by omega) (by omega)⟩
          case measure => simp [intOf]
         ·obtain ⟨gp, op, rfl⟩ : ∃ gp op, pa = some (⟨gp, op, none⟩ : Addr) := HG.out.addr (by omega)
          have i1 : (2 : Int) ≤ (pl : Int) := by omega
          have i2 : (pl : Int) ≤ (pc : Int) := by omega
          go_wp2_with fail
          refine HCAT.out.mono ?_
          rintro e w4 ⟨g5, c5, rfl, hg5, hg5l, ho, u4⟩
          have HL := hid (HLAY.out w4 u4 g5 c5 hg5 hg5l ho)
          obtain ⟨y4', _, yz', _⟩ := HC.out _ (HUP.out.trans u4.nul)
          have x1' : w4.cell? ⟨gz, oz, none⟩ = some (.int .i64 z0) := yz' 0 _ rfl
          clear u4 hg5 hg5l ho yz'
          go_wp2_with fail
          refine HL.out.mono ?_
          rintro e w5 ⟨rfl, u5, hnx⟩
          go_wp2_with fail
          go_roundw
          case rel => exact ⟨1, by omega, by go_num, some ⟨gp, op + 6, none⟩, pl - 2, pc - 2, by first | rfl | trivial, hnx _ _ (.inr ⟨gp, op, rfl, rfl⟩) (by omega) (by omega)⟩
          case measure => simp [intOf]
       ·have HG := hid hg
        have HUP := hid hg.up
        obtain ⟨y4, y5, yz, yr⟩ := HC.out _ hg.up
        have x1 : wr.cell? ⟨gz, oz + 1, none⟩ = some (.int .i64 z1) := yz 1 _ rfl
        have hix : (Instr.index 44 (.agg #[.string s.k0, .string s.k1, .string s.k2]) (.int .i64 1)).run Tryz.prog wr = .ok (.string s.k1) wr := by kernel_rfl
        clear yz
        by_cases hx : s.k1 = noK
        ·have ex : s.k1.toList.isEmpty = true := by rw [hx]; exact nok_e
         have HG1 := hid (hg.dead (by omega) hx)
         clear hg hx yr y4 y5 x1
         go_wp2_with fail
         go_roundw
         case rel => exact ⟨2, by omega, by go_num, pa, pl, pc, by first | rfl | trivial, HG1.out⟩
         case measure => simp [intOf]
        ·have ex : s.k1.toList.isEmpty = false := str_ne hx
         have hl2 : 2 ≤ pl := by have := hg.liv; rw [liv_live (t := 1) (by omega) hx] at this; omega
         have hcp := hg.cap
         have HCAT := hid (hg.cat (by omega) hx g c H16.out yr 12 rfl (c - 4))
         have HLAY := hid (fun w' u g5 c5 a b o => hg.lay (w' := w') HLT.out (by have h1 := HU3.out.size; have h2 := hg.up.size; omega) (by omega) hx (show s.k1.size ≤ 100000 from HKS.out 1) (show 0 ≤ z1 ∧ z1 ≤ 2147483647 from HZZ.out.2.1) HN.out u g5 c5 a b o H16.out)
         clear hg hx yr
         by_cases hc2 : pc = 2
         ·obtain rfl : pl = 2 := by omega
          subst hc2
          go_wp2_with fail
          refine HCAT.out.mono ?_
          rintro e w4 ⟨g5, c5, rfl, hg5, hg5l, ho, u4⟩
          have HL := hid (HLAY.out w4 u4 g5 c5 hg5 hg5l ho)
          obtain ⟨y4', _, yz', _⟩ := HC.out _ (HUP.out.trans u4.nul)
          have x1' : w4.cell? ⟨gz, oz + 1, none⟩ = some (.int .i64 z1) := yz' 1 _ rfl
          clear u4 hg5 hg5l ho yz'
          go_wp2_with fail
          refine HL.out.mono ?_
          rintro e w5 ⟨rfl, u5, hnx⟩
          go_wp2_with fail
          go_roundw
          case rel => exact ⟨2, by omega, by go_num, pa, 0, 0, by first | rfl | trivial, hnx _ _ (.inl (by first | rfl | trivial)) (by omega) (by omega)⟩
          case measure => simp [intOf]
         ·obtain ⟨gp, op, rfl⟩ : ∃ gp op, pa = some (⟨gp, op, none⟩ : Addr) := HG.out.addr (by omega)
          have i1 : (2 : Int) ≤ (pl : Int) := by omega
          have i2 : (pl : Int) ≤ (pc : Int) := by omega
          go_wp2_with fail
          refine HCAT.out.mono ?_
          rintro e w4 ⟨g5, c5, rfl, hg5, hg5l, ho, u4⟩
          have HL := hid (HLAY.out w4 u4 g5 c5 hg5 hg5l ho)
          obtain ⟨y4', _, yz', _⟩ := HC.out _ (HUP.out.trans u4.nul)
          have x1' : w4.cell? ⟨gz, oz + 1, none⟩ = some (.int .i64 z1) := yz' 1 _ rfl
          clear u4 hg5 hg5l ho yz'
          go_wp2_with fail
          refine HL.out.mono ?_
          rintro e w5 ⟨rfl, u5, hnx⟩
          go_wp2_with fail
          go_roundw
          case rel => exact ⟨2, by omega, by go_num, some ⟨gp, op + 6, none⟩, pl - 2, pc - 2, by first | rfl | trivial, hnx _ _ (.inr ⟨gp, op, rfl, rfl⟩) (by omega) (by omega)⟩
          case measure => simp [intOf]
       ·have HG := hid hg
        have HUP := hid hg.up
        obtain ⟨y4, y5, yz, yr⟩ := HC.out _ hg.up
        have x1 : wr.cell? ⟨gz, oz + 2, none⟩ = some (.int .i64 z2) := yz 2 _ rfl
        have hix : (Instr.index 44 (.agg #[.string s.k0, .string s.k1, .string s.k2]) (.int .i64 2)).run Tryz.prog wr = .ok (.string s.k2) wr := by kernel_rfl
        clear yz
        by_cases hx : s.k2 = noK
        ·have ex : s.k2.toList.isEmpty = true := by rw [hx]; exact nok_e
         have HG1 := hid (hg.dead (by omega) hx)
         clear hg hx yr y4 y5 x1
         go_wp2_with fail
         go_roundw
         case rel => exact ⟨3, by omega, by go_num, pa, pl, pc, by first | rfl | trivial, HG1.out⟩
         case measure => simp [intOf]
        ·have ex : s.k2.toList.isEmpty = false := str_ne hx
         have hl2 : 2 ≤ pl := by have := hg.liv; rw [liv_live (t := 2) (by omega) hx] at this; omega
         have hcp := hg.cap
         have HCAT := hid (hg.cat (by omega) hx g c H16.out yr 24 rfl (c - 8))
         have HLAY := hid (fun w' u g5 c5 a b o => hg.lay (w' := w') HLT.out (by have h1 := HU3.out.size; have h2 := hg.up.size; omega) (by omega) hx (show s.k2.size ≤ 100000 from HKS.out 2) (show 0 ≤ z2 ∧ z2 ≤ 2147483647 from HZZ.out.2.2) HN.out u g5 c5 a b o H16.out)
         clear hg hx yr
         by_cases hc2 : pc = 2
         ·obtain rfl : pl = 2 := by omega
          subst hc2
          go_wp2_with fail
          refine HCAT.out.mono ?_
          rintro e w4 ⟨g5, c5, rfl, hg5, hg5l, ho, u4⟩
          have HL := hid (HLAY.out w4 u4 g5 c5 hg5 hg5l ho)
          obtain ⟨y4', _, yz', _⟩ := HC.out _ (HUP.out.trans u4.nul)
          have x1' : w4.cell? ⟨gz, oz + 2, none⟩ = some (.int .i64 z2) := yz' 2 _ rfl
          clear u4 hg5 hg5l ho yz'
          go_wp2_with fail
          refine HL.out.mono ?_
          rintro e w5 ⟨rfl, u5, hnx⟩
          go_wp2_with fail
          go_roundw
          case rel => exact ⟨3, by omega, by go_num, pa, 0, 0, by first | rfl | trivial, hnx _ _ (.inl (by first | rfl | trivial)) (by omega) (by omega)⟩
          case measure => simp [intOf]
         ·obtain ⟨gp, op, rfl⟩ : ∃ gp op, pa = some (⟨gp, op, none⟩ : Addr) := HG.out.addr (by omega)
          have i1 : (2 : Int) ≤ (pl : Int) := by omega
          have i2 : (pl : Int) ≤ (pc : Int) := by omega
          go_wp2_with fail
          refine HCAT.out.mono ?_
          rintro e w4 ⟨g5, c5, rfl, hg5, hg5l, ho, u4⟩
          have HL := hid (HLAY.out w4 u4 g5 c5 hg5 hg5l ho)
          obtain ⟨y4', _, yz', _⟩ := HC.out _ (HUP.out.trans u4.nul)
          have x1' : w4.cell? ⟨gz, oz + 2, none⟩ = some (.int .i64 z2) := yz' 2 _ rfl
          clear u4 hg5 hg5l ho yz'
          go_wp2_with fail
          refine HL.out.mono ?_
          rintro e w5 ⟨rfl, u5, hnx⟩
          go_wp2_with fail
          go_roundw
          case rel => exact ⟨3, by omega, by go_num, some ⟨gp, op + 6, none⟩, pl - 2, pc - 2, by first | rfl | trivial, hnx _ _ (.inr ⟨gp, op, rfl, rfl⟩) (by omega) (by omega)⟩
          case measure => simp [intOf]
       ·have HG := hid hg
        clear hg ht
        go_wp2
        go_ret
        rw [HRR2.out]
        obtain ⟨Q', h'⟩ := HG.out.mt
        exact ⟨rfl, ⟨Q', h'⟩, HU3.out.trans HG.out.up⟩
   ·have k1 : (s.kind != 3) = true := by simp [hk3]
    have HE : Hid (R = (12, M)) := by
     show R = _
     rw [← HR.out]
     unfold MM.split
     rw [HSZ.out]
     dsimp only
     rw [if_pos hk3]
    clear hk3
    go_wp2
    go_ret
    rw [HE.out]
    exact ⟨rfl, ⟨Q, (((HH.out.nxt HU2.out).wide fun k hk => .inl hk).mono (by omega))⟩, (HU1.out.trans HU2.out).nul⟩
end
end Go.Proofs.YtepggchnhgpcnaaGreatDoor
