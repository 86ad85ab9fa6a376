/- 'split', its rounds. -/
import Derived.Test.YtepggchnhgpcnaaGreatDoorPkTidy
import Derived.Test.YtepggchnhgpcnaaGreatDoorPz11
import Derived.Test.YtepggchnhgpcnaaGreatDoorPz10
import Derived.Deep.QuietTactic
import Derived.BigQuiet
import Derived.Test.YtepggchnhgpcnaaGreatDoorMtLayD
import Derived.Lib.SliceRun
import Derived.Test.YtepggchnhgpcnaaGreatDoorMtLay
import Derived.Test.YtepggchnhgpcnaaGreatDoorPz2
namespace Go.Proofs.YtepggchnhgpcnaaGreatDoor
open Go.RowKit Go.Maps
set_option linter.unusedVariables false

def spl (s : St) (zs : List Int) (M0 : MM) (ls : List Lo) : Nat → MM × List Lo
 | 0 => (M0, ls)
 | t + 1 => splF s zs (spl s zs M0 ls t) t
def liv (s : St) : Nat → Nat
 | 0 => (if s.key 0 = noK then 0 else 1) + ((if s.key 1 = noK then 0 else 1) + (if s.key 2 = noK then 0 else 1))
 | 1 => (if s.key 1 = noK then 0 else 1) + (if s.key 2 = noK then 0 else 1)
 | 2 => if s.key 2 = noK then 0 else 1
 | _ => 0
theorem spl_live {s : St} {zs : List Int} {M0 : MM} {ls : List Lo} {t : Nat} (h : s.key t ≠ noK) :
  spl s zs M0 ls (t + 1) = ((spl s zs M0 ls t).1.lay (zs.getD t 0) ⟨2, (t : Int), s.key t, noK, noK, (s.locs.drop (4 * t)).take 4 ++ (spl s zs M0 ls t).2.take 2⟩, (spl s zs M0 ls t).2.drop 2) := if_neg h
theorem spl_dead {s : St} {zs : List Int} {M0 : MM} {ls : List Lo} {t : Nat} (h : s.key t = noK) : spl s zs M0 ls (t + 1) = spl s zs M0 ls t := if_pos h
def badP (s : St) (zs : List Int) (t : Nat) : Bool := decide (s.key t = noK) != decide (zs.getD t 0 = 0)
theorem split_bad {M : MM} {r : Rc} {s : St} {zs : List Int} (hz : r.sids = zs) (hs : M.s r.sid = some s) (hk : s.kind = 3) {t : Nat} (ht : t < 3) (hb : badP s zs t = true) : M.split r = (1, M) := by
 unfold MM.split
 rw [hs, hz]
 dsimp only
 rw [if_neg (fun e => e hk), if_pos]
 exact List.any_eq_true.2 ⟨t, List.mem_range.2 ht, hb⟩
theorem split_ok {M : MM} {r : Rc} {s : St} {zs : List Int} (hz : r.sids = zs) (hs : M.s r.sid = some s) (hk : s.kind = 3) (hb : ∀ t, t < 3 → badP s zs t = false) : M.split r = (0, (spl s zs { M with s := upd M.s r.sid none } r.locs 3).1) := by
 unfold MM.split
 rw [hs, hz]
 dsimp only
 rw [if_neg (fun e => e hk), if_neg]
 ·rfl
 ·intro e
  obtain ⟨t, h1, h2⟩ := List.any_eq_true.1 e
  have := hb t (List.mem_range.1 h1)
  exact absurd (h2.symm.trans this) (by simp)
theorem rowL_sub {w : World} {g o : Nat} {ls : List Lo} (h : RowL w (some ⟨g, o, none⟩) ls) (k n : Nat) : RowL w (some ⟨g, o + k * 3, none⟩) ((ls.drop k).take n) := by
 rcases h with rfl | ⟨g', o', e, hg, hc⟩
 ·exact .inl (by simp)
 ·injection e with e
  injection e with e1 e2
  subst e1 e2
  refine .inr ⟨g, o + k * 3, rfl, hg, fun i l hi j v hj => ?_⟩
  rw [show o + k * 3 + i * 3 + j = o + (k + i) * 3 + j by omega]
  refine hc (k + i) l ?_ j v hj
  rw [List.getElem?_take] at hi
  split at hi
  ·rw [List.getElem?_drop] at hi; exact hi
  ·cases hi
theorem nok_l : noK.toList = [] := by simp [ByteArray.toList, ByteArray.toList.loop, ByteArray.size]
theorem nok_e : noK.toList.isEmpty = true := by rw [nok_l]; rfl
theorem str_ne {k : ByteArray} (h : k ≠ noK) : k.toList.isEmpty = false := by
 cases e : k.toList.isEmpty with
 | false => rfl
 | true => exact absurd (bytes_inj (a := k) (b := noK) (by rw [List.isEmpty_iff.1 e, nok_l])) h
theorem liv_dead {s : St} {t : Nat} (ht : t < 3) (h : s.key t = noK) : liv s t = liv s (t + 1) := by
 obtain rfl | rfl | rfl : t = 0 ∨ t = 1 ∨ t = 2 := by omega
 ·show (if s.key 0 = noK then 0 else 1) + _ = _
  rw [if_pos h]; exact Nat.zero_add _
 ·show (if s.key 1 = noK then 0 else 1) + _ = _
  rw [if_pos h]; exact Nat.zero_add _
 ·show (if s.key 2 = noK then 0 else 1) = 0
  rw [if_pos h]
theorem liv_live {s : St} {t : Nat} (ht : t < 3) (h : s.key t ≠ noK) : liv s t = 1 + liv s (t + 1) := by
 obtain rfl | rfl | rfl : t = 0 ∨ t = 1 ∨ t = 2 := by omega
 ·show (if s.key 0 = noK then 0 else 1) + _ = _
  rw [if_neg h]; rfl
 ·show (if s.key 1 = noK then 0 else 1) + _ = _
  rw [if_neg h]; rfl
 ·show (if s.key 2 = noK then 0 else 1) = 1 + 0
  rw [if_neg h]
structure SpI (F : Nat → Prop) (w w3 wr : World) (p bm bs n : Nat) (M0 : MM) (s : St) (zs : List Int) (ls : List Lo) (t : Nat) (pa : Option Addr) (pl pc : Nat) : Prop where
 mt : ∃ Q', MT (Gr F w wr) wr p bm bs (n + 4 * t) Q' (spl s zs M0 ls t).1
 up : Up (Two bm bs) w3 wr
 row : RowL wr pa (spl s zs M0 ls t).2
 len : (spl s zs M0 ls t).2.length = pl
 liv : pl = 2 * liv s t
 cap : pl ≤ pc ∧ (pc : Int) ≤ 9223372036854775807
section
variable {F : Nat → Prop} {w w3 wr : World} {p bm bs n : Nat} {M0 : MM} {s : St} {zs : List Int} {ls : List Lo} {t pl pc : Nat} {pa : Option Addr}
theorem SpI.dead (h : SpI F w w3 wr p bm bs n M0 s zs ls t pa pl pc) (ht : t < 3) (hx : s.key t = noK) : SpI F w w3 wr p bm bs n M0 s zs ls (t + 1) pa pl pc := by
 have e := spl_dead (zs := zs) (M0 := M0) (ls := ls) hx
 obtain ⟨Q', h1⟩ := h.mt
 refine ⟨⟨Q', ?_⟩, h.up, ?_, ?_, ?_, h.cap⟩
 ·rw [e]; exact h1.mono (by omega)
 ·rw [e]; exact h.row
 ·rw [e]; exact h.len
 ·rw [← liv_dead ht hx]; exact h.liv
theorem SpI.addr (h : SpI F w w3 wr p bm bs n M0 s zs ls t pa pl pc) (hl : 0 < pl) : ∃ gp op, pa = some (⟨gp, op, none⟩ : Addr) := by
 rcases h.row with e | ⟨g, o, e, _⟩
 ·have := h.len
  rw [e] at this
  exact absurd this (by simp; omega)
 ·exact ⟨g, o, e⟩
def dpR (s : St) (ls : List Lo) (t : Nat) : Nat → List Lo
 | 0 => (s.locs.drop (4 * t)).take 4
 | _ => ls.take 2
theorem dpR_two (s : St) (ls : List Lo) (t : Nat) : flatL (dpR s ls t) 2 = (s.locs.drop (4 * t)).take 4 ++ ls.take 2 := by simp [flatL, List.range_succ, dpR]
theorem SpI.cat (h : SpI F w w3 wr p bm bs n M0 s zs ls t pa pl pc) (ht : t < 3) (hx : s.key t ≠ noK) (g c : Nat) (h16 : s.locs.length = 16) (hr : RowL wr (some ⟨g, 0, none⟩) s.locs) (x : Nat) (hxx : x = t * 4 * 3) (cd : Nat) :
  Calls Tryz.prog 89 #[.slice (some ⟨wr.heap.size, 0, none⟩) 2 2] (wr.alloc (.cells #[.slice (some ⟨g, x, none⟩) 4 cd, .slice pa 2 pc] 24)) fun e w' => ∃ g5 c5, e = .returned (.slice (some ⟨g5, 0, none⟩) 6 c5) ∧ wr.heap.size ≤ g5 ∧ g5 < w'.heap.size ∧ OwnLo 0 w' (.slice (some ⟨g5, 0, none⟩) 6 c5) ((s.locs.drop (4 * t)).take 4 ++ (spl s zs M0 ls t).2.take 2) ∧ Up Nul wr w' := by
 have u1 : Up Nul wr (wr.alloc (.cells #[.slice (some ⟨g, x, none⟩) 4 cd, .slice pa 2 pc] 24)) := (Up.refl _ _).alloc _
 have b1 := heap_alloc_new wr (.cells #[.slice (some ⟨g, x, none⟩) 4 cd, .slice pa 2 pc] 24)
 generalize wr.alloc (.cells #[.slice (some ⟨g, x, none⟩) 4 cd, .slice pa 2 pc] 24) = w4 at u1 b1 ⊢
 have hz := (Array.getElem?_eq_some_iff.1 b1).1
 have l4 : ((s.locs.drop (4 * t)).take 4).length = 4 := by rw [List.length_take, List.length_drop, h16]; omega
 have hl : 2 ≤ pl := by have := h.liv; rw [liv_live ht hx] at this; omega
 have l2 : ((spl s zs M0 ls t).2.take 2).length = 2 := by rw [List.length_take, h.len]; omega
 have r4 : RowL w4 (some ⟨g, x, none⟩) ((s.locs.drop (4 * t)).take 4) := by
  have := rowL_sub (hr.nxt u1) (4 * t) 4
  rw [show 0 + 4 * t * 3 = x by omega] at this
  exact this
 have r2 : RowL w4 pa ((spl s zs M0 ls t).2.take 2) := by
  rcases h.row.nxt u1 with e | ⟨gg, oo, e, hgg, hcc⟩
  ·rw [e] at l2; cases l2
  ·exact .inr ⟨gg, oo, e, hgg, fun i l hi => hcc i l (by
    rw [List.getElem?_take] at hi
    split at hi
    ·exact hi
    ·cases hi)⟩
 have hLR : LR w4 wr.heap.size 0 2 (dpR s (spl s zs M0 ls t).2 t) := ⟨hz, fun i hi => by
  obtain rfl | rfl : i = 0 ∨ i = 1 := by omega
  ·refine ⟨some ⟨g, x, none⟩, cd, ?_, r4, fun e => ?_⟩
   ·show _ = some (Value.slice _ ((s.locs.drop (4 * t)).take 4).length cd)
    rw [l4]
    simp [World.cell?, b1]
   ·have e : (s.locs.drop (4 * t)).take 4 = [] := e
    rw [e] at l4; cases l4
  ·refine ⟨pa, pc, ?_, r2, fun e => ?_⟩
   ·show _ = some (Value.slice _ ((spl s zs M0 ls t).2.take 2).length pc)
    rw [l2]
    simp [World.cell?, b1]
   ·have e : (spl s zs M0 ls t).2.take 2 = [] := e
    rw [e] at l2; cases l2⟩
 have e6 : ((s.locs.drop (4 * t)).take 4 ++ (spl s zs M0 ls t).2.take 2).length = 6 := by rw [List.length_append, l4, l2]
 refine (cats_l wr.heap.size 0 2 2 _ w4 (by omega) hLR (by rw [dpR_two, e6]; omega) (by rw [dpR_two, e6]; omega)).mono ?_
 rintro e w' ⟨v, rfl, ho, u⟩
 rw [dpR_two] at ho
 obtain ⟨g5, c5, hv, h1, h2, h3⟩ := ho.sh (fun e => by rw [e] at e6; cases e6)
 rw [e6] at hv h3
 refine ⟨g5, c5, by rw [hv], ?_, h2, h3, u1.trans u⟩
 have := u1.size
 omega
theorem SpI.lay (h : SpI F w w3 wr p bm bs n M0 s zs ls t pa pl pc) (hFw : ∀ k, F k → k < w.heap.size) (hw : w.heap.size ≤ wr.heap.size) (ht : t < 3) (hx : s.key t ≠ noK) (hks : (s.key t).size ≤ 100000) (hz : 0 ≤ zs.getD t 0 ∧ zs.getD t 0 ≤ 2147483647) (hn : n ≤ 50000) {w' : World} (u : Up Nul wr w') (g5 c5 : Nat) (h5 : wr.heap.size ≤ g5) (h5l : g5 < w'.heap.size) (ho : OwnLo 0 w' (.slice (some ⟨g5, 0, none⟩) 6 c5) ((s.locs.drop (4 * t)).take 4 ++ (spl s zs M0 ls t).2.take 2)) (h16 : s.locs.length = 16) :
  Calls Tryz.prog 87 #[.pointer (some ⟨p, 0, none⟩), .int .i64 (zs.getD t 0), .agg #[.int .i64 2, .int .i64 (t : Nat), .string (s.key t), .string ⟨#[]⟩, .string ⟨#[]⟩, .slice (some ⟨g5, 0, none⟩) 6 c5]] w' fun e w'' => e = .returned (.tuple #[]) ∧ Up (Two bm bs) wr w'' ∧ ∀ pa' pc', (pl = 2 ∨ ∃ gp op, pa = some ⟨gp, op, none⟩ ∧ pa' = some ⟨gp, op + 6, none⟩) → pl - 2 ≤ pc' → (pc' : Int) ≤ 9223372036854775807 → SpI F w w3 w'' p bm bs n M0 s zs ls (t + 1) pa' (pl - 2) pc' := by
 obtain ⟨Q', h1⟩ := h.mt
 have l4 : ((s.locs.drop (4 * t)).take 4).length = 4 := by rw [List.length_take, List.length_drop, h16]; omega
 have hl : 2 ≤ pl := by have := h.liv; rw [liv_live ht hx] at this; omega
 have l2 : ((spl s zs M0 ls t).2.take 2).length = 2 := by rw [List.length_take, h.len]; omega
 have e6 : ((s.locs.drop (4 * t)).take 4 ++ (spl s zs M0 ls t).2.take 2).length = 6 := by rw [List.length_append, l4, l2]
 have hG : ∀ k, Gr F w wr k → k < wr.heap.size := fun k hk => by
  rcases hk with hk | hk
  ·have := hFw k hk; omega
  ·exact hk.2
 have hfin := lay_any ((h1.nxt u).wide (G := fun k => Gr F w wr k ∨ k = g5) (fun k hk => .inl hk)) (fun k hk => by
  rcases hk with hk | hk
  ·have := hG k hk; have := u.size; omega
  ·omega) (zs.getD t 0) (wfI hz.1 hz.2) ⟨2, (t : Int), s.key t, noK, noK, (s.locs.drop (4 * t)).take 4 ++ (spl s zs M0 ls t).2.take 2⟩ g5 c5 (.inr rfl) (by rw [e6]; exact ho)
  (fun j s' hj hne e => by
   obtain ⟨g', c', e1, e2, _⟩ := h1.row j s' hj
   have e3 := hG g' e2
   rw [e1] at e
   have e : g5 = g' := by injection e
   omega) (fun t' => by
   rcases t' with _ | _ | t'
   ·exact big_max hks
   ·exact Nat.zero_le _
   ·exact Nat.zero_le _) (by unfold maxLen; omega)
 rw [e6] at hfin
 refine hfin.mono ?_
 rintro e w'' ⟨rfl, ⟨Q'', h2⟩, u2⟩
 refine ⟨rfl, u.nul.trans u2, fun pa' pc' hpa hpc hpc2 => ?_⟩
 have es := spl_live (zs := zs) (M0 := M0) (ls := ls) hx
 refine ⟨⟨Q'', ?_⟩, h.up.trans (u.nul.trans u2), ?_, ?_, ?_, hpc, hpc2⟩
 ·rw [es]
  refine (h2.wide (fun k hk => ?_)).mono (by omega)
  have s1 := u.size
  have s2 := u2.size
  rcases hk with (hk | hk) | rfl
  ·exact .inl hk
  ·exact .inr ⟨hk.1, by have := hk.2; omega⟩
  ·exact .inr ⟨by omega, by omega⟩
 ·rw [es]
  dsimp only
  rcases hpa with e2 | ⟨gp, op, e1, e2⟩
  ·exact .inl (List.eq_nil_of_length_eq_zero (by rw [List.length_drop, h.len]; omega))
  ·subst e1 e2
   have hr := rowL_two h1.maps h.row (u.nul.trans u2)
   have := rowL_sub hr 2 (spl s zs M0 ls t).2.length
   rw [List.take_of_length_le (by rw [List.length_drop]; omega)] at this
   exact this
 ·rw [es]
  show ((spl s zs M0 ls t).2.drop 2).length = _
  rw [List.length_drop, h.len]
 ·have := h.liv
  rw [liv_live ht hx] at this
  omega
end
section
variable {F : Nat → Prop} {w : World} {p bm bs n : Nat} {Q : Int → Value} {M : MM}
set_option maxRecDepth 10000 in
set_option maxHeartbeats 4000000 in
theorem swap_any (h : MT F w p bm bs n Q M) (hFw : ∀ k, F k → k < w.heap.size) (hI : M.Inv2) (fr tk : Int) (r : Rc) (sv : Value) (la : Option Addr) (lc : Nat) (hr : RowL w la r.locs) (hne : r.locs ≠ []) (hl : r.locs.length ≤ 1000) (hk : r.key.size ≤ 100000) (hs : 0 ≤ r.sid ∧ r.sid ≤ 2147483647) (hn : n ≤ 50000) :
  Calls Tryz.prog 67 #[.pointer (some ⟨p, 0, none⟩), rv r sv (.slice la r.locs.length lc), .int .i64 fr, .int .i64 tk] w fun e w' => e = .returned (.int .i64 (M.swap r fr tk).1) ∧
   (∃ Q', MT (Gr F w w') w' p bm bs (n + 6) Q' (M.swap r fr tk).2) ∧ Up (Two bm bs) w w' := by
 obtain ⟨w1, hw1⟩ : ∃ W, W = w.alloc (.cells #[.int .i64 r.kind, .string r.key, .int .i64 r.n, .int .i64 r.sid, sv, .int .i64 r.colour, .slice la r.locs.length lc, .int .i64 r.t.hot, .int .i64 r.t.warm, .int .i64 r.t.gap, .int .i64 r.t.add, .int .i64 r.t.top, .int .i64 r.t.half] 28) := ⟨_, rfl⟩
 have u1 : Up Nul w w1 := by rw [hw1]; exact (Up.refl _ _).alloc _
 have b1 : w1.heap[w.heap.size]? = some (.cells #[.int .i64 r.kind, .string r.key, .int .i64 r.n, .int .i64 r.sid, sv, .int .i64 r.colour, .slice la r.locs.length lc, .int .i64 r.t.hot, .int .i64 r.t.warm, .int .i64 r.t.gap, .int .i64 r.t.add, .int .i64 r.t.top, .int .i64 r.t.half] 28 (0, 0)) := by rw [hw1]; exact heap_alloc_new _ _
 have HB1 := hid b1
 have HZ : Hid (w.heap.size < w1.heap.size) := (Array.getElem?_eq_some_iff.1 b1).1
 have g1 : w1.cell? ⟨w.heap.size, 1, none⟩ = some (.string r.key) := by simp [World.cell?, b1]
 obtain ⟨x, hx⟩ : ∃ x : Bl, (M.b r.key).getD ⟨0, 0, 0⟩ = x := ⟨_, rfl⟩
 obtain ⟨ok, hok⟩ : ∃ ok : Bool, (M.b r.key).isSome = ok := ⟨_, rfl⟩
 have h1 := h.nxt u1
 obtain ⟨c0, c1, _⟩ := h1.cells
 have hlk : ∀ W, Up Nul w1 W → (Instr.lookup 55 (.map (some bm)) (.string r.key) true).run Tryz.prog W = .ok (.tuple #[.agg #[.int .i64 x.n, .int .i64 x.sid, .int .i64 x.part], .bool ok]) W := fun W u => by
  have := (h1.nxt u).mb.look2 Tryz.underlying55 (zero_bl W) (big_max hk)
  rw [this, ← hx, ← hok]
  cases M.b r.key <;> rfl
 have uA : Up Nul w1 (w1.alloc (.cells #[.int .i64 0, .int .i64 0, .int .i64 0] 51)) := (Up.refl _ _).alloc _
 have lA := hlk _ (uA.drew)
 have lB := hlk _ ((Up.refl Nul w1).drew)
 obtain ⟨e0, e1, _⟩ := (h1.nxt uA).cells
 have gA := (uA.cell (p := ⟨w.heap.size, 1, none⟩) HZ.out id).trans g1
 have HH := hid h1
 have HLT : Hid (∀ k, F k → k < w.heap.size) := hFw
 have HU1 := hid u1
 have HR1 := hid (hr.nxt u1)
 have HNE := hid hne
 have HL := hid hl
 have HK := hid hk
 have HS := hid hs
 have HN := hid hn
 have HI := hid hI
 have HX := hid hx
 have HOK := hid hok
 have HBM : Hid (¬ Two bm bs w.heap.size) := fun e => by rcases e with e | e; have := hFw _ h.fm; omega; have := hFw _ h.fs; omega
 obtain ⟨R, HR⟩ : ∃ R, Hid (M.swap r fr tk = R) := ⟨_, rfl⟩
 rw [HR.out]
 obtain ⟨L, LL⟩ : ∃ L, Hid (r.locs.length = L) := ⟨_, rfl⟩
 rw [LL.out] at hw1 HB1 ⊢
 show Calls Tryz.prog 67 #[.pointer (some ⟨p, 0, none⟩), .agg #[.int .i64 r.kind, .string r.key, .int .i64 r.n, .int .i64 r.sid, sv, .int .i64 r.colour, .slice la L lc, .int .i64 r.t.hot, .int .i64 r.t.warm, .int .i64 r.t.gap, .int .i64 r.t.add, .int .i64 r.t.top, .int .i64 r.t.half], .int .i64 fr, .int .i64 tk] w _
 clear h h1 hr hne hl hk hs hn u1 b1 hI hFw hx hok hlk uA
 go_enter Tryz.func67, Tryz.ntmps67
 go_wp2_with fail
 rw [← hw1]
 clear hw1
 obtain ⟨pz, PZ⟩ : ∃ x, Hid (w.heap.size = x) := ⟨_, rfl⟩
 rw [PZ.out] at g1 gA HBM HZ HB1 ⊢
 go_region
 all_goals
  have u2 : Up Nul w1 (w1.alloc (.cells #[.int .i64 x.n, .int .i64 x.sid, .int .i64 x.part] 51)).drew := ((Up.refl _ _).alloc _).drew
  have b2 : (w1.alloc (.cells #[.int .i64 x.n, .int .i64 x.sid, .int .i64 x.part] 51)).drew.heap[w1.heap.size]? = some (.cells #[.int .i64 x.n, .int .i64 x.sid, .int .i64 x.part] 51 (0, 0)) := heap_alloc_new w1 _
  generalize (w1.alloc (.cells #[.int .i64 x.n, .int .i64 x.sid, .int .i64 x.part] 51)).drew = w2 at u2 b2 ⊢
  have h2 := HH.out.nxt u2
  obtain ⟨d0, d1, _⟩ := h2.cells
  have hz2 : w1.heap.size < w2.heap.size := (Array.getElem?_eq_some_iff.1 b2).1
  obtain ⟨pb, PB⟩ : ∃ x, Hid (w1.heap.size = x) := ⟨_, rfl⟩
  rw [PB.out] at b2 hz2 ⊢
  have x1 : w2.cell? ⟨pb, 1, none⟩ = some (.int .i64 x.sid) := by simp [World.cell?, b2]
  have HB2 := hid ((u2.block pz HZ.out id).trans HB1.out)
  have H2 := hid h2
  have HU2 := hid u2
  have HZ2 := hid hz2
  have HB3 := hid b2
  clear u2 b2 h2 hz2 c0 c1 lA lB e0 e1 g1 gA d0
  cases ok with
  | false =>
   have HE : Hid (R = (9, M)) := by
    show R = _
    rw [← HR.out]
    unfold MM.swap
    cases hb : M.b r.key with
    | none => rfl
    | some y => have := HOK.out; rw [hb] at this; cases this
   go_wp2
   go_ret
   rw [HE.out]
   exact ⟨rfl, ⟨Q, ((H2.out.wide fun k hk => .inl hk).mono (by omega))⟩, (HU1.out.trans HU2.out).nul⟩
  | true =>
   have hb : M.b r.key = some x := by
    have h1 := HOK.out
    have h2 := HX.out
    cases hb : M.b r.key with
    | none => rw [hb] at h1; cases h1
    | some y => rw [hb] at h2; exact congrArg some h2
   obtain ⟨hp, hsd, s, hs⟩ := HI.out.b _ _ hb
   have HSD := hid hsd
   obtain ⟨g, c, hq, hF, ho⟩ := H2.out.row x.sid s hs
   have hlk : ∀ n, (Instr.lookup 56 (.map (some bs)) (.int .i64 x.sid) false).run Tryz.prog (w2.drewN n) = .ok (.agg #[.int .i64 s.kind, .int .i64 s.colour, .string s.k0, .string s.k1, .string s.k2, .slice (some ⟨g, 0, none⟩) s.locs.length c]) (w2.drewN n) := fun n => by
    have := (H2.out.nxt ((Up.refl Nul w2).drewN n)).ms.look1 Tryz.underlying56 (zero_st _) (wfI hsd.1 hsd.2)
    rw [hs, hq] at this
    exact this
   have hfd : ∀ W : World, (Instr.field 46 (.agg #[.int .i64 s.kind, .int .i64 s.colour, .string s.k0, .string s.k1, .string s.k2, .slice (some ⟨g, 0, none⟩) s.locs.length c]) 0).run Tryz.prog W = .ok (.int .i64 s.kind) W := fun _ => by kernel_rfl
   have HE : Hid (R = if s.kind ≠ fr then (12, M) else (0, ({ M with s := upd M.s x.sid none } : MM).lay r.sid ⟨tk, r.colour, r.key, noK, noK, r.locs⟩)) := by
    show R = _
    rw [← HR.out]
    unfold MM.swap
    rw [hb]
    dsimp only
    rw [hs]
   have HSS := hid hs
   clear hb hp hsd hs hF ho hq
   go_wp2_with fail
   go_quiet (fail)
   have u3 : Up Nul w2 (w2.drewN nq) := (Up.refl _ _).drewN nq
   generalize w2.drewN nq = w3 at u3 ⊢
   have H3 := hid (H2.out.nxt u3)
   have HU3 : Hid (Up Nul w w3) := HU1.out.trans (HU2.out.trans u3)
   by_cases hkf : s.kind = fr
   ·have hne : (s.kind != fr) = false := by simp [hkf]
    have HE2 : Hid (R = (0, ({ M with s := upd M.s x.sid none } : MM).lay r.sid ⟨tk, r.colour, r.key, noK, noK, r.locs⟩)) := by
     show R = _
     rw [HE.out, if_neg (fun e => e hkf)]
    obtain ⟨_, a1, _⟩ := H3.out.cells
    have a2 := (u3.cell (p := ⟨pb, 1, none⟩) HZ2.out id).trans x1
    have b4 := (u3.block pz (Array.getElem?_eq_some_iff.1 HB2.out).1 id).trans HB2.out
    obtain ⟨w4, hdel, h4, u4⟩ := (H3.out.nxt (Up.refl _ _).drew).delS (wfI HSD.out.1 HSD.out.2) 0
    have u34 : Up (fun k => k = bs) w3 w4 := Up.trans (Up.drew (Up.refl _ w3)) u4
    have hz3 : pz < w3.heap.size := (Array.getElem?_eq_some_iff.1 b4).1
    have b5 := (u34.block pz hz3 (fun e => HBM.out (.inr e))).trans b4
    have g1 : w4.cell? ⟨pz, 1, none⟩ = some (.string r.key) := by simp [World.cell?, b5]
    have g3 : w4.cell? ⟨pz, 3, none⟩ = some (.int .i64 r.sid) := by simp [World.cell?, b5]
    have g5 : w4.cell? ⟨pz, 5, none⟩ = some (.int .i64 r.colour) := by simp [World.cell?, b5]
    have g6 : w4.cell? ⟨pz, 6, none⟩ = some (.slice la L lc) := by simp [World.cell?, b5]
    have HZ4 : Hid (pz < w4.heap.size) := (Array.getElem?_eq_some_iff.1 b5).1
    have HDEL := hid hdel
    have H4 := hid h4
    have HU4 : Hid (Up (Two bm bs) w w4) := HU3.out.nul.trans (u34.mono fun _ _ e => .inr e)
    have HR4 : Hid (RowL w4 la r.locs) := rowL_two H3.out.maps (HR1.out.nxt (HU2.out.trans u3)) (u34.mono fun _ _ e => .inr e)
    have HC : Hid (∀ V, Up (Two bm bs) w4 V → V.cell? ⟨pz, 3, none⟩ = some (.int .i64 r.sid) ∧ V.cell? ⟨pz, 5, none⟩ = some (.int .i64 r.colour) ∧ V.cell? ⟨pz, 1, none⟩ = some (.string r.key) ∧ V.cell? ⟨pz, 6, none⟩ = some (.slice la L lc)) := fun V u => ⟨(u.cell (p := ⟨pz, 3, none⟩) HZ4.out HBM.out).trans g3, (u.cell (p := ⟨pz, 5, none⟩) HZ4.out HBM.out).trans g5, (u.cell (p := ⟨pz, 1, none⟩) HZ4.out HBM.out).trans g1, (u.cell (p := ⟨pz, 6, none⟩) HZ4.out HBM.out).trans g6⟩
    have HCL : Hid (Calls Tryz.prog 50 #[.slice la L lc] w4.drew fun e w' => ∃ g c', e = .returned (.slice (some ⟨g, 0, none⟩) L c') ∧ w4.heap.size ≤ g ∧ g < w'.heap.size ∧ OwnLo 0 w' (.slice (some ⟨g, 0, none⟩) L c') r.locs ∧ Up Nul w4.drew w') := by
     have := clone_sh w4.drew la lc r.locs (HR4.out.nxt (Up.refl _ _).drew) HNE.out HL.out
     rw [LL.out] at this
     exact this
    have HLY : Hid (∀ V g c, Up Nul w4.drew V → w4.heap.size ≤ g → g < V.heap.size → OwnLo 0 V (.slice (some ⟨g, 0, none⟩) L c) r.locs → Calls Tryz.prog 87 #[.pointer (some ⟨p, 0, none⟩), .int .i64 r.sid, .agg #[.int .i64 tk, .int .i64 r.colour, .string r.key, .string ⟨#[]⟩, .string ⟨#[]⟩, .slice (some ⟨g, 0, none⟩) L c]] V fun e w' => e = .returned (.tuple #[]) ∧
      ((∃ Q', MT (Gr F w w') w' p bm bs (n + 6) Q' (({ M with s := upd M.s x.sid none } : MM).lay r.sid ⟨tk, r.colour, r.key, noK, noK, r.locs⟩)) ∧ Up (Two bm bs) w w') ∧ Up (Two bm bs) w4 w') := fun V g c u hg hgl ho => by
     have hF4 : ∀ k, F k → k < w4.heap.size := fun k hk => Nat.lt_of_lt_of_le (HLT.out k hk) (HU4.out.size)
     have u4V : Up Nul w4 V := Up.trans ((Up.refl _ _).drew) u
     have h5 := (H4.out.nxt u4V).wide (G := fun k => F k ∨ k = g) (fun k hk => .inl hk)
     have hst : ((⟨tk, r.colour, r.key, noK, noK, r.locs⟩ : St).locs.length) = L := LL.out
     have hfin := lay_any h5 (fun k hk => by rcases hk with hk | hk; have := hF4 k hk; have := u4V.size; omega; omega) r.sid (wfI HS.out.1 HS.out.2) ⟨tk, r.colour, r.key, noK, noK, r.locs⟩ g c (.inr rfl) (by rw [hst]; exact ho)
      (fun j s' hj hne e => by
       obtain ⟨g', c', e1, e2, _⟩ := H4.out.row j s' hj
       have e3 := hF4 g' e2
       rw [e1] at e
       have e : g = g' := by injection e
       omega) (fun t => by
       rcases t with _ | _ | t
       ·exact big_max HK.out
       ·exact Nat.zero_le _
       ·exact Nat.zero_le _) (by have := HN.out; unfold maxLen; omega)
     rw [hst] at hfin
     refine hfin.mono ?_
     rintro e w' ⟨rfl, ⟨Q', h'⟩, u'⟩
     have uw' : Up (Two bm bs) w w' := HU4.out.trans (u4V.nul.trans u')
     refine ⟨rfl, ⟨⟨Q', ?_⟩, uw'⟩, u4V.nul.trans u'⟩
     refine (h'.wide (fun k hk => ?_)).mono (by omega)
     rcases hk with hk | hk
     ·exact .inl hk
     ·refine .inr ⟨?_, ?_⟩
      ·have := HU4.out.size; omega
      ·have := u'.size; omega
    have HR0 : Hid (Up (Two bm bs) w4 w4) := Up.refl _ _
    clear g1 g3 g5 g6 b4 b5 h4 u4 u34 hdel hlk hfd x1 d1 hkf hz3 u3
    go_wp2_with fail
    go_still_tail 6, (by kernel_rfl)
    change wpList _ _ _ _ _ w3.drew
    refine wpList_del_eqv rfl _ _ _ _ rfl _ _ rfl rfl HDEL.out ?_
    clear a1 a2 hne
    go_wp2_with fail
    go_region_held3 (fun V => V.cell? ⟨pz, 3, none⟩ = some (.int .i64 r.sid) ∧ V.cell? ⟨pz, 5, none⟩ = some (.int .i64 r.colour) ∧ V.cell? ⟨pz, 1, none⟩ = some (.string r.key) ∧ V.cell? ⟨pz, 6, none⟩ = some (.slice la L lc))
     (first | exact HC.out _ (by assumption) | exact HC.out _ HR0.out.drew)
     (first
      | (go_at_call 50; (with_reducible refine HCL.out.mono ?_); rintro e wA ⟨g, c, rfl, hg, hgl, ho, kA⟩; have uA : Up (Two bm bs) w4 wA := HR0.out.drew.trans kA.nul; have HLA := hid (HLY.out wA g c kA hg hgl ho); clear hg hgl ho)
      | (go_at_call 87; (with_reducible refine HLA.out.mono ?_); rintro e wB ⟨rfl, kB, uB⟩)
      | fail)
    all_goals
     have HB := hid kB
     go_wp2_with fail
     go_ret
     rw [HE2.out]
     exact ⟨rfl, HB.out⟩
   ·have hne : (s.kind != fr) = true := by simp [hkf]
    have HE2 : Hid (R = (12, M)) := by
     show R = _
     rw [HE.out, if_pos hkf]
    clear hlk hfd x1 d1 hkf u3
    go_wp2
    go_ret
    rw [HE2.out]
    exact ⟨rfl, ⟨Q, ((H3.out.wide fun k hk => .inl hk).mono (by omega))⟩, HU3.out.nul⟩
end
end Go.Proofs.YtepggchnhgpcnaaGreatDoor
namespace Go.Proofs.YtepggchnhgpcnaaGreatDoor
open Go.RowKit Go.Maps Go.Sort Go.Shelf
set_option linter.unusedVariables false

section
variable {base : Nat} {w w' : World} {v : Value} {zs xs : List Int}
theorem OwnI.apps (h : OwnI base w v zs) (a : Option Addr) (c : Nat) (hr : RowI w a xs) (hx : xs ≠ []) (hl : zs.length ≤ 1000) (hl2 : xs.length ≤ 1000) (hb : base ≤ w.heap.size) :
  ∃ v' w', (Builtin.append_ #[23, 23] 23 #[v, .slice a xs.length c]).run Tryz.prog w = .ok v' w' ∧ OwnI base w' v' (zs ++ xs) ∧ w.grownBy w' v.ownBlock := by
 obtain ⟨g, o, rfl, hg, hc⟩ := hr.resolve_left hx
 obtain ⟨i0, hi, hz, hz1, hz2⟩ := info_parts info_int
 obtain ⟨v', w', hrun, g1, g2, _⟩ := run_append_own (P := Tryz.prog) w base 23 23 3 i0 _ 1 8 Tryz.underlying23 hi hz hz1 hz2 rfl (by decide) v (intV zs).length (intV zs) h ⟨g, o, none⟩ xs.length c (intV xs) (by simp [intV])
  (fun j u hj => by
   simp only [intV, List.getElem?_map, Option.map_eq_some_iff] at hj
   obtain ⟨x, hx, rfl⟩ := hj
   rw [add_off]
   exact hc j x hx) (fun u hu => by
   obtain ⟨x, _, rfl⟩ := List.mem_map.1 hu
   rfl) (by unfold maxLen; simp [intV]; omega) (by simp [intV]; omega) hb
 refine ⟨v', w', hrun, ?_, g2⟩
 show w'.ownsRow base _ 1 v' (intV (zs ++ xs)).length (intV (zs ++ xs))
 rw [show intV (zs ++ xs) = intV zs ++ intV xs by simp [intV], List.length_append]
 have : (intV xs).length = xs.length := by simp [intV]
 rw [this]
 exact g1
theorem OwnI.empty (w : World) : OwnI w.heap.size (w.alloc (.cells #[] 3)) (.slice (some ⟨w.heap.size, 0, none⟩) 0 0) [] :=
 ⟨rfl, .inr ⟨w.heap.size, 0, #[], rfl, Nat.le_refl _, heap_alloc_new _ _, Nat.le_refl _, Nat.zero_le _, rfl, rfl⟩⟩
end
theorem iclone_any (w : World) (a : Option Addr) (c : Nat) (ls : List Int) (h : RowI w a ls) (hn : ls ≠ []) (hl : ls.length ≤ 1000) :
  Calls Tryz.prog 64 #[.slice a ls.length c] w fun e w' => ∃ v, e = .returned v ∧ OwnI w.heap.size w' v ls ∧ Up Nul w w' := by
 have u0 : Up Nul w (w.alloc (.cells #[] 3)) := (Up.refl _ _).alloc _
 obtain ⟨v', w', hrun, h1, h2⟩ := (OwnI.empty w).apps a c (h.nxt u0) hn (Nat.zero_le _) hl (by rw [World.size_alloc]; omega)
 have HE : Hid (OwnI w.heap.size w' v' ls ∧ Up Nul w w') := ⟨h1, (Up.refl Nul w).trans (u0.grown h2 (fun k hk => by
  have e : w.heap.size = k := by injection hk
  omega))⟩
 obtain ⟨g, o, rfl, _, _⟩ := h.resolve_left hn
 clear h u0 h1 h2
 obtain ⟨n, N⟩ : ∃ n, Hid (ls.length = n) := ⟨_, rfl⟩
 rw [N.out] at hrun ⊢
 clear hl hn
 have heq : ∀ w : World, (binOp .eql 23 (.slice (some ⟨g, o, none⟩) n c) (.slice none 0 0)).run Tryz.prog w = .ok (.bool false) w := fun _ => by kernel_rfl
 go_enter Tryz.func64, Tryz.ntmps64
 go_wp2_with (first | (at_builtin; refine wpList_append_eqv rfl _ _ _ rfl _ _ _ rfl rfl hrun ?_))
 go_ret
 exact ⟨_, rfl, HE.out⟩
theorem isDead_any (x : Int) (W : World) : FnGives Tryz.prog 62 #[] #[.int .i64 x] (.bool (decide (x = 0))) W := by
 show Calls Tryz.prog 62 #[.int .i64 x] W _
 by_cases h : x = 0
 ·subst h
  go_enter Tryz.func62, Tryz.ntmps62
  go_wp2
  go_ret
  exact ⟨rfl, 0, rfl⟩
 ·have h2 : (x == 0) = false := by rw [beq_eq_false_iff_ne]; exact h
  have HD : Hid (decide (x = 0) = false) := decide_eq_false h
  rw [HD.out]
  clear h HD
  go_enter Tryz.func62, Tryz.ntmps62
  go_wp2
  go_ret
  exact ⟨rfl, 0, rfl⟩
theorem del_any (w : World) (B : Nat) (v : Value) (zs : List Int) (ho : OwnI B w v zs) (hn : zs ≠ []) (hl : zs.length ≤ 1000) :
  Calls Tryz.prog 63 #[v, .func (.func 62) #[] #[]] w fun e w' => ∃ a c, e = .returned (.slice a (zs.filter fun x => decide (x ≠ 0)).length c) ∧ RowI w' a (zs.filter fun x => decide (x ≠ 0)) ∧ Up (fun k => B ≤ k) w w' := by
 obtain ⟨blk, cap, cur, rfl, hB, hb, h4, h5, h6, h7⟩ := ho.2.resolve_left (fun e => by
  have := e.2
  simp [intV] at this
  exact hn this)
 have hlen : (intV zs).length = zs.length := by simp [intV]
 rw [hlen] at h4 h7 ⊢
 have hblk : blk < w.heap.size := (Array.getElem?_eq_some_iff.1 hb).1
 have hH : Holds (Value.int .i64) w blk 0 zs.toArray := fun j hj => by
  have hj : j < zs.length := by simpa using hj
  constructor
  ·have e : (intV zs)[j]? = some (.int .i64 zs[j]) := by simp [intV, hj]
   rw [← h7, List.getElem?_take, if_pos (by omega)] at e
   have e2 : (zs.toArray)[j]! = zs[j] := by simp [hj]
   rw [e2]
   simp only [World.cell?, hb, Nat.zero_add]
   simpa using e
  ·simp [World.frozen?, hb]
 have eg : ∀ args w, (callFunc 62 args).run Tryz.prog w = .ok (.enter 62 args) w := enters_of Tryz.func62 (by kernel_rfl) rfl
 have hcon := AnyE.slices_DeleteFunc Tryz.delI (Value.int .i64) (fun _ => rfl) (fun x => decide (x = 0)) 62 #[] eg 0 Tryz.zeroValue3 blk 0 cap zs.toArray w
  (fun W x _ => isDead_any x W) (fun n os dk x _ => isDead_any x _) hH (by simp; omega) (by simp; omega)
 change Calls Tryz.prog 63 _ _ _ at hcon
 have e0 : zs.toArray.size = zs.length := by simp
 rw [e0] at hcon
 refine hcon.mono ?_
 rintro e w' ⟨rfl, q, rfl⟩
 have ef : ((zs.toArray.toList.filter fun x => !decide (x = 0))) = zs.filter fun x => decide (x ≠ 0) := by
  have : zs.toArray.toList = zs := by simp
  rw [this]
  congr 1
  funext x
  by_cases h : x = 0 <;> simp [h]
 rw [ef]
 have hle : (zs.filter fun x => decide (x ≠ 0)).length ≤ zs.length := List.length_filter_le _ _
 generalize (zs.filter fun x => decide (x ≠ 0)) = fl at hle ⊢
 have hsz : (fl ++ List.replicate (zs.length - fl.length) 0).toArray.size = zs.toArray.size := by simp; omega
 have hHa : Holds (Value.int .i64) (Sort.ahead w q) blk 0 zs.toArray := holds_ahead _ w q blk 0 _ hH
 have hP := holds_putRow (Value.int .i64) (Sort.ahead w q) blk 0 zs.toArray (fl ++ List.replicate (zs.length - fl.length) 0).toArray hHa hsz
 refine ⟨_, _, rfl, ?_, ?_⟩
 ·rcases Classical.em (fl = []) with e | e
  ·exact .inl e
  ·refine .inr ⟨blk, 0, rfl, by rw [size_putRow]; exact hblk, fun i x hi => ?_⟩
   have hil : i < fl.length := by
    rcases Nat.lt_or_ge i fl.length with h | h
    ·exact h
    ·rw [List.getElem?_eq_none h] at hi; cases hi
   have h1 := (hP i (by rw [hsz, e0]; omega)).1
   rw [h1]
   have h2 : (fl ++ List.replicate (zs.length - fl.length) 0).toArray[i]! = x := by
    rw [List.getElem!_toArray, List.getElem!_eq_getElem?_getD, List.getElem?_append_left hil, hi]; rfl
   rw [h2]
 ·refine ⟨rfl, rfl, rfl, by rw [size_putRow]; exact Nat.le_refl _, fun k hk hs => ?_⟩
  show ((Sort.ahead w q).heap.modify blk _)[k]? = w.heap[k]?
  rw [Array.getElem?_modify, if_neg (fun e => hs (by rw [← e]; exact hB))]
  rfl
theorem sids_six (key : ByteArray) (n sid : Int) (sa : Option Addr) (sc : Nat) (sids : List Int) (colour : Int) (lv : Value) (a b c d e f : Int) (w : World) (hr : RowI w sa sids) (hn : sids ≠ []) (hl : sids.length ≤ 1000) (hlv : ∃ x y z, lv = .slice x y z) :
  Calls Tryz.prog 22 #[.agg #[.int .i64 6, .string key, .int .i64 n, .int .i64 sid, .slice sa sids.length sc, .int .i64 colour, lv, .int .i64 a, .int .i64 b, .int .i64 c, .int .i64 d, .int .i64 e, .int .i64 f]] w (SidsP w (sids.filter fun x => decide (x ≠ 0))) := by
 obtain ⟨lx, ly, lz, rfl⟩ := hlv
 obtain ⟨w1, hw1⟩ : ∃ W, W = w.alloc (.cells #[.int .i64 6, .string key, .int .i64 n, .int .i64 sid, .slice sa sids.length sc, .int .i64 colour, .slice lx ly lz, .int .i64 a, .int .i64 b, .int .i64 c, .int .i64 d, .int .i64 e, .int .i64 f] 28) := ⟨_, rfl⟩
 have u1 : Up Nul w w1 := by rw [hw1]; exact (Up.refl _ _).alloc _
 have b1 : w1.heap[w.heap.size]? = some (.cells #[.int .i64 6, .string key, .int .i64 n, .int .i64 sid, .slice sa sids.length sc, .int .i64 colour, .slice lx ly lz, .int .i64 a, .int .i64 b, .int .i64 c, .int .i64 d, .int .i64 e, .int .i64 f] 28 (0, 0)) := by rw [hw1]; exact heap_alloc_new _ _
 have g0 : w1.cell? ⟨w.heap.size, 0, none⟩ = some (.int .i64 6) := by simp [World.cell?, b1]
 have g4 : w1.cell? ⟨w.heap.size, 4, none⟩ = some (.slice sa sids.length sc) := by simp [World.cell?, b1]
 have HC := hid (iclone_any w1 sa sc sids (hr.nxt u1) hn hl)
 have HD : Hid (∀ W v, OwnI w1.heap.size W v sids → Up Nul w1 W → Calls Tryz.prog 63 #[v, .func (.func 62) #[] #[]] W fun e w' => SidsP w (sids.filter fun x => decide (x ≠ 0)) e w') := fun W v ho u => by
  refine (del_any W w1.heap.size v sids ho hn hl).mono ?_
  rintro e w' ⟨a, c, rfl, hrow, u'⟩
  refine ⟨a, c, rfl, hrow, ?_⟩
  exact (u1.trans u).thn u' (fun j e => .inr (Nat.le_trans u1.size e))
 clear hr hn hl u1 b1
 generalize sids.length = ns at HC g4 hw1 ⊢
 generalize (sids.filter fun x => decide (x ≠ 0)) = fl at HD ⊢
 go_enter Tryz.func22, Tryz.ntmps22
 go_wp2_with fail
 rw [← hw1]
 clear hw1
 refine HC.out.mono ?_
 rintro e w2 ⟨v, rfl, ho, u2⟩
 have HD2 := hid (HD.out w2 v ho u2)
 obtain ⟨va, vc, hv⟩ := ho.shape
 clear ho u2
 subst hv
 go_wp2_with fail
 refine HD2.out.mono ?_
 rintro e w3 ⟨ra, rc, rfl, hrow, u3⟩
 have HE := hid (And.intro hrow u3)
 clear hrow u3
 go_wp2
 go_ret
 exact ⟨ra, rc, rfl, HE.out.1, HE.out.2⟩
theorem sortsS (m : Nat) : AnyZ.SortsIn Tryz.prog Tryz.sortedS_ren Fence.wide m :=
 ⟨fun blk off cap ss W hH hblk hsz => callsIn_wide.2 (AnyM.slices_Sort_string Tryz.sortS blk off cap ss W hH hblk hsz), fun p cap W => callsIn_wide.2 (AnyM.slices_Sort_string_none Tryz.sortS p cap W)⟩
theorem sortsI (m : Nat) : AnyZI.SortsIn Tryz.prog Tryz.sortedI_ren Fence.wide m :=
 ⟨fun blk off cap ss W hH hblk hsz => callsIn_wide.2 (AnyM.slices_Sort_int Tryz.sortI blk off cap ss W hH hblk hsz), fun p cap W => callsIn_wide.2 (AnyM.slices_Sort_int_none Tryz.sortI p cap W)⟩
set_option maxHeartbeats 4000000 in
theorem keys_raw (w : World) (p b nn : Nat) (D0 : DataW Value) (hown : w.ownsMap Tryz.prog 9 hv b nn D0) (c0 : w.cell? ⟨p, 0, none⟩ = some (.map (some b))) (hmax : Maps.size D0 ≤ maxLen) (hbytes : Maps.size D0 * 16 ≤ 140737488355328) :
  Calls Tryz.prog 14 #[.pointer (some ⟨p, 0, none⟩)] w fun e w' => ∃ (v : Value) (ss : List (List UInt8)), e = .returned v ∧ ss.Perm (strKeys D0) ∧
   w'.ownsRow w.heap.size 9 1 v ss.length ((ss.mergeSort (fun x y => decide (x ≤ y))).map encStr) ∧ Below w.heap.size w w' := by
 refine (callsIn_wide (n := 6)).1 ?_
 have hbl := hown.lt
 have hseq : SeqGives Fence.wide 2 Tryz.prog 77 #[.pointer (some ⟨w.heap.size, 0, none⟩)] encStr (fun ss => ss.Perm (strKeys D0)) (Maps.size D0) (w.alloc (.cells #[.map (some b)] 55)) :=
  AnyZ.keys_gives (ρ := Tryz.keysS_ren) { Tryz.keysS with } Fence.wide _ trivial rfl (by omega) w.heap.size b nn D0 _ (by simp) (by simp) (by
   obtain ⟨es, clock, hb, Ft, hs, hD⟩ := hown
   exact ⟨es, clock, (Below.heap_alloc _ _ b hbl).trans hb, Ft, hs, hD⟩)
 have cK : ∀ mb W, CallsIn Fence.wide 5 Tryz.prog 47 #[.map mb] W fun e w' => e = .returned (.func (.func 77) #[] #[.pointer (some ⟨W.heap.size, 0, none⟩)]) ∧ w' = W.alloc (.cells #[.map mb] 55) := fun mb W => AnyZ.keys_in Tryz.keysS Fence.wide 5 trivial rfl mb W
 have cS := AnyZ.sorted_in Tryz.sortedS Fence.wide 5 trivial trivial trivial trivial rfl (by omega) (sortsS _) (enters_of Tryz.func76 (by kernel_rfl) rfl) 77 #[.pointer (some ⟨w.heap.size, 0, none⟩)] trivial (enters_of Tryz.func77 (by kernel_rfl) rfl) _ _ hmax hbytes _ hseq
 change CallsIn _ _ Tryz.prog 46 _ _ _ at cS
 have hfK : Fence.wide.fn 47 := trivial
 have hfS : Fence.wide.fn 46 := trivial
 refine callsIn_of_wp Tryz.func14 rfl trivial ?_ rfl
 simp only [Tryz.ntmps14, List.size_toArray, List.length_cons, List.length_nil, Nat.reduceAdd, Nat.reduceSub, Array.replicate_succ, Array.replicate_zero, List.push_toArray, List.append_toArray, List.nil_append, List.cons_append]
 gi_wp2_with (first
  | (gi_at_call 47; refine (cK _ _).mono ?_; rintro e w' ⟨rfl, rfl⟩)
  | (gi_at_call 46; refine cS.mono ?_; rintro e w' ⟨v, ss, rfl, hS, hrow, hnil, hb⟩))
 go_ret
 exact ⟨v, ss, rfl, hS, ownsRow_base_a hrow (by simp), ((Below.refl _ w).alloc (Nat.le_refl _) _).trans (hb.mono (by simp))⟩
set_option maxHeartbeats 4000000 in
theorem sids_raw (w : World) (p b nn : Nat) (D0 : DataW Value) (hown : w.ownsMap Tryz.prog 3 hv b nn D0) (c1 : w.cell? ⟨p, 1, none⟩ = some (.map (some b))) (hmax : Maps.size D0 ≤ maxLen) (hbytes : Maps.size D0 * 8 ≤ 140737488355328) :
  Calls Tryz.prog 15 #[.pointer (some ⟨p, 0, none⟩)] w fun e w' => ∃ (v : Value) (ss : List Int), e = .returned v ∧ ss.Perm (intKeys D0) ∧
   w'.ownsRow w.heap.size 3 1 v ss.length ((ss.mergeSort (fun x y => decide (x ≤ y))).map encZ) ∧ Below w.heap.size w w' := by
 refine (callsIn_wide (n := 6)).1 ?_
 have hbl := hown.lt
 have hseq : SeqGives Fence.wide 2 Tryz.prog 80 #[.pointer (some ⟨w.heap.size, 0, none⟩)] encZ (fun ss => ss.Perm (intKeys D0)) (Maps.size D0) (w.alloc (.cells #[.map (some b)] 56)) :=
  AnyZI.keys_gives (ρ := Tryz.keysI_ren) { Tryz.keysI with } Fence.wide _ trivial rfl (by omega) w.heap.size b nn D0 _ (by simp) (by simp) (by
   obtain ⟨es, clock, hb, Ft, hs, hD⟩ := hown
   exact ⟨es, clock, (Below.heap_alloc _ _ b hbl).trans hb, Ft, hs, hD⟩)
 have cK : ∀ mb W, CallsIn Fence.wide 5 Tryz.prog 49 #[.map mb] W fun e w' => e = .returned (.func (.func 80) #[] #[.pointer (some ⟨W.heap.size, 0, none⟩)]) ∧ w' = W.alloc (.cells #[.map mb] 56) := fun mb W => AnyZI.keys_in Tryz.keysI Fence.wide 5 trivial rfl mb W
 have cS := AnyZI.sorted_in Tryz.sortedI Fence.wide 5 trivial trivial trivial trivial rfl (by omega) (sortsI _) (enters_of Tryz.func79 (by kernel_rfl) rfl) 80 #[.pointer (some ⟨w.heap.size, 0, none⟩)] trivial (enters_of Tryz.func80 (by kernel_rfl) rfl) _ _ hmax hbytes _ hseq
 change CallsIn _ _ Tryz.prog 48 _ _ _ at cS
 have hfK : Fence.wide.fn 49 := trivial
 have hfS : Fence.wide.fn 48 := trivial
 refine callsIn_of_wp Tryz.func15 rfl trivial ?_ rfl
 simp only [Tryz.ntmps15, List.size_toArray, List.length_cons, List.length_nil, Nat.reduceAdd, Nat.reduceSub, Array.replicate_succ, Array.replicate_zero, List.push_toArray, List.append_toArray, List.nil_append, List.cons_append]
 gi_wp2_with (first
  | (gi_at_call 49; refine (cK _ _).mono ?_; rintro e w' ⟨rfl, rfl⟩)
  | (gi_at_call 48; refine cS.mono ?_; rintro e w' ⟨v, ss, rfl, hS, hrow, hnil, hb⟩))
 go_ret
 exact ⟨v, ss, rfl, hS, ownsRow_base_a hrow (by simp), ((Below.refl _ w).alloc (Nat.le_refl _) _).trans (hb.mono (by simp))⟩
section
variable {P : Program} {k : TypeId} {w : World} {b n : Nat} {D : DataW Value}
theorem strKeys_spec (h : w.ownsMap P k hv b n D) (K : Keyed P k) (hk : P.underlying k = some .string) : (strKeys D).Nodup ∧ (∀ x, x ∈ strKeys D ↔ has D (.string x) = true) ∧ ∀ x ∈ strKeys D, x.length ≤ maxLen := by
 obtain ⟨es, rfl, hp, _⟩ := h.entries K
 obtain ⟨es', hD', hko⟩ := h.keysOf
 obtain rfl : es = es' := by simpa using hD'
 have hs : ∀ p ∈ es, ∃ x, p.1 = .string x ∧ x.length ≤ maxLen := fun p hp => by
  obtain ⟨v, hv⟩ := hko p hp
  obtain ⟨x, _, hx, hl⟩ := Maps.keyOf_str hk hv
  exact ⟨x, hx, hl⟩
 refine ⟨?_, fun x => ?_, fun x hx => ?_⟩
 ·show (es.map fun p => Go.strOf p.1).Nodup
  refine List.pairwise_map.2 (hp.imp_of_mem fun {p q} hp' hq' hne e => hne ?_)
  obtain ⟨a, ha, _⟩ := hs p hp'
  obtain ⟨b, hb, _⟩ := hs q hq'
  rw [ha, hb] at e ⊢
  exact congrArg _ e
 ·rw [has_eq, List.any_eq_true]
  show x ∈ es.map (fun p => Go.strOf p.1) ↔ _
  rw [List.mem_map]
  constructor
  ·rintro ⟨p, hp', rfl⟩
   obtain ⟨a, ha, _⟩ := hs p hp'
   exact ⟨p, hp', by rw [ha]; simp [Lit.sameKey, Go.strOf]⟩
  ·rintro ⟨p, hp', he⟩
   obtain ⟨a, ha, _⟩ := hs p hp'
   rw [ha] at he
   exact ⟨p, hp', by rw [ha]; simpa [Lit.sameKey, Go.strOf] using he⟩
 ·have hx : x ∈ es.map (fun p => Go.strOf p.1) := hx
  rw [List.mem_map] at hx
  obtain ⟨p, hp', rfl⟩ := hx
  obtain ⟨a, ha, hl⟩ := hs p hp'
  rw [ha]; exact hl
theorem intKeys_spec (h : w.ownsMap P k hv b n D) (K : Keyed P k) (hk : P.underlying k = some (.int .i64)) : (intKeys D).Nodup ∧ (∀ x, x ∈ intKeys D ↔ has D (.int .i64 x) = true) ∧ ∀ x ∈ intKeys D, (Lit.int .i64 x).wf = true := by
 obtain ⟨es, rfl, hp, _⟩ := h.entries K
 obtain ⟨es', hD', hko⟩ := h.keysOf
 obtain rfl : es = es' := by simpa using hD'
 have hs : ∀ p ∈ es, ∃ x, p.1 = .int .i64 x ∧ (Lit.int .i64 x).wf = true := fun p hp => by
  obtain ⟨v, hv⟩ := hko p hp
  obtain ⟨x, _, hx, hl⟩ := Maps.keyOf_i64 hk hv
  exact ⟨x, hx, hl⟩
 refine ⟨?_, fun x => ?_, fun x hx => ?_⟩
 ·show (es.map fun p => Go.intOf p.1).Nodup
  refine List.pairwise_map.2 (hp.imp_of_mem fun {p q} hp' hq' hne e => hne ?_)
  obtain ⟨a, ha, _⟩ := hs p hp'
  obtain ⟨b, hb, _⟩ := hs q hq'
  rw [ha, hb] at e ⊢
  exact congrArg _ e
 ·rw [has_eq, List.any_eq_true]
  show x ∈ es.map (fun p => Go.intOf p.1) ↔ _
  rw [List.mem_map]
  constructor
  ·rintro ⟨p, hp', rfl⟩
   obtain ⟨a, ha, _⟩ := hs p hp'
   exact ⟨p, hp', by rw [ha]; simp [Lit.sameKey, Go.intOf]⟩
  ·rintro ⟨p, hp', he⟩
   obtain ⟨a, ha, _⟩ := hs p hp'
   rw [ha] at he
   exact ⟨p, hp', by rw [ha]; simpa [Lit.sameKey, Go.intOf] using he⟩
 ·have hx : x ∈ es.map (fun p => Go.intOf p.1) := hx
  rw [List.mem_map] at hx
  obtain ⟨p, hp', rfl⟩ := hx
  obtain ⟨a, ha, hl⟩ := hs p hp'
  rw [ha]; exact hl
end
structure KS (M : MM) (ks : List ByteArray) : Prop where
 nd : ks.Nodup
 up : ks.Pairwise fun a b => a.data.toList ≤ b.data.toList
 sz : ∀ k ∈ ks, k.size ≤ maxLen
 mem : ∀ k : ByteArray, k.size ≤ maxLen → (k ∈ ks ↔ (M.b k).isSome = true)
structure IS (M : MM) (is : List Int) : Prop where
 nd : is.Nodup
 up : is.Pairwise fun a b => a ≤ b
 wf : ∀ i ∈ is, (Lit.int .i64 i).wf = true
 mem : ∀ i : Int, (Lit.int .i64 i).wf = true → (i ∈ is ↔ (M.s i).isSome = true)
section
variable {F : Nat → Prop} {w : World} {p bm bs n : Nat} {Q : Int → Value} {M : MM}
theorem keys_any (h : MT F w p bm bs n Q M) (hn : n ≤ 100000) : Calls Tryz.prog 14 #[.pointer (some ⟨p, 0, none⟩)] w fun e w' => ∃ v ks, e = .returned v ∧ OwnV 9 w.heap.size w' v (ks.map Value.string) ∧ KS M ks ∧ ks.length ≤ n ∧ Up Nul w w' := by
 obtain ⟨D, h1, h2⟩ := h.mb
 have hsz := h1.size_le
 obtain ⟨s1, s2, s3⟩ := strKeys_spec h1 keyS Tryz.underlying9
 refine (keys_raw w p bm n D h1 h.cells.1 (by unfold maxLen; omega) (by omega)).mono ?_
 rintro e w' ⟨v, ss, rfl, hp, ho, hb⟩
 have hm : (ss.mergeSort fun x y => decide (x ≤ y)).Perm ss := List.mergeSort_perm _ _
 have hall := hm.trans hp
 have hlen : ss.length ≤ n := by
  have e1 := hp.length_eq
  obtain ⟨es, e2, _⟩ := h1.entries keyS
  rw [e2] at e1 hsz
  have : (strKeys (DataW.map es)).length = es.length := by show (es.map _).length = _; rw [List.length_map]
  have e3 : Maps.size (DataW.map es) = es.length := rfl
  omega
 refine ⟨v, (ss.mergeSort fun x y => decide (x ≤ y)).map fun l => (⟨l.toArray⟩ : ByteArray), rfl, ?_, ⟨?_, ?_, ?_, ?_⟩, by rw [List.length_map, hm.length_eq]; exact hlen, Up.of_below hb Nul⟩
 ·have e1 : ((ss.mergeSort fun x y => decide (x ≤ y)).map fun l => (⟨l.toArray⟩ : ByteArray)).map Value.string = (ss.mergeSort fun x y => decide (x ≤ y)).map encStr := by rw [List.map_map]; rfl
  rw [e1]
  unfold OwnV
  rw [List.length_map, hm.length_eq]
  exact ho
 ·refine List.pairwise_map.2 ?_
  exact (hall.nodup_iff.2 s1).imp fun {a b} hne e => hne (by injection e with e; simpa using e)
 ·refine List.pairwise_map.2 ?_
  have := List.pairwise_mergeSort (le := fun x y : List UInt8 => decide (x ≤ y)) (fun a b c h1 h2 => by simp only [decide_eq_true_eq] at *; exact List.le_trans h1 h2) (fun a b => by simp only [Bool.or_eq_true, decide_eq_true_eq]; exact List.le_total a b) ss
  exact this.imp fun {a b} h => by simpa using h
 ·intro k hk
  obtain ⟨l, hl, rfl⟩ := List.mem_map.1 hk
  have := s3 l (hall.mem_iff.1 hl)
  show l.toArray.size ≤ maxLen
  rw [List.size_toArray]; exact this
 ·intro k hk
  have e1 : ent D (ks k) = (M.b k).map blv := h2 k hk
  obtain ⟨_, e2⟩ := at_held (held_all h1) (kl := ks k) undef
  have e3 := s2 k.data.toList
  have e4 : (M.b k).isSome = (ent D (ks k)).isSome := by rw [e1, Option.isSome_map]
  rw [e4, ← e2, ← e3, ← hall.mem_iff, List.mem_map]
  constructor
  ·rintro ⟨l, hl, rfl⟩; simpa using hl
  ·intro hl; exact ⟨_, hl, ByteArray.ext (by simp)⟩
theorem sids_any (h : MT F w p bm bs n Q M) (hn : n ≤ 100000) : Calls Tryz.prog 15 #[.pointer (some ⟨p, 0, none⟩)] w fun e w' => ∃ v is, e = .returned v ∧ OwnI w.heap.size w' v is ∧ IS M is ∧ is.length ≤ n ∧ Up Nul w w' := by
 obtain ⟨D, h1, h2⟩ := h.ms
 have hsz := h1.size_le
 obtain ⟨s1, s2, s3⟩ := intKeys_spec h1 keyI Tryz.underlying3
 refine (sids_raw w p bs n D h1 h.cells.2.1 (by unfold maxLen; omega) (by omega)).mono ?_
 rintro e w' ⟨v, ss, rfl, hp, ho, hb⟩
 have hm : (ss.mergeSort fun x y => decide (x ≤ y)).Perm ss := List.mergeSort_perm _ _
 have hall := hm.trans hp
 have hlen : ss.length ≤ n := by
  have e1 := hp.length_eq
  obtain ⟨es, e2, _⟩ := h1.entries keyI
  rw [e2] at e1 hsz
  have : (intKeys (DataW.map es)).length = es.length := by show (es.map _).length = _; rw [List.length_map]
  have e3 : Maps.size (DataW.map es) = es.length := rfl
  omega
 refine ⟨v, ss.mergeSort fun x y => decide (x ≤ y), rfl, ?_, ⟨hall.nodup_iff.2 s1, ?_, fun i hi => s3 i (hall.mem_iff.1 hi), ?_⟩, by rw [hm.length_eq]; exact hlen, Up.of_below hb Nul⟩
 ·show w'.ownsRow w.heap.size 3 1 v (intV (ss.mergeSort fun x y => decide (x ≤ y))).length (intV (ss.mergeSort fun x y => decide (x ≤ y)))
  have e1 : (intV (ss.mergeSort fun x y => decide (x ≤ y))).length = ss.length := by unfold intV; rw [List.length_map, hm.length_eq]
  rw [e1]
  exact ho
 ·have := List.pairwise_mergeSort (le := fun x y : Int => decide (x ≤ y)) (fun a b c h1 h2 => by simp only [decide_eq_true_eq] at *; omega) (fun a b => by simp only [Bool.or_eq_true, decide_eq_true_eq]; omega) ss
  exact this.imp fun {a b} h => by simpa using h
 ·intro i hi
  have e1 : ent D (ki i) = (M.s i).map fun s => stv s (Q i) := h2 i hi
  obtain ⟨_, e2⟩ := at_held (held_all h1) (kl := ki i) undef
  have e3 := s2 i
  have e4 : (M.s i).isSome = (ent D (ki i)).isSome := by rw [e1, Option.isSome_map]
  rw [e4, ← e2, ← e3, ← hall.mem_iff]
end
end Go.Proofs.YtepggchnhgpcnaaGreatDoor
namespace Go.Proofs.YtepggchnhgpcnaaGreatDoor
open Go.RowKit Go.Maps
set_option linter.unusedVariables false

def MM.allLocs (M : MM) (is : List Int) : List Lo := is.flatMap fun i => ((M.s i).map (·.locs)).getD []
theorem allLocs_next {M : MM} {zs : List Int} {t : Nat} (h : t < zs.length) : M.allLocs (zs.take (t + 1)) = M.allLocs (zs.take t) ++ ((M.s zs[t]).map (·.locs)).getD [] := by
 unfold MM.allLocs
 rw [List.take_succ_eq_append_getElem h, List.flatMap_append]
 simp
theorem allLocs_le (M : MM) (zs : List Int) (t : Nat) : (M.allLocs (zs.take t)).length ≤ (M.allLocs zs).length := by
 have e : M.allLocs zs = M.allLocs (zs.take t) ++ M.allLocs (zs.drop t) := by
  unfold MM.allLocs
  rw [← List.flatMap_append, List.take_append_drop]
 rw [e, List.length_append]
 omega
theorem OwnLo.lower {b b' : Nat} {w : World} {v : Value} {ls : List Lo} (h : OwnLo b w v ls) (hb : b' ≤ b) : OwnLo b' w v ls := by
 refine ⟨h.1, ?_⟩
 rcases h.2 with e | ⟨g, cap, cur, h1, h2, h3⟩
 ·exact .inl e
 ·exact .inr ⟨g, cap, cur, h1, Nat.le_trans hb h2, h3⟩
section
variable {F : Nat → Prop} {w : World} {p bm bs n : Nat} {Q : Int → Value} {M : MM}
end
def locs3 : List Lo := [⟨0, 0, 1⟩, ⟨0, 0, 2⟩, ⟨0, 0, 3⟩]
def ra1 : Rc := ⟨1, ⟨#[98]⟩, 5, 1, [], 0, locs3, tb0⟩
def ra2 : Rc := ⟨1, ⟨#[97]⟩, 0, 1, [], 0, locs3, tb0⟩
def ra3 : Rc := ⟨2, ⟨#[99]⟩, 0, 0, [], 0, [], tb0⟩
def ma1 : MM := (MM.new.step ra1).2
theorem ok_ra1 : okR ra1 = true := by decide
theorem ok_ra2 : okR ra2 = true := by decide
theorem ok_ra3 : okR ra3 = true := by decide
theorem ma1_is : MM.new.step ra1 = (0, ma1) ∧ ma1.last = 1 ∧ ma1.b = upd (fun _ => none) ⟨#[98]⟩ (some ⟨5, 1, 0⟩) := by
 have e1 : MM.new.step ra1 = (0, { (MM.new.put ra1).2 with last := 1 }) := by
  unfold MM.step MM.app
  rw [ok_ra1]
  rfl
 refine ⟨?_, ?_, ?_⟩
 ·unfold ma1; rw [e1]
 ·unfold ma1; rw [e1]
 ·unfold ma1
  rw [e1]
  have h1 : (MM.new.put ra1).2.b = layT (upd (fun _ => none) ⟨#[98]⟩ (some ⟨5, 0, 0⟩)) ⟨1, 0, ⟨#[98]⟩, noK, noK, locs3⟩ 1 3 := rfl
  show (MM.new.put ra1).2.b = _
  rw [h1]
  funext k
  obtain ⟨i1, i2, i3, i4⟩ := layT_b (upd (fun _ => none) (⟨#[98]⟩ : ByteArray) (some (⟨5, 0, 0⟩ : Bl))) ⟨1, 0, ⟨#[98]⟩, noK, noK, locs3⟩ 1 3 (by omega) k
  by_cases hk : k = ⟨#[98]⟩
  ·subst hk
   rw [upd_same]
   exact i4 0 (by omega) rfl (fun u hu hne => by
    have : u = 1 ∨ u = 2 := by omega
    rcases this with rfl | rfl
    ·exact (by decide : (noK : ByteArray) ≠ ⟨#[98]⟩)
    ·exact (by decide : (noK : ByteArray) ≠ ⟨#[98]⟩)) ⟨5, 0, 0⟩ (upd_same _ _ _)
  ·rw [upd_ne _ _ hk]
   exact i3 (upd_ne _ _ hk)
theorem ma1_two : ma1.step ra2 = (11, ma1) := by
 unfold MM.step MM.app
 rw [ok_ra2, ma1_is.2.1]
 rfl
theorem ma1_three : ma1.step ra3 = (9, ma1) := by
 have hb : ma1.b ⟨#[99]⟩ = none := by rw [ma1_is.2.2]; exact upd_ne _ _ (by decide)
 have hd : ma1.drop ⟨#[99]⟩ = (9, ma1) := by unfold MM.drop; rw [hb]
 unfold MM.step MM.app
 have hc : ma1.chg ra3 = (9, ma1) := by
  have : ma1.chg ra3 = ma1.drop ⟨#[99]⟩ := rfl
  rw [this, hd]
 rw [ok_ra3, hc]
 rfl
theorem ma1_keys {l : List ByteArray} (h : KS ma1 l) : l.length = 1 := by
 have hm : ∀ k, k.size ≤ maxLen → (k ∈ l ↔ k = ⟨#[98]⟩) := fun k hk => by
  rw [h.mem k hk, ma1_is.2.2]
  by_cases e : k = ⟨#[98]⟩
  ·subst e; rw [upd_same]; simp
  ·rw [upd_ne _ _ e]; simp [e]
 have h1 : (⟨#[98]⟩ : ByteArray) ∈ l := (hm _ (by unfold maxLen; decide)).2 rfl
 match l, h, h1, hm with
 | [a], _, _, _ => rfl
 | a :: b :: t, h, _, hm =>
  have ha := (hm a (h.sz a (by simp))).1 (by simp)
  have hb := (hm b (h.sz b (by simp))).1 (by simp)
  have := h.nd
  rw [ha, hb] at this
  simp at this
end Go.Proofs.YtepggchnhgpcnaaGreatDoor
