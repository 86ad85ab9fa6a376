/- 'split', its rounds. -/
import Derived.Test.YtmhmlfgikmeejaaDoorMtMerge
import Derived.Test.YtmhmlfgikmeejaaDoorMtCat
namespace Go.Proofs.YtmhmlfgikmeejaaDoor
open Go.RowKit Go.Maps
set_option linter.unusedVariables false

/-- What 'split' has made of the first t parts. -/
def spl (s : St) (zs : List Int) (M0 : MM) (ls : List Lo) : Nat → MM × List Lo
  | 0 => (M0, ls)
  | t + 1 => splF s zs (spl s zs M0 ls t) t
/-- Parts from t on that live. -/
def liv (s : St) : Nat → Nat
  | 0 => (if s.key 0 = noK then 0 else 1) + ((if s.key 1 = noK then 0 else 1) + (if s.key 2 = noK then 0 else 1))
  | 1 => (if s.key 1 = noK then 0 else 1) + (if s.key 2 = noK then 0 else 1)
  | 2 => if s.key 2 = noK then 0 else 1
  | _ => 0
theorem spl_live {s : St} {zs : List Int} {M0 : MM} {ls : List Lo} {t : Nat} (h : s.key t ≠ noK) :
    spl s zs M0 ls (t + 1) = ((spl s zs M0 ls t).1.lay (zs.getD t 0) ⟨2, (t : Int), s.key t, noK, noK, (s.locs.drop (4 * t)).take 4 ++ (spl s zs M0 ls t).2.take 2⟩, (spl s zs M0 ls t).2.drop 2) := if_neg h
theorem spl_dead {s : St} {zs : List Int} {M0 : MM} {ls : List Lo} {t : Nat} (h : s.key t = noK) : spl s zs M0 ls (t + 1) = spl s zs M0 ls t := if_pos h
def badP (s : St) (zs : List Int) (t : Nat) : Bool := decide (s.key t = noK) != decide (zs.getD t 0 = 0)
theorem split_bad {M : MM} {r : Rc} {s : St} {zs : List Int} (hz : r.sids = zs) (hs : M.s r.sid = some s) (hk : s.kind = 3) {t : Nat} (ht : t < 3) (hb : badP s zs t = true) : M.split r = (1, M) := by
  unfold MM.split
  rw [hs, hz]
  dsimp only
  rw [if_neg (fun e => e hk), if_pos]
  exact List.any_eq_true.2 ⟨t, List.mem_range.2 ht, hb⟩
theorem split_ok {M : MM} {r : Rc} {s : St} {zs : List Int} (hz : r.sids = zs) (hs : M.s r.sid = some s) (hk : s.kind = 3) (hb : ∀ t, t < 3 → badP s zs t = false) : M.split r = (0, (spl s zs { M with s := upd M.s r.sid none } r.locs 3).1) := by
  unfold MM.split
  rw [hs, hz]
  dsimp only
  rw [if_neg (fun e => e hk), if_neg]
  · rfl
  · intro e
    obtain ⟨t, h1, h2⟩ := List.any_eq_true.1 e
    have := hb t (List.mem_range.1 h1)
    exact absurd (h2.symm.trans this) (by simp)
theorem rowL_sub {w : World} {g o : Nat} {ls : List Lo} (h : RowL w (some ⟨g, o, none⟩) ls) (k n : Nat) : RowL w (some ⟨g, o + k * 3, none⟩) ((ls.drop k).take n) := by
  rcases h with rfl | ⟨g', o', e, hg, hc⟩
  · exact .inl (by simp)
  · injection e with e
    injection e with e1 e2
    subst e1 e2
    refine .inr ⟨g, o + k * 3, rfl, hg, fun i l hi j v hj => ?_⟩
    rw [show o + k * 3 + i * 3 + j = o + (k + i) * 3 + j by omega]
    refine hc (k + i) l ?_ j v hj
    rw [List.getElem?_take] at hi
    split at hi
    · rw [List.getElem?_drop] at hi; exact hi
    · cases hi
theorem nok_l : noK.toList = [] := by simp [ByteArray.toList, ByteArray.toList.loop, ByteArray.size]
theorem nok_e : noK.toList.isEmpty = true := by rw [nok_l]; rfl
theorem str_ne {k : ByteArray} (h : k ≠ noK) : k.toList.isEmpty = false := by
  cases e : k.toList.isEmpty with
  | false => rfl
  | true => exact absurd (bytes_inj (a := k) (b := noK) (by rw [List.isEmpty_iff.1 e, nok_l])) h
theorem liv_dead {s : St} {t : Nat} (ht : t < 3) (h : s.key t = noK) : liv s t = liv s (t + 1) := by
  obtain rfl | rfl | rfl : t = 0 ∨ t = 1 ∨ t = 2 := by omega
  · show (if s.key 0 = noK then 0 else 1) + _ = _
    rw [if_pos h]; exact Nat.zero_add _
  · show (if s.key 1 = noK then 0 else 1) + _ = _
    rw [if_pos h]; exact Nat.zero_add _
  · show (if s.key 2 = noK then 0 else 1) = 0
    rw [if_pos h]
theorem liv_live {s : St} {t : Nat} (ht : t < 3) (h : s.key t ≠ noK) : liv s t = 1 + liv s (t + 1) := by
  obtain rfl | rfl | rfl : t = 0 ∨ t = 1 ∨ t = 2 := by omega
  · show (if s.key 0 = noK then 0 else 1) + _ = _
    rw [if_neg h]; rfl
  · show (if s.key 1 = noK then 0 else 1) + _ = _
    rw [if_neg h]; rfl
  · show (if s.key 2 = noK then 0 else 1) = 1 + 0
    rw [if_neg h]
/-- The memory when t parts are done; the parities left are at pa. -/
structure SpI (F : Nat → Prop) (w w3 wr : World) (p bm bs n : Nat) (M0 : MM) (s : St) (zs : List Int) (ls : List Lo) (t : Nat) (pa : Option Addr) (pl pc : Nat) : Prop where
  mt : ∃ Q', MT (Gr F w wr) wr p bm bs (n + 4 * t) Q' (spl s zs M0 ls t).1
  up : Up (Two bm bs) w3 wr
  row : RowL wr pa (spl s zs M0 ls t).2
  len : (spl s zs M0 ls t).2.length = pl
  liv : pl = 2 * liv s t
  cap : pl ≤ pc ∧ (pc : Int) ≤ 9223372036854775807
section
variable {F : Nat → Prop} {w w3 wr : World} {p bm bs n : Nat} {M0 : MM} {s : St} {zs : List Int} {ls : List Lo} {t pl pc : Nat} {pa : Option Addr}
theorem SpI.dead (h : SpI F w w3 wr p bm bs n M0 s zs ls t pa pl pc) (ht : t < 3) (hx : s.key t = noK) : SpI F w w3 wr p bm bs n M0 s zs ls (t + 1) pa pl pc := by
  have e := spl_dead (zs := zs) (M0 := M0) (ls := ls) hx
  obtain ⟨Q', h1⟩ := h.mt
  refine ⟨⟨Q', ?_⟩, h.up, ?_, ?_, ?_, h.cap⟩
  · rw [e]; exact h1.mono (by omega)
  · rw [e]; exact h.row
  · rw [e]; exact h.len
  · rw [← liv_dead ht hx]; exact h.liv
theorem SpI.addr (h : SpI F w w3 wr p bm bs n M0 s zs ls t pa pl pc) (hl : 0 < pl) : ∃ gp op, pa = some (⟨gp, op, none⟩ : Addr) := by
  rcases h.row with e | ⟨g, o, e, _⟩
  · have := h.len
    rw [e] at this
    exact absurd this (by simp; omega)
  · exact ⟨g, o, e⟩
/-- The parts of the row that comes next. -/
def dpR (s : St) (ls : List Lo) (t : Nat) : Nat → List Lo
  | 0 => (s.locs.drop (4 * t)).take 4
  | _ => ls.take 2
theorem dpR_two (s : St) (ls : List Lo) (t : Nat) : flatL (dpR s ls t) 2 = (s.locs.drop (4 * t)).take 4 ++ ls.take 2 := by simp [flatL, List.range_succ, dpR]
theorem SpI.cat (h : SpI F w w3 wr p bm bs n M0 s zs ls t pa pl pc) (ht : t < 3) (hx : s.key t ≠ noK) (g c : Nat) (h16 : s.locs.length = 16) (hr : RowL wr (some ⟨g, 0, none⟩) s.locs) (x : Nat) (hxx : x = t * 4 * 3) (cd : Nat) :
    Calls Tryd.prog 54 #[.slice (some ⟨wr.heap.size, 0, none⟩) 2 2] (wr.alloc (.cells #[.slice (some ⟨g, x, none⟩) 4 cd, .slice pa 2 pc] 29)) fun e w' => ∃ g5 c5, e = .returned (.slice (some ⟨g5, 0, none⟩) 6 c5) ∧ wr.heap.size ≤ g5 ∧ g5 < w'.heap.size ∧ OwnLo 0 w' (.slice (some ⟨g5, 0, none⟩) 6 c5) ((s.locs.drop (4 * t)).take 4 ++ (spl s zs M0 ls t).2.take 2) ∧ Up Nul wr w' := by
  have u1 : Up Nul wr (wr.alloc (.cells #[.slice (some ⟨g, x, none⟩) 4 cd, .slice pa 2 pc] 29)) := (Up.refl _ _).alloc _
  have b1 := heap_alloc_new wr (.cells #[.slice (some ⟨g, x, none⟩) 4 cd, .slice pa 2 pc] 29)
  generalize wr.alloc (.cells #[.slice (some ⟨g, x, none⟩) 4 cd, .slice pa 2 pc] 29) = w4 at u1 b1 ⊢
  have hz := (Array.getElem?_eq_some_iff.1 b1).1
  have l4 : ((s.locs.drop (4 * t)).take 4).length = 4 := by rw [List.length_take, List.length_drop, h16]; omega
  have hl : 2 ≤ pl := by have := h.liv; rw [liv_live ht hx] at this; omega
  have l2 : ((spl s zs M0 ls t).2.take 2).length = 2 := by rw [List.length_take, h.len]; omega
  have r4 : RowL w4 (some ⟨g, x, none⟩) ((s.locs.drop (4 * t)).take 4) := by
    have := rowL_sub (hr.nxt u1) (4 * t) 4
    rw [show 0 + 4 * t * 3 = x by omega] at this
    exact this
  have r2 : RowL w4 pa ((spl s zs M0 ls t).2.take 2) := by
    rcases h.row.nxt u1 with e | ⟨gg, oo, e, hgg, hcc⟩
    · rw [e] at l2; cases l2
    · exact .inr ⟨gg, oo, e, hgg, fun i l hi => hcc i l (by
        rw [List.getElem?_take] at hi
        split at hi
        · exact hi
        · cases hi)⟩
  have hLR : LR w4 wr.heap.size 0 2 (dpR s (spl s zs M0 ls t).2 t) := ⟨hz, fun i hi => by
    obtain rfl | rfl : i = 0 ∨ i = 1 := by omega
    · refine ⟨some ⟨g, x, none⟩, cd, ?_, r4, fun e => ?_⟩
      · show _ = some (Value.slice _ ((s.locs.drop (4 * t)).take 4).length cd)
        rw [l4]
        simp [World.cell?, b1]
      · have e : (s.locs.drop (4 * t)).take 4 = [] := e
        rw [e] at l4; cases l4
    · refine ⟨pa, pc, ?_, r2, fun e => ?_⟩
      · show _ = some (Value.slice _ ((spl s zs M0 ls t).2.take 2).length pc)
        rw [l2]
        simp [World.cell?, b1]
      · have e : (spl s zs M0 ls t).2.take 2 = [] := e
        rw [e] at l2; cases l2⟩
  have e6 : ((s.locs.drop (4 * t)).take 4 ++ (spl s zs M0 ls t).2.take 2).length = 6 := by rw [List.length_append, l4, l2]
  refine (cats_l wr.heap.size 0 2 2 _ w4 (by omega) hLR (by rw [dpR_two, e6]; omega) (by rw [dpR_two, e6]; omega)).mono ?_
  rintro e w' ⟨v, rfl, ho, u⟩
  rw [dpR_two] at ho
  obtain ⟨g5, c5, hv, h1, h2, h3⟩ := ho.sh (fun e => by rw [e] at e6; cases e6)
  rw [e6] at hv h3
  refine ⟨g5, c5, by rw [hv], ?_, h2, h3, u1.trans u⟩
  have := u1.size
  omega
theorem SpI.lay (h : SpI F w w3 wr p bm bs n M0 s zs ls t pa pl pc) (hFw : ∀ k, F k → k < w.heap.size) (hw : w.heap.size ≤ wr.heap.size) (ht : t < 3) (hx : s.key t ≠ noK) (hks : (s.key t).size ≤ 100000) (hz : 0 ≤ zs.getD t 0 ∧ zs.getD t 0 ≤ 2147483647) (hn : n ≤ 50000) {w' : World} (u : Up Nul wr w') (g5 c5 : Nat) (h5 : wr.heap.size ≤ g5) (h5l : g5 < w'.heap.size) (ho : OwnLo 0 w' (.slice (some ⟨g5, 0, none⟩) 6 c5) ((s.locs.drop (4 * t)).take 4 ++ (spl s zs M0 ls t).2.take 2)) (h16 : s.locs.length = 16) :
    Calls Tryd.prog 52 #[.pointer (some ⟨p, 0, none⟩), .int .i64 (zs.getD t 0), .agg #[.int .i64 2, .int .i64 (t : Nat), .string (s.key t), .string ⟨#[]⟩, .string ⟨#[]⟩, .slice (some ⟨g5, 0, none⟩) 6 c5]] w' fun e w'' => e = .returned (.tuple #[]) ∧ Up (Two bm bs) wr w'' ∧ ∀ pa' pc', (pl = 2 ∨ ∃ gp op, pa = some ⟨gp, op, none⟩ ∧ pa' = some ⟨gp, op + 6, none⟩) → pl - 2 ≤ pc' → (pc' : Int) ≤ 9223372036854775807 → SpI F w w3 w'' p bm bs n M0 s zs ls (t + 1) pa' (pl - 2) pc' := by
  obtain ⟨Q', h1⟩ := h.mt
  have l4 : ((s.locs.drop (4 * t)).take 4).length = 4 := by rw [List.length_take, List.length_drop, h16]; omega
  have hl : 2 ≤ pl := by have := h.liv; rw [liv_live ht hx] at this; omega
  have l2 : ((spl s zs M0 ls t).2.take 2).length = 2 := by rw [List.length_take, h.len]; omega
  have e6 : ((s.locs.drop (4 * t)).take 4 ++ (spl s zs M0 ls t).2.take 2).length = 6 := by rw [List.length_append, l4, l2]
  have hG : ∀ k, Gr F w wr k → k < wr.heap.size := fun k hk => by
    rcases hk with hk | hk
    · have := hFw k hk; omega
    · exact hk.2
  have hfin := lay_any ((h1.nxt u).wide (G := fun k => Gr F w wr k ∨ k = g5) (fun k hk => .inl hk)) (fun k hk => by
    rcases hk with hk | hk
    · have := hG k hk; have := u.size; omega
    · omega) (zs.getD t 0) (wfI hz.1 hz.2) ⟨2, (t : Int), s.key t, noK, noK, (s.locs.drop (4 * t)).take 4 ++ (spl s zs M0 ls t).2.take 2⟩ g5 c5 (.inr rfl) (by rw [e6]; exact ho)
    (fun j s' hj hne e => by
      obtain ⟨g', c', e1, e2, _⟩ := h1.row j s' hj
      have e3 := hG g' e2
      rw [e1] at e
      have e : g5 = g' := by injection e
      omega) (fun t' => by
      rcases t' with _ | _ | t'
      · exact big_max hks
      · exact Nat.zero_le _
      · exact Nat.zero_le _) (by unfold maxLen; omega)
  rw [e6] at hfin
  refine hfin.mono ?_
  rintro e w'' ⟨rfl, ⟨Q'', h2⟩, u2⟩
  refine ⟨rfl, u.nul.trans u2, fun pa' pc' hpa hpc hpc2 => ?_⟩
  have es := spl_live (zs := zs) (M0 := M0) (ls := ls) hx
  refine ⟨⟨Q'', ?_⟩, h.up.trans (u.nul.trans u2), ?_, ?_, ?_, hpc, hpc2⟩
  · rw [es]
    refine (h2.wide (fun k hk => ?_)).mono (by omega)
    have s1 := u.size
    have s2 := u2.size
    rcases hk with (hk | hk) | rfl
    · exact .inl hk
    · exact .inr ⟨hk.1, by have := hk.2; omega⟩
    · exact .inr ⟨by omega, by omega⟩
  · rw [es]
    dsimp only
    rcases hpa with e2 | ⟨gp, op, e1, e2⟩
    · exact .inl (List.eq_nil_of_length_eq_zero (by rw [List.length_drop, h.len]; omega))
    · subst e1 e2
      have hr := rowL_two h1.maps h.row (u.nul.trans u2)
      have := rowL_sub hr 2 (spl s zs M0 ls t).2.length
      rw [List.take_of_length_le (by rw [List.length_drop]; omega)] at this
      exact this
  · rw [es]
    show ((spl s zs M0 ls t).2.drop 2).length = _
    rw [List.length_drop, h.len]
  · have := h.liv
    rw [liv_live ht hx] at this
    omega
end
end Go.Proofs.YtmhmlfgikmeejaaDoor
