/- What Apply does, as a function; RPut and RDel. -/
import Derived.Test.YtepggchnhgpcnaaGreatDoorPkTidy
import Derived.Test.YtepggchnhgpcnaaGreatDoorPz2
import Derived.Test.YtepggchnhgpcnaaGreatDoorPz9
import Derived.Lib.AppendZeros
import Derived.Deep.Upon
namespace Go.Proofs.YtepggchnhgpcnaaGreatDoor
open Go.RowKit Go.Maps
set_option linter.unusedVariables false

def MM.swap (M : MM) (r : Rc) (fr tk : Int) : Int × MM :=
 match M.b r.key with
 | none => (9, M)
 | some x => match M.s x.sid with
  | none => (12, M)
  | some s => if s.kind ≠ fr then (12, M) else (0, ({ M with s := upd M.s x.sid none } : MM).lay r.sid ⟨tk, r.colour, r.key, noK, noK, r.locs⟩)
def MM.mchk (M : MM) (all : List Int) : Nat → List Int → Option Int
 | _, [] => none
 | p, i :: l => match M.s i with
  | none => some 11
  | some s => if 1 < all.count i then some 11 else if s.kind ≠ 2 ∨ s.colour ≠ (p : Int) then some 12 else M.mchk all (p + 1) l
def MM.mkey (M : MM) (r : Rc) (t : Nat) : ByteArray := ((M.s (r.sids.getD t 0)).map (·.k0)).getD noK
def MM.mlocs (M : MM) (sids : List Int) : List Lo := sids.flatMap fun i => ((M.s i).map (·.locs.take 4)).getD []
def MM.merge (M : MM) (r : Rc) : Int × MM :=
 match M.mchk r.sids 0 r.sids with
 | some e => (e, M)
 | none => (0, ({ M with s := r.sids.foldl (fun f i => upd f i none) M.s } : MM).lay r.sid ⟨3, 0, M.mkey r 0, M.mkey r 1, M.mkey r 2, M.mlocs r.sids ++ r.locs⟩)
def splF (w : St) (sids : List Int) (st : MM × List Lo) (t : Nat) : MM × List Lo :=
 if w.key t = noK then st else (st.1.lay (sids.getD t 0) ⟨2, (t : Int), w.key t, noK, noK, (w.locs.drop (4 * t)).take 4 ++ st.2.take 2⟩, st.2.drop 2)
def MM.split (M : MM) (r : Rc) : Int × MM :=
 match M.s r.sid with
 | none => (11, M)
 | some w => if w.kind ≠ 3 then (12, M) else
  if (List.range 3).any (fun t => decide (w.key t = noK) != decide (r.sids.getD t 0 = 0)) then (1, M) else
  (0, ((List.range 3).foldl (splF w r.sids) ({ M with s := upd M.s r.sid none }, r.locs)).1)
def MM.move (M : MM) (r : Rc) : Int × MM :=
 match M.s r.sid with
 | none => (11, M)
 | some s => if (s.locs.length : Int) ≤ r.n then (1, M) else (0, { M with s := upd M.s r.sid (some { s with locs := s.locs.set r.n.toNat (r.locs.getD 0 ⟨0, 0, 0⟩) }) })
def MM.chg (M : MM) (r : Rc) : Int × MM :=
 if r.kind = 1 then M.put r else if r.kind = 2 then M.drop r.key else if r.kind = 3 then M.swap r 1 2 else if r.kind = 4 then M.swap r 2 1 else
 if r.kind = 5 then M.merge r else if r.kind = 6 then M.split r else if r.kind = 7 then M.move r else (0, { M with t := r.t })
def MM.step (M : MM) (r : Rc) : Int × MM := M.app r (M.chg r)
theorem Inv3.two {M : MM} (h : M.Inv3) : M.Inv2 where
 b k x hb := by
  obtain ⟨_, h2⟩ := h.b k x hb
  obtain ⟨t, ht, hp, s, hs, _⟩ := h2 id
  have := h.s _ _ hs
  have := h.l
  exact ⟨by omega, by omega, s, hs⟩
 s i s hs t := by
  have h3 := (h.s i s hs).2.2
  have key : ∀ t, t < 3 → (s.key t).size ≤ 100000 := fun t ht => by
   by_cases e : s.key t = noK
   ·rw [e]; exact Nat.zero_le _
   ·obtain ⟨_, x, x1, _⟩ := h3 t ht e
    have := (h.b _ _ x1).1.2
    omega
  rcases t with _ | _ | t
  ·exact key 0 (by omega)
  ·exact key 1 (by omega)
  ·exact key 2 (by omega)
theorem InvX.setLast {M : MM} {E : ByteArray → Prop} {L : Int} (h : InvX M E L) (l : Int) : InvX { M with last := l } E L := ⟨h.b, h.s, h.e, h.l⟩
theorem size_pos_ne {k : ByteArray} (h : 1 ≤ k.size) : k ≠ noK := fun e => by rw [e] at h; exact absurd h (by decide)
section
variable {F : Nat → Prop} {w : World} {p bm bs n : Nat} {Q : Int → Value} {M : MM}
theorem newS_le (r : Rc) (h : OkF r) : (newS r).length ≤ 1000 := by
 unfold newS
 split
 ·simp
 ·split
  ·exact Nat.le_trans (List.length_filter_le _ _) (by have := h.nsl; omega)
  ·simp
theorem apply_all (h : MT F w p bm bs n Q M) (hFw : ∀ k, F k → k < w.heap.size) (hS : Shp w) (r : Rc) (sa la : Option Addr) (sc lc : Nat) (hr : RH w r sa la) (hk : r.key.size ≤ 100000) (m : Nat) (hm : n ≤ m)
  (hns : OkF r → ∀ W, Up Nul w W → Calls Tryz.prog 22 #[rv r (.slice sa r.sids.length sc) (.slice la r.locs.length lc)] W (SidsP W (newS r)))
  (hch : OkF r → ∀ W, Up Nul w W → Calls Tryz.prog 23 #[.pointer (some ⟨p, 0, none⟩), rv r (.slice sa r.sids.length sc) (.slice la r.locs.length lc)] W fun e w' => ∃ x, e = .returned (.int .i64 x) ∧ x = (M.chg r).1 ∧ (∃ Q', MT (Gr F W w') w' p bm bs m Q' (M.chg r).2) ∧ Up F W w') :
  Calls Tryz.prog 9 #[.pointer (some ⟨p, 0, none⟩), rv r (.slice sa r.sids.length sc) (.slice la r.locs.length lc)] w fun e w' => e = .returned (.int .i64 (M.step r).1) ∧ (∃ Q', MT (Gr F w w') w' p bm bs m Q' (M.step r).2) ∧ Up F w w' := by
 unfold MM.step
 cases hok : okR r with
 | false =>
  have e : M.app r (M.chg r) = (1, M) := by unfold MM.app; rw [hok]; rfl
  rw [e]
  refine (apply_bad h hS r sa la sc lc hr hk hok).mono ?_
  rintro e w' ⟨rfl, u⟩
  exact ⟨rfl, ⟨Q, ((h.nxt u).wide fun k hk => .inl hk).mono hm⟩, u.nul⟩
 | true =>
  have F' := okR_iff.1 hok
  refine apply_good h hFw hS r sa la sc lc hr hk hok m hm (M.chg r) (hns F') (fun W u => (hch F' W u).mono ?_) (newS_le r F')
  rintro e w' ⟨x, rfl, rfl, h1, h2⟩
  exact ⟨rfl, h1, h2⟩
theorem sh_k {r : Rc} (h : OkF r) {k : Nat} (hk : r.kind = (k : Int)) : kn r = k := by have := h.kk; omega
theorem okf_put {r : Rc} (h : OkF r) (hk : r.kind = 1) : (1 ≤ r.key.size ∧ r.key.size ≤ 16) ∧ r.locs.length = 3 ∧ (1 ≤ r.sid ∧ r.sid ≤ 2147483647) := by
 have e := sh_k h (k := 1) hk
 have h1 := h.key
 have h2 := h.nl
 have h3 := h.sid
 rw [e] at h1 h2 h3
 have : sh 1 0 = 1 ∧ sh 1 1 = 16 ∧ sh 1 11 = 3 ∧ sh 1 12 = 0 ∧ sh 1 4 = 1 ∧ sh 1 5 = 2147483647 := by decide
 obtain ⟨a0, a1, a2, a3, a4, a5⟩ := this
 rw [a0, a1] at h1
 rw [a2, a3] at h2
 rw [a4, a5] at h3
 refine ⟨by omega, by omega, h3⟩
theorem okf_del {r : Rc} (h : OkF r) (hk : r.kind = 2) : 1 ≤ r.key.size ∧ r.key.size ≤ 16 := by
 have e := sh_k h (k := 2) hk
 have h1 := h.key
 rw [e] at h1
 have : sh 2 0 = 1 ∧ sh 2 1 = 16 := by decide
 obtain ⟨a0, a1⟩ := this
 rw [a0, a1] at h1
 omega
theorem apply_12 (h : MT F w p bm bs n Q M) (hFw : ∀ k, F k → k < w.heap.size) (hI : M.Inv3) (hS : Shp w) (r : Rc) (h12 : r.kind = 1 ∨ r.kind = 2) (sa la : Option Addr) (sc lc : Nat) (hr : RH w r sa la) (hk : r.key.size ≤ 100000) (hn : n ≤ 50000) :
  Calls Tryz.prog 9 #[.pointer (some ⟨p, 0, none⟩), rv r (.slice sa r.sids.length sc) (.slice la r.locs.length lc)] w fun e w' => e = .returned (.int .i64 (M.step r).1) ∧ (∃ Q', MT (Gr F w w') w' p bm bs (n + 6) Q' (M.step r).2) ∧ Up F w w' := by
 refine apply_all h hFw hS r sa la sc lc hr hk (n + 6) (by omega) (fun hf W u => ?_) (fun hf W u => ?_)
 ·obtain ⟨kind, key, rn, sid, sids, colour, locs, ⟨a, b, c, d, e, f⟩⟩ := r
  rcases h12 with h1 | h2
  ·have e1 : newS ⟨kind, key, rn, sid, sids, colour, locs, ⟨a, b, c, d, e, f⟩⟩ = [sid] := if_pos (.inl h1)
   rw [e1]
   exact sids_one kind key rn sid _ colour _ a b c d e f W (.inl h1)
  ·have h2' : kind = 2 := h2
   have e1 : newS ⟨kind, key, rn, sid, sids, colour, locs, ⟨a, b, c, d, e, f⟩⟩ = [] := by subst h2'; rfl
   rw [e1]
   exact sids_none kind key rn sid _ colour _ a b c d e f W (.inl h2)
 ·rcases h12 with h1 | h2
  ·obtain ⟨o1, o2, o3⟩ := okf_put hf h1
   have ec : M.chg r = M.put r := if_pos h1
   rw [ec]
   refine change_1 p W r h1 _ _ ⟨_, _, _, rfl⟩ ⟨_, _, _, rfl⟩ (fun x w' => x = (M.put r).1 ∧ (∃ Q', MT (Gr F W w') w' p bm bs (n + 6) Q' (M.put r).2) ∧ Up F W w') (fun V uV => ?_)
   have hV := h.nxt (u.trans uV)
   refine (put_any hV (fun k hk => Nat.lt_of_lt_of_le (hFw k hk) (u.trans uV).size) (Inv3.two hI) r _ la lc (hr.l.nxt (u.trans uV)) (fun e => by rw [e] at o2; cases o2) (by omega) hk (by omega) hn).mono ?_
   rintro e w' ⟨rfl, ⟨Q', h'⟩, u'⟩
   refine ⟨_, rfl, rfl, ⟨Q', h'.wide fun k hk => ?_⟩, uV.nul.trans (u'.mono fun _ _ e => by rcases e with e | e; rw [e]; exact h.fm; rw [e]; exact h.fs)⟩
   rcases hk with hk | ⟨k1, k2⟩
   ·exact .inl hk
   ·exact .inr ⟨Nat.le_trans uV.size k1, k2⟩
  ·have ec : M.chg r = M.drop r.key := by unfold MM.chg; rw [if_neg (by omega), if_pos h2]
   rw [ec]
   refine change_2 p W r h2 _ _ ⟨_, _, _, rfl⟩ ⟨_, _, _, rfl⟩ (fun x w' => x = (M.drop r.key).1 ∧ (∃ Q', MT (Gr F W w') w' p bm bs (n + 6) Q' (M.drop r.key).2) ∧ Up F W w') (fun V uV => ?_)
   have hV := h.nxt (u.trans uV)
   refine (drop_any hV (fun k hk => Nat.lt_of_lt_of_le (hFw k hk) (u.trans uV).size) (Inv3.two hI) r.key hk (by omega)).mono ?_
   rintro e w' ⟨rfl, ⟨Q', h'⟩, u'⟩
   exact ⟨_, rfl, rfl, ⟨Q', (h'.wide fun k hk => .inl hk).mono (by omega)⟩, uV.nul.trans (u'.mono fun _ _ e => by rcases e with e | e; rw [e]; exact h.fm; rw [e]; exact h.fs)⟩
end
theorem inv_12 {M : MM} (h : M.Inv3) (r : Rc) (h12 : r.kind = 1 ∨ r.kind = 2) : (M.step r).2.Inv3 := by
 unfold MM.step MM.app
 cases hok : okR r with
 | false => rw [if_pos rfl]; exact h
 | true =>
  rw [if_neg (by simp)]
  have hf := okR_iff.1 hok
  rcases h12 with h1 | h2
  ·obtain ⟨o1, o2, o3⟩ := okf_put hf h1
   have e1 : newS r = [r.sid] := if_pos (.inl h1)
   have ec : M.chg r = M.put r := if_pos h1
   rw [e1, ec]
   unfold rise
   by_cases hl : r.sid ≤ M.last
   ·rw [if_pos hl]; exact h
   ·rw [if_neg hl]
    unfold rise
    have e0 : (M.put r).1 = 0 := rfl
    dsimp only
    rw [e0, if_pos rfl]
    exact (inv_put h r ⟨size_pos_ne o1.1, o1.2⟩ o2 (by omega) o3.2).setLast _
  ·have e1 : newS r = [] := by unfold newS; rw [if_neg (by omega), if_neg (by omega)]
   have ec : M.chg r = M.drop r.key := by unfold MM.chg; rw [if_neg (by omega), if_pos h2]
   rw [e1, ec]
   unfold rise
   have hd := (inv_drop h r.key).1
   dsimp only
   split
   ·exact hd.setLast _
   ·rename_i hne
    have : (M.drop r.key).2 = M := by
     unfold MM.drop at hne ⊢
     cases hb : M.b r.key with
     | none => rfl
     | some x =>
      rw [hb] at hne
      dsimp only at hne
      cases hs : M.s x.sid with
      | none => rw [hs] at hne; exact absurd rfl hne
      | some s => rw [hs] at hne; exact absurd rfl hne
    rw [this]; exact h
def idxI (zs : List Int) (v : Int) : Int := if v ∈ zs then ((zs.idxOf v : Nat) : Int) else -1
set_option maxHeartbeats 4000000 in
theorem sindex_any (w : World) (a : Option Addr) (c : Nat) (zs : List Int) (h : RowI w a zs) (hl : zs.length ≤ 100000) (v : Int) :
  Calls Tryz.prog 96 #[.slice a zs.length c, .int .i64 v] w fun e w' => e = .returned (.int .i64 (idxI zs v)) ∧ w' = w := by
 have HR := hid h
 have HL := hid hl
 obtain ⟨n, N⟩ : ∃ n, Hid (zs.length = n) := ⟨_, rfl⟩
 rw [N.out] at HL ⊢
 obtain ⟨R, HI⟩ : ∃ R, Hid (idxI zs v = R) := ⟨_, rfl⟩
 rw [HI.out]
 clear h hl
 go_enter Tryz.func96, Tryz.ntmps96
 go_wp2_with fail
 go_loopw [8] (fun i wr => ∃ t : Nat, t ≤ n ∧ i = .int .i64 (t : Nat) ∧ v ∉ zs.take t ∧ wr = w) (fun i _ => n - (intOf i).toNat)
 case atStart => exact ⟨0, Nat.zero_le _, rfl, by simp, rfl⟩
 case round =>
  obtain ⟨t, ht, rfl, hb, rfl⟩ := hrel
  have HB := hid hb
  have i0 : (0 : Int) ≤ (t : Int) := by omega
  have i9 : (t : Int) ≤ 100000 := by have := HL.out; omega
  by_cases hlt : t < n
  ·have htl : t < zs.length := by rw [N.out]; exact hlt
   obtain ⟨g, o, rfl, hg, hcell⟩ := HR.out.resolve_left (fun e => by rw [e] at htl; cases htl)
   have x1 := hcell t _ (List.getElem?_eq_getElem htl)
   have HT := hid hlt
   by_cases hvt : v = zs[t]
   ·have HE : Hid (R = (t : Int)) := by
     show _ = _
     rw [← HI.out]
     unfold idxI
     have hm : v ∈ zs := by rw [hvt]; exact List.getElem_mem htl
     rw [if_pos hm]
     have : zs.idxOf v = t := by
      have h1 : zs.idxOf v ≤ t := by
       rcases Nat.lt_or_ge t (zs.idxOf v) with h | h
       ·have := List.not_of_lt_findIdx (p := (· == v)) (xs := zs) (i := t) h
        rw [← hvt] at this
        simp at this
       ·exact h
      have h2 : ¬ zs.idxOf v < t := fun h2 => HB.out (by
       rw [List.mem_take_iff_getElem]
       exact ⟨zs.idxOf v, by omega, List.getElem_idxOf (by omega)⟩)
      omega
     rw [this]
    have i2 : (t : Int) < (n : Int) := by omega
    rw [← hvt] at x1
    clear hb ht hlt hvt hcell hg htl
    go_wp2
    go_ret
    rw [HE.out]
    exact ⟨rfl, rfl⟩
   ·have hb2 : (v == zs[t]) = false := by rw [beq_eq_false_iff_ne]; exact hvt
    have HNX : Hid (v ∉ zs.take (t + 1)) := by
     show v ∉ _
     rw [List.take_succ_eq_append_getElem htl]
     simp only [List.mem_append, List.mem_singleton, not_or]
     exact ⟨HB.out, hvt⟩
    generalize zs[t] = x at x1 hb2
    have i2 : (t : Int) < (n : Int) := by omega
    clear hb ht hlt hvt hcell hg htl
    go_wp2_with fail
    go_roundw
    case rel => exact ⟨t + 1, HT.out, by go_num, HNX.out, trivial⟩
    case measure => have := HT.out; simp [intOf]; omega
  ·obtain rfl : t = n := by omega
   have HE : Hid (R = -1) := by
    show _ = _
    rw [← HI.out]
    unfold idxI
    have hn : v ∉ zs := by have := HB.out; rwa [List.take_of_length_le (by rw [N.out]; exact Nat.le_refl _)] at this
    rw [if_neg hn]
   clear hb ht hlt
   go_wp2
   go_ret
   rw [HE.out]
   exact ⟨rfl, rfl⟩
theorem idxI_nonneg (zs : List Int) (v : Int) : decide (0 ≤ idxI zs v) = decide (v ∈ zs) := by
 unfold idxI
 split
 ·rename_i h; simp [h]
 ·rename_i h; simp [h]
theorem scontains_any (w : World) (a : Option Addr) (c : Nat) (zs : List Int) (h : RowI w a zs) (hl : zs.length ≤ 100000) (v : Int) :
  Calls Tryz.prog 97 #[.slice a zs.length c, .int .i64 v] w fun e w' => e = .returned (.bool (decide (v ∈ zs))) ∧ w' = w := by
 have H := hid (sindex_any w a c zs h hl v)
 have HN := hid (idxI_nonneg zs v)
 clear h hl
 generalize zs.length = n at H ⊢
 generalize decide (v ∈ zs) = b at HN ⊢
 generalize idxI zs v = x at H HN
 go_enter Tryz.func97, Tryz.ntmps97
 go_wp2_with fail
 refine H.out.mono ?_
 rintro e w1 ⟨rfl, rfl⟩
 go_wp2
 go_ret
 refine ⟨?_, rfl⟩
 have := HN.out
 first | exact congrArg (fun b => Ending.returned (.bool b)) this | (rw [← this]; rfl)
theorem count_first {zs : List Int} {v : Int} (h : v ∈ zs) : decide (1 < zs.count v) = decide (v ∈ zs.drop (zs.idxOf v + 1)) := by
 induction zs with
 | nil => cases h
 | cons z l ih =>
  by_cases e : z = v
  ·subst e
   simp [List.count_pos_iff]
  ·have hm : v ∈ l := by
    rcases List.mem_cons.1 h with h | h
    ·exact absurd h.symm e
    ·exact h
   have hne : (z == v) = false := by rw [beq_eq_false_iff_ne]; exact e
   rw [List.count_cons, List.idxOf_cons, hne]
   simp only [cond_false, Bool.false_eq_true, if_false, Nat.add_zero, List.drop_succ_cons]
   exact ih hm
set_option maxRecDepth 10000 in
set_option maxHeartbeats 4000000 in
theorem twice_any (w : World) (a : Option Addr) (c : Nat) (zs : List Int) (h : RowI w a zs) (hl : zs.length ≤ 1000) (hc : zs.length ≤ c) (hc2 : (c : Int) ≤ 9223372036854775807) (v : Int) (hv : v ∈ zs) :
  Calls Tryz.prog 88 #[.slice a zs.length c, .int .i64 v] w fun e w' => e = .returned (.bool (decide (1 < zs.count v))) ∧ w' = w := by
 obtain ⟨g, o, rfl, hg, hcell⟩ := h.resolve_left (fun e => by rw [e] at hv; cases hv)
 have HX := sindex_any w (some ⟨g, o, none⟩) c zs h (by omega) v
 have hidx : idxI zs v = ((zs.idxOf v : Nat) : Int) := if_pos hv
 rw [hidx] at HX
 have hil : zs.idxOf v < zs.length := List.idxOf_lt_length_iff.2 hv
 have hrow : ∀ A, (A = some (⟨g, o + (zs.idxOf v + 1), none⟩ : Addr) ∨ zs.drop (zs.idxOf v + 1) = []) → RowI w A (zs.drop (zs.idxOf v + 1)) := fun A hA => by
  rcases hA with rfl | e
  ·refine .inr ⟨g, o + (zs.idxOf v + 1), rfl, hg, fun i x hi => ?_⟩
   rw [List.getElem?_drop] at hi
   have := hcell _ _ hi
   rw [show o + (zs.idxOf v + 1) + i = o + (zs.idxOf v + 1 + i) by omega]
   exact this
  ·exact .inl e
 have HC := hid (fun A cc hA => scontains_any w A cc (zs.drop (zs.idxOf v + 1)) (hrow A hA) (by rw [List.length_drop]; omega) v)
 have HD : Hid (decide (1 < zs.count v) = decide (v ∈ zs.drop (zs.idxOf v + 1))) := count_first hv
 have HLD : Hid ((zs.drop (zs.idxOf v + 1)).length = zs.length - (zs.idxOf v + 1)) := List.length_drop
 have HEM : Hid (c = zs.idxOf v + 1 → zs.drop (zs.idxOf v + 1) = []) := fun e => List.drop_of_length_le (by omega)
 rw [HD.out]
 rw [HLD.out] at HC
 have HXX := hid HX
 generalize zs.drop (zs.idxOf v + 1) = ds at HC HEM ⊢
 generalize zs.idxOf v = x at HXX hil HC HEM
 generalize zs.length = n at HXX hil HC hl hc ⊢
 generalize decide (v ∈ ds) = b at HC ⊢
 have HIL := hid hil
 have i1 : (0 : Int) ≤ (x : Int) := by omega
 have i2 : (x : Int) + 1 ≤ (n : Int) := by omega
 have i3 : (n : Int) ≤ (c : Int) := by omega
 have i4 : (x : Int) + 1 ≤ 1000 := by omega
 have w1' : wrap64 ((x : Int) + 1) = (x : Int) + 1 := by rw [← IntWalk.i64_left]; exact IntWalk.i64_in _ (by omega)
 clear HX h hv hidx hrow hcell hg hil hl hc HD HLD
 by_cases hcx : c = x + 1
 ·have HC2 := hid (fun cc => HC.out (some ⟨g, o, none⟩) cc (.inr (HEM.out hcx)))
  clear HC HEM
  subst hcx
  go_enter Tryz.func88, Tryz.ntmps88
  go_wp2_with fail
  refine HXX.out.mono ?_
  rintro e w1 ⟨rfl, rfl⟩
  go_wp2_with fail
  refine (HC2.out _).mono ?_
  rintro e w2 ⟨rfl, rfl⟩
  go_wp2
  go_ret
  exact ⟨rfl, rfl⟩
 ·have HC2 := hid (fun cc => HC.out (some ⟨g, o + (x + 1), none⟩) cc (.inl rfl))
  clear HC
  go_enter Tryz.func88, Tryz.ntmps88
  go_wp2_with fail
  refine HXX.out.mono ?_
  rintro e w1 ⟨rfl, rfl⟩
  go_wp2_with fail
  refine (HC2.out _).mono ?_
  rintro e w2 ⟨rfl, rfl⟩
  go_wp2
  go_ret
  exact ⟨rfl, rfl⟩
def flatL (R : Nat → List Lo) (m : Nat) : List Lo := (List.range m).flatMap R
theorem flatL_next (R : Nat → List Lo) (m : Nat) : flatL R (m + 1) = flatL R m ++ R m := by simp [flatL, List.range_succ]
theorem flatL_mono (R : Nat → List Lo) {k m : Nat} (h : k < m) : (flatL R (k + 1)).length ≤ (flatL R m).length := by
 induction m with
 | zero => omega
 | succ m ih =>
  by_cases e : k = m
  ·rw [e]; exact Nat.le_refl _
  ·rw [flatL_next R m, List.length_append]
   have := ih (by omega)
   omega
set_option maxRecDepth 10000 in
set_option maxHeartbeats 4000000 in
theorem grow_l (n : Nat) (w : World) (n1 : 1 ≤ n) (n2 : n ≤ 2000) :
  Calls Tryz.prog 98 #[.slice none 0 0, .int .i64 n] w fun e w' => ∃ h cap, e = .returned (.slice (some ⟨h, 0, none⟩) 0 cap) ∧ OwnLo w.heap.size w' (.slice (some ⟨h, 0, none⟩) 0 cap) [] ∧ Up Nul w w' := by
 obtain ⟨i0, z0, hi, hz0, hz2, hz3, hz4⟩ := info_lo
 have hr : ∀ ty, (Builtin.append_ #[24, 3] ty #[.slice none 0 0, .int .i64 n]).run Tryz.prog w = _ := fun ty =>
  Lib.run_append_nil_zeros (P := Tryz.prog) w 24 3 ty 64 i0 z0 .i64 .i64 Tryz.underlying24 Tryz.underlying3 hi hz0 n (by omega) (by rw [hz2]; omega) (by omega) (by rw [hz3]; omega)
 have hge := grownCap_ge w n 0 64
 have hmx := grownCap_le_maxLen w n 0 64 (by unfold maxLen; omega)
 obtain ⟨gc, GC⟩ : ∃ x, Hid (grownCap w n 0 64 = x) := ⟨_, rfl⟩
 rw [GC.out] at hge hmx
 have HO : Hid (OwnLo w.heap.size (w.drew.alloc (.cells (Builtin.zeroCells z0.cells n ++ Builtin.zeroCells z0.cells (gc - n)) 64)) (.slice (some ⟨w.heap.size, 0, none⟩) 0 gc) []) :=
  World.ownsRow_made w.drew _ gc (Nat.le_refl _) hmx (by
   rw [Array.size_append, size_zeroCells, size_zeroCells, hz4]
   omega)
 have HU : Hid (Up Nul w (w.drew.alloc (.cells (Builtin.zeroCells z0.cells n ++ Builtin.zeroCells z0.cells (gc - n)) 64))) := ((Up.refl Nul w).drew).alloc _
 rw [GC.out] at hr
 have HR := hid hr
 generalize (w.drew.alloc (.cells (Builtin.zeroCells z0.cells n ++ Builtin.zeroCells z0.cells (gc - n)) 64)) = wa at *
 have c1 : ¬ ((n : Int) < 0) := by omega
 have c2 : (0 : Int) < (n : Int) := by omega
 have c3 : IntKind.i64.wrap (n : Int) = n := IntWalk.i64_in _ (by omega)
 have c4 : wrap64 (n : Int) = n := by rw [← IntWalk.i64_left]; exact c3
 clear hi hz0 hz2 hz3 hr hmx GC
 go_enter Tryz.func98, Tryz.ntmps98
 go_wp2_with (first
  | (at_builtin; refine Lib.wpList_append_run _ rfl (.tmp 20) (.tmp 21) _ _ rfl _ _ rfl rfl _ _ (HR.out _) ?_)
  | go_in)
 go_ret
 exact ⟨_, gc, rfl, HO.out, HU.out⟩
structure LR (w : World) (gs og m : Nat) (R : Nat → List Lo) : Prop where
 lt : gs < w.heap.size
 row : ∀ i, i < m → ∃ a c, w.cell? ⟨gs, og + i, none⟩ = some (.slice a (R i).length c) ∧ RowL w a (R i) ∧ R i ≠ []
theorem LR.nxt {w w' : World} {gs og m : Nat} {R : Nat → List Lo} (h : LR w gs og m R) (u : Up Nul w w') : LR w' gs og m R :=
 ⟨Nat.lt_of_lt_of_le h.lt u.size, fun i hi => by
  obtain ⟨a, c, h1, h2, h3⟩ := h.row i hi
  exact ⟨a, c, (u.cell (p := ⟨gs, og + i, none⟩) h.lt id).trans h1, h2.nxt u, h3⟩⟩
set_option maxRecDepth 10000 in
set_option maxHeartbeats 4000000 in
theorem cats_l (gs og m cg : Nat) (R : Nat → List Lo) (w : World) (hm : m ≤ 16) (hR : LR w gs og m R) (n1 : 1 ≤ (flatL R m).length) (n2 : (flatL R m).length ≤ 1000) :
  Calls Tryz.prog 89 #[.slice (some ⟨gs, og, none⟩) m cg] w fun e w' => ∃ v, e = .returned v ∧ OwnLo w.heap.size w' v (flatL R m) ∧ Up Nul w w' := by
 have HX := hid hR
 have HG := hid (grow_l (flatL R m).length w n1 (by omega))
 obtain ⟨T, TT⟩ : ∃ T, Hid ((flatL R m).length = T) := ⟨_, rfl⟩
 rw [TT.out] at HG
 have hT : T ≤ 1000 := by rw [← TT.out]; exact n2
 clear hR n1 n2
 go_enter Tryz.func89, Tryz.ntmps89
 go_wp2_with fail
 go_loopw [3, 11] (fun s i wr => ∃ k : Nat, k ≤ m ∧ i = .int .i64 k ∧ wr = w ∧ s = .int .i64 ((flatL R k).length : Nat)) (fun _ i _ => m - (intOf i).toNat)
 case atStart => exact ⟨0, by omega, rfl, rfl, rfl⟩
 case round =>
  obtain ⟨k, hk, rfl, hwr, rfl⟩ := hrel
  have hww := hwr.symm
  subst hww
  by_cases hlt : k < m
  ·obtain ⟨ak, ck, x0, _⟩ := HX.out.row k hlt
   have hn : (flatL R (k + 1)).length = (flatL R k).length + (R k).length := by rw [flatL_next, List.length_append]
   have hle : (flatL R (k + 1)).length ≤ T := by rw [← TT.out]; exact flatL_mono R hlt
   obtain ⟨t1, T1⟩ : ∃ x, Hid ((flatL R (k + 1)).length = x) := ⟨_, rfl⟩
   obtain ⟨t0, T0⟩ : ∃ x, Hid ((flatL R k).length = x) := ⟨_, rfl⟩
   rw [T1.out, T0.out] at hn
   rw [T1.out] at hle
   rw [T0.out]
   generalize (R k).length = nk at x0 hn
   have ev : (t0 : Int) + (nk : Int) = (t1 : Int) := by omega
   have i2 : ¬ ((t1 : Int) < 0) := by omega
   clear hn
   go_wp2
   go_roundw
   case rel => exact ⟨k + 1, by omega, by go_num, trivial, by rw [T1.out]⟩
   case measure => simp [intOf]; omega
  ·obtain rfl : m = k := by omega
   rw [TT.out]
   go_wp2_with fail
   refine HG.out.mono ?_
   rintro e wg ⟨h, cap, rfl, hown, hu⟩
   have HO : Hid (OwnLo w.heap.size wg (.slice (some ⟨h, 0, none⟩) 0 cap) [] ∧ Up Nul w wg) := ⟨hown, hu⟩
   clear hown hu HG
   go_wp2_with fail
   go_loopw [6, 27] (fun v i wx => ∃ k : Nat, k ≤ m ∧ i = .int .i64 k ∧ OwnLo w.heap.size wx v (flatL R k) ∧ Up Nul w wx) (fun _ i _ => m - (intOf i).toNat)
   case atStart => exact ⟨0, by omega, rfl, HO.out⟩
   case round =>
    clear HO
    obtain ⟨k, hk, rfl, ho, hu⟩ := hrel
    by_cases hlt : k < m
    ·obtain ⟨ak, ck, x0, hsl, hne⟩ := (HX.out.nxt hu).row k hlt
     have hfl : (flatL R k).length + (R k).length ≤ 1000 := by
      have h1 : (flatL R (k + 1)).length = (flatL R k).length + (R k).length := by rw [flatL_next, List.length_append]
      have h2 : (flatL R (k + 1)).length ≤ T := by rw [← TT.out]; exact flatL_mono R hlt
      omega
     obtain ⟨v2, w2, hrun, H1, H2, _⟩ := ho.apps ak ck hsl hne (by omega) (by omega) hu.size
     obtain ⟨va, vc, hv⟩ := ho.shape
     have HE : Hid (OwnLo w.heap.size w2 v2 (flatL R (k + 1)) ∧ Up Nul w w2) := ⟨by rw [flatL_next]; exact H1, hu.grown H2 fun q hq => ho.bs q hq⟩
     subst hv
     obtain ⟨va2, vc2, hv2⟩ := HE.out.1.shape
     subst hv2
     have HRUN := hid hrun
     clear ho hu H1 H2 hsl hne hfl hrun
     generalize (R k).length = nk at x0 HRUN
     go_wp2_with (first
      | (at_builtin; refine wpList_append_eqv rfl _ _ _ rfl _ _ _ rfl rfl HRUN.out ?_)
      | go_in)
     go_roundw
     case rel => exact ⟨k + 1, by omega, by go_num, HE.out.1, HE.out.2⟩
     case measure => simp [intOf]; omega
    ·obtain rfl : m = k := by omega
     obtain ⟨va, vc, hv⟩ := ho.shape
     subst hv
     have HE := hid (And.intro ho hu)
     clear ho hu
     go_wp2
     go_ret
     exact ⟨_, rfl, HE.out.1, HE.out.2⟩
end Go.Proofs.YtepggchnhgpcnaaGreatDoor
