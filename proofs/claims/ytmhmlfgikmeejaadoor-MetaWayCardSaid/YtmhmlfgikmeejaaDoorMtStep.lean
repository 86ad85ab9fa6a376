/- What Apply does, as a function; RPut and RDel. -/
import Derived.Test.YtmhmlfgikmeejaaDoorMtInv
import Derived.Test.YtmhmlfgikmeejaaDoorMtChange
namespace Go.Proofs.YtmhmlfgikmeejaaDoor
open Go.RowKit Go.Maps
set_option linter.unusedVariables false

def MM.swap (M : MM) (r : Rc) (fr tk : Int) : Int × MM :=
  match M.b r.key with
  | none => (9, M)
  | some x => match M.s x.sid with
    | none => (12, M)
    | some s => if s.kind ≠ fr then (12, M) else (0, ({ M with s := upd M.s x.sid none } : MM).lay r.sid ⟨tk, r.colour, r.key, noK, noK, r.locs⟩)
def MM.mchk (M : MM) (all : List Int) : Nat → List Int → Option Int
  | _, [] => none
  | p, i :: l => match M.s i with
    | none => some 11
    | some s => if 1 < all.count i then some 11 else if s.kind ≠ 2 ∨ s.colour ≠ (p : Int) then some 12 else M.mchk all (p + 1) l
def MM.mkey (M : MM) (r : Rc) (t : Nat) : ByteArray := ((M.s (r.sids.getD t 0)).map (·.k0)).getD noK
def MM.mlocs (M : MM) (sids : List Int) : List Lo := sids.flatMap fun i => ((M.s i).map (·.locs.take 4)).getD []
def MM.merge (M : MM) (r : Rc) : Int × MM :=
  match M.mchk r.sids 0 r.sids with
  | some e => (e, M)
  | none => (0, ({ M with s := r.sids.foldl (fun f i => upd f i none) M.s } : MM).lay r.sid ⟨3, 0, M.mkey r 0, M.mkey r 1, M.mkey r 2, M.mlocs r.sids ++ r.locs⟩)
def splF (w : St) (sids : List Int) (st : MM × List Lo) (t : Nat) : MM × List Lo :=
  if w.key t = noK then st else (st.1.lay (sids.getD t 0) ⟨2, (t : Int), w.key t, noK, noK, (w.locs.drop (4 * t)).take 4 ++ st.2.take 2⟩, st.2.drop 2)
def MM.split (M : MM) (r : Rc) : Int × MM :=
  match M.s r.sid with
  | none => (11, M)
  | some w => if w.kind ≠ 3 then (12, M) else
    if (List.range 3).any (fun t => decide (w.key t = noK) != decide (r.sids.getD t 0 = 0)) then (1, M) else
    (0, ((List.range 3).foldl (splF w r.sids) ({ M with s := upd M.s r.sid none }, r.locs)).1)
def MM.move (M : MM) (r : Rc) : Int × MM :=
  match M.s r.sid with
  | none => (11, M)
  | some s => if (s.locs.length : Int) ≤ r.n then (1, M) else (0, { M with s := upd M.s r.sid (some { s with locs := s.locs.set r.n.toNat (r.locs.getD 0 ⟨0, 0, 0⟩) }) })
def MM.chg (M : MM) (r : Rc) : Int × MM :=
  if r.kind = 1 then M.put r else if r.kind = 2 then M.drop r.key else if r.kind = 3 then M.swap r 1 2 else if r.kind = 4 then M.swap r 2 1 else
  if r.kind = 5 then M.merge r else if r.kind = 6 then M.split r else if r.kind = 7 then M.move r else (0, { M with t := r.t })
def MM.step (M : MM) (r : Rc) : Int × MM := M.app r (M.chg r)
theorem Inv3.two {M : MM} (h : M.Inv3) : M.Inv2 where
  b k x hb := by
    obtain ⟨_, h2⟩ := h.b k x hb
    obtain ⟨t, ht, hp, s, hs, _⟩ := h2 id
    have := h.s _ _ hs
    have := h.l
    exact ⟨by omega, by omega, s, hs⟩
  s i s hs t := by
    have h3 := (h.s i s hs).2.2
    have key : ∀ t, t < 3 → (s.key t).size ≤ 100000 := fun t ht => by
      by_cases e : s.key t = noK
      · rw [e]; exact Nat.zero_le _
      · obtain ⟨_, x, x1, _⟩ := h3 t ht e
        have := (h.b _ _ x1).1.2
        omega
    rcases t with _ | _ | t
    · exact key 0 (by omega)
    · exact key 1 (by omega)
    · exact key 2 (by omega)
theorem InvX.setLast {M : MM} {E : ByteArray → Prop} {L : Int} (h : InvX M E L) (l : Int) : InvX { M with last := l } E L := ⟨h.b, h.s, h.e, h.l⟩
theorem size_pos_ne {k : ByteArray} (h : 1 ≤ k.size) : k ≠ noK := fun e => by rw [e] at h; exact absurd h (by decide)
section
variable {F : Nat → Prop} {w : World} {p bm bs n : Nat} {Q : Int → Value} {M : MM}
theorem newS_le (r : Rc) (h : OkF r) : (newS r).length ≤ 1000 := by
  unfold newS
  split
  · simp
  · split
    · exact Nat.le_trans (List.length_filter_le _ _) (by have := h.nsl; omega)
    · simp
/-- 'Apply', by what its two parts tell. -/
theorem apply_all (h : MT F w p bm bs n Q M) (hFw : ∀ k, F k → k < w.heap.size) (hS : Shp w) (r : Rc) (sa la : Option Addr) (sc lc : Nat) (hr : RH w r sa la) (hk : r.key.size ≤ 100000) (m : Nat) (hm : n ≤ m)
    (hns : OkF r → ∀ W, Up Nul w W → Calls Tryd.prog 17 #[rv r (.slice sa r.sids.length sc) (.slice la r.locs.length lc)] W (SidsP W (newS r)))
    (hch : OkF r → ∀ W, Up Nul w W → Calls Tryd.prog 18 #[.pointer (some ⟨p, 0, none⟩), rv r (.slice sa r.sids.length sc) (.slice la r.locs.length lc)] W fun e w' => ∃ x, e = .returned (.int .i64 x) ∧ x = (M.chg r).1 ∧ (∃ Q', MT (Gr F W w') w' p bm bs m Q' (M.chg r).2) ∧ Up F W w') :
    Calls Tryd.prog 7 #[.pointer (some ⟨p, 0, none⟩), rv r (.slice sa r.sids.length sc) (.slice la r.locs.length lc)] w fun e w' => e = .returned (.int .i64 (M.step r).1) ∧ (∃ Q', MT (Gr F w w') w' p bm bs m Q' (M.step r).2) ∧ Up F w w' := by
  unfold MM.step
  cases hok : okR r with
  | false =>
    have e : M.app r (M.chg r) = (1, M) := by unfold MM.app; rw [hok]; rfl
    rw [e]
    refine (apply_bad h hS r sa la sc lc hr hk hok).mono ?_
    rintro e w' ⟨rfl, u⟩
    exact ⟨rfl, ⟨Q, ((h.nxt u).wide fun k hk => .inl hk).mono hm⟩, u.nul⟩
  | true =>
    have F' := okR_iff.1 hok
    refine apply_good h hFw hS r sa la sc lc hr hk hok m hm (M.chg r) (hns F') (fun W u => (hch F' W u).mono ?_) (newS_le r F')
    rintro e w' ⟨x, rfl, rfl, h1, h2⟩
    exact ⟨rfl, h1, h2⟩
theorem sh_k {r : Rc} (h : OkF r) {k : Nat} (hk : r.kind = (k : Int)) : kn r = k := by have := h.kk; omega
theorem okf_put {r : Rc} (h : OkF r) (hk : r.kind = 1) : (1 ≤ r.key.size ∧ r.key.size ≤ 16) ∧ r.locs.length = 3 ∧ (1 ≤ r.sid ∧ r.sid ≤ 2147483647) := by
  have e := sh_k h (k := 1) hk
  have h1 := h.key
  have h2 := h.nl
  have h3 := h.sid
  rw [e] at h1 h2 h3
  have : sh 1 0 = 1 ∧ sh 1 1 = 16 ∧ sh 1 11 = 3 ∧ sh 1 12 = 0 ∧ sh 1 4 = 1 ∧ sh 1 5 = 2147483647 := by decide
  obtain ⟨a0, a1, a2, a3, a4, a5⟩ := this
  rw [a0, a1] at h1
  rw [a2, a3] at h2
  rw [a4, a5] at h3
  refine ⟨by omega, by omega, h3⟩
theorem okf_del {r : Rc} (h : OkF r) (hk : r.kind = 2) : 1 ≤ r.key.size ∧ r.key.size ≤ 16 := by
  have e := sh_k h (k := 2) hk
  have h1 := h.key
  rw [e] at h1
  have : sh 2 0 = 1 ∧ sh 2 1 = 16 := by decide
  obtain ⟨a0, a1⟩ := this
  rw [a0, a1] at h1
  omega
theorem apply_12 (h : MT F w p bm bs n Q M) (hFw : ∀ k, F k → k < w.heap.size) (hI : M.Inv3) (hS : Shp w) (r : Rc) (h12 : r.kind = 1 ∨ r.kind = 2) (sa la : Option Addr) (sc lc : Nat) (hr : RH w r sa la) (hk : r.key.size ≤ 100000) (hn : n ≤ 50000) :
    Calls Tryd.prog 7 #[.pointer (some ⟨p, 0, none⟩), rv r (.slice sa r.sids.length sc) (.slice la r.locs.length lc)] w fun e w' => e = .returned (.int .i64 (M.step r).1) ∧ (∃ Q', MT (Gr F w w') w' p bm bs (n + 6) Q' (M.step r).2) ∧ Up F w w' := by
  refine apply_all h hFw hS r sa la sc lc hr hk (n + 6) (by omega) (fun hf W u => ?_) (fun hf W u => ?_)
  · obtain ⟨kind, key, rn, sid, sids, colour, locs, ⟨a, b, c, d, e, f⟩⟩ := r
    rcases h12 with h1 | h2
    · have e1 : newS ⟨kind, key, rn, sid, sids, colour, locs, ⟨a, b, c, d, e, f⟩⟩ = [sid] := if_pos (.inl h1)
      rw [e1]
      exact sids_one kind key rn sid _ colour _ a b c d e f W (.inl h1)
    · have h2' : kind = 2 := h2
      have e1 : newS ⟨kind, key, rn, sid, sids, colour, locs, ⟨a, b, c, d, e, f⟩⟩ = [] := by subst h2'; rfl
      rw [e1]
      exact sids_none kind key rn sid _ colour _ a b c d e f W (.inl h2)
  · rcases h12 with h1 | h2
    · obtain ⟨o1, o2, o3⟩ := okf_put hf h1
      have ec : M.chg r = M.put r := if_pos h1
      rw [ec]
      refine change_1 p W r h1 _ _ ⟨_, _, _, rfl⟩ ⟨_, _, _, rfl⟩ (fun x w' => x = (M.put r).1 ∧ (∃ Q', MT (Gr F W w') w' p bm bs (n + 6) Q' (M.put r).2) ∧ Up F W w') (fun V uV => ?_)
      have hV := h.nxt (u.trans uV)
      refine (put_any hV (fun k hk => Nat.lt_of_lt_of_le (hFw k hk) (u.trans uV).size) (Inv3.two hI) r _ la lc (hr.l.nxt (u.trans uV)) (fun e => by rw [e] at o2; cases o2) (by omega) hk (by omega) hn).mono ?_
      rintro e w' ⟨rfl, ⟨Q', h'⟩, u'⟩
      refine ⟨_, rfl, rfl, ⟨Q', h'.wide fun k hk => ?_⟩, uV.nul.trans (u'.mono fun _ _ e => by rcases e with e | e; rw [e]; exact h.fm; rw [e]; exact h.fs)⟩
      rcases hk with hk | ⟨k1, k2⟩
      · exact .inl hk
      · exact .inr ⟨Nat.le_trans uV.size k1, k2⟩
    · have ec : M.chg r = M.drop r.key := by unfold MM.chg; rw [if_neg (by omega), if_pos h2]
      rw [ec]
      refine change_2 p W r h2 _ _ ⟨_, _, _, rfl⟩ ⟨_, _, _, rfl⟩ (fun x w' => x = (M.drop r.key).1 ∧ (∃ Q', MT (Gr F W w') w' p bm bs (n + 6) Q' (M.drop r.key).2) ∧ Up F W w') (fun V uV => ?_)
      have hV := h.nxt (u.trans uV)
      refine (drop_any hV (fun k hk => Nat.lt_of_lt_of_le (hFw k hk) (u.trans uV).size) (Inv3.two hI) r.key hk (by omega)).mono ?_
      rintro e w' ⟨rfl, ⟨Q', h'⟩, u'⟩
      exact ⟨_, rfl, rfl, ⟨Q', (h'.wide fun k hk => .inl hk).mono (by omega)⟩, uV.nul.trans (u'.mono fun _ _ e => by rcases e with e | e; rw [e]; exact h.fm; rw [e]; exact h.fs)⟩
end
/-- The invariant behind RPut and RDel. -/
theorem inv_12 {M : MM} (h : M.Inv3) (r : Rc) (h12 : r.kind = 1 ∨ r.kind = 2) : (M.step r).2.Inv3 := by
  unfold MM.step MM.app
  cases hok : okR r with
  | false => rw [if_pos rfl]; exact h
  | true =>
    rw [if_neg (by simp)]
    have hf := okR_iff.1 hok
    rcases h12 with h1 | h2
    · obtain ⟨o1, o2, o3⟩ := okf_put hf h1
      have e1 : newS r = [r.sid] := if_pos (.inl h1)
      have ec : M.chg r = M.put r := if_pos h1
      rw [e1, ec]
      unfold rise
      by_cases hl : r.sid ≤ M.last
      · rw [if_pos hl]; exact h
      · rw [if_neg hl]
        unfold rise
        have e0 : (M.put r).1 = 0 := rfl
        dsimp only
        rw [e0, if_pos rfl]
        exact (inv_put h r ⟨size_pos_ne o1.1, o1.2⟩ o2 (by omega) o3.2).setLast _
    · have e1 : newS r = [] := by unfold newS; rw [if_neg (by omega), if_neg (by omega)]
      have ec : M.chg r = M.drop r.key := by unfold MM.chg; rw [if_neg (by omega), if_pos h2]
      rw [e1, ec]
      unfold rise
      have hd := (inv_drop h r.key).1
      dsimp only
      split
      · exact hd.setLast _
      · rename_i hne
        have : (M.drop r.key).2 = M := by
          unfold MM.drop at hne ⊢
          cases hb : M.b r.key with
          | none => rfl
          | some x =>
            rw [hb] at hne
            dsimp only at hne
            cases hs : M.s x.sid with
            | none => rw [hs] at hne; exact absurd rfl hne
            | some s => rw [hs] at hne; exact absurd rfl hne
        rw [this]; exact h
end Go.Proofs.YtmhmlfgikmeejaaDoor
