/- What holds of all blobs, behind 'split' and behind each record of the Kinds 3 to 6. -/
import Derived.Test.YtepggchnhgpcnaaGreatDoorPkTidy
import Derived.Test.YtepggchnhgpcnaaGreatDoorPz13
import Derived.Test.YtepggchnhgpcnaaGreatDoorPz12
namespace Go.Proofs.YtepggchnhgpcnaaGreatDoor
open Go.RowKit Go.Maps
set_option linter.unusedVariables false

theorem okf_swap {r : Rc} (h : OkF r) (hk : r.kind = 3 ∨ r.kind = 4) : (1 ≤ r.key.size ∧ r.key.size ≤ 16) ∧ (r.locs.length = if r.kind = 3 then 6 else 3) ∧ (1 ≤ r.sid ∧ r.sid ≤ 2147483647) ∧ (0 ≤ r.colour ∧ r.colour ≤ 2) := by
 rcases hk with hk | hk
 ·have e := sh_k h (k := 3) hk
  have h1 := h.key
  have h2 := h.nl
  have h3 := h.sid
  have h4 := h.co
  rw [e] at h1 h2 h3 h4
  have : sh 3 0 = 1 ∧ sh 3 1 = 16 ∧ sh 3 11 = 6 ∧ sh 3 12 = 0 ∧ sh 3 4 = 1 ∧ sh 3 5 = 2147483647 ∧ sh 3 6 = 0 ∧ sh 3 7 = 2 := by decide
  obtain ⟨a0, a1, a2, a3, a4, a5, a6, a7⟩ := this
  rw [a0, a1] at h1
  rw [a2, a3] at h2
  rw [a4, a5] at h3
  rw [a6, a7] at h4
  rw [if_pos hk]
  exact ⟨by omega, by omega, h3, h4⟩
 ·have e := sh_k h (k := 4) hk
  have h1 := h.key
  have h2 := h.nl
  have h3 := h.sid
  have h4 := h.co
  rw [e] at h1 h2 h3 h4
  have : sh 4 0 = 1 ∧ sh 4 1 = 16 ∧ sh 4 11 = 3 ∧ sh 4 12 = 0 ∧ sh 4 4 = 1 ∧ sh 4 5 = 2147483647 ∧ sh 4 6 = 0 ∧ sh 4 7 = 0 := by decide
  obtain ⟨a0, a1, a2, a3, a4, a5, a6, a7⟩ := this
  rw [a0, a1] at h1
  rw [a2, a3] at h2
  rw [a4, a5] at h3
  rw [a6, a7] at h4
  rw [if_neg (by omega)]
  exact ⟨by omega, by omega, h3, by omega⟩
theorem okf_merge {r : Rc} (h : OkF r) (hk : r.kind = 5) : r.sids.length = 3 ∧ r.locs.length = 4 ∧ (1 ≤ r.sid ∧ r.sid ≤ 2147483647) ∧ ∀ z ∈ r.sids, 0 ≤ z ∧ z ≤ 2147483647 := by
 have e := sh_k h (k := 5) hk
 have h1 := h.ns
 have h2 := h.nl
 have h3 := h.sid
 have h4 := h.sids
 rw [e] at h1 h2 h3 h4
 have : sh 5 8 = 3 ∧ sh 5 9 = 1 ∧ sh 5 10 = 2147483647 ∧ sh 5 11 = 4 ∧ sh 5 12 = 0 ∧ sh 5 4 = 1 ∧ sh 5 5 = 2147483647 := by decide
 obtain ⟨a0, a1, a2, a3, a4, a5, a6⟩ := this
 rw [a0] at h1
 rw [a3, a4] at h2
 rw [a5, a6] at h3
 rw [a1, a2] at h4
 exact ⟨by omega, by omega, h3, fun z hz => by have := h4 z hz; omega⟩
theorem okf_split {r : Rc} (h : OkF r) (hk : r.kind = 6) : r.sids.length = 3 ∧ r.locs.length = 2 * nz r.sids ∧ (1 ≤ r.sid ∧ r.sid ≤ 2147483647) ∧ ∀ z ∈ r.sids, 0 ≤ z ∧ z ≤ 2147483647 := by
 have e := sh_k h (k := 6) hk
 have h1 := h.ns
 have h2 := h.nl
 have h3 := h.sid
 have h4 := h.sids
 rw [e] at h1 h2 h3 h4
 have : sh 6 8 = 3 ∧ sh 6 9 = 0 ∧ sh 6 10 = 2147483647 ∧ sh 6 11 = 0 ∧ sh 6 12 = 2 ∧ sh 6 4 = 1 ∧ sh 6 5 = 2147483647 := by decide
 obtain ⟨a0, a1, a2, a3, a4, a5, a6⟩ := this
 rw [a0] at h1
 rw [a3, a4] at h2
 rw [a5, a6] at h3
 rw [a1, a2] at h4
 exact ⟨by omega, by omega, h3, h4⟩
section
variable {F : Nat → Prop} {w : World} {p bm bs n : Nat} {Q : Int → Value} {M : MM}
theorem fin_any (h : MT F w p bm bs n Q M) {W V : World} (uV : Up Nul W V) {f : FuncId} {args : Array Value} {c : Int × MM} {m m' : Nat} (hm : m' ≤ m)
  (hc : Calls Tryz.prog f args V fun e w' => e = .returned (.int .i64 c.1) ∧ (∃ Q', MT (Gr F V w') w' p bm bs m' Q' c.2) ∧ Up (Two bm bs) V w') :
  Calls Tryz.prog f args V fun e w' => ∃ x, e = .returned (.int .i64 x) ∧ x = c.1 ∧ (∃ Q', MT (Gr F W w') w' p bm bs m Q' c.2) ∧ Up F W w' := by
 refine hc.mono ?_
 rintro e w' ⟨rfl, ⟨Q', h'⟩, u'⟩
 refine ⟨_, rfl, rfl, ⟨Q', (h'.wide fun k hk => ?_).mono hm⟩, uV.nul.trans (u'.mono fun _ _ e => by rcases e with e | e; rw [e]; exact h.fm; rw [e]; exact h.fs)⟩
 rcases hk with hk | ⟨k1, k2⟩
 ·exact .inl hk
 ·exact .inr ⟨Nat.le_trans uV.size k1, k2⟩
theorem apply_36 (h : MT F w p bm bs n Q M) (hFw : ∀ k, F k → k < w.heap.size) (hI : M.Inv3) (hS : Shp w) (r : Rc) (hk6 : 3 ≤ r.kind ∧ r.kind ≤ 6) (sa la : Option Addr) (sc lc : Nat) (hr : RH w r sa la) (hk : r.key.size ≤ 100000)
  (hcs : r.sids.length ≤ sc ∧ (sc : Int) ≤ 9223372036854775807) (hcl : r.locs.length ≤ lc ∧ (lc : Int) ≤ 9223372036854775807) (hn : n ≤ 50000) :
  Calls Tryz.prog 9 #[.pointer (some ⟨p, 0, none⟩), rv r (.slice sa r.sids.length sc) (.slice la r.locs.length lc)] w fun e w' => e = .returned (.int .i64 (M.step r).1) ∧ (∃ Q', MT (Gr F w w') w' p bm bs (n + 12) Q' (M.step r).2) ∧ Up F w w' := by
 have h3456 : (r.kind = 3 ∨ r.kind = 4) ∨ r.kind = 5 ∨ r.kind = 6 := by omega
 refine apply_all h hFw hS r sa la sc lc hr hk (n + 12) (by omega) (fun hf W u => ?_) (fun hf W u => ?_)
 ·by_cases h6 : r.kind = 6
  ·obtain ⟨o1, o2, o3, o4⟩ := okf_split hf h6
   obtain ⟨kind, key, rn, sid, sids, colour, locs, ⟨a, b, c, d, e, f⟩⟩ := r
   have h6' : kind = 6 := h6
   subst h6'
   have e1 : newS ⟨6, key, rn, sid, sids, colour, locs, ⟨a, b, c, d, e, f⟩⟩ = sids.filter (fun x => decide (x ≠ 0)) := rfl
   rw [e1]
   exact sids_six key rn sid sa sc sids colour _ a b c d e f W (hr.s.nxt u) (fun e => by rw [e] at o1; cases o1) (by show sids.length ≤ 1000; have : sids.length = 3 := o1; omega) ⟨_, _, _, rfl⟩
  ·have e1 : newS r = [r.sid] := if_pos (by omega)
   rw [e1]
   obtain ⟨kind, key, rn, sid, sids, colour, locs, ⟨a, b, c, d, e, f⟩⟩ := r
   exact sids_one kind key rn sid _ colour _ a b c d e f W (by rcases h3456 with (e | e) | e | e; exact .inr (.inl e); exact .inr (.inr (.inl e)); exact .inr (.inr (.inr e)); exact absurd e h6)
 ·have hV : ∀ V, Up Nul W V → MT F V p bm bs n Q M ∧ (∀ k, F k → k < V.heap.size) ∧ RowL V la r.locs ∧ RowI V sa r.sids := fun V uV => ⟨h.nxt (u.trans uV), fun k hk => Nat.lt_of_lt_of_le (hFw k hk) (u.trans uV).size, hr.l.nxt (u.trans uV), hr.s.nxt (u.trans uV)⟩
  rcases h3456 with h34 | h5 | h6
  ·obtain ⟨o1, o2, o3, o4⟩ := okf_swap hf h34
   have hll : r.locs ≠ [] ∧ r.locs.length ≤ 1000 := by
    have : r.locs.length = 6 ∨ r.locs.length = 3 := by
     rw [o2]; split
     ·exact .inl rfl
     ·exact .inr rfl
    exact ⟨fun e => by rw [e] at this; simp at this, by omega⟩
   rcases h34 with h3 | h4
   ·have ec : M.chg r = M.swap r 1 2 := by unfold MM.chg; rw [if_neg (by omega), if_neg (by omega), if_pos h3]
    rw [ec]
    refine change_3 p W r h3 _ _ ⟨_, _, _, rfl⟩ ⟨_, _, _, rfl⟩ (fun x w' => x = (M.swap r 1 2).1 ∧ (∃ Q', MT (Gr F W w') w' p bm bs (n + 12) Q' (M.swap r 1 2).2) ∧ Up F W w') (fun V uV => ?_)
    obtain ⟨v1, v2, v3, v4⟩ := hV V uV
    exact fin_any h uV (by omega) (swap_any v1 v2 (Inv3.two hI) 1 2 r _ la lc v3 hll.1 hll.2 hk (by omega) hn)
   ·have ec : M.chg r = M.swap r 2 1 := by unfold MM.chg; rw [if_neg (by omega), if_neg (by omega), if_neg (by omega), if_pos h4]
    rw [ec]
    refine change_4 p W r h4 _ _ ⟨_, _, _, rfl⟩ ⟨_, _, _, rfl⟩ (fun x w' => x = (M.swap r 2 1).1 ∧ (∃ Q', MT (Gr F W w') w' p bm bs (n + 12) Q' (M.swap r 2 1).2) ∧ Up F W w') (fun V uV => ?_)
    obtain ⟨v1, v2, v3, v4⟩ := hV V uV
    exact fin_any h uV (by omega) (swap_any v1 v2 (Inv3.two hI) 2 1 r _ la lc v3 hll.1 hll.2 hk (by omega) hn)
  ·obtain ⟨o1, o2, o3, o4⟩ := okf_merge hf h5
   have ec : M.chg r = M.merge r := by unfold MM.chg; rw [if_neg (by omega), if_neg (by omega), if_neg (by omega), if_neg (by omega), if_pos h5]
   rw [ec]
   refine change_5 p W r h5 _ _ ⟨_, _, _, rfl⟩ ⟨_, _, _, rfl⟩ (fun x w' => x = (M.merge r).1 ∧ (∃ Q', MT (Gr F W w') w' p bm bs (n + 12) Q' (M.merge r).2) ∧ Up F W w') (fun V uV => ?_)
   obtain ⟨v1, v2, v3, v4⟩ := hV V uV
   exact fin_any h uV (by omega) (merge_any v1 v2 hI r sa la sc lc v4 v3 o1 (by omega) o4 o2 (by omega) hn)
  ·obtain ⟨o1, o2, o3, o4⟩ := okf_split hf h6
   have ec : M.chg r = M.split r := by unfold MM.chg; rw [if_neg (by omega), if_neg (by omega), if_neg (by omega), if_neg (by omega), if_neg (by omega), if_pos h6]
   rw [ec]
   refine change_6 p W r h6 _ _ ⟨_, _, _, rfl⟩ ⟨_, _, _, rfl⟩ (fun x w' => x = (M.split r).1 ∧ (∃ Q', MT (Gr F W w') w' p bm bs (n + 12) Q' (M.split r).2) ∧ Up F W w') (fun V uV => ?_)
   obtain ⟨v1, v2, v3, v4⟩ := hV V uV
   obtain ⟨z0, z1, z2, hz⟩ : ∃ z0 z1 z2, r.sids = [z0, z1, z2] := by
    match hh : r.sids, o1 with
    | [a, b, c], _ => exact ⟨a, b, c, rfl⟩
   have hsp := split_any v1 v2 hI r z0 z1 z2 hz sa la sc lc (by rw [← hz]; exact v4) v3 (by omega) o4 hcl o2 (by omega) hn
   rw [o1]
   exact fin_any h uV (by omega) hsp
end

theorem inv_rm {M : MM} {E : ByteArray → Prop} {L i : Int} {s : St} (h : InvX M E L) (hs : M.s i = some s) : InvX { M with s := upd M.s i none } (fun k => E k ∨ ∃ t, t < 3 ∧ s.key t = k ∧ k ≠ noK) L where
 b k x hb := by
  obtain ⟨a1, a2⟩ := h.b k x hb
  refine ⟨a1, fun hn => ?_⟩
  obtain ⟨t, ht, hp, s', hs', hk⟩ := a2 fun e => hn (.inl e)
  refine ⟨t, ht, hp, s', ?_, hk⟩
  show upd M.s i none x.sid = some s'
  by_cases e : x.sid = i
  ·rw [e] at hs'
   rw [hs] at hs'
   cases hs'
   exact absurd (.inr ⟨t, ht, hk, a1.1⟩) hn
  ·rw [upd_ne _ _ e]; exact hs'
 s j s' hj := by
  have hj : upd M.s i none j = some s' := hj
  by_cases e : j = i
  ·subst e; rw [upd_same] at hj; cases hj
  ·rw [upd_ne _ _ e] at hj
   obtain ⟨b1, b2, b3⟩ := h.s j s' hj
   refine ⟨b1, b2, fun t ht hkt => ?_⟩
   obtain ⟨c1, x, x1, x2, x3⟩ := b3 t ht hkt
   refine ⟨fun hE => ?_, x, x1, x2, x3⟩
   rcases hE with hE | ⟨u, hu, hk, hne⟩
   ·exact c1 hE
   ·obtain ⟨_, y, y1, y2, _⟩ := (h.s i s hs).2.2 u hu (by rw [hk]; exact hne)
    rw [hk, x1] at y1
    cases y1
    exact e (x2.symm.trans y2)
 e k hE := by
  rcases hE with hE | ⟨t, ht, hk, hne⟩
  ·exact h.e k hE
  ·obtain ⟨_, x, x1, _⟩ := (h.s i s hs).2.2 t ht (by rw [hk]; exact hne)
   exact ⟨x, by rw [← hk]; exact x1⟩
 l := h.l
theorem three {t : Nat} (h : t < 3) : t = 0 ∨ t = 1 ∨ t = 2 := by omega
theorem StOk.k0 {s : St} (h : StOk s) (hk : s.kind ≠ 3) : s.k0 ≠ noK ∧ ∀ t, t < 3 → s.key t ≠ noK → t = 0 := by
 obtain ⟨e1, e2⟩ := h.one hk
 have h3 : ∀ t, t < 3 → s.key t ≠ noK → t = 0 := fun t ht hn => by
  rcases three ht with rfl | rfl | rfl
  ·rfl
  ·exact absurd e1 hn
  ·exact absurd e2 hn
 obtain ⟨t, ht, hn⟩ := h.live
 have := h3 t ht hn
 subst this
 exact ⟨hn, h3⟩
theorem key_one {k : Int} {c : Int} {a : ByteArray} {ls : List Lo} {t : Nat} (h : t < 3) (hn : (⟨k, c, a, noK, noK, ls⟩ : St).key t ≠ noK) : t = 0 := by
 rcases three h with rfl | rfl | rfl
 ·rfl
 ·exact absurd rfl hn
 ·exact absurd rfl hn
theorem inv_swap {M : MM} {L : Int} (h : InvX M (fun _ => False) L) (r : Rc) (fr tk : Int) (hf : fr ≠ 3) (ht : tk = 1 ∨ tk = 2) (hl : r.locs.length = locsOfKind tk) (hc : 0 ≤ r.colour ∧ r.colour ≤ 2) (hi : L < r.sid) (hi2 : r.sid ≤ 2147483647) (h0 : (M.swap r fr tk).1 = 0) : InvX (M.swap r fr tk).2 (fun _ => False) r.sid := by
 unfold MM.swap at h0 ⊢
 cases hb : M.b r.key with
 | none => rw [hb] at h0; exact absurd (show (9 : Int) = 0 from h0) (by decide)
 | some x =>
  rw [hb] at h0
  dsimp only at h0 ⊢
  cases hs : M.s x.sid with
  | none => rw [hs] at h0; exact absurd (show (12 : Int) = 0 from h0) (by decide)
  | some s =>
   rw [hs] at h0
   dsimp only at h0 ⊢
   by_cases hk : s.kind ≠ fr
   ·rw [if_pos hk] at h0; exact absurd (show (12 : Int) = 0 from h0) (by decide)
   ·rw [if_neg hk]
    have hk : s.kind = fr := Classical.not_not.1 hk
    obtain ⟨⟨n1, n2⟩, n3⟩ := h.b _ _ hb
    obtain ⟨t, ht3, _, s', hs', hkey⟩ := n3 id
    rw [hs] at hs'
    cases hs'
    obtain ⟨k1, k2⟩ := (h.s _ _ hs).2.1.k0 (by rw [hk]; exact hf)
    have ht0 := k2 t ht3 (by rw [hkey]; exact n1)
    subst ht0
    have h1 := inv_rm h hs
    have h2 := inv_lay h1 (sid := r.sid) ⟨tk, r.colour, r.key, noK, noK, r.locs⟩ ⟨by rcases ht with e | e; exact .inl e; exact .inr (.inl e), hl, hc, fun _ => ⟨rfl, rfl⟩, ⟨0, by omega, n1⟩⟩ (fun t ht hn => by
     have := key_one ht hn
     subst this
     exact .inr ⟨0, by omega, hkey, n1⟩) (fun t u ht hu hne hn => by
     have := key_one ht hn
     subst this
     intro e
     have : u = 0 := key_one hu (e ▸ hn)
     exact hne this.symm) hi hi2
    refine h2.less fun k => ⟨fun e => ?_, fun e => e.elim⟩
    obtain ⟨e1, e2⟩ := e
    rcases e1 with e1 | ⟨t, ht3, hkt, hne⟩
    ·exact e1
    ·have ht0 := k2 t ht3 (by rw [hkt]; exact hne)
     subst ht0
     exact e2 0 (by omega) (by show r.key = k; rw [← hkey]; exact hkt)
theorem mchk_cons {M : MM} {all : List Int} {p : Nat} {i : Int} {l : List Int} (h : M.mchk all p (i :: l) = none) : ∃ s, M.s i = some s ∧ ¬ 1 < all.count i ∧ s.kind = 2 ∧ s.colour = (p : Int) ∧ M.mchk all (p + 1) l = none := by
 unfold MM.mchk at h
 cases hs : M.s i with
 | none => rw [hs] at h; cases h
 | some s =>
  rw [hs] at h
  dsimp only at h
  by_cases h1 : 1 < all.count i
  ·rw [if_pos h1] at h; cases h
  ·rw [if_neg h1] at h
   by_cases h2 : s.kind ≠ 2 ∨ s.colour ≠ (p : Int)
   ·rw [if_pos h2] at h; cases h
   ·rw [if_neg h2] at h
    refine ⟨s, rfl, h1, ?_, ?_, h⟩
    ·exact Classical.not_not.1 fun e => h2 (.inl e)
    ·exact Classical.not_not.1 fun e => h2 (.inr e)
theorem key_sid {M : MM} {E : ByteArray → Prop} {L : Int} (h : InvX M E L) {i j : Int} {s s' : St} (hs : M.s i = some s) (hs' : M.s j = some s') (hne : i ≠ j) {t u : Nat} (ht : t < 3) (hu : u < 3) (hn : s.key t ≠ noK) : s.key t ≠ s'.key u := fun e => by
 obtain ⟨_, x, x1, x2, _⟩ := (h.s _ _ hs).2.2 t ht hn
 obtain ⟨_, y, y1, y2, _⟩ := (h.s _ _ hs').2.2 u hu (by rw [← e]; exact hn)
 rw [← e, x1] at y1
 cases y1
 exact hne (x2.symm.trans y2)
theorem inv_merge {M : MM} {L : Int} (h : InvX M (fun _ => False) L) (r : Rc) (hz : r.sids.length = 3) (hl : r.locs.length = 4) (hi : L < r.sid) (hi2 : r.sid ≤ 2147483647) (h0 : (M.merge r).1 = 0) : InvX (M.merge r).2 (fun _ => False) r.sid := by
 obtain ⟨a, b, c, hzs⟩ : ∃ a b c, r.sids = [a, b, c] := by
  match hh : r.sids, hz with
  | [a, b, c], _ => exact ⟨a, b, c, rfl⟩
 have hk : ∀ t, M.mkey r t = ((M.s ([a, b, c].getD t 0)).map (·.k0)).getD noK := fun t => by unfold MM.mkey; rw [hzs]
 have hk0 := hk 0
 have hk1 := hk 1
 have hk2 := hk 2
 clear hk
 unfold MM.merge at h0 ⊢
 rw [hzs] at h0 ⊢
 cases hm : M.mchk [a, b, c] 0 [a, b, c] with
 | some e =>
  rw [hm] at h0
  exfalso
  have h0 : e = 0 := h0
  subst h0
  unfold MM.mchk at hm
  have key : ∀ (l : List Int) (p : Nat), M.mchk [a, b, c] p l ≠ some 0 := by
   intro l
   induction l with
   | nil => intro p e; cases e
   | cons i l ih =>
    intro p e
    unfold MM.mchk at e
    split at e
    ·exact absurd e (by decide)
    ·split at e
     ·exact absurd e (by decide)
     ·split at e
      ·exact absurd e (by decide)
      ·exact ih _ e
  exact key [a, b, c] 0 (by unfold MM.mchk; exact hm)
 | none =>
  dsimp only
  obtain ⟨sa, ha, na, ka, ca, hm1⟩ := mchk_cons hm
  obtain ⟨sb, hb, nb, kb, cb, hm2⟩ := mchk_cons hm1
  obtain ⟨sc, hc, nc, kc, cc, _⟩ := mchk_cons hm2
  have hab : a ≠ b := fun e => na (by subst e; simp [List.count_cons] <;> (split <;> omega))
  have hac : a ≠ c := fun e => na (by subst e; simp [List.count_cons] <;> (split <;> omega))
  have hbc : b ≠ c := fun e => nb (by subst e; simp [List.count_cons] <;> (split <;> omega))
  have hk0 : M.mkey r 0 = sa.k0 := by rw [hk0]; show ((M.s a).map (·.k0)).getD noK = _; rw [ha]; rfl
  have hk1 : M.mkey r 1 = sb.k0 := by rw [hk1]; show ((M.s b).map (·.k0)).getD noK = _; rw [hb]; rfl
  have hk2 : M.mkey r 2 = sc.k0 := by rw [hk2]; show ((M.s c).map (·.k0)).getD noK = _; rw [hc]; rfl
  have hml : (M.mlocs [a, b, c] ++ r.locs).length = 16 := by
   have l6 : ∀ (i : Int) (s : St), M.s i = some s → s.kind = 2 → (((M.s i).map (·.locs.take 4)).getD []).length = 4 := fun i s hs hk => by
    rw [hs]
    show (s.locs.take 4).length = 4
    have := (h.s _ _ hs).2.1.locs
    rw [hk] at this
    rw [List.length_take, this]; rfl
   have e : M.mlocs [a, b, c] = ((M.s a).map (·.locs.take 4)).getD [] ++ (((M.s b).map (·.locs.take 4)).getD [] ++ (((M.s c).map (·.locs.take 4)).getD [] ++ [])) := rfl
   rw [e]
   simp only [List.length_append, l6 _ _ ha ka, l6 _ _ hb kb, l6 _ _ hc kc, List.length_nil, hl]
  rw [hk0, hk1, hk2]
  have oa := (h.s _ _ ha).2.1.k0 (by rw [ka]; decide)
  have ob := (h.s _ _ hb).2.1.k0 (by rw [kb]; decide)
  have oc := (h.s _ _ hc).2.1.k0 (by rw [kc]; decide)
  have dab : sa.k0 ≠ sb.k0 := key_sid h ha hb hab (t := 0) (u := 0) (by omega) (by omega) oa.1
  have dac : sa.k0 ≠ sc.k0 := key_sid h ha hc hac (t := 0) (u := 0) (by omega) (by omega) oa.1
  have dbc : sb.k0 ≠ sc.k0 := key_sid h hb hc hbc (t := 0) (u := 0) (by omega) (by omega) ob.1
  have h1 := inv_rm h ha
  have h2 := inv_rm (s := sb) (i := b) h1 (by show upd M.s a none b = _; rw [upd_ne _ _ hab.symm]; exact hb)
  have h3 := inv_rm (s := sc) (i := c) h2 (by show upd (upd M.s a none) b none c = _; rw [upd_ne _ _ hbc.symm, upd_ne _ _ hac.symm]; exact hc)
  have h4 := inv_lay h3 (sid := r.sid) ⟨3, 0, sa.k0, sb.k0, sc.k0, M.mlocs [a, b, c] ++ r.locs⟩ ⟨.inr (.inr rfl), hml, by show (0 : Int) ≤ 0 ∧ (0 : Int) ≤ 2; omega, fun e => absurd rfl e, ⟨0, by omega, oa.1⟩⟩ (fun t ht hn => by
   rcases three ht with rfl | rfl | rfl
   ·exact .inl (.inl (.inr ⟨0, by omega, rfl, oa.1⟩))
   ·exact .inl (.inr ⟨0, by omega, rfl, ob.1⟩)
   ·exact .inr ⟨0, by omega, rfl, oc.1⟩) (fun t u ht hu hne hn => by
   rcases three ht with rfl | rfl | rfl <;> rcases three hu with rfl | rfl | rfl
   ·exact absurd rfl hne
   ·exact dab
   ·exact dac
   ·exact dab.symm
   ·exact absurd rfl hne
   ·exact dbc
   ·exact dac.symm
   ·exact dbc.symm
   ·exact absurd rfl hne) hi hi2
  refine h4.less fun k => ⟨fun e => ?_, fun e => e.elim⟩
  obtain ⟨e1, e2⟩ := e
  rcases e1 with ((e1 | ⟨t, ht, hkt, hne⟩) | ⟨t, ht, hkt, hne⟩) | ⟨t, ht, hkt, hne⟩
  ·exact e1
  ·have := oa.2 t ht (by rw [hkt]; exact hne)
   subst this
   exact e2 0 (by omega) hkt
  ·have := ob.2 t ht (by rw [hkt]; exact hne)
   subst this
   exact e2 1 (by omega) hkt
  ·have := oc.2 t ht (by rw [hkt]; exact hne)
   subst this
   exact e2 2 (by omega) hkt

def lst (s : St) (zs : List Int) (L : Int) : Nat → Int
 | 0 => L
 | t + 1 => if s.key t = noK then lst s zs L t else zs.getD t 0
theorem rise_lst {s : St} {z0 z1 z2 L l : Int} (h : ∀ j, j < 3 → badP s [z0, z1, z2] j = false) (hr : rise L ([z0, z1, z2].filter fun x => decide (x ≠ 0)) = some l) :
  l = lst s [z0, z1, z2] L 3 ∧ ∀ t, t < 3 → s.key t ≠ noK → lst s [z0, z1, z2] L t < [z0, z1, z2].getD t 0 := by
 have h0 : (decide (s.key 0 = noK) != decide (z0 = 0)) = false := h 0 (by omega)
 have h1 : (decide (s.key 1 = noK) != decide (z1 = 0)) = false := h 1 (by omega)
 have h2 : (decide (s.key 2 = noK) != decide (z2 = 0)) = false := h 2 (by omega)
 have f3 : ∀ {P : Nat → Prop}, P 0 → P 1 → P 2 → ∀ t, t < 3 → P t := fun p0 p1 p2 t ht => by
  rcases three ht with rfl | rfl | rfl
  ·exact p0
  ·exact p1
  ·exact p2
 refine ⟨?_, f3 ?_ ?_ ?_⟩ <;>
 ·by_cases a0 : s.key 0 = noK <;> by_cases a1 : s.key 1 = noK <;> by_cases a2 : s.key 2 = noK <;> by_cases b0 : z0 = 0 <;> by_cases b1 : z1 = 0 <;> by_cases b2 : z2 = 0 <;> simp_all [lst, rise] <;> omega
theorem key_part {M : MM} {E : ByteArray → Prop} {L : Int} (h : InvX M E L) {i : Int} {s : St} (hs : M.s i = some s) {t u : Nat} (ht : t < 3) (hu : u < 3) (hne : t ≠ u) (hn : s.key t ≠ noK) : s.key t ≠ s.key u := fun e => by
 obtain ⟨_, x, x1, _, x3⟩ := (h.s _ _ hs).2.2 t ht hn
 obtain ⟨_, y, y1, _, y3⟩ := (h.s _ _ hs).2.2 u hu (by rw [← e]; exact hn)
 rw [← e, x1] at y1
 cases y1
 have : ((t : Nat) : Int) = (u : Nat) := x3.symm.trans y3
 omega
theorem inv_spl {M0 : MM} {s : St} {zs : List Int} {ls : List Lo} {L : Int} (h16 : s.locs.length = 16) (hE : InvX M0 (fun k => ∃ u, 0 ≤ u ∧ u < 3 ∧ s.key u = k ∧ k ≠ noK) L)
  (hd : ∀ t u, t < 3 → u < 3 → t ≠ u → s.key t ≠ noK → s.key t ≠ s.key u) (hlen : ls.length = 2 * liv s 0) (hr : ∀ t, t < 3 → s.key t ≠ noK → lst s zs L t < zs.getD t 0) (hm : ∀ t, t < 3 → zs.getD t 0 ≤ 2147483647) :
  ∀ t, t ≤ 3 → InvX (spl s zs M0 ls t).1 (fun k => ∃ u, t ≤ u ∧ u < 3 ∧ s.key u = k ∧ k ≠ noK) (lst s zs L t) ∧ (spl s zs M0 ls t).2.length = 2 * liv s t
 | 0, _ => ⟨hE, hlen⟩
 | t + 1, ht => by
  obtain ⟨i1, i2⟩ := inv_spl h16 hE hd hlen hr hm t (by omega)
  by_cases hx : s.key t = noK
  ·have e : lst s zs L (t + 1) = lst s zs L t := if_pos hx
   rw [spl_dead hx, e, ← liv_dead (by omega) hx]
   refine ⟨i1.less fun k => ⟨?_, ?_⟩, i2⟩
   ·rintro ⟨u, u1, u2, u3, u4⟩
    refine ⟨u, ?_, u2, u3, u4⟩
    rcases Nat.lt_or_ge t u with h | h
    ·omega
    ·have : u = t := by omega
     subst this
     exact absurd (u3.symm.trans hx) u4
   ·rintro ⟨u, u1, u2, u3, u4⟩
    exact ⟨u, by omega, u2, u3, u4⟩
  ·have e : lst s zs L (t + 1) = zs.getD t 0 := if_neg hx
   have hl := liv_live (s := s) (t := t) (by omega) hx
   rw [spl_live hx, e]
   have l6 : ((s.locs.drop (4 * t)).take 4 ++ (spl s zs M0 ls t).2.take 2).length = 6 := by
    rw [List.length_append, List.length_take, List.length_take, List.length_drop, h16, i2]
    omega
   have h4 := inv_lay i1 (sid := zs.getD t 0) ⟨2, (t : Int), s.key t, noK, noK, (s.locs.drop (4 * t)).take 4 ++ (spl s zs M0 ls t).2.take 2⟩ ⟨.inr (.inl rfl), l6, by show (0 : Int) ≤ (t : Int) ∧ (t : Int) ≤ 2; omega, fun _ => ⟨rfl, rfl⟩, ⟨0, by omega, hx⟩⟩ (fun v hv hn => by
    have := key_one hv hn
    subst this
    exact ⟨t, by omega, by omega, rfl, hx⟩) (fun v u hv hu hne hn => by
    have := key_one hv hn
    subst this
    intro e
    have : u = 0 := key_one hu (e ▸ hn)
    exact hne this.symm) (hr t (by omega) hx) (hm t (by omega))
   refine ⟨h4.less fun k => ⟨?_, ?_⟩, ?_⟩
   ·rintro ⟨⟨u, u1, u2, u3, u4⟩, hk⟩
    refine ⟨u, ?_, u2, u3, u4⟩
    rcases Nat.lt_or_ge t u with h | h
    ·omega
    ·have : u = t := by omega
     subst this
     exact absurd u3 (hk 0 (by omega))
   ·rintro ⟨u, u1, u2, u3, u4⟩
    refine ⟨⟨u, by omega, u2, u3, u4⟩, fun v hv e => ?_⟩
    have hvn : (⟨2, (t : Int), s.key t, noK, noK, (s.locs.drop (4 * t)).take 4 ++ (spl s zs M0 ls t).2.take 2⟩ : St).key v ≠ noK := by rw [e]; exact u4
    have := key_one hv hvn
    subst this
    exact hd t u (by omega) u2 (by omega) hx (by rw [u3]; exact e)
   ·show ((spl s zs M0 ls t).2.drop 2).length = _
    rw [List.length_drop, i2]
    omega
theorem inv_split {M : MM} {L l : Int} (h : InvX M (fun _ => False) L) (r : Rc) (hz : r.sids.length = 3) (hl : r.locs.length = 2 * nz r.sids) (hm : ∀ z ∈ r.sids, z ≤ 2147483647) (hr : rise L (r.sids.filter fun x => decide (x ≠ 0)) = some l) (h0 : (M.split r).1 = 0) : InvX (M.split r).2 (fun _ => False) l := by
 obtain ⟨a, b, c, hzs⟩ : ∃ a b c, r.sids = [a, b, c] := by
  match hh : r.sids, hz with
  | [a, b, c], _ => exact ⟨a, b, c, rfl⟩
 cases hs : M.s r.sid with
 | none =>
  unfold MM.split at h0
  rw [hs] at h0
  exact absurd (show (11 : Int) = 0 from h0) (by decide)
 | some s =>
  by_cases hk : s.kind = 3
  ·by_cases hb : ∀ t, t < 3 → badP s [a, b, c] t = false
   ·rw [split_ok hzs hs hk hb]
    have h16 : s.locs.length = 16 := by
     have := (h.s _ _ hs).2.1.locs
     rw [hk] at this
     exact this
    rw [hzs] at hr hl hm
    obtain ⟨r1, r2⟩ := rise_lst hb hr
    obtain ⟨i1, _⟩ := inv_spl (M0 := { M with s := upd M.s r.sid none }) (zs := [a, b, c]) (ls := r.locs) h16 ((inv_rm h hs).less fun k => ⟨fun e => by
     rcases e with e | ⟨t, t1, t2, t3⟩
     ·exact e.elim
     ·exact ⟨t, Nat.zero_le _, t1, t2, t3⟩, fun ⟨t, _, t1, t2, t3⟩ => .inr ⟨t, t1, t2, t3⟩⟩) (fun t u ht hu hne hn => key_part h hs ht hu hne hn) (by rw [hl, nz_liv hb]) r2 (fun t ht => by
     rcases three ht with rfl | rfl | rfl
     ·exact hm a (by simp)
     ·exact hm b (by simp)
     ·exact hm c (by simp)) 3 (by omega)
    rw [r1]
    exact i1.less fun k => ⟨fun ⟨u, u1, u2, _⟩ => by omega, fun e => e.elim⟩
   ·exfalso
    have : ∃ t, t < 3 ∧ badP s [a, b, c] t = true := by
     refine Classical.byContradiction fun e => hb fun t ht => ?_
     cases hc : badP s [a, b, c] t with
     | false => rfl
     | true => exact absurd ⟨t, ht, hc⟩ e
    obtain ⟨t, ht, hbt⟩ := this
    rw [split_bad hzs hs hk ht hbt] at h0
    exact absurd (show (1 : Int) = 0 from h0) (by decide)
  ·exfalso
   unfold MM.split at h0
   rw [hs] at h0
   dsimp only at h0
   rw [if_pos hk] at h0
   exact absurd (show (12 : Int) = 0 from h0) (by decide)
theorem step_inv {M : MM} (h : M.Inv3) (r : Rc) (hc : okR r = true → ∀ l, rise M.last (newS r) = some l → (M.chg r).1 = 0 → InvX (M.chg r).2 (fun _ => False) l) (hc2 : (M.chg r).1 ≠ 0 → (M.chg r).2 = M) : (M.step r).2.Inv3 := by
 unfold MM.step MM.app
 cases hok : okR r with
 | false => rw [if_pos rfl]; exact h
 | true =>
  rw [if_neg (by simp)]
  cases hr : rise M.last (newS r) with
  | none => exact h
  | some l =>
   dsimp only
   by_cases h0 : (M.chg r).1 = 0
   ·rw [if_pos h0]
    exact (hc hok l hr h0).setLast l
   ·rw [if_neg h0, hc2 h0]; exact h
theorem rise_one {L x l : Int} (h : rise L [x] = some l) : L < x ∧ l = x := by
 unfold rise at h
 by_cases e : x ≤ L
 ·rw [if_pos e] at h; cases h
 ·rw [if_neg e] at h
  unfold rise at h
  exact ⟨by omega, by cases h; rfl⟩
theorem inv_36 {M : MM} (h : M.Inv3) (r : Rc) (hk : 3 ≤ r.kind ∧ r.kind ≤ 6) : (M.step r).2.Inv3 := by
 have h3456 : r.kind = 3 ∨ r.kind = 4 ∨ r.kind = 5 ∨ r.kind = 6 := by omega
 rcases h3456 with h3 | h4 | h5 | h6
 ·have ec : M.chg r = M.swap r 1 2 := by unfold MM.chg; rw [if_neg (by omega), if_neg (by omega), if_pos h3]
  have e1 : newS r = [r.sid] := if_pos (by omega)
  refine step_inv h r (fun hok l hr h0 => ?_) (fun h0 => ?_)
  ·obtain ⟨o1, o2, o3, o4⟩ := okf_swap (okR_iff.1 hok) (.inl h3)
   rw [e1] at hr
   obtain ⟨r1, rfl⟩ := rise_one hr
   rw [ec] at h0 ⊢
   rw [if_pos h3] at o2
   exact inv_swap h r 1 2 (by decide) (.inr rfl) o2 o4 r1 o3.2 h0
  ·rw [ec] at h0 ⊢
   unfold MM.swap at h0 ⊢
   cases hb : M.b r.key with
   | none => rfl
   | some x =>
    rw [hb] at h0
    dsimp only at h0 ⊢
    cases hs : M.s x.sid with
    | none => rfl
    | some s =>
     rw [hs] at h0
     dsimp only at h0 ⊢
     by_cases e : s.kind ≠ 1
     ·rw [if_pos e]
     ·rw [if_neg e] at h0; exact absurd rfl h0
 ·have ec : M.chg r = M.swap r 2 1 := by unfold MM.chg; rw [if_neg (by omega), if_neg (by omega), if_neg (by omega), if_pos h4]
  have e1 : newS r = [r.sid] := if_pos (by omega)
  refine step_inv h r (fun hok l hr h0 => ?_) (fun h0 => ?_)
  ·obtain ⟨o1, o2, o3, o4⟩ := okf_swap (okR_iff.1 hok) (.inr h4)
   rw [e1] at hr
   obtain ⟨r1, rfl⟩ := rise_one hr
   rw [ec] at h0 ⊢
   rw [if_neg (by omega)] at o2
   exact inv_swap h r 2 1 (by decide) (.inl rfl) o2 o4 r1 o3.2 h0
  ·rw [ec] at h0 ⊢
   unfold MM.swap at h0 ⊢
   cases hb : M.b r.key with
   | none => rfl
   | some x =>
    rw [hb] at h0
    dsimp only at h0 ⊢
    cases hs : M.s x.sid with
    | none => rfl
    | some s =>
     rw [hs] at h0
     dsimp only at h0 ⊢
     by_cases e : s.kind ≠ 2
     ·rw [if_pos e]
     ·rw [if_neg e] at h0; exact absurd rfl h0
 ·have ec : M.chg r = M.merge r := by unfold MM.chg; rw [if_neg (by omega), if_neg (by omega), if_neg (by omega), if_neg (by omega), if_pos h5]
  have e1 : newS r = [r.sid] := if_pos (by omega)
  refine step_inv h r (fun hok l hr h0 => ?_) (fun h0 => ?_)
  ·obtain ⟨o1, o2, o3, o4⟩ := okf_merge (okR_iff.1 hok) h5
   rw [e1] at hr
   obtain ⟨r1, rfl⟩ := rise_one hr
   rw [ec] at h0 ⊢
   exact inv_merge h r o1 o2 r1 o3.2 h0
  ·rw [ec] at h0 ⊢
   unfold MM.merge at h0 ⊢
   cases hm : M.mchk r.sids 0 r.sids with
   | some e => rfl
   | none => rw [hm] at h0; exact absurd rfl h0
 ·have ec : M.chg r = M.split r := by unfold MM.chg; rw [if_neg (by omega), if_neg (by omega), if_neg (by omega), if_neg (by omega), if_neg (by omega), if_pos h6]
  have e1 : newS r = r.sids.filter (fun x => decide (x ≠ 0)) := by unfold newS; rw [if_neg (by omega), if_pos h6]
  refine step_inv h r (fun hok l hr h0 => ?_) (fun h0 => ?_)
  ·obtain ⟨o1, o2, o3, o4⟩ := okf_split (okR_iff.1 hok) h6
   rw [e1] at hr
   rw [ec] at h0 ⊢
   exact inv_split h r o1 o2 (fun z hz => (o4 z hz).2) hr h0
  ·rw [ec] at h0 ⊢
   unfold MM.split at h0 ⊢
   cases hs : M.s r.sid with
   | none => rfl
   | some s =>
    rw [hs] at h0
    dsimp only at h0 ⊢
    by_cases e : s.kind ≠ 3
    ·rw [if_pos e]
    ·rw [if_neg e] at h0 ⊢
     split
     ·rfl
     ·rename_i hn
      rw [if_neg hn] at h0
      exact absurd rfl h0
end Go.Proofs.YtepggchnhgpcnaaGreatDoor
