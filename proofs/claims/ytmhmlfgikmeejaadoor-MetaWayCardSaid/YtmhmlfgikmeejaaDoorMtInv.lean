/- Each blob has one layout, each layout its blobs: kept by what changes a Meta. -/
import Derived.Test.YtmhmlfgikmeejaaDoorMtLayF
namespace Go.Proofs.YtmhmlfgikmeejaaDoor
open Go.RowKit Go.Maps
set_option linter.unusedVariables false

def locsOfKind (k : Int) : Nat := if k = 1 then 3 else if k = 2 then 6 else 16
structure StOk (s : St) : Prop where
  kind : s.kind = 1 ∨ s.kind = 2 ∨ s.kind = 3
  locs : s.locs.length = locsOfKind s.kind
  co : 0 ≤ s.colour ∧ s.colour ≤ 2
  one : s.kind ≠ 3 → s.k1 = noK ∧ s.k2 = noK
  live : ∃ t, t < 3 ∧ s.key t ≠ noK
/-- .. but for the keys in E, whose blobs have none for now. -/
structure InvX (M : MM) (E : ByteArray → Prop) (L : Int) : Prop where
  b : ∀ k x, M.b k = some x → (k ≠ noK ∧ k.size ≤ 16) ∧ (¬ E k → ∃ t : Nat, t < 3 ∧ x.part = (t : Int) ∧ ∃ s, M.s x.sid = some s ∧ s.key t = k)
  s : ∀ i s, M.s i = some s → (1 ≤ i ∧ i ≤ L) ∧ StOk s ∧ ∀ t, t < 3 → s.key t ≠ noK → ¬ E (s.key t) ∧ ∃ x, M.b (s.key t) = some x ∧ x.sid = i ∧ x.part = (t : Int)
  e : ∀ k, E k → ∃ x, M.b k = some x
  l : 0 ≤ L ∧ L ≤ 2147483647
def MM.Inv3 (M : MM) : Prop := InvX M (fun _ => False) M.last
theorem inv_new : MM.new.Inv3 := ⟨fun k x h => (by cases h), fun i s h => (by cases h), fun k h => h.elim, by show (0 : Int) ≤ 0 ∧ (0 : Int) ≤ 2147483647; omega⟩
theorem off_key (s : St) {t u : Nat} (ht : t < 3) (hu : u < 3) : (s.off (t : Int)).key u = if u = t then noK else s.key u := by
  have h1 : t = 0 ∨ t = 1 ∨ t = 2 := by omega
  have h2 : u = 0 ∨ u = 1 ∨ u = 2 := by omega
  rcases h1 with rfl | rfl | rfl <;> rcases h2 with rfl | rfl | rfl <;> rfl
theorem dead_iff (s : St) : s.dead = true ↔ ∀ t, t < 3 → s.key t = noK := by
  unfold St.dead
  rw [decide_eq_true_eq]
  constructor
  · rintro ⟨h0, h1, h2⟩ t ht
    have : t = 0 ∨ t = 1 ∨ t = 2 := by omega
    rcases this with rfl | rfl | rfl
    · exact h0
    · exact h1
    · exact h2
  · intro h
    exact ⟨h 0 (by omega), h 1 (by omega), h 2 (by omega)⟩
theorem inv_drop {M : MM} {L : Int} (h : InvX M (fun _ => False) L) (k : ByteArray) : InvX (M.drop k).2 (fun _ => False) L ∧ (M.drop k).2.b k = none := by
  unfold MM.drop
  cases hb : M.b k with
  | none => exact ⟨h, hb⟩
  | some x =>
    obtain ⟨⟨hk0, hk1⟩, hk2⟩ := h.b k x hb
    obtain ⟨t, ht, hp, s, hs, hkey⟩ := hk2 id
    dsimp only
    rw [hs]
    dsimp only
    refine ⟨⟨?_, ?_, fun _ e => e.elim, h.l⟩, upd_same _ _ _⟩
    · intro k' x' hb'
      have hb' : upd M.b k none k' = some x' := hb'
      by_cases e : k' = k
      · subst e; rw [upd_same] at hb'; cases hb'
      · rw [upd_ne _ _ e] at hb'
        obtain ⟨a1, a2⟩ := h.b k' x' hb'
        refine ⟨a1, fun _ => ?_⟩
        obtain ⟨t', ht', hp', s', hs', hkey'⟩ := a2 id
        by_cases ei : x'.sid = x.sid
        · rw [ei, hs] at hs'
          cases hs'
          have hne : t' ≠ t := fun e' => e (by rw [← hkey', e', hkey])
          have hnd : (s.off x.part).key t' = k' := by rw [hp, off_key s ht ht', if_neg hne, hkey']
          have hl : (s.off x.part).dead = false := by
            rw [Bool.eq_false_iff]
            intro hd
            exact a1.1 (by rw [← hnd]; exact (dead_iff _).1 hd t' ht')
          refine ⟨t', ht', hp', s.off x.part, ?_, hnd⟩
          show upd M.s x.sid _ x'.sid = _
          rw [ei, upd_same, hl]; rfl
        · exact ⟨t', ht', hp', s', by show upd M.s x.sid _ x'.sid = _; rw [upd_ne _ _ ei]; exact hs', hkey'⟩
    · intro i s' hs'
      by_cases ei : i = x.sid
      · subst ei
        have hs' : upd M.s x.sid (if (s.off x.part).dead = true then none else some (s.off x.part)) x.sid = some s' := hs'
        rw [upd_same] at hs'
        cases hd : (s.off x.part).dead with
        | true => rw [hd] at hs'; cases hs'
        | false =>
          rw [hd] at hs'
          have e' : s.off x.part = s' := by simpa using hs'
          subst e'
          obtain ⟨b1, b2, b3⟩ := h.s _ _ hs
          have hfl : ∃ u, u < 3 ∧ (s.off x.part).key u ≠ noK := by
            rcases Classical.em (∃ u, u < 3 ∧ (s.off x.part).key u ≠ noK) with e | e
            · exact e
            · exfalso
              have : (s.off x.part).dead = true := (dead_iff _).2 fun u hu => by
                rcases Classical.em ((s.off x.part).key u = noK) with e1 | e1
                · exact e1
                · exact absurd ⟨u, hu, e1⟩ e
              rw [hd] at this; cases this
          have hkind : (s.off x.part).kind = s.kind ∧ (s.off x.part).locs = s.locs ∧ (s.off x.part).colour = s.colour := by
            unfold St.off
            split
            · exact ⟨rfl, rfl, rfl⟩
            · split <;> exact ⟨rfl, rfl, rfl⟩
          refine ⟨b1, ⟨by rw [hkind.1]; exact b2.kind, by rw [hkind.1, hkind.2.1]; exact b2.locs, by rw [hkind.2.2]; exact b2.co, fun hn => ?_, hfl⟩, ?_⟩
          · rw [hkind.1] at hn
            obtain ⟨o1, o2⟩ := b2.one hn
            have h1 : (s.off x.part).key 1 = noK := by rw [hp, off_key s ht (by omega)]; split; rfl; exact o1
            have h2 : (s.off x.part).key 2 = noK := by rw [hp, off_key s ht (by omega)]; split; rfl; exact o2
            exact ⟨h1, h2⟩
          · intro u hu hku
            have hut : u ≠ t := fun e' => hku (by rw [hp, off_key s ht hu, if_pos e'])
            have e1 : (s.off x.part).key u = s.key u := by rw [hp, off_key s ht hu, if_neg hut]
            rw [e1] at hku ⊢
            obtain ⟨_, y, y1, y2, y3⟩ := b3 u hu hku
            refine ⟨id, y, ?_, y2, y3⟩
            have hne : s.key u ≠ k := fun e' => by
              rw [e', hb] at y1
              cases y1
              rw [hp] at y3
              omega
            show upd M.b k none (s.key u) = some y
            rw [upd_ne _ _ hne]; exact y1
      · have hs' : upd M.s x.sid (if (s.off x.part).dead = true then none else some (s.off x.part)) i = some s' := hs'
        rw [upd_ne _ _ ei] at hs'
        obtain ⟨b1, b2, b3⟩ := h.s _ _ hs'
        refine ⟨b1, b2, fun u hu hku => ?_⟩
        obtain ⟨_, y, y1, y2, y3⟩ := b3 u hu hku
        refine ⟨id, y, ?_, y2, y3⟩
        have hne : s'.key u ≠ k := fun e' => by
          rw [e', hb] at y1
          cases y1
          exact ei y2.symm
        show upd M.b k none (s'.key u) = some y
        rw [upd_ne _ _ hne]; exact y1
/-- A new blob that has no layout yet. -/
theorem inv_putB {M : MM} {L : Int} (h : InvX M (fun _ => False) L) {k : ByteArray} (hk : M.b k = none) (h1 : k ≠ noK ∧ k.size ≤ 16) (y : Bl) : InvX { M with b := upd M.b k (some y) } (fun k' => k' = k) L where
  b k' x hb := by
    by_cases e : k' = k
    · subst e; exact ⟨h1, fun hn => absurd rfl hn⟩
    · have hb : upd M.b k (some y) k' = some x := hb
      rw [upd_ne _ _ e] at hb
      obtain ⟨a1, a2⟩ := h.b k' x hb
      exact ⟨a1, fun _ => a2 id⟩
  s i s hs := by
    obtain ⟨b1, b2, b3⟩ := h.s i s hs
    refine ⟨b1, b2, fun t ht hkt => ?_⟩
    obtain ⟨_, x, x1, x2, x3⟩ := b3 t ht hkt
    have hne : s.key t ≠ k := fun e => by rw [e, hk] at x1; cases x1
    exact ⟨hne, x, by show upd M.b k (some y) (s.key t) = some x; rw [upd_ne _ _ hne]; exact x1, x2, x3⟩
  e k' e := ⟨y, by subst e; exact upd_same _ _ _⟩
  l := h.l
theorem layT_b (b : ByteArray → Option Bl) (s : St) (sid : Int) : ∀ (n : Nat) (hn : n ≤ 3) (k : ByteArray),
    ((∀ t, t < n → s.key t ≠ k) → layT b s sid n k = b k) ∧ (∀ x, b k = some x → ∃ y, layT b s sid n k = some y ∧ y.n = x.n) ∧ (b k = none → layT b s sid n k = none) ∧
    (∀ t, t < n → s.key t = k → (∀ u, u < n → u ≠ t → s.key u ≠ k) → ∀ x, b k = some x → layT b s sid n k = some ⟨x.n, sid, (t : Int)⟩)
  | 0, _, k => ⟨fun _ => rfl, fun x hx => ⟨x, hx, rfl⟩, fun h => h, fun t ht => absurd ht (by omega)⟩
  | n + 1, hn, k => by
    obtain ⟨i1, i2, i3, i4⟩ := layT_b b s sid n (by omega) k
    have hst : layT b s sid (n + 1) = lay1 (layT b s sid n) (s.key n) sid (n : Nat) := rfl
    rw [hst]
    unfold lay1
    cases hb : layT b s sid n (s.key n) with
    | none =>
      refine ⟨fun h => i1 fun t ht => h t (by omega), i2, i3, fun t ht e hu x hx => ?_⟩
      by_cases et : t = n
      · subst et
        rw [e] at hb
        obtain ⟨y, hy, _⟩ := i2 x hx
        rw [hb] at hy; cases hy
      · exact i4 t (by omega) e (fun u hu' => hu u (by omega)) x hx
    | some z =>
      dsimp only
      by_cases e : k = s.key n
      · subst e
        refine ⟨fun h => absurd rfl (h n (by omega)), fun x hx => ?_, fun h => ?_, fun t ht e hu x hx => ?_⟩
        · rw [upd_same]
          obtain ⟨y, hy, hyn⟩ := i2 x hx
          rw [hb] at hy; cases hy
          exact ⟨_, rfl, hyn⟩
        · rw [i3 h] at hb; cases hb
        · rw [upd_same]
          have et : t = n := by
            rcases Nat.lt_or_ge t n with h | h
            · exact absurd rfl (hu n (by omega) (by omega))
            · omega
          subst et
          obtain ⟨y, hy, hyn⟩ := i2 x hx
          rw [hb] at hy; cases hy
          rw [hyn]
      · rw [upd_ne _ _ e]
        refine ⟨fun h => i1 fun t ht => h t (by omega), i2, i3, fun t ht e' hu x hx => ?_⟩
        have et : t ≠ n := fun e'' => e (by rw [← e', e''])
        exact i4 t (by omega) e' (fun u hu' => hu u (by omega)) x hx
/-- 'lay': a new Stripe over keys that have none. -/
theorem inv_lay {M : MM} {E : ByteArray → Prop} {L sid : Int} (h : InvX M E L) (s : St) (hs : StOk s) (hE : ∀ t, t < 3 → s.key t ≠ noK → E (s.key t)) (hd : ∀ t u, t < 3 → u < 3 → t ≠ u → s.key t ≠ noK → s.key t ≠ s.key u) (hi : L < sid) (hi2 : sid ≤ 2147483647) :
    InvX (M.lay sid s) (fun k => E k ∧ ∀ t, t < 3 → s.key t ≠ k) sid := by
  have hl := h.l
  have hbl : (M.lay sid s).b = layT M.b s sid 3 := rfl
  have hsl : (M.lay sid s).s = upd M.s sid (some s) := rfl
  have hno : M.s sid = none := by
    cases e : M.s sid with
    | none => rfl
    | some s' => have := (h.s _ _ e).1.2; omega
  have hat : ∀ t, t < 3 → s.key t ≠ noK → ∃ x, (M.lay sid s).b (s.key t) = some x ∧ x.sid = sid ∧ x.part = (t : Int) := fun t ht hk => by
    obtain ⟨x, hx⟩ := h.e _ (hE t ht hk)
    have := (layT_b M.b s sid 3 (by omega) (s.key t)).2.2.2 t ht rfl (fun u hu hne => fun e => hd t u ht hu (fun e => hne e.symm) hk e.symm) x hx
    exact ⟨_, by rw [hbl]; exact this, rfl, rfl⟩
  constructor
  · intro k x hb
    have hk : ∃ x0, M.b k = some x0 := by
      cases e : M.b k with
      | some x0 => exact ⟨x0, rfl⟩
      | none =>
        have := (layT_b M.b s sid 3 (by omega) k).2.2.1 e
        rw [hbl, this] at hb; cases hb
    obtain ⟨x0, hx0⟩ := hk
    obtain ⟨a1, a2⟩ := h.b k x0 hx0
    refine ⟨a1, fun hnE => ?_⟩
    by_cases hin : ∃ t, t < 3 ∧ s.key t = k
    · obtain ⟨t, ht, hkt⟩ := hin
      have hne : s.key t ≠ noK := by rw [hkt]; exact a1.1
      obtain ⟨y, y1, y2, y3⟩ := hat t ht hne
      rw [hkt, hb] at y1
      cases y1
      exact ⟨t, ht, y3, s, by rw [hsl, y2, upd_same], hkt⟩
    · have hno' : ∀ t, t < 3 → s.key t ≠ k := fun t ht e => hin ⟨t, ht, e⟩
      have hsame := (layT_b M.b s sid 3 (by omega) k).1 hno'
      rw [hbl, hsame, hx0] at hb
      cases hb
      obtain ⟨t, ht, hp, s', hs', hk'⟩ := a2 fun e => hnE ⟨e, hno'⟩
      refine ⟨t, ht, hp, s', ?_, hk'⟩
      rw [hsl, upd_ne _ _ (fun e => by rw [e, hno] at hs'; cases hs')]
      exact hs'
  · intro i s' hs'
    rw [hsl] at hs'
    by_cases e : i = sid
    · subst e
      rw [upd_same] at hs'
      cases hs'
      exact ⟨⟨by omega, Int.le_refl _⟩, hs, fun t ht hk => ⟨fun hh => hh.2 t ht rfl, hat t ht hk⟩⟩
    · rw [upd_ne _ _ e] at hs'
      obtain ⟨b1, b2, b3⟩ := h.s i s' hs'
      refine ⟨⟨b1.1, by omega⟩, b2, fun t ht hk => ?_⟩
      obtain ⟨hn, x, x1, x2, x3⟩ := b3 t ht hk
      refine ⟨fun hh => hn hh.1, x, ?_, x2, x3⟩
      have hne : ∀ u, u < 3 → s.key u ≠ s'.key t := fun u hu e' => by
        have h1 : s.key u ≠ noK := by rw [e']; exact hk
        exact hn (by rw [← e']; exact hE u hu h1)
      rw [hbl, (layT_b M.b s sid 3 (by omega) (s'.key t)).1 hne]
      exact x1
  · rintro k ⟨hk, hn⟩
    obtain ⟨x, hx⟩ := h.e k hk
    exact ⟨x, by rw [hbl, (layT_b M.b s sid 3 (by omega) k).1 hn]; exact hx⟩
  · omega
theorem InvX.less {M : MM} {E E' : ByteArray → Prop} {L : Int} (h : InvX M E L) (he : ∀ k, E k ↔ E' k) : InvX M E' L :=
  ⟨fun k x hb => ⟨(h.b k x hb).1, fun hn => (h.b k x hb).2 fun e => hn ((he k).1 e)⟩, fun i s hs => ⟨(h.s i s hs).1, (h.s i s hs).2.1, fun t ht hk => ⟨fun e => ((h.s i s hs).2.2 t ht hk).1 ((he _).2 e), ((h.s i s hs).2.2 t ht hk).2⟩⟩, fun k e => h.e k ((he k).2 e), h.l⟩
theorem inv_put {M : MM} {L : Int} (h : InvX M (fun _ => False) L) (r : Rc) (hk : r.key ≠ noK ∧ r.key.size ≤ 16) (hl : r.locs.length = 3) (hi : L < r.sid) (hi2 : r.sid ≤ 2147483647) : InvX (M.put r).2 (fun _ => False) r.sid := by
  obtain ⟨h1, h2⟩ := inv_drop h r.key
  have h3 := inv_putB h1 h2 hk ⟨r.n, 0, 0⟩
  have h4 := inv_lay h3 ⟨1, 0, r.key, noK, noK, r.locs⟩ ⟨.inl rfl, hl, by show (0 : Int) ≤ 0 ∧ (0 : Int) ≤ 2; omega, fun _ => ⟨rfl, rfl⟩, ⟨0, by omega, hk.1⟩⟩ (fun t ht hn => by
    have : t = 0 ∨ t = 1 ∨ t = 2 := by omega
    rcases this with rfl | rfl | rfl
    · rfl
    · exact absurd rfl hn
    · exact absurd rfl hn) (fun t u ht hu hne hn => by
    have : t = 0 ∨ t = 1 ∨ t = 2 := by omega
    rcases this with rfl | rfl | rfl
    · have : u = 1 ∨ u = 2 := by omega
      rcases this with rfl | rfl
      · exact hn
      · exact hn
    · exact absurd rfl hn
    · exact absurd rfl hn) hi hi2
  exact h4.less fun k => ⟨fun e => e.2 0 (by omega) e.1.symm, fun e => e.elim⟩
end Go.Proofs.YtmhmlfgikmeejaaDoor
