/- A law that plays records to both Metas. -/
import Derived.Test.YtepggchnhgpcnaaGreatDoorPkTidy
import Derived.Test.YtepggchnhgpcnaaGreatDoorPz34
import Derived.Test.YtepggchnhgpcnaaGreatDoorPz32
namespace Go.Proofs.YtepggchnhgpcnaaGreatDoor
open Go.RowKit Go.Maps Go.Sort
set_option linter.unusedVariables false

def CamR (w : World) (a : Option Addr) (n cap : Nat) : Prop :=
 (a = none ∧ n = 0 ∧ cap = 0) ∨ ∃ x, a = some x ∧ ∃ (A : Nat → Option Addr) (L C : Nat → Nat) (Z : Nat → List Int), n ≤ cap ∧ cap ≤ maxLen ∧ ∀ r, r < cap → w.cell? (x.add r) = some (.slice (A r) (L r) (C r)) ∧ CameI w (A r) (L r) (C r) (Z r)
theorem CamR.at_ {w : World} {a : Option Addr} {n cap i : Nat} (h : CamR w a n cap) (hi : i < n) : ∃ g o ea el ec z, a = some ⟨g, o, none⟩ ∧ w.cell? ⟨g, o + i, none⟩ = some (.slice ea el ec) ∧ CameI w ea el ec z := by
 rcases h with ⟨_, h, _⟩ | ⟨x, rfl, A, L, C, Z, hl, hm, hr⟩
 ·omega
 ·obtain ⟨h1, h2⟩ := hr i (by omega)
  obtain ⟨g, o, spot⟩ := x
  have hs : spot = none := by simpa [Addr.add] using World.cell?_spot (hr 0 (by omega)).1
  subst hs
  rw [add_off] at h1
  exact ⟨g, o, _, _, _, _, rfl, h1, h2⟩
section
variable {w0 W W' : World} {F1 F2 : Nat → Prop} {p bm bs q n : Nat} {M : MM}
theorem BB.fit (hf : FitC) (h : BB w0 W F1 F2 p bm bs q n M) (hn : n ≤ 10000) (a : Option Addr) (len cap : Nat) (z0 : List Int) (hc : CameI W a len cap z0) :
  Calls Tryz.prog 8 #[.pointer (some ⟨q, 0, none⟩), .slice a len cap] W fun e w' => ∃ (r : Rc) (sa : Option Addr) (sc : Nat) (la : Option Addr) (lc : Nat), e = .returned (rv r (.slice sa r.sids.length sc) (.slice la r.locs.length lc)) ∧ Rx W w' r sa sc la lc := by
 obtain ⟨Q, ks, is, kv, bv, iv, sv, hr⟩ := h.r
 refine (hf hr (fun k hk => (h.l2 k hk).2) hn h.i a len cap z0 hc).mono ?_
 rintro e w' ⟨r, sa, sc, la, lc, rfl, h1, h2, h3, h4, h5⟩
 exact ⟨r, sa, sc, la, lc, rfl, h1, h2, h3, h4, h5⟩
structure BR (w0 W W1 : World) (F1 F2 : Nat → Prop) (p bm bs q n : Nat) (M : MM) (r : Rc) (sa : Option Addr) (sc : Nat) (la : Option Addr) (lc pb : Nat) : Prop where
 bb : BB w0 W F1 F2 p bm bs q n M
 rx : Rx W W1 r sa sc la lc
 rb : RB W1 pb r (.slice sa r.sids.length sc) (.slice la r.locs.length lc)
 pb : W.heap.size ≤ pb
structure BA (w0 W W1 W2 : World) (F1 F2 : Nat → Prop) (p bm bs q n : Nat) (M : MM) (r : Rc) (sa : Option Addr) (sc : Nat) (la : Option Addr) (lc pb : Nat) : Prop where
 br : BR w0 W W1 F1 F2 p bm bs q n M r sa sc la lc pb
 m : ∃ Q, MT (Gr F1 W1 W2) W2 p bm bs (n + 12) Q (M.step r).2
 rm : RMx F2 W2 q n M
 u : Up F1 W1 W2
 ro : RO W.heap.size W2 r sa la lc
 rb : RB W2 pb r (.slice sa r.sids.length sc) (.slice la r.locs.length lc)
theorem BR.of (h : BB w0 W F1 F2 p bm bs q n M) {W1 : World} {r : Rc} {sa la : Option Addr} {sc lc : Nat} (hx : Rx W W1 r sa sc la lc) :
  BR w0 W (W1.alloc (.cells (rcellsL r (.slice sa r.sids.length sc) (.slice la r.locs.length lc)) 28)) F1 F2 p bm bs q n M r sa sc la lc W1.heap.size :=
 ⟨h, hx.nxt ((Up.refl _ _).alloc _), RB.new _ _ _ _, hx.up.size⟩
theorem BR.mapply {W1 : World} {r : Rc} {sa la : Option Addr} {sc lc pb : Nat} (h : BR w0 W W1 F1 F2 p bm bs q n M r sa sc la lc pb) (hS : Shp w0) (hn : n ≤ 50000) :
  Calls Tryz.prog 9 #[.pointer (some ⟨p, 0, none⟩), rv r (.slice sa r.sids.length sc) (.slice la r.locs.length lc)] W1 fun e w' => e = .returned (.int .i64 (M.step r).1) ∧ BA w0 W W1 w' F1 F2 p bm bs q n M r sa sc la lc pb := by
 refine (h.bb.mapply hS h.rx hn).mono ?_
 rintro e w' ⟨rfl, hm, hr, u, ho⟩
 exact ⟨rfl, h, hm, hr, u, ho, u.keep h.rb fun e => by have := (h.bb.l1 pb e).2; have := h.pb; omega⟩
theorem BA.rapply {W1 W2 : World} {r : Rc} {sa la : Option Addr} {sc lc pb : Nat} (h : BA w0 W W1 W2 F1 F2 p bm bs q n M r sa sc la lc pb) (hn : n ≤ 50000) :
  Calls Tryz.prog 10 #[.pointer (some ⟨q, 0, none⟩), rv r (.slice sa r.sids.length sc) (.slice la r.locs.length lc)] W2 fun e w' => ∃ x F1' F2', e = .returned (.int .i64 x) ∧ BB w0 w' F1' F2' p bm bs q (n + 12) (M.step r).2 := by
 refine (h.br.bb.both h.br.rx h.m h.rm h.u h.ro hn).mono ?_
 rintro e w' ⟨x, F1', F2', rfl, hb, _⟩
 exact ⟨x, F1', F2', rfl, hb⟩
theorem BB.first {w1 w2 : World} (h1 : MT (Fresh w0 w1) w1 p bm bs 0 (fun _ => undef) MM.new) (u1 : Up Nul w0 w1) (hq1 : w1.heap.size ≤ q) (hq2 : q < w2.heap.size) (hr : RMx (fun k => k = q) w2 q 0 MM.new) (u2 : Up Nul w1 w2) : BB w0 w2 (Fresh w0 w1) (fun k => k = q) p bm bs q 0 MM.new :=
 ⟨⟨_, h1.nxt u2⟩, hr, inv_new, fun k hk => ⟨hk.1, Nat.lt_of_lt_of_le hk.2 u2.size⟩, fun k hk => by have hk : k = q := hk; have := u1.size; omega, fun k hk hk' => by have hk' : k = q := hk'; have := hk.2; omega, u1.trans u2⟩
end
end Go.Proofs.YtepggchnhgpcnaaGreatDoor
