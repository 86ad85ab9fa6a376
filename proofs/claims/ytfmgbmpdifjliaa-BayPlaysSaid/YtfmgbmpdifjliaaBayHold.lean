/- One Bay over one Disk, live, with no Fuse, as a law holds it; 'awake'. -/
import Derived.Test.YtfmgbmpdifjliaaBayBoth
namespace Go.Proofs.Ytfmgbmpdifjliaa
open Go.RowKit
set_option linter.unusedVariables false

theorem updR_same (R : Nat → List Nat) (s : Nat) (y : List Nat) : upd R s y s = y := by unfold upd; rw [if_pos rfl]
theorem updR_other (R : Nat → List Nat) {s t : Nat} (y : List Nat) (h : ¬ t = s) : upd R s y t = R t := by unfold upd; rw [if_neg h]
/-- The law's own blocks stay, whatever a Bay or a Disk does. -/
def Sv (P : Nat → Prop) (w w' : World) : Prop := ∀ x, P x → ∀ (A : Array Value) (T : TypeId) (fr : Nat × Nat), w.heap[x]? = some (Obj.cells A T fr) → ¬ DR T → w'.heap[x]? = some (Obj.cells A T fr)
/-- A Bay and its Disk, all new since w0: R its slots, U which are used, m writes pending at most; P: the law's own blocks. -/
structure BH (O : BayOps) (P : Nat → Prop) (w0 w : World) (q b n : Nat) (U : Nat → Bool) (R : Nat → List Nat) (m : Nat) : Prop where
  ex : ∃ F ps, H w0 w b n none none true R ps ∧ O.PB w q b n U F ∧ (∀ g, F g → w0.heap.size ≤ g) ∧ ps.length ≤ m ∧ ∀ x, P x → ¬ F x ∧ x < w.heap.size
  up : Up Nul w0 w
  le : n ≤ 64
section
variable {O : BayOps} {P : Nat → Prop} {w0 w w' : World} {q b n m : Nat} {U : Nat → Bool} {R : Nat → List Nat}
theorem BH.nxt (h : BH O P w0 w q b n U R m) (u : Up Nul w w') : BH O P w0 w' q b n U R m := by
  obtain ⟨F, ps, h1, h2, h3, h4, h5⟩ := h.ex
  refine ⟨⟨F, ps, h1.nxt u, O.keep h2 fun g hg => u.block g ?_ id, h3, h4, fun x hx => ⟨(h5 x hx).1, Nat.lt_of_lt_of_le (h5 x hx).2 u.size⟩⟩, h.up.trans u, h.le⟩
  obtain ⟨A, T, e, _⟩ := O.ty h2 g hg
  exact (Array.getElem?_eq_some_iff.1 e).1
theorem BH.sv (h : BH O P w0 w q b n U R m) (u : Up Nul w w') : Sv P w w' := fun x hx A T fr e _ => by
  obtain ⟨F, ps, h1, h2, h3, h4, h5⟩ := h.ex
  exact (u.block x (h5 x hx).2 id).trans e
/-- One block more is the law's. -/
theorem BH.own {x : Nat} (h : BH O P w0 w q b n U R m) (u : Up Nul w w') (h1 : w.heap.size ≤ x) (h2 : x < w'.heap.size) : BH O (fun y => P y ∨ y = x) w0 w' q b n U R m := by
  obtain ⟨F, ps, k1, k2, k3, k4, k5⟩ := h.ex
  have hlt : ∀ g, F g → g < w.heap.size := fun g hg => by
    obtain ⟨A, T, e, _⟩ := O.ty k2 g hg
    exact (Array.getElem?_eq_some_iff.1 e).1
  refine ⟨⟨F, ps, k1.nxt u, O.keep k2 fun g hg => u.block g (hlt g hg) id, k3, k4, fun y hy => ?_⟩, h.up.trans u, h.le⟩
  rcases hy with hy | rfl
  · exact ⟨(k5 y hy).1, Nat.lt_of_lt_of_le (k5 y hy).2 u.size⟩
  · exact ⟨fun e => by have := hlt y e; omega, h2⟩
/-- The law turns a block of its own. -/
theorem BH.mine (h : BH O P w0 w q b n U R m) {S : Nat → Prop} (u : Up S w w') (hs : ∀ x, S x → P x) (ht : ∀ x, S x → ∃ (A : Array Value) (T : TypeId), w.heap[x]? = some (Obj.cells A T (0, 0)) ∧ ¬ DD T) (hn : ∀ x, S x → w0.heap.size ≤ x) : BH O P w0 w' q b n U R m := by
  obtain ⟨F, ps, h1, h2, h3, h4, h5⟩ := h.ex
  have k : Ks (fun t => ¬ DD t) w w' := ⟨u.size, fun x A T fr e d => by
    by_cases hx : S x
    · obtain ⟨A', T', e', d'⟩ := ht x hx
      rw [e] at e'
      injection e' with e'
      injection e' with _ e' _
      exact absurd (fun k => d' (e' ▸ k)) d
    · exact (u.block x (Array.getElem?_eq_some_iff.1 e).1 hx).trans e⟩
  refine ⟨⟨F, ps, h1.ks k fun t d e => e d, O.keep h2 fun g hg => u.block g ?_ fun e => (h5 g (hs g e)).1 hg, h3, h4, fun x hx => ⟨(h5 x hx).1, Nat.lt_of_lt_of_le (h5 x hx).2 u.size⟩⟩, At.foot h.up u hn, h.le⟩
  obtain ⟨A, T, e, _⟩ := O.ty h2 g hg
  exact (Array.getElem?_eq_some_iff.1 e).1
/-- The program's Bay has changed what is used. -/
theorem BH.did {ps : List (Nat × List Nat)} {F : Nat → Prop} {U' : Nat → Bool} (h1 : H w0 w b n none none true R ps) (h2 : O.PB w q b n U F) (h3 : ∀ g, F g → w0.heap.size ≤ g) (h4 : ps.length ≤ m) (h5 : ∀ x, P x → ¬ F x ∧ x < w.heap.size) (up : Up Nul w0 w) (le : n ≤ 64) (d : Did O.PB w q b n U' F w') : BH O P w0 w' q b n U' R m ∧ Sv P w w' := by
  obtain ⟨F', d1, d2, d3⟩ := d
  have k : Ks (fun t => ¬ DD t) w w' := ⟨d2.size, fun x A T fr e d => by
    by_cases hx : F x
    · obtain ⟨A', T', e', d'⟩ := O.ty h2 x hx
      rw [e] at e'
      injection e' with e'
      injection e' with _ e' _
      exact absurd (fun k => d' (.inl (e' ▸ k))) d
    · exact (d2.block x (Array.getElem?_eq_some_iff.1 e).1 hx).trans e⟩
  refine ⟨⟨⟨F', ps, h1.ks k fun t d e => e d, d1, fun g hg => ?_, h4, fun x hx => ⟨fun e => ?_, Nat.lt_of_lt_of_le (h5 x hx).2 d2.size⟩⟩, At.foot up d2 h3, le⟩, fun x hx A T fr e _ => (d2.block x (h5 x hx).2 (h5 x hx).1).trans e⟩
  · rcases d3 g hg with e | e
    · exact h3 g e
    · exact Nat.le_trans up.size e
  · rcases d3 x e with e | e
    · exact (h5 x hx).1 e
    · have := (h5 x hx).2; omega
/-- The Disk has changed. -/
theorem BH.disk {ps2 : List (Nat × List Nat)} {F : Nat → Prop} {R2 : Nat → List Nat} {m2 : Nat} (h2 : O.PB w q b n U F) (h3 : ∀ g, F g → w0.heap.size ≤ g) (le : n ≤ 64) (h1 : H w0 w' b n none none true R2 ps2) (u : Up Nul w0 w') (k : Ks DD w w') (h4 : ps2.length ≤ m2) (h5 : ∀ x, P x → ¬ F x ∧ x < w.heap.size) : BH O P w0 w' q b n U R2 m2 ∧ Sv P w w' :=
  ⟨⟨⟨F, ps2, h1, O.keep h2 fun g hg => by
    obtain ⟨A, T, e, d⟩ := O.ty h2 g hg
    rw [e]
    exact k.kept _ _ _ _ e fun x => d (.inl x), h3, h4, fun x hx => ⟨(h5 x hx).1, Nat.lt_of_lt_of_le (h5 x hx).2 k.size⟩⟩, u, le⟩, fun x hx A T fr e d => k.kept _ _ _ _ e fun y => d (.inl y)⟩
theorem bh_new (h0 : Up Nul w0 w) (x : Int) (n : Nat) (hx : cnt x = n) : Calls Try.prog 8 #[.int .i64 x, .pointer none] w fun e w1 => ∃ b, e = .returned (.pointer (some ⟨b, 0, none⟩)) ∧ Up Nul w0 w1 ∧
    Calls Try.prog 9 #[.pointer (some ⟨b, 0, none⟩)] w1 fun e w2 => ∃ q, e = .returned (.pointer (some ⟨q, 0, none⟩)) ∧ BH O Nul w0 w2 q b n (fun _ => false) (fun _ => zer 96) 0 := by
  have hn : n ≤ 64 := by rw [← hx]; unfold cnt; omega
  refine (newH_nil h0 x n hx).mono ?_
  rintro e w1 ⟨b, rfl, h1, h2⟩
  refine ⟨b, rfl, h2, (O.new h1 hn).mono ?_⟩
  rintro e w2 ⟨q, F, rfl, p1, p2, p3⟩
  exact ⟨q, rfl, ⟨F, [], h1.nxt p2, p1, fun g hg => Nat.le_trans h2.size (p3 g hg), Nat.le_refl _, fun x hx => hx.elim⟩, h2.trans p2, hn⟩
theorem bh_take {i : Nat} (h : BH O P w0 w q b n U R m) (hi : fst0 U n 0 = some i) : Calls Try.prog 10 #[.pointer (some ⟨q, 0, none⟩)] w fun e w1 => e = .returned (.tuple #[.int .i64 (i : Nat), .bool true]) ∧ BH O P w0 w1 q b n (updB U i true) R m ∧ Sv P w w1 := by
  obtain ⟨F, ps, h1, h2, h3, h4, h5⟩ := h.ex
  refine (O.take h2 h.le).mono ?_
  rintro e w1 (⟨j, hj, rfl, d⟩ | ⟨hj, _⟩)
  · rw [hi] at hj
    obtain rfl : i = j := by injection hj
    exact ⟨rfl, BH.did h1 h2 h3 h4 h5 h.up h.le d⟩
  · rw [hi] at hj; cases hj
theorem bh_takeNone (h : BH O P w0 w q b n U R m) (hi : fst0 U n 0 = none) : Calls Try.prog 10 #[.pointer (some ⟨q, 0, none⟩)] w fun e w1 => e = .returned (.tuple #[.int .i64 0, .bool false]) ∧ BH O P w0 w1 q b n U R m ∧ Sv P w w1 := by
  obtain ⟨F, ps, h1, h2, h3, h4, h5⟩ := h.ex
  refine (O.take h2 h.le).mono ?_
  rintro e w1 (⟨j, hj, _⟩ | ⟨_, rfl, u⟩)
  · rw [hi] at hj; cases hj
  · exact ⟨rfl, h.nxt u, h.sv u⟩
theorem bh_give (h : BH O P w0 w q b n U R m) (x : Int) : Calls Try.prog 12 #[.pointer (some ⟨q, 0, none⟩), .int .i64 x] w fun e w1 =>
    ((0 ≤ x ∧ x < (n : Int) ∧ U x.toNat = true) ∧ e = .returned (.bool true) ∧ BH O P w0 w1 q b n (updB U x.toNat false) R m ∧ Sv P w w1) ∨ (¬ (0 ≤ x ∧ x < (n : Int) ∧ U x.toNat = true) ∧ e = .returned (.bool false) ∧ BH O P w0 w1 q b n U R m ∧ Sv P w w1) := by
  obtain ⟨F, ps, h1, h2, h3, h4, h5⟩ := h.ex
  refine (O.give h2 h.le x).mono ?_
  rintro e w1 (⟨hc, rfl, d⟩ | ⟨hc, rfl, u⟩)
  · exact .inl ⟨hc, rfl, BH.did h1 h2 h3 h4 h5 h.up h.le d⟩
  · exact .inr ⟨hc, rfl, h.nxt u, h.sv u⟩
theorem bh_hold (h : BH O P w0 w q b n U R m) (x : Int) : Calls Try.prog 16 #[.pointer (some ⟨q, 0, none⟩), .int .i64 x] w fun e w1 =>
    ((0 ≤ x ∧ x < (n : Int) ∧ U x.toNat = false) ∧ e = .returned (.bool true) ∧ BH O P w0 w1 q b n (updB U x.toNat true) R m ∧ Sv P w w1) ∨ (¬ (0 ≤ x ∧ x < (n : Int) ∧ U x.toNat = false) ∧ e = .returned (.bool false) ∧ BH O P w0 w1 q b n U R m ∧ Sv P w w1) := by
  obtain ⟨F, ps, h1, h2, h3, h4, h5⟩ := h.ex
  refine (O.hold h2 h.le x).mono ?_
  rintro e w1 (⟨hc, rfl, d⟩ | ⟨hc, rfl, u⟩)
  · exact .inl ⟨hc, rfl, BH.did h1 h2 h3 h4 h5 h.up h.le d⟩
  · exact .inr ⟨hc, rfl, h.nxt u, h.sv u⟩
theorem bh_free (h : BH O P w0 w q b n U R m) : Calls Try.prog 17 #[.pointer (some ⟨q, 0, none⟩)] w fun e w1 => e = .returned (.int .i64 ((n : Int) - ((us U n).length : Nat))) ∧ BH O P w0 w1 q b n U R m ∧ Sv P w w1 := by
  obtain ⟨F, ps, h1, h2, h3, h4, h5⟩ := h.ex
  refine (O.free h2 h.le).mono ?_
  rintro e w1 ⟨rfl, u⟩
  exact ⟨rfl, h.nxt u, h.sv u⟩
theorem bh_used (h : BH O P w0 w q b n U R m) : Calls Try.prog 18 #[.pointer (some ⟨q, 0, none⟩)] w fun e w1 => ∃ a c, e = .returned (.slice a (us U n).length c) ∧ BH O P w0 w1 q b n U R m ∧ Sv P w w1 := by
  obtain ⟨F, ps, h1, h2, h3, h4, h5⟩ := h.ex
  refine (O.used h2 h.le).mono ?_
  rintro e w1 ⟨v, rfl, o, u⟩
  obtain ⟨a, c, rfl⟩ := o.shape
  rw [usV_length]
  exact ⟨a, c, rfl, h.nxt u, h.sv u⟩
/-- A chunk written. -/
theorem bh_write (h : BH O P w0 w q b n U R m) (hm : m < 1000) {i id : Nat} {a : Option Addr} {l c : Nat} {z : List Nat} (hz : SlN w a l z) (hc : l ≤ c) (hi : i < n) (hu : U i = true) (hid1 : id < 4294967296) (hl : l ≤ 64) :
    Calls Try.prog 11 #[.pointer (some ⟨q, 0, none⟩), .int .i64 (i : Nat), .int .i64 (id : Nat), .slice a l c] w fun e w1 => e = .returned (.int .i64 0) ∧ BH O P w0 w1 q b n U (upd R i (FrM.fr id z)) (m + 1) ∧ Sv P w w1 := by
  obtain ⟨F, ps, h1, h2, h3, h4, h5⟩ := h.ex
  refine (O.writeGood h2 h.le i id a l c z (fun code w1 => code = 0 ∧ BH O P w0 w1 q b n U (upd R i (FrM.fr id z)) (m + 1) ∧ Sv P w w1) hz hc hi hu hid1 hl fun w1 a1 c1 u hz1 ha => ?_).mono ?_
  · refine (H.writeS (h1.nxt u) (h.up.trans u) hi (by decide) (by omega) hz1 fun y hy => .inr (ha y hy)).mono ?_
    rintro e w2 ⟨rfl, g1, g2, g3⟩
    have hd := BH.disk (w := w1) (O.keep h2 fun g hg => u.block g (Array.getElem?_eq_some_iff.1 (O.ty h2 g hg).choose_spec.choose_spec.1).1 fun h => h) h3 h.le g1 g2 g3 (by rw [List.length_append]; exact Nat.add_le_add_right h4 1) fun x hx => ⟨(h5 x hx).1, Nat.lt_of_lt_of_le (h5 x hx).2 u.size⟩
    exact ⟨0, rfl, rfl, hd.1, fun x hx A T fr e d => hd.2 x hx A T fr (h.sv u x hx A T fr e d) d⟩
  · rintro e w1 ⟨code, rfl, rfl, hp⟩
    exact ⟨rfl, hp⟩
theorem bh_writeBad (h : BH O P w0 w q b n U R m) (x id : Int) (a : Option Addr) (l c : Nat) (z : List Nat) (hz : SlN w a l z) (hc : l ≤ c) (hid1 : -9223372036854775808 ≤ id ∧ id ≤ 9223372036854775807) (hb : x < 0 ∨ (n : Int) ≤ x ∨ U x.toNat = false ∨ id < 0 ∨ 4294967295 < id ∨ 64 < l) :
    Calls Try.prog 11 #[.pointer (some ⟨q, 0, none⟩), .int .i64 x, .int .i64 id, .slice a l c] w fun e w1 => e = .returned (.int .i64 1) ∧ BH O P w0 w1 q b n U R m ∧ Up Nul w w1 := by
  obtain ⟨F, ps, h1, h2, h3, h4, h5⟩ := h.ex
  refine (O.writeBad h2 h.le x id a l c z hz hc hid1 hb).mono ?_
  rintro e w1 ⟨rfl, u⟩
  exact ⟨rfl, h.nxt u, u⟩
/-- What is read of a slot that is the frame of id and z. -/
theorem bh_read (h : BH O P w0 w q b n U R m) {i id : Nat} {z : List Nat} (hi : i < n) (hid1 : id < 4294967296) (hl : z.length ≤ 64) (hR : R i = FrM.fr id z) :
    Calls Try.prog 25 #[.pointer (some ⟨q, 0, none⟩), .int .i64 (i : Nat), .int .i64 (id : Nat)] w fun e w1 => ∃ a l c, e = .returned (.tuple #[.slice a l c, .int .i64 0]) ∧ SlN w1 a l z ∧ BH O P w0 w1 q b n U R m ∧ Up Nul w w1 := by
  obtain ⟨F, ps, h1, h2, h3, h4, h5⟩ := h.ex
  refine (O.readOk h2 (i : Nat) (id : Nat) (R i) (readH h1 hi)).mono ?_
  rintro e w1 ⟨⟨a, l, c, _, _, rfl, g⟩ | ⟨a, c, hn, _⟩, u⟩
  · rw [hR, FrM.fr_dat] at g
    exact ⟨a, l, c, rfl, g, h.nxt u, u⟩
  · rw [hR, FrM.tk_fr hid1 hl, FrM.fr_id hid1] at hn
    rcases hn with hn | hn
    · cases hn
    · exact absurd rfl hn
theorem bh_readNone (h : BH O P w0 w q b n U R m) {i : Nat} (id : Int) (hi : i < n) (hR : FrM.tk (R i) = none ∨ ¬ (FrM.idOf (R i) : Int) = id) :
    Calls Try.prog 25 #[.pointer (some ⟨q, 0, none⟩), .int .i64 (i : Nat), .int .i64 id] w fun e w1 => ∃ a c, e = .returned (.tuple #[.slice a 0 c, .int .i64 6]) ∧ BH O P w0 w1 q b n U R m ∧ Up Nul w w1 := by
  obtain ⟨F, ps, h1, h2, h3, h4, h5⟩ := h.ex
  refine (O.readOk h2 (i : Nat) id (R i) (readH h1 hi)).mono ?_
  rintro e w1 ⟨⟨a, l, c, hk, he, _⟩ | ⟨a, c, _, rfl⟩, u⟩
  · rcases hR with hn | hn
    · rw [hk] at hn; cases hn
    · exact absurd he hn
  · exact ⟨a, c, rfl, h.nxt u, u⟩
theorem bh_rot (h : BH O P w0 w q b n U R m) {s t c : Nat} (hs : s < n) (ht : t < 96) (hc : c < 256) :
    Calls Try.prog 13 #[.pointer (some ⟨b, 0, none⟩), .int .i64 s, .int .i64 t, .int .u8 c] w fun e w1 => e = .returned (.bool true) ∧ BH O P w0 w1 q b n U (upd R s (turn (R s) t c)) m ∧ Sv P w w1 := by
  obtain ⟨F, ps, h1, h2, h3, h4, h5⟩ := h.ex
  refine (rotH h1 h.up hs ht hc).mono ?_
  rintro e w1 ⟨rfl, g1, g2, g3⟩
  exact ⟨rfl, BH.disk h2 h3 h.le g1 g2 g3 h4 h5⟩
theorem bh_scan (h : BH O P w0 w q b n U R m) (h8 : ∀ s, s < n → ∀ v ∈ R s, v < 256) :
    Calls Try.prog 14 #[.pointer (some ⟨q, 0, none⟩)] w fun e w1 => ∃ v, e = .returned v ∧ OwnK w.heap.size w1 v (scn R n) ∧ BH O P w0 w1 q b n U R m ∧ Up Nul w w1 := by
  obtain ⟨F, ps, h1, h2, h3, h4, h5⟩ := h.ex
  refine (O.scan h2 h1 h.le h8).mono ?_
  rintro e w1 ⟨v, rfl, o, u⟩
  exact ⟨v, rfl, o, h.nxt u, u⟩
end
set_option maxRecDepth 100000 in
set_option maxHeartbeats 1600000 in
theorem bawake_any (O : BayOps) (w : World) : Calls Try.prog 15 #[] w fun e w' => e = .returned (.bool true) ∧ Up Nul w w' := by
  go_enter Try.func15, Try.ntmps15
  go_wp2_with fail
  refine (bh_new (O := O) (Up.refl Nul w) 3 3 rfl).mono ?_
  rintro e w1 ⟨b, rfl, u1, hn⟩
  have HN := hid hn
  clear hn u1
  go_wp2_with fail
  refine HN.out.mono ?_
  rintro e w2 ⟨q, rfl, h2⟩
  have H2 := hid h2
  clear h2 HN
  go_wp2_with fail
  refine (bh_take (i := 0) H2.out rfl).mono ?_
  rintro e w3 ⟨rfl, h3, _⟩
  have H3 := hid h3
  clear h3 H2
  go_wp2_with fail
  have UA := hid ((Up.refl Nul w3).alloc (.cells #[.int .u8 1] 5))
  have HS : Hid (SlN (w3.alloc (.cells #[.int .u8 1] 5)) (some ⟨w3.heap.size, 0, none⟩) 1 [1]) := slm_mark w3 [1] _ (by decide) (by decide) _ rfl
  refine (bh_write (i := 0) (id := 7) (H3.out.nxt UA.out) (by omega) HS.out (by omega) (by omega) rfl (by omega) (by omega)).mono ?_
  rintro e w4 ⟨rfl, h4, _⟩
  have H4 := hid h4
  clear h4 H3 UA HS
  go_wp2_with fail
  refine (bh_read (i := 0) (id := 7) (z := [1]) H4.out (by omega) (by omega) (by decide) (updR_same _ _ _)).mono ?_
  rintro e w5 ⟨a5, l5, c5, rfl, g5, h5, u5⟩
  have H5 := hid h5
  have G5 := hid g5
  clear g5 h5 u5 H4
  go_wp2_with fail
  refine (bh_readNone (i := 0) H5.out 8 (by omega) (.inr (by rw [updR_same, FrM.fr_id (by omega)]; omega))).mono ?_
  rintro e w6 ⟨a6, c6, rfl, h6, u6⟩
  have H6 := hid h6
  have G6 := hid (G5.out.nxt u6)
  have hcv : (convert 32 9 (.slice a5 l5 c5)).run Try.prog w6 = .ok (.string ⟨#[1]⟩) w6 := G6.out.conv c5
  have hqq : ((⟨#[1]⟩ : ByteArray).toList == (⟨#[1]⟩ : ByteArray).toList) = true := by simp
  clear h6 u6 H5 G5
  go_wp2_with fail
  refine (bh_free H6.out).mono ?_
  rintro e w7 ⟨rfl, h7, _⟩
  have H7 : Hid (Up Nul w w7) := h7.up
  have hfr : ((3 : Nat) : Int) - ((us (updB (fun _ => false) 0 true) 3).length : Nat) = 2 := by decide
  clear h7 H6
  go_wp2
  go_ret
  exact ⟨rfl, H7.out⟩
end Go.Proofs.Ytfmgbmpdifjliaa
