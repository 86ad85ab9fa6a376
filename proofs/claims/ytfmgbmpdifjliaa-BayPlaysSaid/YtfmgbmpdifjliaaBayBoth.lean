/- Each call of a script, done by both Bays. -/
import Derived.Test.YtfmgbmpdifjliaaBayFace
namespace Go.Proofs.Ytfmgbmpdifjliaa
open Go.RowKit
set_option linter.unusedVariables false

/-- What stays: blocks that were there, of no Bay. -/
def Stay (F : Nat → Prop) (ub : Nat) (w w' : World) : Prop := ∀ x, x < w.heap.size → ¬ F x → ¬ x = ub → (∀ (A : Array Value) (T : TypeId) (fr : Nat × Nat), w.heap[x]? = some (Obj.cells A T fr) → ¬ DR T → w'.heap[x]? = some (Obj.cells A T fr))
theorem Stay.nul {F : Nat → Prop} {ub : Nat} {w w' : World} (u : Up Nul w w') : Stay F ub w w' := fun x hx _ _ A T fr e _ => (u.block x hx id).trans e
theorem Stay.ks {F : Nat → Prop} {ub : Nat} {w w' : World} (k : Ks DR w w') : Stay F ub w w' := fun x _ _ _ A T fr e d => k.kept x A T fr e d
theorem Stay.up {F : Nat → Prop} {ub : Nat} {w w' : World} (u : Up F w w') : Stay F ub w w' := fun x hx h1 _ A T fr e _ => (u.block x hx h1).trans e
theorem Stay.two {F : Nat → Prop} {ub : Nat} {w w1 w' : World} (u : Up F w w1) (u2 : Up (One ub) w1 w') : Stay F ub w w' := fun x hx h1 h2 A T fr e _ => ((u2.block x (Nat.lt_of_lt_of_le hx u.size) h2).trans (u.block x hx h1)).trans e
section
variable {O : BayOps} {w0 w w' : World} {q bb b mm ub n i : Nat} {U : Nat → Bool} {F : Nat → Prop}

/-! ### 'Take', 'Hold', 'Give' -/
theorem bx_take (h : BX O w0 w q bb b mm ub n U F i) : ∃ (x : Int) (ok : Bool), Calls Try.prog 10 #[.pointer (some ⟨q, 0, none⟩)] w fun e w1 => e = .returned (.tuple #[.int .i64 x, .bool ok]) ∧
    Calls Try.prog 22 #[.pointer (some ⟨bb, 0, none⟩)] w1 fun e w2 => e = .returned (.tuple #[.int .i64 x, .bool ok]) ∧ ∃ U' F', BX O w0 w2 q bb b mm ub n U' F' i := by
  cases e : fst0 U n 0 with
  | none =>
    refine ⟨0, false, (O.take h.pb h.rb.le).mono ?_⟩
    rintro e1 w1 (⟨j, hj, _⟩ | ⟨_, rfl, u⟩)
    · rw [e] at hj; cases hj
    · refine ⟨rfl, (rtake_bay w1 (h.rb.nxt u)).mono ?_⟩
      rintro e2 w2 (⟨j, hj, _⟩ | ⟨_, rfl, rfl⟩)
      · rw [e] at hj; cases hj
      · exact ⟨rfl, _, _, h.nxt u⟩
  | some j =>
    refine ⟨(j : Nat), true, (O.take h.pb h.rb.le).mono ?_⟩
    rintro e1 w1 (⟨j1, hj, rfl, d⟩ | ⟨hj, _⟩)
    · rw [e] at hj
      obtain rfl : j = j1 := by injection hj
      obtain ⟨F', d1, d2, d3⟩ := d
      refine ⟨rfl, (rtake_bay w1 (h.rb.up d2 h.nbb h.nub)).mono ?_⟩
      rintro e2 w2 (⟨j2, hj, _, rfl, r, u⟩ | ⟨hj, _⟩)
      · rw [e] at hj
        obtain rfl : j = j2 := by injection hj
        obtain ⟨F2, h2⟩ := h.both ⟨F', d1, d2, d3⟩ r u
        exact ⟨rfl, _, _, h2⟩
      · rw [e] at hj; cases hj
    · rw [e] at hj; cases hj
theorem bx_set (h : BX O w0 w q bb b mm ub n U F i) (x : Int) (c : Bool) (fn : Nat)
    (hp : Calls Try.prog fn #[.pointer (some ⟨q, 0, none⟩), .int .i64 x] w fun e w' =>
      ((0 ≤ x ∧ x < (n : Int) ∧ U x.toNat = !c) ∧ e = .returned (.bool true) ∧ Did O.PB w q b n (updB U x.toNat c) F w') ∨ (¬ (0 ≤ x ∧ x < (n : Int) ∧ U x.toNat = !c) ∧ e = .returned (.bool false) ∧ Up Nul w w')) :
    ∃ ok : Bool, Calls Try.prog fn #[.pointer (some ⟨q, 0, none⟩), .int .i64 x] w fun e w1 => e = .returned (.bool ok) ∧ Stay F ub w w1 ∧
      Calls Try.prog 23 #[.pointer (some ⟨bb, 0, none⟩), .int .i64 x, .bool c] w1 fun e w2 => e = .returned (.bool ok) ∧ Stay F ub w w2 ∧ ∃ U' F', BX O w0 w2 q bb b mm ub n U' F' i := by
  by_cases hg : 0 ≤ x ∧ x < (n : Int) ∧ U x.toNat = !c
  · refine ⟨true, hp.mono ?_⟩
    rintro e w1 (⟨_, rfl, F', d1, d2, d3⟩ | ⟨hn, _⟩)
    · obtain ⟨s, rfl⟩ : ∃ s : Nat, x = s := ⟨x.toNat, by omega⟩
      rw [Int.toNat_natCast] at d1 hg
      refine ⟨rfl, Stay.up d2, (rset_good w1 (h.rb.up d2 h.nbb h.nub) s c (by omega) hg.2.2).mono ?_⟩
      rintro e2 w2 ⟨rfl, r, u⟩
      obtain ⟨F2, h2⟩ := h.both ⟨F', d1, d2, d3⟩ r u
      exact ⟨rfl, Stay.two d2 u, _, _, h2⟩
    · exact absurd hg hn
  · refine ⟨false, hp.mono ?_⟩
    rintro e w1 (⟨hn, _⟩ | ⟨_, rfl, u⟩)
    · exact absurd hn hg
    · refine ⟨rfl, Stay.nul u, (rset_bad w1 (h.rb.nxt u) x c ?_).mono ?_⟩
      · by_cases h1 : x < 0
        · exact .inl h1
        · by_cases h2 : (n : Int) ≤ x
          · exact .inr (.inl h2)
          · refine .inr (.inr ?_)
            have : ¬ U x.toNat = !c := fun e => hg ⟨by omega, by omega, e⟩
            cases hu : U x.toNat <;> cases c <;> simp_all
      · rintro e2 w2 ⟨rfl, rfl⟩
        exact ⟨rfl, Stay.nul u, _, _, h.nxt u⟩
/-! ### 'Read' -/
theorem bx_read (h : BX O w0 w q bb b mm ub n U F i) (x id : Int) : ∃ (code : Int) (z : List Nat), Calls Try.prog 25 #[.pointer (some ⟨q, 0, none⟩), .int .i64 x, .int .i64 id] w fun e w1 => ∃ a l c, e = .returned (.tuple #[.slice a l c, .int .i64 code]) ∧ SlN w1 a l z ∧ BX O w0 w1 q bb b mm ub n U F i ∧ Up Nul w w1 ∧
    Calls Try.prog 26 #[.pointer (some ⟨bb, 0, none⟩), .int .i64 x, .int .i64 id] w1 fun e w2 => e = .returned (.tuple #[.string (strOf z), .int .i64 code]) ∧ Up Nul w1 w2 := by
  have nil : strOf [] = ⟨#[]⟩ := rfl
  have sln0 : ∀ (w : World) (a : Option Addr), SlN w a 0 [] := fun w a => ⟨rfl, .inl rfl, by omega⟩
  obtain ⟨k, live, R, ps, r, h1, h2, hm, hg⟩ := h.px
  have hm' : mm = r.m := hm.symm
  have bad : ∀ code : Int, ¬ code = 0 → (Calls Try.prog 46 #[.pointer (some ⟨b, 0, none⟩), .int .i64 x] w (fun e w2 => ∃ a l c, e = .returned (.tuple #[.slice a l c, .int .i64 code]) ∧ Up Nul w w2)) →
      (∀ W, Up Nul w W → Calls Try.prog 52 #[.pointer (some ⟨mm, 0, none⟩), .int .i64 x] W fun e w' => e = .returned (.tuple #[.string ⟨#[]⟩, .int .i64 code]) ∧ w' = W) →
      ∃ (code : Int) (z : List Nat), Calls Try.prog 25 #[.pointer (some ⟨q, 0, none⟩), .int .i64 x, .int .i64 id] w fun e w1 => ∃ a l c, e = .returned (.tuple #[.slice a l c, .int .i64 code]) ∧ SlN w1 a l z ∧ BX O w0 w1 q bb b mm ub n U F i ∧ Up Nul w w1 ∧
        Calls Try.prog 26 #[.pointer (some ⟨bb, 0, none⟩), .int .i64 x, .int .i64 id] w1 fun e w2 => e = .returned (.tuple #[.string (strOf z), .int .i64 code]) ∧ Up Nul w1 w2 := fun code hc hp hr => by
    refine ⟨code, [], (O.readErr h.pb x id code hc hp).mono ?_⟩
    rintro e w1 ⟨a, c, rfl, u⟩
    refine ⟨a, 0, c, rfl, sln0 _ _, h.nxt u, u, (rbread_err w1 (h.rb.nxt u) x id _ code hc (hr w1 u)).mono ?_⟩
    rintro e2 w2 ⟨rfl, rfl⟩
    exact ⟨by rw [nil], Up.refl _ _⟩
  by_cases hx : x < 0 ∨ (n : Int) ≤ x
  · refine bad 1 (by omega) ((readH_arg h1.pm.hd hx).mono ?_) fun W u => ?_
    · rintro e w1 ⟨rfl, rfl⟩
      exact ⟨_, _, _, rfl, Up.refl _ _⟩
    · rw [hm']
      exact rread_arg r x W (h1.pm.rd.nxt u) (by rw [h1.rn]; exact hx)
  · obtain ⟨s, rfl⟩ : ∃ s : Nat, x = s := ⟨x.toNat, by omega⟩
    have hs : s < n := by omega
    cases live with
    | false =>
      refine bad 5 (by omega) ((readH_gone h1.pm.hd hs).mono ?_) fun W u => ?_
      · rintro e w1 ⟨rfl, rfl⟩
        exact ⟨_, _, _, rfl, Up.refl _ _⟩
      · rw [hm']
        exact rread_gone r s W (h1.pm.rd.nxt u) (by rw [h1.rn]; exact hs) h1.rl
    | true =>
      have h8 : ∀ v ∈ R s, v < 256 := fun v hv => by
        obtain ⟨j, hj, rfl⟩ := List.mem_iff_getElem.1 hv
        have := (h1.sm s hs).2 j
        rwa [List.getD_eq_getElem?_getD, List.getElem?_eq_getElem hj] at this
      have hrd : ∀ W, Up Nul w W → Calls Try.prog 52 #[.pointer (some ⟨mm, 0, none⟩), .int .i64 (s : Nat)] W fun e w' => e = .returned (.tuple #[.string (strOf (R s)), .int .i64 0]) ∧ w' = W := fun W u => by
        rw [hm', ← h1.inv.same s hs]
        exact rread_good r s W (h1.pm.rd.nxt u) (by rw [h1.rn]; exact hs) h1.rl
      by_cases ht : FrM.tk (R s) = some (FrM.idOf (R s), FrM.datOf (R s)) ∧ (FrM.idOf (R s) : Int) = id
      · refine ⟨0, FrM.datOf (R s), (O.readOk h.pb s id (R s) (readH h1.pm.hd hs)).mono ?_⟩
        rintro e w1 ⟨⟨a, l, c, _, _, rfl, g⟩ | ⟨a, c, hn, _⟩, u⟩
        · refine ⟨a, l, c, rfl, g, h.nxt u, u, (rbread_ok w1 (h.rb.nxt u) s id (R s) h8 (by rw [(h1.sm s hs).1]; omega) (hrd w1 u)).mono ?_⟩
          rintro e2 w2 ⟨⟨_, _, rfl⟩ | ⟨hn, _⟩, u2⟩
          · exact ⟨rfl, u2⟩
          · rcases hn with hn | hn
            · rw [ht.1] at hn; cases hn
            · exact absurd ht.2 hn
        · rcases hn with hn | hn
          · rw [ht.1] at hn; cases hn
          · exact absurd ht.2 hn
      · refine ⟨6, [], (O.readOk h.pb s id (R s) (readH h1.pm.hd hs)).mono ?_⟩
        rintro e w1 ⟨⟨a, l, c, hk, hi, _⟩ | ⟨a, c, _, rfl⟩, u⟩
        · exact absurd ⟨hk, hi⟩ ht
        · refine ⟨a, 0, c, rfl, sln0 _ _, h.nxt u, u, (rbread_ok w1 (h.rb.nxt u) s id (R s) h8 (by rw [(h1.sm s hs).1]; omega) (hrd w1 u)).mono ?_⟩
          rintro e2 w2 ⟨⟨hk, hi, _⟩ | ⟨_, rfl⟩, u2⟩
          · exact absurd ⟨hk, hi⟩ ht
          · exact ⟨by rw [nil], u2⟩
/-! ### 'Write' -/
theorem bx_write (h : BX O w0 w q bb b mm ub n U F i) (hi : i < 1000) (x id : Int) (hid : -9223372036854775808 ≤ id ∧ id ≤ 9223372036854775807) (a : Option Addr) (l c : Nat) (z : List Nat) (hz : SlN w a l z) (hc : l ≤ c) :
    Calls Try.prog 11 #[.pointer (some ⟨q, 0, none⟩), .int .i64 x, .int .i64 id, .slice a l c] w fun e w1 => ∃ code, e = .returned (.int .i64 code) ∧ Up Nul w0 w1 ∧ Ks DR w w1 ∧
      Calls Try.prog 24 #[.pointer (some ⟨bb, 0, none⟩), .int .i64 x, .int .i64 id, .string (strOf z)] w1 fun e w2 => e = .returned (.int .i64 code) ∧ Ks DR w w2 ∧ BX O w0 w2 q bb b mm ub n U F (i + 1) := by
  by_cases hb : x < 0 ∨ (n : Int) ≤ x ∨ U x.toNat = false ∨ id < 0 ∨ 4294967295 < id ∨ 64 < l
  · refine (O.writeBad h.pb h.rb.le x id a l c z hz hc hid hb).mono ?_
    rintro e w1 ⟨rfl, u⟩
    refine ⟨1, rfl, h.px.up.trans u, Ks.nul u, (rbwrite_bad w1 (h.rb.nxt u) x id z hz.small (by rw [hz.len]; exact hz.le) (by rw [hz.len]; exact hb)).mono ?_⟩
    rintro e2 w2 ⟨rfl, u2⟩
    exact ⟨rfl, (Ks.nul u).trans (Ks.nul u2), ((h.nxt u).nxt u2).more (Nat.le_succ i)⟩
  · obtain ⟨s, rfl⟩ : ∃ s : Nat, x = s := ⟨x.toNat, by omega⟩
    obtain ⟨j, rfl⟩ : ∃ j : Nat, id = j := ⟨id.toNat, by omega⟩
    have hs : s < n := by omega
    have hj : j < 4294967296 := by omega
    have hl : l ≤ 64 := by omega
    have hu : U s = true := by
      have : ¬ U s = false := fun e => hb (.inr (.inr (.inl (by rw [Int.toNat_natCast]; exact e))))
      simpa using this
    refine (O.writeGood h.pb h.rb.le s j a l c z (fun code w2 => Up Nul w0 w2 ∧ Ks DR w w2 ∧ ∀ W, Up Nul w2 W → Calls Try.prog 50 #[.pointer (some ⟨mm, 0, none⟩), .int .i64 (s : Nat), .string (strOf (FrM.fr j z))] W fun e w3 => e = .returned (.int .i64 code) ∧ PX w w0 w3 b n none mm none (i + 1)) hz hc hs hu hj hl fun w1 a1 c1 u hz1 ha => ?_).mono ?_
    · obtain ⟨code, hcall⟩ := px_write (h.px.nxt u) hi s a1 96 c1 (FrM.fr j z) hz1 (fun _ y hy => .inr (ha y hy))
      exact hcall.mono fun e w2 ⟨e1, e2, e3, e4⟩ => ⟨code, e1, e2, e3, e4⟩
    · rintro e w1 ⟨code, rfl, u0, k1, hw⟩
      have r1 : RB w1 bb mm ub n U := h.rb.ks k1
      refine ⟨code, rfl, u0, k1, (rbwrite_good (fun w3 => PX w w0 w3 b n none mm none (i + 1)) code w1 r1 s j z hs hu hj hz.small (by rw [hz.len]; exact hl) hw).mono ?_⟩
      rintro e2 w2 ⟨rfl, p⟩
      exact ⟨rfl, p.ks, h.disk p⟩
end
end Go.Proofs.Ytfmgbmpdifjliaa
