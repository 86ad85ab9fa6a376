/- Each call of the script, done by both Disks. -/
import Derived.Test.YtfmgbmpdifjliaaPlaysHold
namespace Go.Proofs.Ytfmgbmpdifjliaa
open Go.RowKit
set_option linter.unusedVariables false

/-- Both Disks, alike. -/
structure PS (v w0 w : World) (b n : Nat) (f : Option Nat) (k : Option Nat) (live : Bool) (R : Nat → List Nat) (ps : List (Nat × List Nat)) (r : RK) : Prop where
  pm : PM v w0 w b n f k live R ps r k
  rn : r.n = n
  rl : r.live = live
  inv : Inv n R ps r.R r.ws
  sm : ∀ s, s < n → (R s).length = 96 ∧ ∀ i, (R s).getD i 0 < 256
/-- Where the script stands: i calls at most have written. -/
def PX (v w0 w : World) (b n : Nat) (f : Option Nat) (mm : Nat) (g : Option Nat) (i : Nat) : Prop := ∃ k live R ps r, PS v w0 w b n f k live R ps r ∧ ps.length ≤ i ∧ r.m = mm ∧ r.fu = g
section
variable {v w0 w w' : World} {b n mm i : Nat} {f g : Option Nat}
theorem PX.nxt (h : PX v w0 w b n f mm g i) (u : Up Nul w w') : PX v w0 w' b n f mm g i := by
  obtain ⟨k, live, R, ps, r, h1, h2⟩ := h
  exact ⟨k, live, R, ps, r, ⟨h1.pm.nxt u, h1.rn, h1.rl, h1.inv, h1.sm⟩, h2⟩
theorem PX.up (h : PX v w0 w b n f mm g i) : Up Nul w0 w := by
  obtain ⟨k, live, R, ps, r, h1, h2⟩ := h
  exact h1.pm.up
theorem PX.ks (h : PX v w0 w b n f mm g i) : Ks DR v w := by
  obtain ⟨k, live, R, ps, r, h1, h2⟩ := h
  exact h1.pm.ks
/-- Counted from now on. -/
theorem PX.now (h : PX v w0 w b n f mm g i) : PX w w0 w b n f mm g i := by
  obtain ⟨k, live, R, ps, r, h1, h2⟩ := h
  exact ⟨k, live, R, ps, r, ⟨⟨h1.pm.hd, h1.pm.rd, h1.pm.rf, h1.pm.rnew, h1.pm.fnew, h1.pm.up, Ks.refl _ _⟩, h1.rn, h1.rl, h1.inv, h1.sm⟩, h2⟩
theorem PX.more (h : PX v w0 w b n f mm g i) {j : Nat} (hj : i ≤ j) : PX v w0 w b n f mm g j := by
  obtain ⟨k, live, R, ps, r, h1, h2, h3⟩ := h
  exact ⟨k, live, R, ps, r, h1, Nat.le_trans h2 hj, h3⟩
theorem PS.len {k : Option Nat} {live : Bool} {R : Nat → List Nat} {ps : List (Nat × List Nat)} {r : RK} (h : PS v w0 w b n f k live R ps r) : r.ws.length = ps.length := by rw [← h.inv.pend, pw_length]

/-! ### 'Sync' -/
theorem px_sync (h : PX v w0 w b n f mm g i) : ∃ c : Int, Calls Try.prog 28 #[.pointer (some ⟨b, 0, none⟩)] w fun e w1 => e = .returned (.int .i64 c) ∧
    Calls Try.prog 29 #[.pointer (some ⟨mm, 0, none⟩)] w1 fun e w2 => e = .returned (.int .i64 c) ∧ PX v w0 w2 b n f mm g i := by
  obtain ⟨k, live, R, ps, r, h1, h2, rfl, rfl⟩ := h
  cases live with
  | false =>
    refine ⟨5, (syncH_gone h1.pm.hd).mono ?_⟩
    rintro e w1 ⟨rfl, rfl⟩
    refine ⟨rfl, (rsync_gone r _ h1.pm.rd h1.rl).mono ?_⟩
    rintro e w2 ⟨rfl, rfl⟩
    exact ⟨rfl, _, _, _, _, _, h1, h2, rfl, rfl⟩
  | true =>
    by_cases hk : k = some 0
    · subst hk
      refine ⟨4, (syncH_dead h1.pm.hd).mono ?_⟩
      rintro e w1 ⟨rfl, rfl⟩
      refine ⟨rfl, (rsync_dead r _ h1.pm.rd h1.rl h1.pm.rf).mono ?_⟩
      rintro e w2 ⟨rfl, rfl⟩
      exact ⟨rfl, _, _, _, _, _, h1, h2, rfl, rfl⟩
    · refine ⟨0, (syncH h1.pm.hd h1.pm.up hk).mono ?_⟩
      rintro e w1 ⟨rfl, g1, g2, g3⟩
      have p1 := h1.pm.prog g1 g2 g3
      refine ⟨rfl, (rsync_good r k _ p1.rd h1.rl p1.rf hk).mono ?_⟩
      rintro e w2 ⟨rfl, d1, d2⟩
      have p2 := p1.docu (k2 := k) d1 (p1.rf.up d2 fun q hq e => rfoot_fuse p1.rd p1.rf q (.inl e) hq) d2 (fun q e => .inl (.inl e)) (fun q hq => by
        rcases hq with e | e | e
        · exact .inl (.inl e)
        · exact .inl (.inr (.inl e))
        · cases e) rfl
      exact ⟨rfl, _, _, _, _, _, ⟨p2, h1.rn, h1.rl, Inv.none h1.inv.same, h1.sm⟩, Nat.zero_le _, rfl, rfl⟩
/-! ### 'Fail', 'Replace', 'Crash' -/
theorem px_fail (h : PX v w0 w b n f mm g i) : Calls Try.prog 32 #[.pointer (some ⟨b, 0, none⟩)] w fun e w1 => e = .returned (.tuple #[]) ∧ (∃ l, w1.cell? ⟨mm, 1, none⟩ = some (.bool l)) ∧ w1.frozen? ⟨mm, 1, none⟩ = false ∧ PX v w0 (w1.setCell ⟨mm, 1, none⟩ (.bool false)) b n f mm g i := by
  obtain ⟨k, live, R, ps, r, h1, h2, rfl, rfl⟩ := h
  refine (failH h1.pm.hd h1.pm.up).mono ?_
  rintro e w1 ⟨rfl, g1, g2, g3⟩
  have p1 := h1.pm.prog g1 g2 g3
  have u := (Up.refl (One r.m) w1).put rfl 1 (.bool false)
  have p2 := p1.docu (k2 := k) (p1.rd.set1 false) (p1.rf.up u fun q hq e => rfoot_fuse p1.rd p1.rf q (.inl e) hq) u (fun q e => .inl (.inl e)) (fun q hq => .inl hq) rfl
  exact ⟨rfl, ⟨_, p1.rd.c1⟩, p1.rd.fr 1, _, _, _, _, _, ⟨p2, h1.rn, rfl, h1.inv, h1.sm⟩, h2, rfl, rfl⟩
theorem px_replace (h : PX v w0 w b n f mm g i) : Calls Try.prog 33 #[.pointer (some ⟨b, 0, none⟩)] w fun e w1 => e = .returned (.tuple #[]) ∧
    Calls Try.prog 34 #[.pointer (some ⟨mm, 0, none⟩)] w1 fun e w2 => e = .returned (.tuple #[]) ∧ PX v w0 w2 b n f mm g i := by
  obtain ⟨k, live, R, ps, r, h1, h2, rfl, rfl⟩ := h
  refine (replaceH h1.pm.hd h1.pm.up).mono ?_
  rintro e w1 ⟨rfl, g1, g2, g3⟩
  have p1 := h1.pm.prog g1 g2 g3
  refine ⟨rfl, (rreplace_any r _ p1.rd).mono ?_⟩
  rintro e w2 ⟨rfl, d1, d2⟩
  have p2 := p1.docu (k2 := k) d1 (p1.rf.up d2 fun q hq e => rfoot_fuse p1.rd p1.rf q e hq) d2 (fun q e => .inl e) (fun q hq => by
    rcases hq with e | e | e
    · exact .inl (.inl e)
    · exact .inl (.inr (.inl e))
    · cases e) rfl
  exact ⟨rfl, _, _, _, _, _, ⟨p2, h1.rn, rfl, Inv.none fun _ _ => rfl, fun s hs => ⟨zer_length 96, fun i => by rw [zer_at]; decide⟩⟩, Nat.zero_le _, rfl, rfl⟩
/-! ### 'Rot' -/
theorem px_rot (h : PX v w0 w b n f mm g i) (x y : Int) (c : Nat) (hc : c < 256) : ∃ q : Bool, Calls Try.prog 13 #[.pointer (some ⟨b, 0, none⟩), .int .i64 x, .int .i64 y, .int .u8 c] w fun e w1 => e = .returned (.bool q) ∧ Ks DR v w1 ∧
    Calls Try.prog 27 #[.pointer (some ⟨mm, 0, none⟩), .int .i64 x, .int .i64 y, .int .u8 c] w1 fun e w2 => e = .returned (.bool q) ∧ PX v w0 w2 b n f mm g i := by
  obtain ⟨k, live, R, ps, r, h1, h2, rfl, rfl⟩ := h
  by_cases hx : x < 0 ∨ (n : Int) ≤ x
  · refine ⟨false, (rotH_slot h1.pm.hd hx y c).mono ?_⟩
    rintro e w1 ⟨rfl, rfl⟩
    refine ⟨rfl, h1.pm.ks, (rrot_slot r x y c _ h1.pm.rd (by rw [h1.rn]; exact hx)).mono ?_⟩
    rintro e w2 ⟨rfl, rfl⟩
    exact ⟨rfl, _, _, _, _, _, h1, h2, rfl, rfl⟩
  · obtain ⟨s, rfl⟩ : ∃ s : Nat, x = s := ⟨x.toNat, by omega⟩
    have hs : s < n := by omega
    by_cases hy : y < 0 ∨ 96 ≤ y
    · refine ⟨false, (rotH_byte h1.pm.hd hs hy c).mono ?_⟩
      rintro e w1 ⟨rfl, rfl⟩
      refine ⟨rfl, h1.pm.ks, (rrot_byte r s y c _ h1.pm.rd (by rw [h1.rn]; exact hs) hy).mono ?_⟩
      rintro e w2 ⟨rfl, rfl⟩
      exact ⟨rfl, _, _, _, _, _, h1, h2, rfl, rfl⟩
    · obtain ⟨t, rfl⟩ : ∃ t : Nat, y = t := ⟨y.toNat, by omega⟩
      have ht : t < 96 := by omega
      cases live with
      | false =>
        refine ⟨false, (rotH_gone h1.pm.hd hs ht c).mono ?_⟩
        rintro e w1 ⟨rfl, rfl⟩
        refine ⟨rfl, h1.pm.ks, (rrot_gone r s t c _ h1.pm.rd (by rw [h1.rn]; exact hs) ht h1.rl).mono ?_⟩
        rintro e w2 ⟨rfl, rfl⟩
        exact ⟨rfl, _, _, _, _, _, h1, h2, rfl, rfl⟩
      | true =>
        refine ⟨true, (rotH h1.pm.hd h1.pm.up hs ht hc).mono ?_⟩
        rintro e w1 ⟨rfl, g1, g2, g3⟩
        have p1 := h1.pm.prog g1 g2 g3
        have hsame := h1.inv.same s hs
        refine ⟨rfl, p1.ks, (rrot_good r s t c _ p1.rd (by rw [h1.rn]; exact hs) ht hc h1.rl (by rw [hsame]; exact (h1.sm s hs).2)).mono ?_⟩
        rintro e w2 ⟨rfl, ws', d1, d2, d3⟩
        rw [hsame] at d1 d2
        have hwl : ws'.length = r.ws.length := by
          rcases d2 with ⟨j, hj, _, _, rfl⟩ | ⟨_, rfl⟩
          · simp
          · rfl
        have p2 := p1.docu (k2 := k) d1 (p1.rf.up d3 fun q hq e => rfoot_fuse p1.rd p1.rf q e hq) d3 (fun q e => .inl e) (fun q hq => by
          rcases hq with e | e | e
          · exact .inl (.inl e)
          · exact .inl (.inr (.inl e))
          · have e : (Value.slice r.wa ws'.length r.wc).ownBlock = some q := e
            rw [hwl] at e
            exact .inl (.inr (.inr e))) rfl
        refine ⟨rfl, _, _, _, _, _, ⟨p2, h1.rn, h1.rl, h1.inv.rot hs _ d2, fun q hq => ?_⟩, h2, rfl, rfl⟩
        unfold upd
        split
        · refine ⟨by simp [turn, (h1.sm s hs).1], fun i => ?_⟩
          unfold turn
          rw [getD_set _ _ _ _ (by rw [(h1.sm s hs).1]; exact ht)]
          split
          · exact xor_small ((h1.sm s hs).2 t) hc
          · exact (h1.sm s hs).2 i
        · exact h1.sm q hq
/-! ### 'Crash', 'Read' -/
theorem H.sm {k : Option Nat} {live : Bool} {R : Nat → List Nat} {ps : List (Nat × List Nat)} (h : H w0 w b n f k live R ps) : ∀ s, s < n → (R s).length = 96 ∧ ∀ i, (R s).getD i 0 < 256 := by
  obtain ⟨d, h1, rfl, rfl, _, _, _, h6, _⟩ := h.ex
  intro s hs
  rw [← h6 s hs]
  exact ⟨slot_length h1 hs, (h1.row hs).small⟩
theorem px_crash (h : PX v w0 w b n f mm g i) (x y : Int) : Calls Try.prog 30 #[.pointer (some ⟨b, 0, none⟩), .int .i64 x, .int .i64 y] w fun e w1 => e = .returned (.tuple #[]) ∧ Ks DR v w1 ∧
    Calls Try.prog 31 #[.pointer (some ⟨mm, 0, none⟩), .int .i64 x, .int .i64 y] w1 fun e w2 => e = .returned (.tuple #[]) ∧ PX v w0 w2 b n f mm g i := by
  obtain ⟨k, live, R, ps, r, h1, h2, rfl, rfl⟩ := h
  refine (crashH h1.pm.hd h1.pm.up x y).mono ?_
  rintro e w1 ⟨rfl, g1, g2, g3⟩
  have p1 := h1.pm.prog g1 g2 g3
  refine ⟨rfl, p1.ks, (rcrash_any r x y _ p1.rd).mono ?_⟩
  rintro e w2 ⟨rfl, d1, d2⟩
  have p2 := p1.docu (k2 := k) d1 (p1.rf.up d2 fun q hq e => rfoot_fuse p1.rd p1.rf q e hq) d2 (fun q e => .inl e) (fun q hq => by
    rcases hq with e | e | e
    · exact .inl (.inl e)
    · exact .inl (.inr (.inl e))
    · cases e) rfl
  exact ⟨rfl, _, _, _, _, _, ⟨p2, h1.rn, h1.rl, Inv.none (h1.inv.crash _ _), H.sm p2.hd⟩, Nat.zero_le _, rfl, rfl⟩
theorem px_read (h : PX v w0 w b n f mm g i) (x : Int) : ∃ (code : Int) (z : List Nat) (l : Nat), Calls Try.prog 46 #[.pointer (some ⟨b, 0, none⟩), .int .i64 x] w fun e w1 => ∃ a c, e = .returned (.tuple #[.slice a l c, .int .i64 code]) ∧ SlN w1 a l z ∧ PX v w0 w1 b n f mm g i ∧
    Calls Try.prog 52 #[.pointer (some ⟨mm, 0, none⟩), .int .i64 x] w1 fun e w2 => e = .returned (.tuple #[.string (strOf z), .int .i64 code]) ∧ w2 = w1 := by
  obtain ⟨k, live, R, ps, r, h1, h2, rfl, rfl⟩ := h
  by_cases hx : x < 0 ∨ (n : Int) ≤ x
  · refine ⟨1, [], 0, (readH_arg h1.pm.hd hx).mono ?_⟩
    rintro e w1 ⟨rfl, rfl⟩
    exact ⟨none, 0, rfl, ⟨rfl, .inl rfl, by omega⟩, ⟨_, _, _, _, _, h1, h2, rfl, rfl⟩, rread_arg r x _ h1.pm.rd (by rw [h1.rn]; exact hx)⟩
  · obtain ⟨s, rfl⟩ : ∃ s : Nat, x = s := ⟨x.toNat, by omega⟩
    have hs : s < n := by omega
    cases live with
    | false =>
      refine ⟨5, [], 0, (readH_gone h1.pm.hd hs).mono ?_⟩
      rintro e w1 ⟨rfl, rfl⟩
      exact ⟨none, 0, rfl, ⟨rfl, .inl rfl, by omega⟩, ⟨_, _, _, _, _, h1, h2, rfl, rfl⟩, rread_gone r s _ h1.pm.rd (by rw [h1.rn]; exact hs) h1.rl⟩
    | true =>
      refine ⟨0, R s, 96, (readH h1.pm.hd hs).mono ?_⟩
      rintro e w1 ⟨a, c, rfl, k1⟩
      have h3 : PS v w0 w1 b n f k true R ps r := ⟨h1.pm.nxt k1.up, h1.rn, h1.rl, h1.inv, h1.sm⟩
      have h4 := rread_good r s _ h3.pm.rd (by rw [h1.rn]; exact hs) h1.rl
      rw [h1.inv.same s hs] at h4
      exact ⟨a, c, rfl, k1.sl, ⟨_, _, _, _, _, h3, h2, rfl, rfl⟩, h4⟩
/-! ### The Fuse set anew -/
theorem H.fuse {f : Nat} {k k2 : Option Nat} {live : Bool} {R : Nat → List Nat} {ps : List (Nat × List Nat)} (h : H w0 w b n (some f) k live R ps) (hz : Fz w' f k2) (u : Up (One f) w w') : H w0 w' b n (some f) k2 live R ps ∧ Ks DD w w' := by
  obtain ⟨d, h1, h2, h3, h4, h5⟩ := h.ex
  have hf := h.fz
  rw [← h4] at hf
  refine ⟨⟨⟨d, h1.up u fun q hq e => foot_fuse h1 hf q hq (by rw [h4]; exact congrArg some e.symm), h2, h3, h4, h5⟩, hz, h.fnew⟩, ks_foot u fun q hq _ => ?_⟩
  have hf' : Fz w f k := h.fz
  unfold One at hq
  subst hq
  exact ⟨_, _, hf'.heap, .inr (.inr (.inr rfl))⟩
/-! ### 'Write' -/
theorem H.writeS {k : Option Nat} {R : Nat → List Nat} {ps : List (Nat × List Nat)} (h : H w0 w b n f k true R ps) (h0 : Up Nul w0 w) {s : Nat} (hs : s < n) (hk : k ≠ some 0) (hm : ps.length < 1000) {a : Option Addr} {c : Nat} {y : List Nat} (hy : SlN w a 96 y)
    (ha : ∀ q, a = some q → q.block < w0.heap.size ∨ ∃ A, w.heap[q.block]? = some (Obj.cells A 5 (0, 0))) :
    Calls Try.prog 44 #[.pointer (some ⟨b, 0, none⟩), .int .i64 s, .slice a 96 c] w fun e w' => e = .returned (.int .i64 0) ∧ H w0 w' b n f (less k) true (upd R s y) (ps ++ [(s, R s)]) ∧ Up Nul w0 w' ∧ Ks DD w w' := by
  obtain ⟨d, h1, rfl, rfl, h4, h5, rfl, h6, h7⟩ := h.ex
  have hz := h.fz
  rw [← h4] at hz
  have hfoot : ∀ g, (d.foot g ∨ d.fu = some g) → ∃ (A : Array Value) (T : TypeId), w.heap[g]? = some (Obj.cells A T (0, 0)) ∧ DD T := fun g hg => by
    rcases hg with hg | hg
    · obtain ⟨A, T, e1, e2, _⟩ := h1.ty hg
      exact ⟨A, T, e1, e2⟩
    · rw [hg] at hz
      exact ⟨_, _, Fz.heap hz, .inr (.inr (.inr rfl))⟩
  have hge : ∀ g, (d.foot g ∨ d.fu = some g) → w0.heap.size ≤ g := fun g hg => by
    rcases hg with hg | hg
    · exact h7 g hg
    · exact h.fnew g (by rw [← h4]; exact hg)
  have hno : ∀ x, a = some x → ¬ (d.foot x.block ∨ d.fu = some x.block) := fun x hx hc => by
    rcases ha x hx with e | ⟨A, e⟩
    · have := hge _ hc
      omega
    · obtain ⟨A', T', e1, e2⟩ := hfoot _ hc
      rw [e1] at e
      injection e with e
      injection e with _ e _
      exact dd_byte (e ▸ e2)
  refine (write_good d s k a c y w h1 hs h5 hz hk hm hy fun x hx => ⟨fun e => hno x hx (.inl e), fun e => hno x hx (.inr e)⟩).mono ?_
  rintro e w' ⟨rfl, g1, d', g2⟩
  obtain ⟨pa, pc, e⟩ := g2.at_
  refine ⟨rfl, ⟨⟨d', g2.dsk, by rw [e], by rw [e], by rw [e]; exact h4, by rw [e]; exact h5, by rw [e, ← h6 s hs], fun t ht => ?_, fun g hg => ?_⟩, by rw [← h4]; exact g1, h.fnew⟩, At.foot h0 g2.up fun g hg => hge g hg, ks_foot g2.up fun g hg _ => hfoot g hg⟩
  · rw [e, slot_put h1 y pa pc _ hs ht hy.len, h6 t ht]
    rfl
  · rcases g2.foot g hg with hg | hg
    · exact h7 g hg
    · exact Nat.le_trans h0.size hg
theorem px_write (h : PX v w0 w b n f mm g i) (hi : i < 1000) (x : Int) (a : Option Addr) (l c : Nat) (z : List Nat) (hz : SlN w a l z) (ha : l = 96 → ∀ q, a = some q → q.block < w0.heap.size ∨ ∃ A, w.heap[q.block]? = some (Obj.cells A 5 (0, 0))) :
    ∃ code : Int, Calls Try.prog 44 #[.pointer (some ⟨b, 0, none⟩), .int .i64 x, .slice a l c] w fun e w1 => e = .returned (.int .i64 code) ∧ Up Nul w0 w1 ∧ Ks DR v w1 ∧
      ∀ w1', Up Nul w1 w1' → Calls Try.prog 50 #[.pointer (some ⟨mm, 0, none⟩), .int .i64 x, .string (strOf z)] w1' fun e w2 => e = .returned (.int .i64 code) ∧ PX v w0 w2 b n f mm g (i + 1) := by
  obtain ⟨k, live, R, ps, r, h1, h2, rfl, rfl⟩ := h
  by_cases hx : x < 0 ∨ (n : Int) ≤ x
  · refine ⟨1, (writeH_slot h1.pm.hd hx a l c).mono ?_⟩
    rintro e w1 ⟨rfl, rfl⟩
    refine ⟨rfl, h1.pm.up, h1.pm.ks, fun w1' u => (rwrite_slot r x _ _ (h1.pm.nxt u).rd (by rw [h1.rn]; exact hx)).mono ?_⟩
    rintro e w2 ⟨rfl, rfl⟩
    exact ⟨rfl, _, _, _, _, _, ⟨h1.pm.nxt u, h1.rn, h1.rl, h1.inv, h1.sm⟩, by omega, rfl, rfl⟩
  · obtain ⟨s, rfl⟩ : ∃ s : Nat, x = s := ⟨x.toNat, by omega⟩
    have hs : s < n := by omega
    by_cases hl : l = 96
    · subst hl
      have hsz : (strOf z).size = 96 := by rw [strOf_size]; exact hz.len
      cases live with
      | false =>
        refine ⟨5, (writeH_gone h1.pm.hd hs a c).mono ?_⟩
        rintro e w1 ⟨rfl, rfl⟩
        refine ⟨rfl, h1.pm.up, h1.pm.ks, fun w1' u => (rwrite_gone r s _ _ (h1.pm.nxt u).rd (by rw [h1.rn]; exact hs) hsz h1.rl).mono ?_⟩
        rintro e w2 ⟨rfl, rfl⟩
        exact ⟨rfl, _, _, _, _, _, ⟨h1.pm.nxt u, h1.rn, h1.rl, h1.inv, h1.sm⟩, by omega, rfl, rfl⟩
      | true =>
        by_cases hk : k = some 0
        · subst hk
          refine ⟨4, (writeH_dead h1.pm.hd hs a c).mono ?_⟩
          rintro e w1 ⟨rfl, rfl⟩
          refine ⟨rfl, h1.pm.up, h1.pm.ks, fun w1' u => (rwrite_dead r s _ _ (h1.pm.nxt u).rd (by rw [h1.rn]; exact hs) hsz h1.rl (h1.pm.nxt u).rf).mono ?_⟩
          rintro e w2 ⟨rfl, rfl⟩
          exact ⟨rfl, _, _, _, _, _, ⟨h1.pm.nxt u, h1.rn, h1.rl, h1.inv, h1.sm⟩, by omega, rfl, rfl⟩
        · refine ⟨0, (H.writeS h1.pm.hd h1.pm.up hs hk (by omega) hz (ha rfl)).mono ?_⟩
          rintro e w1 ⟨rfl, g1, g2, g3⟩
          have p1 := h1.pm.prog g1 g2 g3
          refine ⟨rfl, g2, p1.ks, fun w1' u => (rwrite_good r s k z _ (p1.nxt u).rd (by rw [h1.rn]; exact hs) hz.len h1.rl (p1.nxt u).rf hk (by rw [h1.len]; omega)).mono ?_⟩
          rintro e w2 ⟨rfl, d1, r', d2⟩
          have p2 := p1.nxt u
          obtain ⟨wa, wc, e⟩ := d2.at_
          have hfu : r'.fu = r.fu := by rw [e]
          have p3 := p2.docu (k2 := less k) d2.dsk (by rw [hfu]; exact d1) d2.up (fun q hq => hq) d2.foot hfu
          refine ⟨rfl, _, _, _, _, r', ⟨p3, by rw [e]; exact h1.rn, by rw [e]; exact h1.rl, ?_, H.sm p3.hd⟩, by rw [List.length_append]; exact Nat.add_le_add_right h2 1, by rw [e], hfu⟩
          rw [e]
          exact h1.inv.write hs z
    · refine ⟨1, (writeH_len h1.pm.hd hs a l c hl).mono ?_⟩
      rintro e w1 ⟨rfl, rfl⟩
      refine ⟨rfl, h1.pm.up, h1.pm.ks, fun w1' u => (rwrite_len r s _ _ (h1.pm.nxt u).rd (by rw [h1.rn]; exact hs) (by rw [strOf_size, hz.len]; exact hl)).mono ?_⟩
      rintro e w2 ⟨rfl, rfl⟩
      exact ⟨rfl, _, _, _, _, _, ⟨h1.pm.nxt u, h1.rn, h1.rl, h1.inv, h1.sm⟩, by omega, rfl, rfl⟩
end
end Go.Proofs.Ytfmgbmpdifjliaa
