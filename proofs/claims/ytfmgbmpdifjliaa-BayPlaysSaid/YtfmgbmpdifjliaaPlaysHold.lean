/- Both Disks as the law DiskPlays holds them. -/
import Derived.Test.YtfmgbmpdifjliaaPlaysMath
import Derived.Test.YtfmgbmpdifjliaaDiskLaw
namespace Go.Proofs.Ytfmgbmpdifjliaa
open Go.RowKit
set_option linter.unusedVariables false

/-- The types of the document's blocks. -/
def RT (t : TypeId) : Prop := t = 65 ∨ t = 9 ∨ t = 98 ∨ t = 113
theorem rt_dd : ∀ t, RT t → ¬ DD t := by
  unfold RT DD
  rintro t (rfl | rfl | rfl | rfl) <;> decide
theorem dd_rt : ∀ t, DD t → ¬ RT t := fun t h k => rt_dd t k h
theorem RD.ks {D : TypeId → Prop} {w w' : World} {r : RK} (h : RD w r) (k : Ks D w w') (hd : ∀ t, RT t → ¬ D t) : RD w' r := by
  have own : ∀ {T : TypeId} {sz n : Nat} {v : Value} {xs : List Value}, w.ownsRow 0 T sz v n xs → RT T → w'.ownsRow 0 T sz v n xs := fun {T sz n v xs} o ht => by
    refine ⟨o.1, ?_⟩
    rcases o.2 with hn | ⟨g, cap, cur, h1, h2, h3, h4⟩
    · exact .inl hn
    · exact .inr ⟨g, cap, cur, h1, h2, k.kept _ _ _ _ h3 (hd _ ht), h4⟩
  exact ⟨k.kept _ _ _ _ h.head (hd _ (.inl rfl)), own h.slots (.inr (.inl rfl)), own h.wait (.inr (.inr (.inl rfl))), h.le, h.lenR, h.lenW, h.most⟩
theorem RFz.ks {D : TypeId → Prop} {w w' : World} {f : Nat} {k : Option Nat} (h : RFz w f k) (e : Ks D w w') (hd : ∀ t, RT t → ¬ D t) : RFz w' f k := ⟨e.kept _ _ _ _ h.heap (hd _ (.inr (.inr (.inr rfl)))), h.le⟩
theorem RFzO.ks {D : TypeId → Prop} {w w' : World} {fu : Option Nat} {k : Option Nat} (h : RFzO w fu k) (e : Ks D w w') (hd : ∀ t, RT t → ¬ D t) : RFzO w' fu k := by
  cases fu with
  | none => exact h
  | some f => exact RFz.ks h e hd
theorem RD.ty {w : World} {r : RK} (h : RD w r) {k : Nat} (hk : r.foot k) : ∃ (A : Array Value) (T : TypeId), w.heap[k]? = some (Obj.cells A T (0, 0)) ∧ RT T := by
  have own : ∀ {T : TypeId} {sz n : Nat} {v : Value} {xs : List Value}, w.ownsRow 0 T sz v n xs → RT T → v.ownBlock = some k → ∃ (A : Array Value) (T : TypeId), w.heap[k]? = some (Obj.cells A T (0, 0)) ∧ RT T := fun {T sz n v xs} o ht hk => by
    rcases o.2 with ⟨e, _⟩ | ⟨g, cap, cur, e, _, e2, _⟩
    · rw [e] at hk; cases hk
    · rw [e] at hk
      obtain rfl : g = k := by simpa [Value.ownBlock] using hk
      exact ⟨_, _, e2, ht⟩
  rcases hk with rfl | hk | hk
  · exact ⟨_, _, h.head, .inl rfl⟩
  · exact own h.slots (.inr (.inl rfl)) hk
  · exact own h.wait (.inr (.inr (.inl rfl))) hk
/-- What the document's calls turn is of its own types. -/
theorem ks_rfoot {S : Nat → Prop} {w w' : World} {r : RK} {k : Option Nat} (h : RD w r) (hf : RFzO w r.fu k) (u : Up S w w') (hs : ∀ q, S q → r.foot q ∨ r.fu = some q) : Ks RT w w' := ⟨u.size, fun g A T fr e d => by
  by_cases hg : S g
  · have : ∃ (A : Array Value) (T : TypeId), w.heap[g]? = some (Obj.cells A T (0, 0)) ∧ RT T := by
      rcases hs g hg with hg | e
      · exact h.ty hg
      · rw [e] at hf
        exact ⟨_, _, RFz.heap hf, .inr (.inr (.inr rfl))⟩
    obtain ⟨A', T', e', d'⟩ := this
    rw [e] at e'
    injection e' with e'
    injection e' with _ e' _
    exact absurd (e' ▸ d') d
  · exact (u.block g (Array.getElem?_eq_some_iff.1 e).1 hg).trans e⟩
/-- All types of both. -/
def DR (t : TypeId) : Prop := DD t ∨ RT t
/-- Where the law stands: the program's Disk and Fuse, the document's; since v no other block has turned. -/
structure PM (v w0 w : World) (b n : Nat) (f : Option Nat) (k : Option Nat) (live : Bool) (R : Nat → List Nat) (ps : List (Nat × List Nat)) (r : RK) (k' : Option Nat) : Prop where
  hd : H w0 w b n f k live R ps
  rd : RD w r
  rf : RFzO w r.fu k'
  rnew : ∀ q, r.foot q → w0.heap.size ≤ q
  fnew : ∀ q, r.fu = some q → w0.heap.size ≤ q
  up : Up Nul w0 w
  ks : Ks DR v w
section
variable {v w0 w w' : World} {b n : Nat} {f : Option Nat} {k k' : Option Nat} {live : Bool} {R : Nat → List Nat} {ps : List (Nat × List Nat)} {r : RK}
theorem PM.nxt (h : PM v w0 w b n f k live R ps r k') (u : Up Nul w w') : PM v w0 w' b n f k live R ps r k' :=
  ⟨h.hd.nxt u, h.rd.nxt u, h.rf.up u fun _ _ => id, h.rnew, h.fnew, h.up.trans u, h.ks.trans (Ks.nul u)⟩
/-- A call of the program. -/
theorem PM.prog {k2 : Option Nat} {l2 : Bool} {R2 : Nat → List Nat} {ps2 : List (Nat × List Nat)} (h : PM v w0 w b n f k live R ps r k') (hd : H w0 w' b n f k2 l2 R2 ps2) (u : Up Nul w0 w') (e : Ks DD w w') : PM v w0 w' b n f k2 l2 R2 ps2 r k' :=
  ⟨hd, h.rd.ks e rt_dd, h.rf.ks e rt_dd, h.rnew, h.fnew, u, h.ks.trans (e.mono fun _ => .inl)⟩
/-- A call of the document. -/
theorem PM.docu {S : Nat → Prop} {r2 : RK} {k2 : Option Nat} (h : PM v w0 w b n f k live R ps r k') (rd : RD w' r2) (rf : RFzO w' r2.fu k2) (u : Up S w w') (hs : ∀ q, S q → r.foot q ∨ r.fu = some q) (hn : ∀ q, r2.foot q → r.foot q ∨ w.heap.size ≤ q) (hf : r2.fu = r.fu) : PM v w0 w' b n f k live R ps r2 k2 := by
  refine ⟨h.hd.ks (ks_rfoot h.rd h.rf u hs) dd_rt, rd, rf, fun q hq => ?_, by rw [hf]; exact h.fnew, At.foot h.up u fun q hq => ?_, h.ks.trans ((ks_rfoot h.rd h.rf u hs).mono fun _ => .inr)⟩
  · rcases hn q hq with e | e
    · exact h.rnew q e
    · exact Nat.le_trans h.up.size e
  · rcases hs q hq with e | e
    · exact h.rnew q e
    · exact h.fnew q e
end
end Go.Proofs.Ytfmgbmpdifjliaa
