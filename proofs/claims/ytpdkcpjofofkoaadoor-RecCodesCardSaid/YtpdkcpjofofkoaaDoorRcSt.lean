/- Whole records stored and read; what is apart. -/
import Derived.Test.YtpdkcpjofofkoaaDoorRcBlk
import Derived.Test.YtpdkcpjofofkoaaDoorRcDec
set_option maxRecDepth 100000
namespace Go.Proofs.YtpdkcpjofofkoaaDoor
open Go.RowKit
set_option linter.unusedVariables false
theorem came_nxt {w w' : World} {a : Option Addr} {len cap : Nat} {zs : List Int} (h : CameI w a len cap zs) (u : Up Nul w w') : CameI w' a len cap zs := by
  rcases h with h | ⟨x, e, hl, hm, hz, hc, hw⟩
  · exact .inl h
  · exact .inr ⟨x, e, hl, hm, hz, fun i hi => (u.cell (p := x.add i) (lt_of_cell (hc i hi)) id).trans (hc i hi), hw⟩
theorem dec_enc {r : Rc} (F : OkF r) : decR (encR r) = some r := decR_iff.2 ⟨F, rfl⟩
theorem decO_enc {r : Rc} (F : OkF r) : decO (encR r) = r := by unfold decO; rw [dec_enc F]; rfl
theorem RB.range {w : World} {p : Nat} {q : Rc} {sb lb : Option Addr} {tc mc : Nat} (h : RB w p q (.slice sb q.sids.length tc) (.slice lb q.locs.length mc)) : w.rangeAt p 0 [.int .i64 q.kind, .string q.key, .int .i64 q.n, .int .i64 q.sid, .slice sb q.sids.length tc, .int .i64 q.colour, .slice lb q.locs.length mc, .int .i64 q.t.hot, .int .i64 q.t.warm, .int .i64 q.t.gap, .int .i64 q.t.add, .int .i64 q.t.top, .int .i64 q.t.half] := fun j v hv => by
  have a : w.heap[p]? = _ := h
  simp only [World.cell?, a, Nat.zero_add]
  simpa using hv
theorem Up.newest {S : Nat → Prop} {u w w' : World} (h : Up Nul u w) (k : Up S w w') (hs : ∀ i, i < u.heap.size → ¬ S i) : Up Nul u w' :=
  ⟨k.os.trans h.os, k.tape.trans h.tape, k.output.trans h.output, Nat.le_trans h.size k.size, fun j hj _ => (k.block j (Nat.lt_of_lt_of_le hj h.size) (hs j hj)).trans (h.block j hj id)⟩
theorem OwnLo.apart {B : Nat} {w : World} {a : Option Addr} {n c : Nat} {ls : List Lo} (h : OwnLo B w (.slice a n c) ls) (g o : Nat) (e : a = some ⟨g, o, none⟩) : B ≤ g := h.bs g (by rw [e]; rfl)
theorem RH.keep13 {w w' : World} {r : Rc} {sa la : Option Addr} {p : Nat} (h : RH w r sa la) (u : Up (One p) w w') (hf : (∀ g o, r.sids ≠ [] → sa = some ⟨g, o, none⟩ → g ≠ p) ∧ (∀ g o, la = some ⟨g, o, none⟩ → g ≠ p)) : RH w' r sa la := by
  refine ⟨?_, ?_, h.ns, h.nl⟩
  · rcases h.s with e | ⟨g, o, e, hg, hc⟩
    · exact .inl e
    · by_cases hz : r.sids = []
      · exact .inl hz
      · exact .inr ⟨g, o, e, Nat.lt_of_lt_of_le hg u.size, fun j x hj => (u.cell (p := ⟨g, o + j, none⟩) hg (hf.1 g o hz e)).trans (hc j x hj)⟩
  · rcases h.l with e | ⟨g, o, e, hg, hc⟩
    · exact .inl e
    · exact .inr ⟨g, o, e, Nat.lt_of_lt_of_le hg u.size, fun j l hj k x hk => (u.cell (p := ⟨g, o + j * 3 + k, none⟩) hg (hf.2 g o e)).trans (hc j l hj k x hk)⟩
/-- A whole record stored into its block. -/
theorem RB.store {w : World} {p : Nat} {q : Rc} {sv lv : Value} (h : RB w p q sv lv) (r : Rc) (s2 l2 : Value) :
    RB (((((((((((((w.setCell ⟨p, 0, none⟩ (.int .i64 r.kind)).setCell ⟨p, 1, none⟩ (.string r.key)).setCell ⟨p, 2, none⟩ (.int .i64 r.n)).setCell ⟨p, 3, none⟩ (.int .i64 r.sid)).setCell ⟨p, 4, none⟩ s2).setCell ⟨p, 5, none⟩ (.int .i64 r.colour)).setCell ⟨p, 6, none⟩ l2).setCell ⟨p, 7, none⟩ (.int .i64 r.t.hot)).setCell ⟨p, 8, none⟩ (.int .i64 r.t.warm)).setCell ⟨p, 9, none⟩ (.int .i64 r.t.gap)).setCell ⟨p, 10, none⟩ (.int .i64 r.t.add)).setCell ⟨p, 11, none⟩ (.int .i64 r.t.top)).setCell ⟨p, 12, none⟩ (.int .i64 r.t.half)) p r s2 l2 :=
  heap13s h _ _ _ _ _ _ _ _ _ _ _ _ _
end Go.Proofs.YtpdkcpjofofkoaaDoor
