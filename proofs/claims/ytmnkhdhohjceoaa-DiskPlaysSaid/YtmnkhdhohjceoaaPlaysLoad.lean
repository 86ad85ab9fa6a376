/- One call of the script, copied out; what both Disks tell behind it. -/
import Derived.Test.YtmnkhdhohjceoaaPlaysOps
namespace Go.Proofs.Ytmnkhdhohjceoaa
open Go.RowKit
set_option linter.unusedVariables false

/-- The six cells of a call. -/
def opcs (v : OpV) : List Value := [.int .i64 v.kind, .int .i64 v.slot, .int .i64 v.at_, .int .i64 v.n, .int .u8 v.fill, .slice v.ba v.bl v.bc]
/-- A call in a block of its own. -/
structure OpB (W : World) (q : Nat) (v : OpV) : Prop where
  heap : W.heap[q]? = some (.cells (opcs v).toArray 39 (0, 0))
section
variable {W W' : World} {q : Nat} {v : OpV}
theorem OpB.c0 (h : OpB W q v) : W.cell? ⟨q, 0, none⟩ = some (.int .i64 v.kind) := by simp [World.cell?, h.heap, opcs]
theorem OpB.c1 (h : OpB W q v) : W.cell? ⟨q, 1, none⟩ = some (.int .i64 v.slot) := by simp [World.cell?, h.heap, opcs]
theorem OpB.c2 (h : OpB W q v) : W.cell? ⟨q, 2, none⟩ = some (.int .i64 v.at_) := by simp [World.cell?, h.heap, opcs]
theorem OpB.c3 (h : OpB W q v) : W.cell? ⟨q, 3, none⟩ = some (.int .i64 v.n) := by simp [World.cell?, h.heap, opcs]
theorem OpB.c4 (h : OpB W q v) : W.cell? ⟨q, 4, none⟩ = some (.int .u8 v.fill) := by simp [World.cell?, h.heap, opcs]
theorem OpB.c5 (h : OpB W q v) : W.cell? ⟨q, 5, none⟩ = some (.slice v.ba v.bl v.bc) := by simp [World.cell?, h.heap, opcs]
theorem op_dr : ¬ DR 39 := by unfold DR DD RT; decide
theorem OpB.ks (h : OpB W q v) (k : Ks DR W W') : OpB W' q v := ⟨k.kept _ _ _ _ h.heap op_dr⟩
theorem OpB.new (W : World) (v : OpV) : OpB (W.alloc (.cells (opcs v).toArray 39)) W.heap.size v := ⟨heap_alloc_new _ _⟩
end
theorem opcs_length (v : OpV) : (opcs v).length = 6 := rfl
theorem one_opcs (v : OpV) : ∀ x ∈ opcs v, x.oneCell' = true := by
  intro x hx
  simp only [opcs, List.mem_cons, List.not_mem_nil, or_false] at hx
  rcases hx with rfl | rfl | rfl | rfl | rfl | rfl <;> rfl
theorem info_op : (Try.prog.info? 39).map (·.size) = some 6 := by kernel_rfl
theorem zero_op : ∃ Z : Array Value, Z.size = 6 ∧ ∀ W, (zeroValue 39).run Try.prog W = .ok (.agg Z) W := by
  have h : (Try.prog.info? 39).map (fun i => i.zero.map fun z => match z with | .agg Z => some Z.size | _ => none) = some (some (some 6)) := by kernel_rfl
  cases e : Try.prog.info? 39 with
  | none => rw [e] at h; cases h
  | some i =>
    rw [e] at h
    simp only [Option.map_some, Option.some.injEq, Option.map_eq_some_iff] at h
    obtain ⟨z, h1, h2⟩ := h
    cases z with
    | agg Z => exact ⟨Z, by simpa using h2, fun W => by simp [zeroValue, typeInfo, e, h1]⟩
    | _ => simp at h2
/-- The bytes of a call. -/
theorem OpAt.bytes {w : World} {g o : Nat} {v : OpV} (h : OpAt w g o v) : ∃ z, SlN w v.ba v.bl z ∧ (v.bl = 96 → ∀ q, v.ba = some q → q.block < w.heap.size) := by
  obtain ⟨z, hz⟩ := SlN.of h.wb
  refine ⟨z, hz, fun h96 q hq => ?_⟩
  rcases hz.row with e | ⟨b, o, e, hb, _⟩
  · omega
  · rw [hq] at e
    cases e
    exact hb

/-- What both Disks tell where the script stands. -/
theorem px_rest {v w0 w : World} {b n f mm g i : Nat} (h : PX v w0 w b n f mm g i) : ∃ (live d : Bool) (L : Nat) (sa : Option Addr) (sc : Nat) (wa : Option Addr) (wc : Nat),
    (∀ W, Up Nul w W → Calls Try.prog 29 #[.pointer (some ⟨b, 0, none⟩)] W fun e w' => e = .returned (.bool live) ∧ w' = W) ∧
    (∀ W, Up Nul w W → Calls Try.prog 30 #[.pointer (some ⟨f, 0, none⟩)] W fun e w' => e = .returned (.bool d) ∧ w' = W) ∧
    (∀ W, Up Nul w W → Calls Try.prog 31 #[.pointer (some ⟨g, 0, none⟩)] W fun e w' => e = .returned (.bool d) ∧ w' = W) ∧
    (∀ W, Up Nul w W → Calls Try.prog 32 #[.pointer (some ⟨b, 0, none⟩)] W fun e w' => e = .returned (.int .i64 (L : Nat)) ∧ w' = W) ∧
    (∀ W, Up Nul w W → W.cell? ⟨mm, 0, none⟩ = some (.slice sa n sc) ∧ W.cell? ⟨mm, 1, none⟩ = some (.bool live) ∧ W.cell? ⟨mm, 2, none⟩ = some (.slice wa L wc)) ∧
    (live = true → ∀ s, s < n → ∃ q z, sa = some ⟨q, 0, none⟩ ∧ ∀ W, Up Nul w W → W.cell? ⟨q, s, none⟩ = some (.string (strOf z)) ∧
      Calls Try.prog 17 #[.pointer (some ⟨b, 0, none⟩), .int .i64 s] W fun e w' => ∃ a c, e = .returned (.tuple #[.slice a 96 c, .int .i64 0]) ∧ Got W w' a 96 c z) := by
  obtain ⟨k, live, R, ps, r, h1, h2, rfl, rfl⟩ := h
  have fz : FzO w (some f) k := h1.pm.hd.fz
  refine ⟨live, k == some 0, ps.length, r.sa, r.sc, r.wa, r.wc, fun W u => liveH (h1.pm.hd.nxt u), fun W u => dead_any (some f) k W (fz.up u fun _ _ => id), fun W u => rdead_any r.fu k W (h1.pm.rf.up u id), fun W u => pendingH (h1.pm.hd.nxt u), fun W u => ?_, ?_⟩
  · have d := h1.pm.rd.nxt u
    have c0 := d.c0
    have c1 := d.c1
    have c2 := d.c2
    rw [h1.rn] at c0
    rw [h1.rl] at c1
    rw [h1.len] at c2
    exact ⟨c0, c1, c2⟩
  · rintro rfl s hs
    obtain ⟨q, e1, _, _, e4, _⟩ := h1.pm.rd.slot (s := s) (by rw [h1.rn]; exact hs)
    rw [h1.inv.same s hs] at e4
    exact ⟨q, R s, e1, fun W u => ⟨(u.cell (p := ⟨q, s, none⟩) (lt_of_cell e4) id).trans e4, readH (h1.pm.hd.nxt u) hs⟩⟩
/-- A new pair of Disks. -/
theorem px_new {w0 w : World} {b f mm g n : Nat} {k : Option Nat} {r : RK} (hd : H w0 w b n (some f) k true (fun _ => zer 96) []) (rd : RD w r) (rf : RFz w r.fu k) (h1 : r.n = n) (h2 : r.live = true) (h3 : r.ws = []) (h4 : r.R = fun _ => zer 96) (h5 : ∀ q, r.foot q → w0.heap.size ≤ q) (h6 : w0.heap.size ≤ r.fu) (u : Up Nul w0 w) (e1 : r.m = mm) (e2 : r.fu = g) : PX w w0 w b n f mm g 0 :=
  ⟨k, true, _, [], r, ⟨⟨hd, rd, rf, h5, h6, u, Ks.refl _ _⟩, h1, h2, by rw [h3, h4]; exact Inv.none fun _ _ => rfl, H.sm hd⟩, Nat.le_refl _, e1, e2⟩
end Go.Proofs.Ytmnkhdhohjceoaa
