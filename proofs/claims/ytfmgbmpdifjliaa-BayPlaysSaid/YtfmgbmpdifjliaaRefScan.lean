/- The document's Bay: 'Scan'; rows of chunks. -/
import Derived.Test.YtfmgbmpdifjliaaRefBay
namespace Go.Proofs.Ytfmgbmpdifjliaa
open Go.RowKit
set_option linter.unusedVariables false

/-- A chunk as cells: its slot, its id, how many bytes. -/
structure Ck where
  slot : Nat
  id : Nat
  n : Nat
def Ck.cells (c : Ck) : List Value := [.int .i64 (c.slot : Nat), .int .i64 (c.id : Nat), .int .i64 (c.n : Nat)]
def ckV (l : List Ck) : List Value := (l.map Ck.cells).flatten
theorem ckV_snoc (l : List Ck) (c : Ck) : ckV (l ++ [c]) = ckV l ++ c.cells := by simp [ckV]
/-- A slice of chunks of the call's own. -/
def OwnK (base : Nat) (w : World) (v : Value) (l : List Ck) : Prop := w.ownsRow base 38 3 v l.length (ckV l)
theorem OwnK.nil (base : Nat) (w : World) : OwnK base w (.slice none 0 0) [] := World.ownsRow_nil _ _ _ _
theorem OwnK.alloc {base : Nat} {w : World} {v : Value} {l : List Ck} (h : OwnK base w v l) (o : Obj) : OwnK base (w.alloc o) v l := World.ownsRow.alloc h o
theorem OwnK.drewN {base : Nat} {w : World} {v : Value} {l : List Ck} (h : OwnK base w v l) (n : Nat) : OwnK base (w.drewN n) v l := h
theorem OwnK.up {S : Nat → Prop} {base : Nat} {w w' : World} {v : Value} {l : List Ck} (h : OwnK base w v l) (u : Up S w w') (hs : ∀ k, base ≤ k → k < w.heap.size → ¬ S k) : OwnK base w' v l := by
  refine ⟨h.1, ?_⟩
  rcases h.2 with hn | ⟨g, cap, cur, h1, h2, h3, h4⟩
  · exact .inl hn
  · have hl := (Array.getElem?_eq_some_iff.1 h3).1
    exact .inr ⟨g, cap, cur, h1, h2, (u.block g hl (hs g h2 hl)).trans h3, h4⟩
theorem OwnK.base {base : Nat} {w : World} {v : Value} {l : List Ck} (h : OwnK base w v l) : ∀ k, v.ownBlock = some k → base ≤ k := fun k hk => (World.ownsRow.lt h k hk).1
theorem OwnK.shape {base : Nat} {w : World} {v : Value} {l : List Ck} (h : OwnK base w v l) : ∃ a cap, v = .slice a l.length cap := by
  rcases h.2 with ⟨e, e0⟩ | ⟨g, cap, cur, e, _⟩
  · exact ⟨none, 0, by rw [e, e0]⟩
  · exact ⟨_, _, e⟩
theorem ck_one (c : Ck) : ∀ v ∈ c.cells, v.oneCell' = true := by
  intro v hv
  simp only [Ck.cells, List.mem_cons, List.not_mem_nil, or_false] at hv
  rcases hv with rfl | rfl | rfl <;> rfl
theorem info_ck : ∃ i z, Try.prog.info? 38 = some i ∧ i.zero = some z ∧ i.size = 3 ∧ i.bytes = 24 ∧ z.cells.size = 3 := by
  have h : (Try.prog.info? 38).map (fun i => (i.size, i.bytes, i.zero.map fun z => z.cells.size)) = some (3, 24, some 3) := by kernel_rfl
  cases e : Try.prog.info? 38 with
  | none => rw [e] at h; cases h
  | some i =>
    rw [e] at h
    simp only [Option.map_some, Option.some.injEq, Prod.mk.injEq, Option.map_eq_some_iff] at h
    obtain ⟨h1, h2, z, h3, h4⟩ := h
    exact ⟨i, z, rfl, h3, h1, h2, h4⟩
/-- append(l, one chunk). -/
theorem wpList_append_ck {w : World} {ops : Array Oper} {rest : List Oper} {o : Oper} {a : Act} {Q : Exit → Act → World → Prop} (hgd : o.guard = none) (s x : Operand)
    (ho : o.op = .call { callee := .builtin .append, args := #[s, x], argTypes := #[35, 35] }) (base : Nat) (v : Value) (l : List Ck) (hs : a.eval s = v) (hown : OwnK base w v l)
    (ad : Addr) (cap : Nat) (c : Ck) (hx : a.eval x = .slice (some ad) 1 cap) (hc : ∀ j u, c.cells[j]? = some u → w.cell? (ad.add j) = some u) (hl : l.length + 1 ≤ 1000000) (hbase : base ≤ w.heap.size)
    (h : ∀ v' w', Hid (OwnK base w' v' (l ++ [c])) → Hid (w.grownBy w' v.ownBlock) → wpList Try.prog ops Q rest (a.put o.dst v') w') : wpList Try.prog ops Q (o :: rest) a w := by
  obtain ⟨i0, z0, hi, hz, hz1, hz2, hz3⟩ := info_ck
  refine wpList_append_own w hgd s x 35 ho base 38 i0 z0 3 24 Try.underlying35 hi hz hz1 hz2 hz3 (by decide) v l.length (ckV l) hs hown ad 1 cap c.cells hx rfl hc (ck_one c) (by unfold maxLen; omega) (by omega) hbase fun v' w' g1 g2 _ => h v' w' ?_ g2
  show w'.ownsRow base _ 3 v' (l ++ [c]).length (ckV (l ++ [c]))
  rw [List.length_append, ckV_snoc]
  exact g1
/-- What is found in the first k slots. -/
def scn (R : Nat → List Nat) : Nat → List Ck
  | 0 => []
  | k + 1 => match FrM.tk (R k) with
    | some (id, d) => scn R k ++ [⟨k, id, d.length⟩]
    | none => scn R k
theorem scn_length (R : Nat → List Nat) (k : Nat) : (scn R k).length ≤ k := by
  induction k with
  | zero => exact Nat.le_refl _
  | succ k ih =>
    rw [scn]
    split
    · rw [List.length_append]; exact Nat.succ_le_succ ih
    · omega
theorem scn_yes {R : Nat → List Nat} {k id : Nat} {d : List Nat} (h : FrM.tk (R k) = some (id, d)) : scn R (k + 1) = scn R k ++ [⟨k, id, d.length⟩] := by rw [scn, h]
theorem scn_no {R : Nat → List Nat} {k : Nat} (h : FrM.tk (R k) = none) : scn R (k + 1) = scn R k := by rw [scn, h]

section
variable {w w' : World} {bb ub n : Nat} {U : Nat → Bool}
theorem rscan_gone (r : RK) (w : World) (h : RB w bb r.m ub r.n U) (hr : RD w r) (hl : r.live = false) :
    Calls Try.prog 35 #[.pointer (some ⟨bb, 0, none⟩)] w fun e w' => e = .returned (.slice none 0 0) ∧ w' = w := by
  have c0 := h.c0
  have c1 := h.c1
  have d1 := hr.c1
  rw [hl] at d1
  have hle := h.le
  generalize r.m = m at c0 d1
  generalize r.n = n at c1 hle
  clear h hr hl
  go_enter Try.func35, Try.ntmps35
  go_wp2_with fail
  go_loopw [3, 4] (fun v i wr => v = .slice none 0 0 ∧ i = .int .i64 0 ∧ wr = w) (fun _ i _ => 0)
  case atStart => exact ⟨rfl, rfl, rfl⟩
  case round =>
    obtain ⟨rfl, rfl, rfl⟩ := hrel
    by_cases h0 : 0 < n
    · have i1 : (0 : Int) < (n : Int) := by omega
      go_wp2
      go_ret
      exact ⟨rfl, rfl⟩
    · obtain rfl : n = 0 := by omega
      go_wp2
      go_ret
      exact ⟨rfl, rfl⟩
set_option maxRecDepth 100000 in
set_option maxHeartbeats 1600000 in
theorem rscan_live (r : RK) (w : World) (h : RB w bb r.m ub r.n U) (hr : RD w r) (hl : r.live = true) (h8 : ∀ s, s < r.n → ∀ v ∈ r.R s, v < 256) :
    Calls Try.prog 35 #[.pointer (some ⟨bb, 0, none⟩)] w fun e w' => ∃ v, e = .returned v ∧ OwnK w.heap.size w' v (scn r.R r.n) ∧ Up Nul w w' := by
  have HC : Hid (∀ W, Up Nul w W → W.cell? ⟨bb, 0, none⟩ = some (.pointer (some ⟨r.m, 0, none⟩)) ∧ W.cell? ⟨bb, 1, none⟩ = some (.slice (some ⟨ub, 0, none⟩) r.n r.n) ∧ W.cell? ⟨r.m, 1, none⟩ = some (.bool true) ∧ W.cell? ⟨r.m, 0, none⟩ = some (.slice r.sa r.n r.sc)) := fun W u => by
    have d1 := (hr.nxt u).c1
    rw [hl] at d1
    exact ⟨(h.nxt u).c0, (h.nxt u).c1, d1, (hr.nxt u).c0⟩
  have HSL : Hid (∀ s, s < r.n → ∃ g, r.sa = some ⟨g, 0, none⟩ ∧ ∀ W, Up Nul w W → W.cell? ⟨g, s, none⟩ = some (.string (strOf (r.R s)))) := fun s hs => by
    obtain ⟨g, e1, _, _, e4, _⟩ := hr.slot hs
    exact ⟨g, e1, fun W u => (u.cell (p := ⟨g, s, none⟩) (lt_of_cell e4) id).trans e4⟩
  have HTK : Hid (∀ s, s < r.n → ∀ W, Calls Try.prog 53 #[.string (strOf (r.R s))] W (RTook (r.R s) W)) := fun s hs W => rtake_any (r.R s) W (h8 s hs) (by rw [hr.lenR s hs]; omega)
  have HLE : Hid (r.n ≤ 64) := h.le
  obtain ⟨R, RR⟩ : ∃ R, Hid (r.R = R) := ⟨_, rfl⟩
  rw [RR.out] at HSL HTK ⊢
  generalize r.m = m at HC
  generalize r.n = n at HC HSL HTK HLE ⊢
  generalize r.sa = sa at HC HSL
  generalize r.sc = sc at HC
  clear h hr hl h8 RR
  go_enter Try.func35, Try.ntmps35
  go_wp2_with fail
  go_loopw [3, 4] (fun v i wr => ∃ t : Nat, t ≤ n ∧ i = .int .i64 (t : Nat) ∧ OwnK w.heap.size wr v (scn R t) ∧ Up Nul w wr) (fun _ i _ => n - (intOf i).toNat)
  case atStart => exact ⟨0, Nat.zero_le _, rfl, OwnK.nil _ _, Up.refl _ _⟩
  case round =>
    obtain ⟨t, ht, rfl, ho, hu⟩ := hrel
    have HO := hid ho
    have HU := hid hu
    clear ho hu
    obtain ⟨k0, k1, k2, k3⟩ := HC.out _ HU.out
    have i0 : (0 : Int) ≤ (t : Int) := by omega
    have i2 : (t : Int) ≤ 64 := by have := HLE.out; omega
    obtain ⟨va, vc, rfl⟩ := HO.out.shape
    by_cases hlt : t < n
    · have i1 : (t : Int) < (n : Int) := by omega
      obtain ⟨g, rfl, hs⟩ := HSL.out t hlt
      have k4 := hs _ HU.out
      have HT := hid hlt
      have HTT := hid (HTK.out t hlt)
      unfold RTook at HTT
      clear hlt ht hs
      obtain ⟨sr, SR⟩ : ∃ s, Hid (strOf (R t) = s) := ⟨_, rfl⟩
      rw [SR.out] at k4 HTT
      obtain ⟨L, LL⟩ : ∃ L, Hid ((scn R t).length = L) := ⟨_, rfl⟩
      have HLL : Hid (L ≤ 64) := by show _ ≤ _; have := scn_length R t; have := HT.out; have := HLE.out; rw [LL.out] at *; omega
      rw [LL.out] at HO ⊢
      go_wp2_with fail
      refine (HTT.out wr).mono ?_
      rintro e w2 (⟨h1, rfl, u⟩ | ⟨h1, rfl, u⟩)
      · have HY := hid (scn_yes h1)
        have HU2 := hid (HU.out.trans u)
        have HO2 := hid (HO.out.up u fun _ _ _ => id)
        have HSD : Hid ((strOf (FrM.datOf (R t))).size = (FrM.datOf (R t)).length) := strOf_size _
        clear h1 u k0 k1 k2 k3 k4
        generalize (FrM.datOf (R t)).length = dl at HY HSD
        generalize strOf (FrM.datOf (R t)) = sd at HSD ⊢
        generalize FrM.idOf (R t) = iz at HY ⊢
        have HCK : Hid (∀ (W : World) j u, (Ck.cells ⟨t, iz, dl⟩)[j]? = some u → (W.alloc (.cells #[.int .i64 (t : Nat), .int .i64 (iz : Nat), .int .i64 (dl : Nat)] 38)).cell? (Addr.add ⟨W.heap.size, 0, none⟩ j) = some u) := fun W j u hj => by
          rw [add_off, Nat.zero_add, World.cell?_alloc_new]
          simpa [Ck.cells] using hj
        have hsd := HSD.out
        go_wp2_with (first
          | (at_builtin; refine wpList_append_ck rfl (.tmp 42) (.tmp 48) rfl w.heap.size _ (scn R t) rfl (HO2.out.alloc _) ⟨w2.heap.size, 0, none⟩ 1 ⟨t, iz, dl⟩ rfl (HCK.out w2) (by rw [LL.out]; have := HLL.out; omega) (HU2.out.alloc _).size ?_; intro v3 w3 H3 K3)
          | fail)
        have H4 : Hid (OwnK w.heap.size w3 v3 (scn R (t + 1))) := by show OwnK _ _ _ _; rw [HY.out]; exact H3.out
        have U3 : Hid (Up Nul w w3) := (HU2.out.alloc _).grown K3.out fun q hq => HO2.out.base q hq
        clear HY H3 K3 hsd
        go_wp2_with fail
        go_roundw
        case rel => exact ⟨t + 1, HT.out, by go_num, H4.out, U3.out⟩
        case measure => have := HT.out; simp [intOf]; omega
      · have HY := hid (scn_no h1)
        have HU2 := hid (HU.out.trans u)
        have HO2 : Hid (OwnK w.heap.size w2 (.slice va L vc) (scn R (t + 1))) := by show OwnK _ _ _ _; rw [HY.out]; exact HO.out.up u fun _ _ _ => id
        clear h1 u HY
        go_wp2_with fail
        go_roundw
        case rel => exact ⟨t + 1, HT.out, by go_num, HO2.out, HU2.out⟩
        case measure => have := HT.out; simp [intOf]; omega
    · obtain rfl : t = n := by omega
      go_wp2_with fail
      go_ret
      exact ⟨_, rfl, HO.out, HU.out⟩
end
end Go.Proofs.Ytfmgbmpdifjliaa
