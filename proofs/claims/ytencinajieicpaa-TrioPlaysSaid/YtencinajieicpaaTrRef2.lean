/- The document's Trio: common, join. -/
import Derived.Test.YtencinajieicpaaTrRows
import Derived.Test.YtencinajieicpaaTrPack
import Derived.Deep.RegionHeld3
namespace Go.Proofs.Ytencinajieicpaa
open Go.RowKit
set_option linter.unusedVariables false

/-- A row of strings, with its room; its block is new since base. -/
def RSc (base : Nat) (w : World) (v : Value) (l : List (List Nat)) : Prop := RowS w v l ∧ ∃ a c, v = .slice a l.length c ∧ l.length ≤ c ∧ (l.length = 0 ∨ ∃ g o, a = some ⟨g, o, none⟩ ∧ base ≤ g)
theorem RSc.nil (base : Nat) (w : World) : RSc base w (.slice none 0 0) [] := ⟨⟨none, 0, rfl, .inl rfl⟩, none, 0, rfl, Nat.le_refl _, .inl rfl⟩
theorem RSc.nxt {base : Nat} {w w' : World} {v : Value} {l : List (List Nat)} (h : RSc base w v l) (u : Up Nul w w') : RSc base w' v l := ⟨h.1.nxt u, h.2⟩
theorem RSc.up {base : Nat} {X : Nat → Prop} {w w' : World} {v : Value} {l : List (List Nat)} (h : RSc base w v l) (u : Up X w w') (hx : ∀ g, base ≤ g → ¬ X g) : RSc base w' v l := by
  obtain ⟨⟨a0, c0, e0, h⟩, a, c, e, hc, hb⟩ := h
  subst e0
  refine ⟨⟨a0, c0, rfl, ?_⟩, a, c, e, hc, hb⟩
  injection e with e1 e2 e3
  subst e1
  rcases h with h | ⟨g, o, e4, hg, h⟩
  · exact .inl h
  · rcases hb with hb | ⟨g2, o2, e5, hb⟩
    · exact .inl hb
    · rw [e4] at e5
      cases e5
      exact .inr ⟨g, o, e4, Nat.lt_of_lt_of_le hg u.size, fun i z hi => (u.cell (p := ⟨g, o + i, none⟩) hg (hx g hb)).trans (h i z hi)⟩
theorem RSc.of {base b2 : Nat} {w : World} {v : Value} {l : List (List Nat)} (h : OwnV 9 base w v (SrV l)) (hb : b2 ≤ base) : RSc b2 w v l := by
  refine ⟨h.rowS, ?_⟩
  rcases h.2 with ⟨e1, e0⟩ | ⟨g, cap, cur, e1, h2, _, h4, _⟩
  · rw [SrV_length] at e0
    exact ⟨none, 0, by rw [e1, e0], by omega, .inl e0⟩
  · rw [SrV_length] at e1 h4
    exact ⟨_, _, e1, h4, .inr ⟨g, 0, rfl, Nat.le_trans hb h2⟩⟩
theorem RowS.taken {w : World} {a : Option Addr} {m c : Nat} {l : List (List Nat)} (h : RowS w (.slice a m c) l) (n : Nat) (hn : n ≤ l.length) : RowS w (.slice a n c) (l.take n) := by
  obtain ⟨a', c', e, h⟩ := h
  injection e with e1 e2 e3
  subst e1; subst e3
  have hl : (l.take n).length = n := by rw [List.length_take]; omega
  refine ⟨a, c, by rw [hl], ?_⟩
  rcases h with h | ⟨g, o, e1, hg, h⟩
  · exact .inl (by omega)
  · refine .inr ⟨g, o, e1, hg, fun i z hi => h i z ?_⟩
    have hin : i < n := by
      rcases Nat.lt_or_ge i n with h | h
      · exact h
      · rw [List.getElem?_eq_none (by omega)] at hi; cases hi
    rw [List.getElem?_take, if_pos hin] at hi
    exact hi
theorem strs_to (a : Option Addr) (n cap k : Nat) (hk : k ≤ cap) (w : World) :
    (Instr.slice 29 (.slice a n cap) none (some (.int .i64 k)) none).run Try.prog w = .ok (.slice a k cap) w := by
  have hs : (sizeOf (Try.prog.elem 29)).run Try.prog w = .ok 1 w := by
    have h : (Try.prog.info? (Try.prog.elem 29)).map (·.size) = some 1 := by kernel_rfl
    obtain ⟨i, hi, hs⟩ := Option.map_eq_some_iff.1 h
    simp [sizeOf, typeInfo, hi, hs]
  rw [run_slice_h (P := Try.prog) (w := w) 29 a n cap (by kernel_rfl) .i64 k (by omega) (by omega), hs]
  have e : ∀ x : Addr, x.add 0 = x := fun x => by simp [Addr.add]
  cases a <;> simp [Result.andThen, sliced, e]
def Byt (l : List (List Nat)) : Prop := ∀ y ∈ l, ∀ i, y.getD i 0 < 256
set_option maxRecDepth 100000 in
set_option maxHeartbeats 1600000 in
theorem common_any {base : Nat} {w : World} {v1 v2 : Value} {l1 l2 : List (List Nat)} (h1 : RSc base w v1 l1) (h2 : RowS w v2 l2) (hn : l1.length ≤ 1000000 ∧ l2.length ≤ 1000000) (s1 : Byt l1) (s2 : Byt l2) :
    Calls Try.prog 57 #[v1, v2] w fun e w' => ∃ v, e = .returned v ∧ RSc base w' v (com l1 l2) ∧ Up Nul w w' := by
  obtain ⟨h1, a0, c0, e0, hc0, hbs⟩ := h1
  subst e0
  have HTK := hid (h1.taken (com l1 l2).length (com_le l1 l2).1)
  rw [com_take] at HTK
  obtain ⟨a1, c1, e1, r1⟩ := h1
  injection e1 with e1 e2 e3
  subst e1; subst e3
  obtain ⟨a2, c2, rfl, r2⟩ := h2
  have HS : Hid (∀ i x y, l1[i]? = some x → l2[i]? = some y → ((strOf x).toList == (strOf y).toList) = decide (x = y)) := fun i x y hx hy => str_beq (s1 x (List.mem_of_getElem? hx)) (s2 y (List.mem_of_getElem? hy))
  have HA := hid fun i => com_at l1 l2 i
  have HE := hid (com_end l1 l2)
  have hle := com_le l1 l2
  obtain ⟨cm, CM⟩ : ∃ cm, Hid (com l1 l2 = cm) := ⟨_, rfl⟩
  rw [CM.out] at HA HE hle HTK ⊢
  obtain ⟨m, hm⟩ : ∃ m, m = cm.length := ⟨_, rfl⟩
  rw [← hm] at HA HE hle HTK
  obtain ⟨n1, hn1⟩ : ∃ n, n = l1.length := ⟨_, rfl⟩
  obtain ⟨n2, hn2⟩ : ∃ n, n = l2.length := ⟨_, rfl⟩
  rw [← hn1] at HE r1 hle hn hc0 hbs ⊢
  have HBS : Hid (m = 0 ∨ ∃ g o, a0 = some ⟨g, o, none⟩ ∧ base ≤ g) := hbs.imp (fun e => by omega) id
  clear hbs
  rw [← hn2] at HE r2 hle hn ⊢
  have HR1 := hid r1
  have HR2 := hid r2
  have HLE := hid (And.intro hle (And.intro hn hc0))
  have HL := hid (And.intro hn1 (And.intro hn2 hm))
  have hsl := strs_to a0 n1 c0 m (by omega)
  clear r1 r2 hle hn hn1 hn2 hm s1 s2 e2 hc0
  go_enter Try.func57, Try.ntmps57
  go_wp2_with fail
  go_loopw [5] (fun i wr => ∃ t : Nat, t ≤ m ∧ i = .int .i64 (t : Nat) ∧ Up Nul w wr) (fun i _ => m - (intOf i).toNat)
  case atStart => exact ⟨0, Nat.zero_le _, rfl, Up.refl _ _⟩
  case round =>
    obtain ⟨t, ht, rfl, hu⟩ := hrel
    have HU := hid hu
    have i0 : (0 : Int) ≤ (t : Int) := by omega
    have i9 : (t : Int) ≤ 1000000 := by have := HLE.out; omega
    by_cases hx1 : t < n1
    · have i2 : (t : Int) < (n1 : Int) := by omega
      have i2n : t < n1 := hx1
      by_cases hx2 : t < n2
      · have i3 : (t : Int) < (n2 : Int) := by omega
        have i3n : t < n2 := hx2
        obtain ⟨g1, o1, rfl, hg1, hc1⟩ := HR1.out.resolve_left (by omega)
        obtain ⟨g2, o2, rfl, hg2, hc2⟩ := HR2.out.resolve_left (by omega)
        obtain ⟨x, hx⟩ : ∃ x, l1[t]? = some x := ⟨_, List.getElem?_eq_getElem (by have := HL.out; omega)⟩
        obtain ⟨y, hy⟩ : ∃ y, l2[t]? = some y := ⟨_, List.getElem?_eq_getElem (by have := HL.out; omega)⟩
        have x1 := (HU.out.cell (p := ⟨g1, o1 + t, none⟩) hg1 id).trans (hc1 t x hx)
        have x2 := (HU.out.cell (p := ⟨g2, o2 + t, none⟩) hg2 id).trans (hc2 t y hy)
        have hqq := HS.out t x y hx hy
        by_cases hxy : x = y
        · have HLT : Hid (t < m) := by
            show _ < _
            rcases Nat.lt_or_ge t m with h | h
            · exact h
            · exfalso
              obtain rfl : t = m := by omega
              rcases HE.out with h | h | ⟨p, q, h1, h2, h3⟩
              · omega
              · omega
              · rw [hx] at h1; rw [hy] at h2
                injection h1 with h1; injection h2 with h2
                exact h3 (by rw [← h1, ← h2, hxy])
          rw [decide_eq_true hxy] at hqq
          generalize strOf x = sx at x1 hqq
          generalize strOf y = sy at x2 hqq
          clear hx hy hxy hg1 hg2 hc1 hc2 ht hu hx1 hx2
          go_wp2_with fail
          go_quiet (fail)
          have UQ : Hid (Up Nul w (wr.drewN nq)) := HU.out.drewN nq
          generalize wr.drewN nq = w2 at UQ ⊢
          go_wp2_with fail
          go_roundw
          case rel => exact ⟨t + 1, HLT.out, by go_num, UQ.out⟩
          case measure => have := HLT.out; simp [intOf]; omega
        · have HLT : Hid (t = m) := by
            show _ = _
            rcases Nat.lt_or_ge t m with h | h
            · obtain ⟨z, h1, h2⟩ := HA.out t h
              rw [hx] at h1; rw [hy] at h2
              injection h1 with h1; injection h2 with h2
              exact absurd (h1.trans h2.symm) hxy
            · omega
          have hsl2 := hsl
          rw [← HLT.out] at hsl2
          rw [decide_eq_false hxy] at hqq
          generalize strOf x = sx at x1 hqq
          generalize strOf y = sy at x2 hqq
          clear hx hy hxy hg1 hg2 hc1 hc2 ht hu hx1 hx2 hsl
          go_wp2_with fail
          go_quiet (fail)
          have UQ : Hid (Up Nul w (wr.drewN nq)) := HU.out.drewN nq
          generalize wr.drewN nq = w2 at UQ ⊢
          go_wp2_with fail
          go_ret
          have hh := HTK.out.nxt UQ.out
          rw [← HLT.out] at hh
          exact ⟨_, rfl, ⟨hh, _, _, by rw [← HL.out.2.2, ← HLT.out]; rfl, by rw [← HL.out.2.2]; have := HLE.out; omega, by rw [← HL.out.2.2]; exact HBS.out⟩, UQ.out⟩
      · have hmt : t = m := by have := HLE.out; omega
        have i3n : ¬ t < n2 := hx2
        have HMT := hid hmt
        have hsl2 := hsl
        rw [← hmt] at hsl2
        clear hmt ht hu hx1 hx2 hsl
        go_wp2_with fail
        go_quiet (fail)
        have UQ : Hid (Up Nul w (wr.drewN nq)) := HU.out.drewN nq
        generalize wr.drewN nq = w2 at UQ ⊢
        go_wp2_with fail
        go_ret
        have hh := HTK.out.nxt UQ.out
        rw [← HMT.out] at hh
        exact ⟨_, rfl, ⟨hh, _, _, by rw [← HL.out.2.2, ← HMT.out]; rfl, by rw [← HL.out.2.2]; have := HLE.out; omega, by rw [← HL.out.2.2]; exact HBS.out⟩, UQ.out⟩
    · have hmt : t = m := by have := HLE.out; omega
      have i3n : ¬ t < n1 := hx1
      have HMT := hid hmt
      have hsl2 := hsl
      rw [← hmt] at hsl2
      clear hmt ht hu hx1 hsl
      go_wp2_with fail
      go_quiet (fail)
      have UQ : Hid (Up Nul w (wr.drewN nq)) := HU.out.drewN nq
      generalize wr.drewN nq = w2 at UQ ⊢
      go_wp2_with fail
      go_ret
      have hh := HTK.out.nxt UQ.out
      rw [← HMT.out] at hh
      exact ⟨_, rfl, ⟨hh, _, _, by rw [← HL.out.2.2, ← HMT.out]; rfl, by rw [← HL.out.2.2]; have := HLE.out; omega, by rw [← HL.out.2.2]; exact HBS.out⟩, UQ.out⟩
/-! ### 'join' -/
theorem wrap_u8j (n m : Nat) (h : (n : Int) % 256 = (m : Int)) : IntKind.u8.wrap (n : Int) = (m : Int) := by
  rw [← h]
  simp [IntKind.wrap, IntKind.signed, IntKind.bits]
set_option maxRecDepth 100000 in
set_option maxHeartbeats 1600000 in
theorem join_any {w : World} {v : Value} {l : List (List Nat)} (h : RowS w v l) (hr : ∀ y ∈ l, y.length < 256) (hl : l.length ≤ 100000) (hn : (flt l).length ≤ 900000) :
    Calls Try.prog 58 #[v] w fun e w' => e = .returned (.string (strOf (flt l))) ∧ Up Nul w w' := by
  obtain ⟨a, c, rfl, h⟩ := h
  have HR := hid h
  have HN := hid hn
  have HS := hid hr
  obtain ⟨n, N⟩ : ∃ n, Hid (l.length = n) := ⟨_, rfl⟩
  have HNN : Hid (n ≤ 100000) := by show _ ≤ _; rw [← N.out]; exact hl
  have HE : Hid (flt (l.take n) = flt l) := by show _ = _; rw [← N.out, List.take_length]
  rw [N.out] at HR ⊢
  clear h hn hr hl
  go_enter Try.func58, Try.ntmps58
  go_wp2_with fail
  go_loopw [3, 4] (fun s i wr => ∃ t : Nat, t ≤ n ∧ i = .int .i64 (t : Nat) ∧ s = .string (strOf (flt (l.take t))) ∧ Up Nul w wr) (fun _ i _ => n - (intOf i).toNat)
  case atStart => exact ⟨0, Nat.zero_le _, rfl, rfl, Up.refl _ _⟩
  case round =>
    obtain ⟨t, ht, rfl, rfl, hu⟩ := hrel
    have HU := hid hu
    clear hu
    have i1 : (0 : Int) ≤ (t : Int) := by omega
    have i3 : (t : Int) ≤ 100000 := by have := HNN.out; omega
    by_cases hlt : t < n
    · obtain ⟨g, o, rfl, hg, hc⟩ := HR.out.resolve_left (by omega)
      have htl : t < l.length := by rw [N.out]; exact hlt
      have x0 := hc t l[t] (List.getElem?_eq_getElem htl)
      have x1 := (HU.out.cell (p := ⟨g, o + t, none⟩) hg id).trans x0
      have HX := hid (flt_succ htl)
      have HZS := hid (HS.out l[t] (List.getElem_mem htl))
      have HB : Hid ((flt (l.take t)).length + 1 + l[t].length ≤ 900000) := by
        have := congrArg List.length HX.out
        obtain ⟨s, h2⟩ := flt_take l (t + 1)
        have h2 := congrArg List.length h2
        have := HN.out
        simp only [List.length_append, List.length_cons, List.length_nil] at *
        show _ ≤ _
        omega
      generalize l[t] = y at x1 HX HZS HB
      obtain ⟨k, K⟩ : ∃ k, Hid (y.length = k) := ⟨_, rfl⟩
      have hm := wrap_u8j k k (by have := HZS.out; have := K.out; omega)
      have hk1 : (strOf y).size = k := by rw [strOf_size]; exact K.out
      have hk2 : (strOf (flt (l.take t))).size ≤ 900000 := by rw [strOf_size]; have := HB.out; omega
      have hk3 : (strOf [k]).size = 1 := strOf_size [k]
      have hk4 : (strOf (flt (l.take t)) ++ strOf [k]).size ≤ 900000 := by rw [strOf_append, strOf_size, List.length_append]; have := HB.out; simp only [List.length_cons, List.length_nil]; omega
      have hk6 : ¬ 9223372036854775807 < (strOf (flt (l.take t))).size + 1 := by omega
      have hk7 : ¬ 9223372036854775807 < (strOf (flt (l.take t)) ++ strOf [k]).size + k := by have := HZS.out; have := K.out; omega
      have hk8 : ¬ 9223372036854775807 < (strOf (flt (l.take t))).size + 1 + k := by have := HZS.out; have := K.out; omega
      have hk5 : k ≤ 255 := by have := HZS.out; have := K.out; omega
      have kc := (byte_sln wr k (by omega)).conv 1
      have kc2 : (convert 30 9 (.slice (some ⟨wr.heap.size, 0, none⟩) 1 1)).run Try.prog (wr.alloc (.cells #[.int .u8 (k : Nat)] 5)).drew = .ok (.string (strOf [k])) (wr.alloc (.cells #[.int .u8 (k : Nat)] 5)).drew := ((byte_sln wr k (by omega)).nxt ((Up.refl Nul _).drew)).conv 1
      have e0 : strOf (flt (l.take t)) ++ strOf [k] ++ strOf y = strOf (flt (l.take (t + 1))) := by rw [strOf_append, strOf_append, HX.out, K.out]
      have x2 : (wr.alloc (.cells #[.int .u8 (k : Nat)] 5)).cell? ⟨g, o + t, none⟩ = some (.string (strOf y)) := (((Up.refl Nul wr).alloc (.cells #[.int .u8 (k : Nat)] 5)).cell (p := ⟨g, o + t, none⟩) (Nat.lt_of_lt_of_le hg HU.out.size) id).trans x1
      have U2 := hid (HU.out.alloc (.cells #[.int .u8 (k : Nat)] 5))
      have i2 : (t : Int) < (n : Int) := by omega
      have HT := hid hlt
      generalize strOf y = sy at x1 hk1 e0 x2
      generalize strOf (flt (l.take t)) = sp at hk2 hk4 hk6 hk7 hk8 e0 ⊢
      generalize strOf [k] = sk at hk3 hk4 hk7 kc kc2 e0
      generalize hsn : strOf (flt (l.take (t + 1))) = sn at e0
      have HSN := hid hsn
      clear hc hg ht hlt x0 htl hsn
      go_wp2_with fail
      refine wp_region_held_drew (S := (fun W => W.cell? ⟨g, o + t, none⟩ = some (.string sy))) (by kernel_rfl) (by exact x1) (fun hHeld => ?_)
      refine wpAnyH_take (i := 0) (oi := ⟨some 11, _, _, _, _, _⟩) (v := ?vr1) rfl (by kernel_rfl) (by kernel_rfl) (by kernel_rfl) (fun _ _ _ h => h) (Or.inl ⟨by rfl, ?yr1⟩) (by assumption) ?rr1
      case yr1 => (intro w hSw; (try dsimp only at hSw); go_simp; try with_reducible rfl)
      try simp only [Act.put, List.setIfInBounds_toArray, List.set_cons_zero, List.set_cons_succ]
      refine wpAnyH_take (i := 1) (oi := ⟨some 12, _, _, _, _, _⟩) (v := ?vr2) rfl (by kernel_rfl) (by kernel_rfl) (by kernel_rfl) (fun _ _ _ h => h) (Or.inl ⟨by rfl, ?yr2⟩) (by assumption) ?rr2
      case yr2 => (intro w hSw; (try dsimp only at hSw); go_simp; try with_reducible rfl)
      try simp only [Act.put, List.setIfInBounds_toArray, List.set_cons_zero, List.set_cons_succ]
      refine wpAnyH_take (i := 2) (oi := ⟨some 13, _, _, _, _, _⟩) (v := ?vr3) rfl (by kernel_rfl) (by kernel_rfl) (by kernel_rfl) (fun _ _ _ h => h) (Or.inl ⟨by rfl, ?yr3⟩) (by assumption) ?rr3
      case yr3 => (intro w hSw; (try dsimp only at hSw); go_simp; try with_reducible rfl)
      try simp only [Act.put, List.setIfInBounds_toArray, List.set_cons_zero, List.set_cons_succ]
      refine wpAnyH_take (i := 3) (oi := ⟨some 14, _, _, _, _, _⟩) (v := ?vr4) rfl (by kernel_rfl) (by kernel_rfl) (by kernel_rfl) (fun _ _ _ h => h) (Or.inl ⟨by rfl, ?yr4⟩) (by assumption) ?rr4
      case yr4 => (intro w hSw; (try dsimp only at hSw); go_simp; try with_reducible rfl)
      try simp only [Act.put, List.setIfInBounds_toArray, List.set_cons_zero, List.set_cons_succ]
      refine wpAnyH_take (i := 4) (oi := ⟨some 15, _, _, _, _, _⟩) (v := ?vr5) rfl (by kernel_rfl) (by kernel_rfl) (by kernel_rfl) (fun _ _ _ h => h) (Or.inl ⟨by rfl, ?yr5⟩) (by assumption) ?rr5
      case yr5 => (intro w hSw; (try dsimp only at hSw); go_simp; try with_reducible rfl)
      try simp only [Act.put, List.setIfInBounds_toArray, List.set_cons_zero, List.set_cons_succ]
      refine wpAnyH_take (i := 5) (oi := ⟨some 16, _, _, _, _, _⟩) (v := ?vr6) rfl (by kernel_rfl) (by kernel_rfl) (by kernel_rfl) (fun _ _ _ h => h) (Or.inl ⟨by rfl, ?yr6⟩) (by assumption) ?rr6
      case yr6 => (intro w hSw; (try dsimp only at hSw); go_simp; try with_reducible rfl)
      try simp only [Act.put, List.setIfInBounds_toArray, List.set_cons_zero, List.set_cons_succ]
      refine wpAnyH_take (i := 6) (oi := ⟨some 17, _, _, _, _, _⟩) (v := ?vr7) rfl (by kernel_rfl) (by kernel_rfl) (by kernel_rfl) (fun _ _ _ h => h) (Or.inl ⟨by rfl, ?yr7⟩) (by assumption) ?rr7
      case yr7 => (intro w hSw; (try dsimp only at hSw); go_simp; try with_reducible rfl)
      try simp only [Act.put, List.setIfInBounds_toArray, List.set_cons_zero, List.set_cons_succ]
      refine wpAnyH_take (i := 10) (oi := ⟨some 21, _, _, _, _, _⟩) (v := ?vr8) rfl (by kernel_rfl) (by kernel_rfl) (by kernel_rfl) (fun _ _ _ h => h) (Or.inl ⟨by rfl, ?yr8⟩) (by assumption) ?rr8
      case yr8 => (intro w hSw; (try dsimp only at hSw); go_simp; try with_reducible rfl)
      try simp only [Act.put, List.setIfInBounds_toArray, List.set_cons_zero, List.set_cons_succ]
      refine wpAnyH_take (i := 11) (oi := ⟨some 22, _, _, _, _, _⟩) (v := ?vr9) rfl (by kernel_rfl) (by kernel_rfl) (by kernel_rfl) (fun _ _ _ h => h) (Or.inl ⟨by rfl, ?yr9⟩) (by assumption) ?rr9
      case yr9 => (intro w hSw; (try dsimp only at hSw); go_simp; try with_reducible rfl)
      try simp only [Act.put, List.setIfInBounds_toArray, List.set_cons_zero, List.set_cons_succ]
      refine wpAnyH_take (i := 12) (oi := ⟨some 23, _, _, _, _, _⟩) (v := ?vr10) rfl (by kernel_rfl) (by kernel_rfl) (by kernel_rfl) (fun _ _ _ h => h) (Or.inl ⟨by rfl, ?yr10⟩) (by assumption) ?rr10
      case yr10 => (intro w hSw; (try dsimp only at hSw); go_simp; try with_reducible rfl)
      try simp only [Act.put, List.setIfInBounds_toArray, List.set_cons_zero, List.set_cons_succ]
      refine wpAnyH_take (i := 13) (oi := ⟨some 24, _, _, _, _, _⟩) (v := ?vr11) rfl (by kernel_rfl) (by kernel_rfl) (by kernel_rfl) (fun _ _ _ h => h) (Or.inl ⟨by rfl, ?yr11⟩) (by assumption) ?rr11
      case yr11 => (intro w hSw; (try dsimp only at hSw); go_simp; try with_reducible rfl)
      try simp only [Act.put, List.setIfInBounds_toArray, List.set_cons_zero, List.set_cons_succ]
      refine wpAnyH_ready (rs := [7]) (by kernel_rfl) (by simp) ?_
      refine AllReadyH.cons (o := ⟨some 18, _, _, _, _, _⟩) rfl (fun K hK => ?_) AllReadyH.nil
      go_simp
      skip
      refine hK.out _ _ ?kr12 (fun hHeld => ?_)
      case kr12 => exact x2
      clear hK K
      try simp only [Act.put, List.setIfInBounds_toArray, List.set_cons_zero, List.set_cons_succ]
      refine wpAnyH_ready (rs := [8]) (by kernel_rfl) (by simp) ?_
      refine AllReadyH.cons (o := ⟨some 19, _, _, _, _, _⟩) rfl (fun K hK => ?_) AllReadyH.nil
      go_simp
      skip
      refine hK.out _ _ ?kr13 (fun hHeld => ?_)
      case kr13 => exact x2
      clear hK K
      try simp only [Act.put, List.setIfInBounds_toArray, List.set_cons_zero, List.set_cons_succ]
      refine wpAnyH_ready (rs := [9]) (by kernel_rfl) (by simp) ?_
      refine AllReadyH.cons (o := ⟨some 20, _, _, _, _, _⟩) rfl (fun K hK => ?_) AllReadyH.nil
      go_simp
      skip
      refine hK.out _ _ ?kr14 (fun hHeld => ?_)
      case kr14 => exact x2
      clear hK K
      try simp only [Act.put, List.setIfInBounds_toArray, List.set_cons_zero, List.set_cons_succ]
      refine wpAnyH_ready (rs := [14]) (by kernel_rfl) (by simp) ?_
      refine AllReadyH.cons (o := ⟨some 25, _, _, _, _, _⟩) rfl (fun K hK => ?_) AllReadyH.nil
      go_simp
      skip
      refine hK.out _ _ ?kr15 (fun hHeld => ?_)
      case kr15 => exact x2
      clear hK K
      try simp only [Act.put, List.setIfInBounds_toArray, List.set_cons_zero, List.set_cons_succ]
      refine wpAnyH_ready (rs := [15]) (by kernel_rfl) (by simp) ?_
      refine AllReadyH.cons (o := ⟨some 3, _, _, _, _, _⟩) rfl (fun K hK => ?_) AllReadyH.nil
      go_simp
      skip
      refine hK.out _ _ ?kr16 (fun hHeld => ?_)
      case kr16 => exact x2
      clear hK K
      try simp only [Act.put, List.setIfInBounds_toArray, List.set_cons_zero, List.set_cons_succ]
      refine wpAnyH_done (by kernel_rfl) ?_ _
      go_wp2_with fail
      go_roundw
      case rel => exact ⟨t + 1, HT.out, by go_num, by rw [HSN.out], U2.out.drew⟩
      case measure => have := HT.out; simp [intOf]; omega
    · obtain rfl : t = n := by omega
      go_wp2_with fail
      go_ret
      exact ⟨congrArg (fun x => Ending.returned (.string (strOf x))) HE.out, HU.out⟩
end Go.Proofs.Ytencinajieicpaa
