/- Rows as strings: the document's 'Strings', 'Same', 'Full', 'Cut'. -/
import Derived.Test.YtcigmbjipnchaaaPadAwake
namespace Go.Proofs.Ytcigmbjipnchaaa
open Go.RowKit
set_option linter.unusedVariables false

/-! ### Rows of values -/
/-- The slice v, of the call's own, holds the values xs, a cell each. -/
def OwnV (T : TypeId) (base : Nat) (w : World) (v : Value) (xs : List Value) : Prop := w.ownsRow base T 1 v xs.length xs
theorem OwnV.nil (T : TypeId) (base : Nat) (w : World) : OwnV T base w (.slice none 0 0) [] := World.ownsRow_nil _ _ _ _
theorem OwnV.alloc {T : TypeId} {base : Nat} {w : World} {v : Value} {xs : List Value} (h : OwnV T base w v xs) (o : Obj) : OwnV T base (w.alloc o) v xs := World.ownsRow.alloc h o
theorem OwnV.drewN {T : TypeId} {base : Nat} {w : World} {v : Value} {xs : List Value} (h : OwnV T base w v xs) (n : Nat) : OwnV T base (w.drewN n) v xs := h
theorem OwnV.up {T : TypeId} {S : Nat → Prop} {base : Nat} {w w' : World} {v : Value} {xs : List Value} (h : OwnV T base w v xs) (u : Up S w w') (hs : ∀ k, base ≤ k → k < w.heap.size → ¬ S k) : OwnV T base w' v xs := by
  refine ⟨h.1, ?_⟩
  rcases h.2 with hn | ⟨g, cap, cur, h1, h2, h3, h4⟩
  · exact .inl hn
  · have hl := (Array.getElem?_eq_some_iff.1 h3).1
    exact .inr ⟨g, cap, cur, h1, h2, (u.block g hl (hs g h2 hl)).trans h3, h4⟩
theorem OwnV.base {T : TypeId} {base : Nat} {w : World} {v : Value} {xs : List Value} (h : OwnV T base w v xs) : ∀ k, v.ownBlock = some k → base ≤ k := fun k hk => (World.ownsRow.lt h k hk).1
theorem OwnV.shape {T : TypeId} {base : Nat} {w : World} {v : Value} {xs : List Value} (h : OwnV T base w v xs) : ∃ a cap, v = .slice a xs.length cap := by
  rcases h.2 with ⟨e, e0⟩ | ⟨g, cap, cur, e, _⟩
  · exact ⟨none, 0, by rw [e, e0]⟩
  · exact ⟨_, _, e⟩
theorem OwnV.row {T : TypeId} {base : Nat} {w : World} {v : Value} {xs : List Value} (h : OwnV T base w v xs) (h0 : 0 < xs.length) :
    ∃ g cap, v = .slice (some ⟨g, 0, none⟩) xs.length cap ∧ base ≤ g ∧ g < w.heap.size ∧ (∀ i x, xs[i]? = some x → w.cell? ⟨g, i, none⟩ = some x) ∧ (∀ i, w.frozen? ⟨g, i, none⟩ = false) ∧ xs.length ≤ cap := by
  rcases h.2 with ⟨_, hn⟩ | ⟨g, cap, cur, h1, h2, h3, h4, h5, h6, h7⟩
  · omega
  · refine ⟨g, cap, h1, h2, (Array.getElem?_eq_some_iff.1 h3).1, fun i x hi => ?_, fun i => by simp [World.frozen?, h3], h4⟩
    have hl : i < xs.length := by
      rcases Nat.lt_or_ge i xs.length with h | h
      · exact h
      · rw [List.getElem?_eq_none h] at hi; cases hi
    have hc : cur[i]? = some x := by
      have e : (cur.toList.take (xs.length * 1))[i]? = some x := by rw [h7]; exact hi
      rw [List.getElem?_take, if_pos (by omega)] at e
      simpa using e
    simp only [World.cell?, h3]
    exact hc
/-- append(v, y...). -/
theorem wpList_append_vals {t T : TypeId} {zr : Value} {by_ : Nat} (ht : Try.prog.underlying t = some (.slice T)) (hinf : (Try.prog.info? T).map (fun i => (i.zero, i.size, i.bytes)) = some (some zr, 1, by_)) (hz1 : zr.cells.size = 1) (hby : by_ ≤ 24)
    {w : World} {ops : Array Oper} {rest : List Oper} {o : Oper} {a : Act} {Q : Exit → Act → World → Prop} (hgd : o.guard = none) (s x : Operand)
    (ho : o.op = .call { callee := .builtin .append, args := #[s, x], argTypes := #[t, t] }) (base : Nat) (v : Value) (xs : List Value) (hs : a.eval s = v) (hown : OwnV T base w v xs)
    (ad : Addr) (n cap : Nat) (ys : List Value) (hx : a.eval x = .slice (some ad) n cap) (hc : ∀ j u, ys[j]? = some u → w.cell? (ad.add j) = some u) (h1 : ∀ u ∈ ys, u.oneCell' = true) (hy : ys.length = n) (hl : xs.length + n ≤ 1000000) (hbase : base ≤ w.heap.size)
    (h : ∀ v' w', Hid (OwnV T base w' v' (xs ++ ys)) → Hid (w.grownBy w' v.ownBlock) → wpList Try.prog ops Q rest (a.put o.dst v') w') : wpList Try.prog ops Q (o :: rest) a w := by
  obtain ⟨i0, hi, hz0, hz2, hz3⟩ := info_parts hinf
  refine wpList_append_own w hgd s x t ho base T i0 zr 1 by_ ht hi hz0 hz2 hz3 hz1 (by decide) v xs.length xs hs hown ad n cap ys hx (by rw [hy, Nat.mul_one]) hc h1 (by unfold maxLen; omega) ?_ hbase fun v' w' g1 g2 _ => h v' w' ?_ g2
  · have := Nat.mul_le_mul (show xs.length + n ≤ 1000000 from hl) hby
    omega
  · show w'.ownsRow base T 1 v' (xs ++ ys).length (xs ++ ys)
    rw [List.length_append, hy]
    exact g1
theorem info_str : (Try.prog.info? 9).map (fun i => (i.zero, i.size, i.bytes)) = some (some (.string ByteArray.empty), 1, 16) := by kernel_rfl
/-- Rows as strings. -/
def strV (n : Nat) (R : Nat → List Nat) : List Value := (List.range n).map fun i => Value.string (strOf (R i))
theorem strV_length (n : Nat) (R : Nat → List Nat) : (strV n R).length = n := by simp [strV]
theorem strV_at {n i : Nat} {R : Nat → List Nat} (h : i < n) : (strV n R)[i]? = some (.string (strOf (R i))) := by simp [strV, h]
theorem strV_next (n : Nat) (R : Nat → List Nat) : strV (n + 1) R = strV n R ++ [.string (strOf (R n))] := by simp [strV, List.range_succ]
set_option maxRecDepth 100000 in
set_option maxHeartbeats 800000 in
theorem strings_any (w : World) (g o n cap : Nat) (R : Nat → List Nat) (hR : SR w g o n R) (hn : n ≤ 100) :
    Calls Try.prog 14 #[.slice (some ⟨g, o, none⟩) n cap] w fun e w' => ∃ v, e = .returned v ∧ OwnV 9 w.heap.size w' v (strV n R) ∧ Up Nul w w' := by
  have HS := hid hR
  clear hR
  go_enter Try.func14, Try.ntmps14
  go_wp2_with fail
  go_loopw [3, 4] (fun v i wr => ∃ t : Nat, t ≤ n ∧ i = .int .i64 t ∧ OwnV 9 w.heap.size wr v (strV t R) ∧ Up Nul w wr) (fun _ i _ => n - (intOf i).toNat)
  case atStart => exact ⟨0, by omega, rfl, OwnV.nil _ _ _, Up.refl _ _⟩
  case round =>
    obtain ⟨t, ht, rfl, ho, hu⟩ := hrel
    have HO := hid (And.intro ho hu)
    clear ho hu
    by_cases hlt : t < n
    · obtain ⟨ab, cp, x1, s1, _⟩ := (HS.out.nxt HO.out.2).cells t hlt
      have z1 := s1.conv cp
      have HL : Hid ((strV t R).length + 1 ≤ 1000000) := by show _ ≤ _; rw [strV_length]; omega
      generalize HLR : (R t).length = lr at x1 z1
      generalize HSR : strOf (R t) = sr at z1
      have i1 : (0 : Int) ≤ (t : Int) := by omega
      have i2 : (t : Int) < (n : Int) := by omega
      clear s1
      go_wp2_with (first
        | (at_builtin; refine wpList_append_vals Try.underlying34 info_str rfl (by omega) rfl (.tmp 11) (.tmp 17) rfl w.heap.size u3 (strV t R) rfl (OwnV.alloc HO.out.1 _) ⟨wr.heap.size, 0, none⟩ 1 1 [.string sr] rfl (fun j u hj => by
            match j, hj with
            | 0, hj => cases hj; exact World.cell?_alloc_new wr _ _ 0) (fun u hu => by cases hu with | head => rfl | tail _ h => cases h) rfl HL.out (by have := HO.out.2.size; simp; omega) ?_; intro v2 w2 G1 G2)
        | go_in)
      go_roundw
      case rel => exact ⟨t + 1, by omega, by go_num, by rw [strV_next, HSR]; exact G1.out, (HO.out.2.alloc _).grown G2.out fun q hq => OwnV.base HO.out.1 q hq⟩
      case measure => simp [intOf]; omega
    · obtain rfl : n = t := by omega
      go_wp2
      go_ret
      exact ⟨_, rfl, HO.out⟩
/-- Two rows of the same strings. -/
structure St2 (w : World) (g n : Nat) (R : Nat → List Nat) : Prop where
  cells : ∀ i, i < n → w.cell? ⟨g, i, none⟩ = some (.string (strOf (R i)))
  lt : g < w.heap.size
theorem St2.up {w w' : World} {g n : Nat} {R : Nat → List Nat} (h : St2 w g n R) (u : Up Nul w w') : St2 w' g n R :=
  ⟨fun i hi => (u.cell (p := ⟨g, i, none⟩) h.lt id).trans (h.cells i hi), Nat.lt_of_lt_of_le h.lt u.size⟩
theorem stringsL {w : World} {g o n cap : Nat} {R : Nat → List Nat} (hR : SR w g o n R) (h1 : 1 ≤ n) (hn : n ≤ 100) :
    Calls Try.prog 14 #[.slice (some ⟨g, o, none⟩) n cap] w fun e w' => ∃ h c, e = .returned (.slice (some ⟨h, 0, none⟩) n c) ∧ St2 w' h n R ∧ Up Nul w w' := by
  refine (strings_any w g o n cap R hR hn).mono ?_
  rintro e w' ⟨v, rfl, ho, u⟩
  obtain ⟨h, c, e, e1, e2, e3, _, _⟩ := OwnV.row ho (by rw [strV_length]; omega)
  rw [strV_length] at e
  exact ⟨h, c, by rw [e], ⟨fun i hi => e3 i _ (strV_at hi), e2⟩, u⟩
set_option maxHeartbeats 800000 in
theorem same_yes (g1 g2 n c1 c2 : Nat) (R : Nat → List Nat) (w : World) (h1 : St2 w g1 n R) (h2 : St2 w g2 n R) (hn : n ≤ 100) :
    Calls Try.prog 13 #[.slice (some ⟨g1, 0, none⟩) n c1, .slice (some ⟨g2, 0, none⟩) n c2] w fun e w' => e = .returned (.bool true) ∧ Up Nul w w' := by
  have HS := hid (And.intro h1 h2)
  clear h1 h2
  go_enter Try.func13, Try.ntmps13
  go_wp2_with fail
  go_loopw [5] (fun i wr => ∃ t : Nat, t ≤ n ∧ i = .int .i64 t ∧ Up Nul w wr) (fun i _ => n - (intOf i).toNat)
  case atStart => exact ⟨0, by omega, rfl, Up.refl _ _⟩
  case round =>
    obtain ⟨t, ht, rfl, hu⟩ := hrel
    have HU := hid hu
    clear hu
    by_cases hlt : t < n
    · have x1 := (HS.out.1.up HU.out).cells t hlt
      have x2 := (HS.out.2.up HU.out).cells t hlt
      have hqq : ((strOf (R t)).toList == (strOf (R t)).toList) = true := by simp
      generalize strOf (R t) = sr at x1 x2 hqq
      have i1 : (0 : Int) ≤ (t : Int) := by omega
      have i2 : (t : Int) < (n : Int) := by omega
      go_wp2_with fail
      go_region
      go_wp2
      go_roundw
      case rel => exact ⟨t + 1, by omega, by go_num, HU.out.drewN _⟩
      case measure => simp [intOf]; omega
    · obtain rfl : n = t := by omega
      go_wp2
      go_ret
      exact ⟨rfl, HU.out⟩

/-! ### 'Full' and 'Cut' -/
theorem refFull_any (z : List Nat) (w : World) (h : z.length ≤ 64) :
    Calls Try.prog 12 #[.string (strOf z)] w fun e w' => e = .returned (.string (strOf (ful z))) ∧ Up Nul w w' := by
  obtain ⟨s, S⟩ : ∃ t, Hid (strOf z = t) := ⟨_, rfl⟩
  obtain ⟨r, hr⟩ : ∃ r : Nat, z.length + r = 64 := ⟨64 - z.length, by omega⟩
  have hsz : s.size + r = 64 := by rw [← S.out, strOf_size]; exact hr
  have HE : Hid (s ++ strOf (zer r) = strOf (ful z)) := by
    show _ = _
    rw [← S.out, strOf_append, ful_is, show 64 - z.length = r by omega]
  have hmk : (Instr.makeSlice 22 (.int .i64 (64 - (s.size : Int))) (.int .i64 (64 - (s.size : Int)))).run Try.prog w = .ok (.slice (some ⟨w.heap.size, 0, none⟩) r r) (w.alloc (.cells (bys (zer r)) 5)) := by
    rw [show (64 - (s.size : Int)) = ((r : Nat) : Int) by omega]
    exact make_bytes w r (by omega)
  have hcv := (SlN.mark w (zer r) (0, 0) (zer_small r) (by rw [zer_length]; omega) _ rfl).conv r
  rw [zer_length] at hcv
  have HU := hid ((Up.refl Nul w).alloc (.cells (bys (zer r)) 5))
  have hs1 : s.size ≤ 64 := by omega
  rw [S.out]
  have hs2 : (strOf (zer r)).size ≤ 64 := by rw [strOf_size, zer_length]; omega
  generalize strOf (zer r) = s2 at hcv HE hs2
  have HH := hid hsz
  clear h hr hsz
  go_enter Try.func12, Try.ntmps12
  go_wp2
  go_ret
  exact ⟨by rw [HE.out]; rfl, HU.out⟩
theorem quart_le (z : List Nat) (h : z.length ≤ 64) : (strOf (ful z)).size = 64 := by rw [strOf_size, ful_length h]
theorem slice_from (s : ByteArray) (k : Nat) (h : k ≤ s.size) (W : World) : (Instr.slice 9 (.string s) (some (.int .i64 (k : Int))) none none).run Try.prog W = .ok (.string (s.extract k s.size)) W := by
  rw [run_slice_string_l (P := Try.prog) W 9 s Try.underlying9 .i64 k (by omega) (by omega)]
  simp
theorem slice_mid (s : ByteArray) (k l : Nat) (h : k ≤ l) (h2 : l ≤ s.size) (W : World) : (Instr.slice 9 (.string s) (some (.int .i64 (k : Int))) (some (.int .i64 (l : Int))) none).run Try.prog W = .ok (.string (s.extract k l)) W := by
  rw [run_slice_string (P := Try.prog) W 9 s .i64 .i64 k l Try.underlying9 (by omega) (by omega) (by omega)]
  simp
theorem slice_to (s : ByteArray) (k : Nat) (h : k ≤ s.size) (W : World) : (Instr.slice 9 (.string s) none (some (.int .i64 (k : Int))) none).run Try.prog W = .ok (.string (s.extract 0 k)) W := by
  rw [run_slice_string_h (P := Try.prog) W 9 s Try.underlying9 .i64 k (by omega) (by omega)]
  simp
theorem refCut_any (z : List Nat) (w : World) (h : z.length ≤ 64) :
    Calls Try.prog 15 #[.string (strOf z)] w fun e w' => ∃ g, e = .returned (.slice (some ⟨g, 0, none⟩) 4 4) ∧ St2 w' g 4 (quart z) ∧ Up Nul w w' := by
  have hF := hid (refFull_any z w h)
  have hl := quart_le z h
  have e0 : (strOf (ful z)).extract 0 16 = strOf (quart z 0) := by rw [strOf_extract]; rfl
  have e1 : (strOf (ful z)).extract 16 32 = strOf (quart z 1) := by rw [strOf_extract]; rfl
  have e2 : (strOf (ful z)).extract 32 48 = strOf (quart z 2) := by rw [strOf_extract]; rfl
  have e3 : (strOf (ful z)).extract 48 (strOf (ful z)).size = strOf (quart z 3) := by rw [hl, strOf_extract]; rfl
  obtain ⟨s, S⟩ : ∃ t, Hid (strOf (ful z) = t) := ⟨_, rfl⟩
  rw [S.out] at hF hl e0 e1 e2 e3
  have f0 : ∀ W, (Instr.slice 9 (.string s) none (some (.int .i64 16)) none).run Try.prog W = .ok (.string (strOf (quart z 0))) W := fun W => by rw [← e0]; exact slice_to s 16 (by omega) W
  have f1 : ∀ W, (Instr.slice 9 (.string s) (some (.int .i64 16)) (some (.int .i64 32)) none).run Try.prog W = .ok (.string (strOf (quart z 1))) W := fun W => by rw [← e1]; exact slice_mid s 16 32 (by omega) (by omega) W
  have f2 : ∀ W, (Instr.slice 9 (.string s) (some (.int .i64 32)) (some (.int .i64 48)) none).run Try.prog W = .ok (.string (strOf (quart z 2))) W := fun W => by rw [← e2]; exact slice_mid s 32 48 (by omega) (by omega) W
  have f3 : ∀ W, (Instr.slice 9 (.string s) (some (.int .i64 48)) none none).run Try.prog W = .ok (.string (strOf (quart z 3))) W := fun W => by rw [← e3]; exact slice_from s 48 (by omega) W
  have HST : Hid (∀ W : World, ∀ g, g = W.heap.size → St2 (W.alloc (.cells #[.string (strOf (quart z 0)), .string (strOf (quart z 1)), .string (strOf (quart z 2)), .string (strOf (quart z 3))] 9)) g 4 (quart z)) := fun W g hg => by
    subst hg
    exact ⟨fun i hi => by
      match i, hi with
      | 0, _ => exact World.cell?_alloc_new W _ _ 0
      | 1, _ => exact World.cell?_alloc_new W _ _ 1
      | 2, _ => exact World.cell?_alloc_new W _ _ 2
      | 3, _ => exact World.cell?_alloc_new W _ _ 3, by simp⟩
  generalize strOf (quart z 0) = q0 at f0 HST
  generalize strOf (quart z 1) = q1 at f1 HST
  generalize strOf (quart z 2) = q2 at f2 HST
  generalize strOf (quart z 3) = q3 at f3 HST
  clear e0 e1 e2 e3 hl h
  go_enter Try.func15, Try.ntmps15
  go_wp2_with fail
  refine hF.out.mono ?_
  rintro e w1 ⟨rfl, u1⟩
  have U1 := hid u1
  clear u1 hF
  go_wp2_with fail
  go_region_held3 (fun _ => True) (first | trivial | go_keep) (fail)
  go_wp2
  go_ret
  exact ⟨_, rfl, HST.out w1.drew _ rfl, U1.out.drew.alloc _⟩
end Go.Proofs.Ytcigmbjipnchaaa
