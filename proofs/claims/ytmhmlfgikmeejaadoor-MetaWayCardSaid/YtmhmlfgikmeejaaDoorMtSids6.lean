/- 'newSids' of RSplit: slices.Clone and slices.DeleteFunc of ints. -/
import Derived.Test.YtmhmlfgikmeejaaDoorMtTwice
import Derived.Test.YtmhmlfgikmeejaaDoorMtLayD
import Derived.Lib.SliceRun
namespace Go.Proofs.YtmhmlfgikmeejaaDoor
open Go.RowKit Go.Maps Go.Sort Go.Shelf
set_option linter.unusedVariables false

section
variable {base : Nat} {w w' : World} {v : Value} {zs xs : List Int}
/-- append(v, ints...). -/
theorem OwnI.apps (h : OwnI base w v zs) (a : Option Addr) (c : Nat) (hr : RowI w a xs) (hx : xs ≠ []) (hl : zs.length ≤ 1000) (hl2 : xs.length ≤ 1000) (hb : base ≤ w.heap.size) :
    ∃ v' w', (Builtin.append_ #[22, 22] 22 #[v, .slice a xs.length c]).run Tryd.prog w = .ok v' w' ∧ OwnI base w' v' (zs ++ xs) ∧ w.grownBy w' v.ownBlock := by
  obtain ⟨g, o, rfl, hg, hc⟩ := hr.resolve_left hx
  obtain ⟨i0, hi, hz, hz1, hz2⟩ := info_parts info_int
  obtain ⟨v', w', hrun, g1, g2, _⟩ := run_append_own (P := Tryd.prog) w base 22 22 3 i0 _ 1 8 Tryd.underlying22 hi hz hz1 hz2 rfl (by decide) v (intV zs).length (intV zs) h ⟨g, o, none⟩ xs.length c (intV xs) (by simp [intV])
    (fun j u hj => by
      simp only [intV, List.getElem?_map, Option.map_eq_some_iff] at hj
      obtain ⟨x, hx, rfl⟩ := hj
      rw [add_off]
      exact hc j x hx) (fun u hu => by
      obtain ⟨x, _, rfl⟩ := List.mem_map.1 hu
      rfl) (by unfold maxLen; simp [intV]; omega) (by simp [intV]; omega) hb
  refine ⟨v', w', hrun, ?_, g2⟩
  show w'.ownsRow base _ 1 v' (intV (zs ++ xs)).length (intV (zs ++ xs))
  rw [show intV (zs ++ xs) = intV zs ++ intV xs by simp [intV], List.length_append]
  have : (intV xs).length = xs.length := by simp [intV]
  rw [this]
  exact g1
theorem OwnI.empty (w : World) : OwnI w.heap.size (w.alloc (.cells #[] 3)) (.slice (some ⟨w.heap.size, 0, none⟩) 0 0) [] :=
  ⟨rfl, .inr ⟨w.heap.size, 0, #[], rfl, Nat.le_refl _, heap_alloc_new _ _, Nat.le_refl _, Nat.zero_le _, rfl, rfl⟩⟩
end
theorem iclone_any (w : World) (a : Option Addr) (c : Nat) (ls : List Int) (h : RowI w a ls) (hn : ls ≠ []) (hl : ls.length ≤ 1000) :
    Calls Tryd.prog 33 #[.slice a ls.length c] w fun e w' => ∃ v, e = .returned v ∧ OwnI w.heap.size w' v ls ∧ Up Nul w w' := by
  have u0 : Up Nul w (w.alloc (.cells #[] 3)) := (Up.refl _ _).alloc _
  obtain ⟨v', w', hrun, h1, h2⟩ := (OwnI.empty w).apps a c (h.nxt u0) hn (Nat.zero_le _) hl (by rw [World.size_alloc]; omega)
  have HE : Hid (OwnI w.heap.size w' v' ls ∧ Up Nul w w') := ⟨h1, (Up.refl Nul w).trans (u0.grown h2 (fun k hk => by
    have e : w.heap.size = k := by injection hk
    omega))⟩
  obtain ⟨g, o, rfl, _, _⟩ := h.resolve_left hn
  clear h u0 h1 h2
  obtain ⟨n, N⟩ : ∃ n, Hid (ls.length = n) := ⟨_, rfl⟩
  rw [N.out] at hrun ⊢
  clear hl hn
  have heq : ∀ w : World, (binOp .eql 22 (.slice (some ⟨g, o, none⟩) n c) (.slice none 0 0)).run Tryd.prog w = .ok (.bool false) w := fun _ => by kernel_rfl
  go_enter Tryd.func33, Tryd.ntmps33
  go_wp2_with (first | (at_builtin; refine wpList_append_eqv rfl _ _ _ rfl _ _ _ rfl rfl hrun ?_))
  go_ret
  exact ⟨_, rfl, HE.out⟩
theorem isDead_any (x : Int) (W : World) : FnGives Tryd.prog 31 #[] #[.int .i64 x] (.bool (decide (x = 0))) W := by
  show Calls Tryd.prog 31 #[.int .i64 x] W _
  by_cases h : x = 0
  · subst h
    go_enter Tryd.func31, Tryd.ntmps31
    go_wp2
    go_ret
    exact ⟨rfl, 0, rfl⟩
  · have h2 : (x == 0) = false := by rw [beq_eq_false_iff_ne]; exact h
    have HD : Hid (decide (x = 0) = false) := decide_eq_false h
    rw [HD.out]
    clear h HD
    go_enter Tryd.func31, Tryd.ntmps31
    go_wp2
    go_ret
    exact ⟨rfl, 0, rfl⟩
/-- DeleteFunc over a row of the call's own. -/
theorem del_any (w : World) (B : Nat) (v : Value) (zs : List Int) (ho : OwnI B w v zs) (hn : zs ≠ []) (hl : zs.length ≤ 1000) :
    Calls Tryd.prog 32 #[v, .func (.func 31) #[] #[]] w fun e w' => ∃ a c, e = .returned (.slice a (zs.filter fun x => decide (x ≠ 0)).length c) ∧ RowI w' a (zs.filter fun x => decide (x ≠ 0)) ∧ Up (fun k => B ≤ k) w w' := by
  obtain ⟨blk, cap, cur, rfl, hB, hb, h4, h5, h6, h7⟩ := ho.2.resolve_left (fun e => by
    have := e.2
    simp [intV] at this
    exact hn this)
  have hlen : (intV zs).length = zs.length := by simp [intV]
  rw [hlen] at h4 h7 ⊢
  have hblk : blk < w.heap.size := (Array.getElem?_eq_some_iff.1 hb).1
  have hH : Holds (Value.int .i64) w blk 0 zs.toArray := fun j hj => by
    have hj : j < zs.length := by simpa using hj
    constructor
    · have e : (intV zs)[j]? = some (.int .i64 zs[j]) := by simp [intV, hj]
      rw [← h7, List.getElem?_take, if_pos (by omega)] at e
      have e2 : (zs.toArray)[j]! = zs[j] := by simp [hj]
      rw [e2]
      simp only [World.cell?, hb, Nat.zero_add]
      simpa using e
    · simp [World.frozen?, hb]
  have eg : ∀ args w, (callFunc 31 args).run Tryd.prog w = .ok (.enter 31 args) w := enters_of Tryd.func31 (by kernel_rfl) rfl
  have hcon := AnyE.slices_DeleteFunc Tryd.delI (Value.int .i64) (fun _ => rfl) (fun x => decide (x = 0)) 31 #[] eg 0 Tryd.zeroValue3 blk 0 cap zs.toArray w
    (fun W x _ => isDead_any x W) (fun n os dk x _ => isDead_any x _) hH (by simp; omega) (by simp; omega)
  change Calls Tryd.prog 32 _ _ _ at hcon
  have e0 : zs.toArray.size = zs.length := by simp
  rw [e0] at hcon
  refine hcon.mono ?_
  rintro e w' ⟨rfl, q, rfl⟩
  have ef : ((zs.toArray.toList.filter fun x => !decide (x = 0))) = zs.filter fun x => decide (x ≠ 0) := by
    have : zs.toArray.toList = zs := by simp
    rw [this]
    congr 1
    funext x
    by_cases h : x = 0 <;> simp [h]
  rw [ef]
  have hle : (zs.filter fun x => decide (x ≠ 0)).length ≤ zs.length := List.length_filter_le _ _
  generalize (zs.filter fun x => decide (x ≠ 0)) = fl at hle ⊢
  have hsz : (fl ++ List.replicate (zs.length - fl.length) 0).toArray.size = zs.toArray.size := by simp; omega
  have hHa : Holds (Value.int .i64) (Sort.ahead w q) blk 0 zs.toArray := holds_ahead _ w q blk 0 _ hH
  have hP := holds_putRow (Value.int .i64) (Sort.ahead w q) blk 0 zs.toArray (fl ++ List.replicate (zs.length - fl.length) 0).toArray hHa hsz
  refine ⟨_, _, rfl, ?_, ?_⟩
  · rcases Classical.em (fl = []) with e | e
    · exact .inl e
    · refine .inr ⟨blk, 0, rfl, by rw [size_putRow]; exact hblk, fun i x hi => ?_⟩
      have hil : i < fl.length := by
        rcases Nat.lt_or_ge i fl.length with h | h
        · exact h
        · rw [List.getElem?_eq_none h] at hi; cases hi
      have h1 := (hP i (by rw [hsz, e0]; omega)).1
      rw [h1]
      have h2 : (fl ++ List.replicate (zs.length - fl.length) 0).toArray[i]! = x := by
        rw [List.getElem!_toArray, List.getElem!_eq_getElem?_getD, List.getElem?_append_left hil, hi]; rfl
      rw [h2]
  · refine ⟨rfl, rfl, rfl, by rw [size_putRow]; exact Nat.le_refl _, fun k hk hs => ?_⟩
    show ((Sort.ahead w q).heap.modify blk _)[k]? = w.heap[k]?
    rw [Array.getElem?_modify, if_neg (fun e => hs (by rw [← e]; exact hB))]
    rfl
/-- 'newSids' of RSplit. -/
theorem sids_six (key : ByteArray) (n sid : Int) (sa : Option Addr) (sc : Nat) (sids : List Int) (colour : Int) (lv : Value) (a b c d e f : Int) (w : World) (hr : RowI w sa sids) (hn : sids ≠ []) (hl : sids.length ≤ 1000) (hlv : ∃ x y z, lv = .slice x y z) :
    Calls Tryd.prog 17 #[.agg #[.int .i64 6, .string key, .int .i64 n, .int .i64 sid, .slice sa sids.length sc, .int .i64 colour, lv, .int .i64 a, .int .i64 b, .int .i64 c, .int .i64 d, .int .i64 e, .int .i64 f]] w (SidsP w (sids.filter fun x => decide (x ≠ 0))) := by
  obtain ⟨lx, ly, lz, rfl⟩ := hlv
  obtain ⟨w1, hw1⟩ : ∃ W, W = w.alloc (.cells #[.int .i64 6, .string key, .int .i64 n, .int .i64 sid, .slice sa sids.length sc, .int .i64 colour, .slice lx ly lz, .int .i64 a, .int .i64 b, .int .i64 c, .int .i64 d, .int .i64 e, .int .i64 f] 33) := ⟨_, rfl⟩
  have u1 : Up Nul w w1 := by rw [hw1]; exact (Up.refl _ _).alloc _
  have b1 : w1.heap[w.heap.size]? = some (.cells #[.int .i64 6, .string key, .int .i64 n, .int .i64 sid, .slice sa sids.length sc, .int .i64 colour, .slice lx ly lz, .int .i64 a, .int .i64 b, .int .i64 c, .int .i64 d, .int .i64 e, .int .i64 f] 33 (0, 0)) := by rw [hw1]; exact heap_alloc_new _ _
  have g0 : w1.cell? ⟨w.heap.size, 0, none⟩ = some (.int .i64 6) := by simp [World.cell?, b1]
  have g4 : w1.cell? ⟨w.heap.size, 4, none⟩ = some (.slice sa sids.length sc) := by simp [World.cell?, b1]
  have HC := hid (iclone_any w1 sa sc sids (hr.nxt u1) hn hl)
  have HD : Hid (∀ W v, OwnI w1.heap.size W v sids → Up Nul w1 W → Calls Tryd.prog 32 #[v, .func (.func 31) #[] #[]] W fun e w' => SidsP w (sids.filter fun x => decide (x ≠ 0)) e w') := fun W v ho u => by
    refine (del_any W w1.heap.size v sids ho hn hl).mono ?_
    rintro e w' ⟨a, c, rfl, hrow, u'⟩
    refine ⟨a, c, rfl, hrow, ?_⟩
    exact (u1.trans u).thn u' (fun j e => .inr (Nat.le_trans u1.size e))
  clear hr hn hl u1 b1
  generalize sids.length = ns at HC g4 hw1 ⊢
  generalize (sids.filter fun x => decide (x ≠ 0)) = fl at HD ⊢
  go_enter Tryd.func17, Tryd.ntmps17
  go_wp2_with fail
  rw [← hw1]
  clear hw1
  refine HC.out.mono ?_
  rintro e w2 ⟨v, rfl, ho, u2⟩
  have HD2 := hid (HD.out w2 v ho u2)
  obtain ⟨va, vc, hv⟩ := ho.shape
  clear ho u2
  subst hv
  go_wp2_with fail
  refine HD2.out.mono ?_
  rintro e w3 ⟨ra, rc, rfl, hrow, u3⟩
  have HE := hid (And.intro hrow u3)
  clear hrow u3
  go_wp2
  go_ret
  exact ⟨ra, rc, rfl, HE.out.1, HE.out.2⟩
end Go.Proofs.YtmhmlfgikmeejaaDoor
