/- What the law CodeDecodes leans on behind its list of shards. -/
import Derived.Test.YtkenfabnbmkhbaaGreatDecLaw
namespace Go.Proofs.YtkenfabnbmkhbaaGreat
open Go.RowKit
set_option linter.unusedVariables false

theorem shC_len (X : Nat → Bool) (R : Nat → List Nat) : ∀ t, (shC X R t).length = t * 2
  | 0 => rfl
  | t + 1 => by
    show (shC X R t ++ _).length = _
    rw [List.length_append, shC_len X R t]
    split <;> simp <;> omega
theorem shC_at (X : Nat → Bool) (R : Nat → List Nat) : ∀ n i, i < n → (shC X R n)[i * 2]? = some (.string (strOf ((outS X R i).getD []))) ∧ (shC X R n)[i * 2 + 1]? = some (.bool (outS X R i).isSome)
  | 0, _, h => absurd h (Nat.not_lt_zero _)
  | n + 1, i, h => by
    have hl := shC_len X R n
    have e : shC X R (n + 1) = shC X R n ++ (if X n = true then [.string ByteArray.empty, .bool false] else [.string (strOf (R n)), .bool true]) := rfl
    by_cases hi : i < n
    · obtain ⟨h1, h2⟩ := shC_at X R n i hi
      rw [e, List.getElem?_append_left (by omega), List.getElem?_append_left (by omega)]
      exact ⟨h1, h2⟩
    · obtain rfl : i = n := by omega
      rw [e, List.getElem?_append_right (by omega), List.getElem?_append_right (by omega), hl, Nat.sub_self, show i * 2 + 1 - i * 2 = 1 by omega]
      unfold outS
      split
      · exact ⟨rfl, rfl⟩
      · exact ⟨rfl, rfl⟩
theorem OwnS.two {base n : Nat} {w : World} {v : Value} {X : Nat → Bool} {R : Nat → List Nat} (h : OwnS base w v n (shC X R n)) (n1 : 1 ≤ n) : ∃ g cap, v = .slice (some ⟨g, 0, none⟩) n cap ∧ Two w g n (outS X R) ∧ (∀ j, w.frozen? ⟨g, j, none⟩ = false) ∧ base ≤ g := by
  rcases h.2 with ⟨_, hn⟩ | ⟨g, cap, cur, h1, h2, h3, h4, h5, h6, h7⟩
  · omega
  · have hc : ∀ i u, i < n * 2 → (shC X R n)[i]? = some u → w.cell? ⟨g, i, none⟩ = some u := fun i u hi hu => by
      have e : (cur.toList.take (n * 2))[i]? = some u := by rw [h7]; exact hu
      rw [List.getElem?_take, if_pos hi] at e
      simp only [World.cell?, h3]
      simpa using e
    exact ⟨g, cap, h1, ⟨fun i hi => hc _ _ (by omega) (shC_at X R n i hi).1, fun i hi => hc _ _ (by omega) (shC_at X R n i hi).2, (Array.getElem?_eq_some_iff.1 h3).1⟩, fun j => by simp [World.frozen?, h3], h2⟩
theorem mds_db {w0 W w' : World} {V gx cx gy cy c F k r pp pq sp sq m : Nat} {at_ : Int} {X : Nat → Bool} {R : Nat → List Nat} {v1 v2 : Value} {xs : List Value} (cs : CS w0 [F] W V gx cx gy cy c F k r pp pq sp sq at_) (md : Mds W X m R v1 v2 xs w') (m1 : 1 ≤ m) :
    ∃ h ch g2 c2, v1 = .slice (some ⟨h, 0, none⟩) m ch ∧ v2 = .slice (some ⟨g2, 0, none⟩) m c2 ∧ m ≤ ch ∧ W.heap.size ≤ g2 ∧ DB w0 w' V gx cx gy cy c F k r pp pq sp sq at_ h m (outS X R) g2 := by
  obtain ⟨h, ch, e1, ll, hc⟩ := md.ll cs.ls m1
  obtain ⟨g2, c2, e2, two, fr, hb⟩ := md.two.two m1
  exact ⟨h, ch, g2, c2, e1, e2, hc, hb, cs.nxt (cs.ls.nul md.up), ll, two, fr, cs.ls.lt hb⟩
/-- Where the law stands behind a store into the document's shards. -/
structure LSC (w0 w : World) (V gx cx gy cy F k r : Nat) (at_ : Int) : Prop where
  ls : LS w0 [F] w
  lc : LC [F] w V gx cx gy cy k r (mdX at_ k) (mdY at_ k r)
/-- Block g2 is none of those that the code lies in. -/
structure Far (w0 : World) (V gx gy F g2 : Nat) : Prop where
  lo : w0.heap.size ≤ g2
  v : V ≠ g2
  x : gx ≠ g2
  y : gy ≠ g2
  f : F ≠ g2
theorem CS.far {w0 w : World} {V gx cx gy cy c F k r pp pq sp sq g2 : Nat} {at_ : Int} (cs : CS w0 [F] w V gx cx gy cy c F k r pp pq sp sq at_) (h : w.heap.size ≤ g2) : Far w0 V gx gy F g2 := by
  have h1 := cs.lc.lt
  have h2 := cs.lc.x.lt
  have h3 := cs.lc.y.lt
  have h4 := (cs.ls.fld F (List.mem_cons_self ..)).lt
  have h5 := cs.ls.up.size
  exact ⟨by omega, by omega, by omega, by omega, by omega⟩
theorem CS.put {w0 w w' : World} {V gx cx gy cy c F k r pp pq sp sq g2 : Nat} {at_ : Int} (cs : CS w0 [F] w V gx cx gy cy c F k r pp pq sp sq at_) (hg : Far w0 V gx gy F g2) (u : Up (One g2) w w') : LSC w0 w' V gx cx gy cy F k r at_ := by
  have hc : ∀ j, w'.cell? ⟨V, j, none⟩ = w.cell? ⟨V, j, none⟩ := fun j => u.cell (p := ⟨V, j, none⟩) cs.lc.lt hg.v
  exact ⟨⟨cs.ls.up.fresh1 u hg.lo, fun G hG => by
      obtain rfl : G = F := by simpa using hG
      exact (cs.ls.fld G (List.mem_cons_self ..)).up u hg.f, cs.ls.own⟩,
    ⟨(hc 0).trans cs.lc.c0, (hc 1).trans cs.lc.c1, Nat.lt_of_lt_of_le cs.lc.lt u.size, cs.lc.b, ⟨cs.lc.x.row.up u cs.lc.x.lt hg.x, Nat.lt_of_lt_of_le cs.lc.x.lt u.size, cs.lc.x.b⟩, ⟨cs.lc.y.row.up u cs.lc.y.lt hg.y, Nat.lt_of_lt_of_le cs.lc.y.lt u.size, cs.lc.y.b⟩⟩⟩
theorem strings_nil (w : World) : Calls Tryz.prog 9 #[.slice none 0 0] w fun e w' => e = .returned (.slice none 0 0) ∧ w = w' := by
  go_enter Tryz.func9, Tryz.ntmps9
  go_wp2_with fail
  go_loopw [3, 4] (fun v i wr => v = .slice none 0 0 ∧ i = .int .i64 0 ∧ wr = w) (fun _ _ _ => 0)
  case atStart => exact ⟨rfl, rfl, rfl⟩
  case round =>
    obtain ⟨rfl, rfl, rfl⟩ := hrel
    go_wp2
    go_ret
    exact ⟨rfl, rfl⟩
theorem same_nil (w : World) : Calls Tryz.prog 15 #[.slice none 0 0, .slice none 0 0] w fun e w' => e = .returned (.bool true) ∧ w = w' := by
  go_enter Tryz.func15, Tryz.ntmps15
  go_wp2_with fail
  go_loopw [5] (fun i wr => i = .int .i64 0 ∧ wr = w) (fun _ _ => 0)
  case atStart => exact ⟨rfl, rfl⟩
  case round =>
    obtain ⟨rfl, rfl⟩ := hrel
    go_wp2
    go_ret
    exact ⟨rfl, rfl⟩
/-- One shard is struck. -/
theorem Two.out {w : World} {g n i : Nat} {S : Nat → Option (List Nat)} (h : Two w g n S) (hi : i < n) : Two ((w.setCell ⟨g, i * 2, none⟩ (.string ByteArray.empty)).setCell ⟨g, i * 2 + 1, none⟩ (.bool false)) g n (out1 S i) := by
  have c0 := h.b i hi
  have c1 := h.is i hi
  have c1' : (w.setCell ⟨g, i * 2, none⟩ (.string ByteArray.empty)).cell? ⟨g, i * 2 + 1, none⟩ = some (.bool (S i).isSome) := by
    rw [World.cell?_setCell_other _ _ _ _ (by intro e2; have := congrArg Addr.off e2; simp at this)]
    exact c1
  refine ⟨fun t ht => ?_, fun t ht => ?_, by simpa using h.lt⟩
  · rw [World.cell?_setCell_other _ _ _ _ (by intro e2; have := congrArg Addr.off e2; simp at this; omega)]
    unfold out1
    by_cases e : t = i
    · subst e
      rw [if_pos rfl]
      exact World.cell?_setCell_same _ _ _ c0
    · rw [if_neg e, World.cell?_setCell_other _ _ _ _ (by intro e2; have := congrArg Addr.off e2; simp at this; omega)]
      exact h.b t ht
  · unfold out1
    by_cases e : t = i
    · subst e
      rw [if_pos rfl]
      exact World.cell?_setCell_same _ _ _ c1'
    · rw [if_neg e, World.cell?_setCell_other _ _ _ _ (by intro e2; have := congrArg Addr.off e2; simp at this; omega), World.cell?_setCell_other _ _ _ _ (by intro e2; have := congrArg Addr.off e2; simp at this; omega)]
      exact h.is t ht
theorem blk_ne_two {w : World} {b g n i : Nat} {z : List Nat} {S : Nat → Option (List Nat)} (h : Blk w b z) (t : Two w g n S) (hi : i < n) : b ≠ g := fun e => by
  subst e
  have hc := t.b i hi
  simp only [World.cell?, h.heap] at hc
  rcases Nat.lt_or_ge (i * 2) z.length with hl | hl
  · have h1 := bys_at z (i * 2) hl
    rw [show (bys z)[i * 2]? = some (.int .u8 (z.getD (i * 2) 0)) from h1] at hc
    simp at hc
  · have h1 : (bys z)[i * 2]? = none := Array.getElem?_eq_none (by rw [bys_size]; exact hl)
    rw [h1] at hc
    simp at hc
theorem fine_out {S : Nat → Option (List Nat)} {n L i : Nat} (h : Fine S n L) : Fine (out1 S i) n L := fun t ht z e => by
  unfold out1 at e
  split at e
  · cases e
  · exact h t ht z e
theorem out1_some {S : Nat → Option (List Nat)} {i t : Nat} {z : List Nat} (h : out1 S i t = some z) : S t = some z := by
  unfold out1 at h
  split at h
  · cases h
  · exact h
end Go.Proofs.YtkenfabnbmkhbaaGreat
