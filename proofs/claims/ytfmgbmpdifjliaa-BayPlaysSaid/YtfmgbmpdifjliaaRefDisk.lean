/- The document's Fuse and Disk in memory; 'slot', 'Read', 'Sync'. -/
import Derived.Test.YtfmgbmpdifjliaaDiskHold
namespace Go.Proofs.Ytfmgbmpdifjliaa
open Go.RowKit
set_option linter.unusedVariables false

/-! ### The document's Fuse -/
structure RFz (w : World) (f : Nat) (k : Option Nat) : Prop where
  heap : w.heap[f]? = some (.cells #[.bool k.isNone, .int .i64 ((k.getD 0 : Nat) : Int)] 113 (0, 0))
  le : k.getD 0 ≤ 9223372036854775807
theorem RFz.lt {w : World} {f : Nat} {k : Option Nat} (h : RFz w f k) : f < w.heap.size := (Array.getElem?_eq_some_iff.1 h.heap).1
theorem RFz.c0 {w : World} {f : Nat} {k : Option Nat} (h : RFz w f k) : w.cell? ⟨f, 0, none⟩ = some (.bool k.isNone) := by simp [World.cell?, h.heap]
theorem RFz.c1 {w : World} {f : Nat} {k : Option Nat} (h : RFz w f k) : w.cell? ⟨f, 1, none⟩ = some (.int .i64 ((k.getD 0 : Nat) : Int)) := by simp [World.cell?, h.heap]
theorem RFz.fr {w : World} {f : Nat} {k : Option Nat} (h : RFz w f k) (i : Nat) : w.frozen? ⟨f, i, none⟩ = false := by simp [World.frozen?, h.heap]
theorem RFz.up {S : Nat → Prop} {w w' : World} {f : Nat} {k : Option Nat} (h : RFz w f k) (u : Up S w w') (hs : ¬ S f) : RFz w' f k := ⟨(u.block f h.lt hs).trans h.heap, h.le⟩
/-- The document's Fuse, or none. -/
def RFzO (w : World) (fu : Option Nat) (k : Option Nat) : Prop := match fu with
  | none => k = none
  | some f => RFz w f k
theorem RFzO.up {S : Nat → Prop} {w w' : World} {fu k : Option Nat} (h : RFzO w fu k) (u : Up S w w') (hs : ∀ f, fu = some f → ¬ S f) : RFzO w' fu k := by
  cases fu with
  | none => exact h
  | some f => exact RFz.up h u (hs f rfl)
theorem RFzO.is {w : World} {fu : Option Nat} {m : Nat} (h : RFzO w fu (some m)) : ∃ f, fu = some f ∧ RFz w f (some m) := by
  cases fu with
  | none => cases (show some m = none from h)
  | some f => exact ⟨f, rfl, h⟩
theorem rdead_any (f : Nat) (k : Option Nat) (w : World) (h : RFz w f k) :
    Calls Try.prog 56 #[.pointer (some ⟨f, 0, none⟩)] w fun e w' => e = .returned (.bool (k == some 0)) ∧ w' = w := by
  rcases k with _ | _ | n
  · have c0 : w.cell? ⟨f, 0, none⟩ = some (.bool true) := RFz.c0 h
    clear h
    go_enter Try.func56, Try.ntmps56
    go_wp2
    go_ret
    exact ⟨rfl, rfl⟩
  · have c0 : w.cell? ⟨f, 0, none⟩ = some (.bool false) := RFz.c0 h
    have c1 : w.cell? ⟨f, 1, none⟩ = some (.int .i64 0) := RFz.c1 h
    clear h
    go_enter Try.func56, Try.ntmps56
    go_wp2
    go_ret
    exact ⟨rfl, rfl⟩
  · have c0 : w.cell? ⟨f, 0, none⟩ = some (.bool false) := RFz.c0 h
    have c1 : w.cell? ⟨f, 1, none⟩ = some (.int .i64 ((n + 1 : Nat) : Int)) := RFz.c1 h
    have e : (some (n + 1) == some 0) = false := by simp
    rw [e]
    clear h
    generalize hm : n + 1 = m at c1
    have i1 : ¬ (m : Int) = 0 := by omega
    clear hm e
    go_enter Try.func56, Try.ntmps56
    go_wp2
    go_ret
    exact ⟨by simp; omega, rfl⟩
theorem RFz.set {w : World} {f m : Nat} (h : RFz w f (some (m + 1))) : RFz (w.setCell ⟨f, 1, none⟩ (.int .i64 (m : Int))) f (some m) :=
  ⟨heap_setCell_same w f 1 _ _ _ h.heap, by have := h.le; simp at this ⊢; omega⟩
theorem rspend_dead (f : Nat) (w : World) (h : RFz w f (some 0)) :
    Calls Try.prog 65 #[.pointer (some ⟨f, 0, none⟩)] w fun e w' => e = .returned (.bool false) ∧ w' = w := by
  have c0 : w.cell? ⟨f, 0, none⟩ = some (.bool false) := RFz.c0 h
  have c1 : w.cell? ⟨f, 1, none⟩ = some (.int .i64 0) := RFz.c1 h
  clear h
  go_enter Try.func65, Try.ntmps65
  go_wp2
  go_ret
  exact ⟨rfl, rfl⟩
theorem rspend_live (f : Nat) (k : Option Nat) (w : World) (h : RFz w f k) (hk : k ≠ some 0) :
    Calls Try.prog 65 #[.pointer (some ⟨f, 0, none⟩)] w fun e w' => e = .returned (.bool true) ∧ RFz w' f (less k) ∧ Up (One f) w w' := by
  rcases k with _ | _ | n
  · have HF : Hid (RFz w f none) := h
    have c0 : w.cell? ⟨f, 0, none⟩ = some (.bool true) := RFz.c0 h
    clear h hk
    go_enter Try.func65, Try.ntmps65
    go_wp2
    go_ret
    exact ⟨rfl, HF.out, Up.refl _ _⟩
  · exact absurd rfl hk
  · have HF : Hid (RFz w f (some (n + 1))) := h
    have c0 : w.cell? ⟨f, 0, none⟩ = some (.bool false) := RFz.c0 h
    have c1 : w.cell? ⟨f, 1, none⟩ = some (.int .i64 ((n + 1 : Nat) : Int)) := RFz.c1 h
    have f1 := RFz.fr h 1
    have hle : n + 1 ≤ 9223372036854775807 := HF.out.le
    have HS := hid HF.out.set
    have i1 : ((n + 1 : Nat) : Int) - 1 = (n : Int) := by omega
    obtain ⟨m, hm⟩ : ∃ m, m = n + 1 := ⟨_, rfl⟩
    rw [← hm] at c1 i1
    have i3 : ((m : Int) == 0) = false := by simp; omega
    have i4 : IntKind.i64.wrap ((m : Int) - 1) = (n : Int) := by rw [i1]; exact IntWalk.i64_in _ (by omega)
    have i5 : wrap64 ((m : Int) - 1) = (n : Int) := by rw [← IntWalk.i64_left]; exact i4
    have i6 : wrap64 (n : Int) = (n : Int) := by rw [i1] at i5; exact i5
    clear hk hm hle h
    go_enter Try.func65, Try.ntmps65
    go_wp2
    go_ret
    exact ⟨rfl, HS.out, (Up.refl (One f) _).put rfl _ _⟩
/-! ### The document's Disk -/
/-- Rows of bytes as strings. -/
def strV (n : Nat) (R : Nat → List Nat) : List Value := (List.range n).map fun i => Value.string (strOf (R i))
theorem strV_length (n : Nat) (R : Nat → List Nat) : (strV n R).length = n := by simp [strV]
theorem strV_at {n i : Nat} {R : Nat → List Nat} (h : i < n) : (strV n R)[i]? = some (.string (strOf (R i))) := by simp [strV, h]
theorem strV_next (n : Nat) (R : Nat → List Nat) : strV (n + 1) R = strV n R ++ [.string (strOf (R n))] := by simp [strV, List.range_succ]
theorem strV_set {n s : Nat} {R : Nat → List Nat} (y : List Nat) (h : s < n) : (strV n R).set s (.string (strOf y)) = strV n (upd R s y) := by
  apply List.ext_getElem?
  intro i
  rw [List.getElem?_set]
  by_cases hi : i < n
  · rw [strV_at (R := upd R s y) hi]
    by_cases e : s = i
    · subst e
      rw [if_pos rfl, if_pos (by rw [strV_length]; exact h)]
      unfold upd
      rw [if_pos rfl]
    · rw [if_neg e, strV_at (R := R) hi]
      unfold upd
      rw [if_neg (fun h => e h.symm)]
  · rw [if_neg (by omega), List.getElem?_eq_none (by rw [strV_length]; omega), List.getElem?_eq_none (by rw [strV_length]; omega)]
theorem one_strV (n : Nat) (R : Nat → List Nat) : ∀ v ∈ strV n R, v.oneCell' = true := fun v hv => by
  obtain ⟨i, _, rfl⟩ := List.mem_map.1 hv
  rfl
/-- A write that is pending, as the document has it: the slot, what was there, what is. -/
structure Wt where
  slot : Nat
  was : List Nat
  now : List Nat
def wcell (x : Wt) : List Value := [.int .i64 ((x.slot : Nat) : Int), .string (strOf x.was), .string (strOf x.now)]
def wcells (ws : List Wt) : List Value := (ws.map wcell).flatten
theorem wcells_append (ws : List Wt) (x : Wt) : wcells (ws ++ [x]) = wcells ws ++ wcell x := by simp [wcells]
structure RK where
  m : Nat
  sa : Option Addr
  sc : Nat
  n : Nat
  live : Bool
  wa : Option Addr
  wc : Nat
  ws : List Wt
  fu : Option Nat
  R : Nat → List Nat
structure RD (w : World) (r : RK) : Prop where
  head : w.heap[r.m]? = some (.cells #[.slice r.sa r.n r.sc, .bool r.live, .slice r.wa r.ws.length r.wc, .pointer (fp r.fu)] 65 (0, 0))
  slots : w.ownsRow 0 9 1 (.slice r.sa r.n r.sc) r.n (strV r.n r.R)
  wait : w.ownsRow 0 98 3 (.slice r.wa r.ws.length r.wc) r.ws.length (wcells r.ws)
  le : r.n ≤ 64
  lenR : ∀ i, i < r.n → (r.R i).length = 96
  lenW : ∀ x ∈ r.ws, x.slot < r.n ∧ x.was.length = 96 ∧ x.now.length = 96
  most : r.ws.length ≤ 1000
def RK.foot (r : RK) (k : Nat) : Prop := k = r.m ∨ (Value.slice r.sa r.n r.sc).ownBlock = some k ∨ (Value.slice r.wa r.ws.length r.wc).ownBlock = some k
theorem RD.lt {w : World} {r : RK} (h : RD w r) : r.m < w.heap.size := (Array.getElem?_eq_some_iff.1 h.head).1
theorem RD.up {S : Nat → Prop} {w w' : World} {r : RK} (h : RD w r) (u : Up S w w') (hs : ∀ k, r.foot k → ¬ S k) : RD w' r :=
  ⟨(u.block _ h.lt (hs _ (.inl rfl))).trans h.head, own_up h.slots u fun g hg => hs g (.inr (.inl hg)), own_up h.wait u fun g hg => hs g (.inr (.inr hg)), h.le, h.lenR, h.lenW, h.most⟩
theorem RD.nxt {w w' : World} {r : RK} (h : RD w r) (u : Up Nul w w') : RD w' r := h.up u fun _ _ => id
theorem RD.c0 {w : World} {r : RK} (h : RD w r) : w.cell? ⟨r.m, 0, none⟩ = some (.slice r.sa r.n r.sc) := by simp [World.cell?, h.head]
theorem RD.c1 {w : World} {r : RK} (h : RD w r) : w.cell? ⟨r.m, 1, none⟩ = some (.bool r.live) := by simp [World.cell?, h.head]
theorem RD.c2 {w : World} {r : RK} (h : RD w r) : w.cell? ⟨r.m, 2, none⟩ = some (.slice r.wa r.ws.length r.wc) := by simp [World.cell?, h.head]
theorem RD.c3 {w : World} {r : RK} (h : RD w r) : w.cell? ⟨r.m, 3, none⟩ = some (.pointer (fp r.fu)) := by simp [World.cell?, h.head]
theorem RD.fr {w : World} {r : RK} (h : RD w r) (i : Nat) : w.frozen? ⟨r.m, i, none⟩ = false := by simp [World.frozen?, h.head]
theorem own_row {w : World} {T : TypeId} {sz n c : Nat} {a : Option Addr} {xs : List Value} (h : w.ownsRow 0 T sz (.slice a n c) n xs) (h0 : 0 < n) : ∃ g cur, a = some ⟨g, 0, none⟩ ∧ w.heap[g]? = some (.cells cur T (0, 0)) ∧ cur.toList.take (n * sz) = xs ∧ n ≤ c ∧ cur.size = c * sz := by
  rcases h.2 with ⟨_, e⟩ | ⟨g, cap, cur, e, _, hg, h1, h2, h3, h4⟩
  · omega
  · injection e with e1 e2 e3
    subst e3
    exact ⟨g, cur, e1, hg, h4, h1, h3⟩
/-- A slot's string in memory. -/
theorem RD.slot {w : World} {r : RK} (h : RD w r) {s : Nat} (hs : s < r.n) : ∃ g, r.sa = some ⟨g, 0, none⟩ ∧ g < w.heap.size ∧ (Value.slice r.sa r.n r.sc).ownBlock = some g ∧ w.cell? ⟨g, s, none⟩ = some (.string (strOf (r.R s))) ∧ w.frozen? ⟨g, s, none⟩ = false := by
  obtain ⟨g, cur, e, hg, ht, _, _⟩ := own_row h.slots (by omega)
  refine ⟨g, e, (Array.getElem?_eq_some_iff.1 hg).1, by rw [e]; rfl, ?_, by simp [World.frozen?, hg]⟩
  have e2 := strV_at (R := r.R) hs
  rw [← ht, List.getElem?_take, if_pos (by omega)] at e2
  simp only [World.cell?, hg]
  simpa using e2
theorem rslot_in (r : RK) (s : Nat) (w : World) (h : RD w r) (hs : s < r.n) :
    Calls Try.prog 54 #[.pointer (some ⟨r.m, 0, none⟩), .int .i64 s] w fun e w' => e = .returned (.bool true) ∧ w' = w := by
  have c0 := h.c0
  have i0 : (0 : Int) ≤ (s : Int) := by omega
  have i1 : (s : Int) < (r.n : Int) := by omega
  generalize r.m = m at c0 ⊢
  generalize r.n = n at c0 i1
  generalize r.sa = sa at c0
  generalize r.sc = sc at c0
  clear h hs
  go_enter Try.func54, Try.ntmps54
  go_wp2
  go_ret
  exact ⟨by simp, rfl⟩
theorem rslot_out (r : RK) (x : Int) (w : World) (h : RD w r) (hs : x < 0 ∨ (r.n : Int) ≤ x) :
    Calls Try.prog 54 #[.pointer (some ⟨r.m, 0, none⟩), .int .i64 x] w fun e w' => e = .returned (.bool false) ∧ w' = w := by
  have c0 := h.c0
  generalize r.m = m at c0 ⊢
  generalize r.n = n at c0 hs
  generalize r.sa = sa at c0
  generalize r.sc = sc at c0
  clear h
  by_cases h0 : x < 0
  · have i0 : ¬ (0 : Int) ≤ x := by omega
    clear hs h0
    go_enter Try.func54, Try.ntmps54
    go_wp2
    go_ret
    exact ⟨by simp, rfl⟩
  · have i0 : (0 : Int) ≤ x := by omega
    have i1 : ¬ x < (n : Int) := by omega
    clear hs h0
    go_enter Try.func54, Try.ntmps54
    go_wp2
    go_ret
    exact ⟨by simp, rfl⟩

/-! ### 'Read', 'Sync', a write that is refused -/
theorem rread_arg (r : RK) (x : Int) (w : World) (h : RD w r) (hs : x < 0 ∨ (r.n : Int) ≤ x) :
    Calls Try.prog 52 #[.pointer (some ⟨r.m, 0, none⟩), .int .i64 x] w fun e w' => e = .returned (.tuple #[.string ⟨#[]⟩, .int .i64 1]) ∧ w' = w := by
  have HL := hid (rslot_out r x w h hs)
  generalize r.m = m at HL ⊢
  clear h hs
  go_enter Try.func52, Try.ntmps52
  go_wp2_with ((go_at_call 54; (with_reducible refine HL.out.mono ?_); rintro e w1 ⟨rfl, rfl⟩))
  go_ret2
  exact ⟨rfl, rfl⟩
theorem rread_gone (r : RK) (s : Nat) (w : World) (h : RD w r) (hs : s < r.n) (hl : r.live = false) :
    Calls Try.prog 52 #[.pointer (some ⟨r.m, 0, none⟩), .int .i64 s] w fun e w' => e = .returned (.tuple #[.string ⟨#[]⟩, .int .i64 5]) ∧ w' = w := by
  have HL := hid (rslot_in r s w h hs)
  have c1 := h.c1
  rw [hl] at c1
  generalize r.m = m at HL c1 ⊢
  clear h hs hl
  go_enter Try.func52, Try.ntmps52
  go_wp2_with ((go_at_call 54; (with_reducible refine HL.out.mono ?_); rintro e w1 ⟨rfl, rfl⟩))
  go_ret2
  exact ⟨rfl, rfl⟩
theorem rread_good (r : RK) (s : Nat) (w : World) (h : RD w r) (hs : s < r.n) (hl : r.live = true) :
    Calls Try.prog 52 #[.pointer (some ⟨r.m, 0, none⟩), .int .i64 s] w fun e w' => e = .returned (.tuple #[.string (strOf (r.R s)), .int .i64 0]) ∧ w' = w := by
  have HL := hid (rslot_in r s w h hs)
  have c1 := h.c1
  rw [hl] at c1
  have c0 := h.c0
  obtain ⟨g, e, _, _, x1, _⟩ := h.slot hs
  rw [e] at c0
  have i1 : (s : Int) < (r.n : Int) := by omega
  generalize strOf (r.R s) = z at x1 ⊢
  generalize r.m = m at HL c1 c0 ⊢
  generalize r.n = n at c0 i1
  generalize r.sc = sc at c0
  clear h hs hl e
  go_enter Try.func52, Try.ntmps52
  go_wp2_with ((go_at_call 54; (with_reducible refine HL.out.mono ?_); rintro e w1 ⟨rfl, rfl⟩))
  go_ret2
  exact ⟨rfl, rfl⟩
theorem rsync_gone (r : RK) (w : World) (h : RD w r) (hl : r.live = false) :
    Calls Try.prog 29 #[.pointer (some ⟨r.m, 0, none⟩)] w fun e w' => e = .returned (.int .i64 5) ∧ w' = w := by
  have c1 := h.c1
  rw [hl] at c1
  generalize r.m = m at c1 ⊢
  clear h hl
  go_enter Try.func29, Try.ntmps29
  go_wp2
  go_ret
  exact ⟨rfl, rfl⟩
theorem rsync_dead (r : RK) (w : World) (h : RD w r) (hl : r.live = true) (hf : RFzO w r.fu (some 0)) :
    Calls Try.prog 29 #[.pointer (some ⟨r.m, 0, none⟩)] w fun e w' => e = .returned (.int .i64 4) ∧ w' = w := by
  have c1 := h.c1
  rw [hl] at c1
  have c3 := h.c3
  obtain ⟨f, F, hf⟩ := hf.is
  have HD := hid (rdead_any f _ w hf)
  rw [F] at c3
  replace c3 : w.cell? ⟨r.m, 3, none⟩ = some (.pointer (some ⟨f, 0, none⟩)) := c3
  generalize r.m = m at c1 c3 ⊢
  clear h hl hf F
  go_enter Try.func29, Try.ntmps29
  go_wp2_with ((go_at_call 56; (with_reducible refine HD.out.mono ?_); rintro e w1 ⟨rfl, rfl⟩))
  go_ret
  exact ⟨rfl, rfl⟩
theorem ne_own {w : World} {b g n sz : Nat} {A : Array Value} {S T : TypeId} {v : Value} {xs : List Value} (h : w.heap[b]? = some (.cells A S (0, 0))) (k : w.ownsRow 0 T sz v n xs) (hst : S ≠ T) (hg : v.ownBlock = some g) : g ≠ b := by
  rcases k.2 with ⟨e, _⟩ | ⟨g', cap, cur, e, _, e2, _⟩
  · rw [e] at hg; cases hg
  · rw [e] at hg
    obtain rfl : g' = g := by simpa [Value.ownBlock] using hg
    exact ne_type e2 h (fun e => hst e.symm)
theorem RD.set1 {w : World} {r : RK} (h : RD w r) (l : Bool) : RD (w.setCell ⟨r.m, 1, none⟩ (.bool l)) { r with live := l } := by
  have u := (Up.refl (One r.m) w).put rfl 1 (.bool l)
  refine ⟨?_, own_up h.slots u fun g hg e => ne_own h.head h.slots (by decide) hg e, own_up h.wait u fun g hg e => ne_own h.head h.wait (by decide) hg e, h.le, h.lenR, h.lenW, h.most⟩
  have := heap_setCell_same w r.m 1 _ _ (.bool l) h.head
  simpa using this
theorem RD.set2 {w : World} {r : RK} (h : RD w r) : RD (w.setCell ⟨r.m, 2, none⟩ (.slice none 0 0)) { r with wa := none, wc := 0, ws := [] } := by
  have u := (Up.refl (One r.m) w).put rfl 2 (.slice none 0 0)
  refine ⟨?_, own_up h.slots u fun g hg e => ne_own h.head h.slots (by decide) hg e, World.ownsRow_nil _ _ _ _, h.le, h.lenR, (fun x hx => by cases hx), by simp⟩
  have := heap_setCell_same w r.m 2 _ _ (.slice none 0 0) h.head
  simpa using this
theorem rsync_good (r : RK) (k : Option Nat) (w : World) (h : RD w r) (hl : r.live = true) (hf : RFzO w r.fu k) (hk : k ≠ some 0) :
    Calls Try.prog 29 #[.pointer (some ⟨r.m, 0, none⟩)] w fun e w' => e = .returned (.int .i64 0) ∧ RD w' { r with wa := none, wc := 0, ws := [] } ∧ Up (One r.m) w w' := by
  have c1 := h.c1
  rw [hl] at c1
  have c3 := h.c3
  have c2 := h.c2
  have f2 := h.fr 2
  have HE := hid h.set2
  have HU := hid ((Up.refl (One r.m) w).put rfl 2 (.slice none 0 0))
  generalize r.m = m at c1 c2 c3 f2 HE HU ⊢
  generalize r.ws.length = wl at c2
  generalize r.wa = wa at c2
  generalize r.wc = wc at c2
  rcases Option.eq_none_or_eq_some r.fu with e | ⟨f, e⟩
  · skip
    rw [e] at c3
    replace c3 : w.cell? ⟨m, 3, none⟩ = some (.pointer none) := c3
    clear h hl hf hk e
    go_enter Try.func29, Try.ntmps29
    go_wp2
    go_ret
    exact ⟨rfl, HE.out, HU.out⟩
  · skip
    rw [e] at c3 hf
    replace c3 : w.cell? ⟨m, 3, none⟩ = some (.pointer (some ⟨f, 0, none⟩)) := c3
    have hd := rdead_any f k w hf
    rw [show (k == some 0) = false by simpa using hk] at hd
    have HD := hid hd
    clear h hl hf hk hd e
    go_enter Try.func29, Try.ntmps29
    go_wp2_with ((go_at_call 56; (with_reducible refine HD.out.mono ?_); rintro e w1 ⟨rfl, rfl⟩))
    go_ret
    exact ⟨rfl, HE.out, HU.out⟩
theorem rwrite_slot (r : RK) (x : Int) (b : ByteArray) (w : World) (h : RD w r) (hs : x < 0 ∨ (r.n : Int) ≤ x) :
    Calls Try.prog 50 #[.pointer (some ⟨r.m, 0, none⟩), .int .i64 x, .string b] w fun e w' => e = .returned (.int .i64 1) ∧ w' = w := by
  have HL := hid (rslot_out r x w h hs)
  generalize r.m = m at HL ⊢
  clear h hs
  go_enter Try.func50, Try.ntmps50
  go_wp2_with ((go_at_call 54; (with_reducible refine HL.out.mono ?_); rintro e w1 ⟨rfl, rfl⟩))
  go_ret
  exact ⟨rfl, rfl⟩
theorem rwrite_len (r : RK) (s : Nat) (b : ByteArray) (w : World) (h : RD w r) (hs : s < r.n) (hb : b.size ≠ 96) :
    Calls Try.prog 50 #[.pointer (some ⟨r.m, 0, none⟩), .int .i64 s, .string b] w fun e w' => e = .returned (.int .i64 1) ∧ w' = w := by
  have HL := hid (rslot_in r s w h hs)
  generalize r.m = m at HL ⊢
  have i1 : ((b.size : Int) == 96) = false := by simp; omega
  have i2 : ¬ (b.size : Int) = 96 := by omega
  clear h hs
  go_enter Try.func50, Try.ntmps50
  go_wp2_with ((go_at_call 54; (with_reducible refine HL.out.mono ?_); rintro e w1 ⟨rfl, rfl⟩))
  go_ret
  exact ⟨rfl, rfl⟩
theorem rwrite_gone (r : RK) (s : Nat) (b : ByteArray) (w : World) (h : RD w r) (hs : s < r.n) (hb : b.size = 96) (hl : r.live = false) :
    Calls Try.prog 50 #[.pointer (some ⟨r.m, 0, none⟩), .int .i64 s, .string b] w fun e w' => e = .returned (.int .i64 5) ∧ w' = w := by
  have HL := hid (rslot_in r s w h hs)
  have c1 := h.c1
  rw [hl] at c1
  generalize r.m = m at HL c1 ⊢
  have i1 : (b.size : Int) = 96 := by omega
  clear h hs hl hb
  go_enter Try.func50, Try.ntmps50
  go_wp2_with ((go_at_call 54; (with_reducible refine HL.out.mono ?_); rintro e w1 ⟨rfl, rfl⟩))
  go_ret
  exact ⟨rfl, rfl⟩
theorem rwrite_dead (r : RK) (s : Nat) (b : ByteArray) (w : World) (h : RD w r) (hs : s < r.n) (hb : b.size = 96) (hl : r.live = true) (hf : RFzO w r.fu (some 0)) :
    Calls Try.prog 50 #[.pointer (some ⟨r.m, 0, none⟩), .int .i64 s, .string b] w fun e w' => e = .returned (.int .i64 4) ∧ w' = w := by
  have HL := hid (rslot_in r s w h hs)
  obtain ⟨f, F, hf⟩ := hf.is
  have HD := hid (rspend_dead f w hf)
  have c1 := h.c1
  rw [hl] at c1
  have c3 := h.c3
  rw [F] at c3
  replace c3 : w.cell? ⟨r.m, 3, none⟩ = some (.pointer (some ⟨f, 0, none⟩)) := c3
  generalize r.m = m at HL c1 c3 ⊢
  have i1 : (b.size : Int) = 96 := by omega
  clear h hs hl hb hf F
  go_enter Try.func50, Try.ntmps50
  go_wp2_with (first
    | (go_at_call 54; (with_reducible refine HL.out.mono ?_); rintro e w1 ⟨rfl, rfl⟩)
    | (go_at_call 65; (with_reducible refine HD.out.mono ?_); rintro e w1 ⟨rfl, rfl⟩))
  go_ret
  exact ⟨rfl, rfl⟩
end Go.Proofs.Ytfmgbmpdifjliaa
