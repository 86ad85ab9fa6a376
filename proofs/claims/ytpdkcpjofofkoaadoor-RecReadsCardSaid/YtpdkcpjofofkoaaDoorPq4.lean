/- The document's reader: take, num. -/
import Derived.Test.YtpdkcpjofofkoaaDoorPkTidy
import Derived.Test.YtpdkcpjofofkoaaDoorPq3
import Derived.Test.YtpdkcpjofofkoaaDoorPq2
import Derived.Test.YtpdkcpjofofkoaaDoorPq1
set_option maxRecDepth 100000
namespace Go.Proofs.YtpdkcpjofofkoaaDoor
open Go.RowKit
set_option linter.unusedVariables false
theorem rslice_from (s : ByteArray) (k : Nat) (h : k ≤ s.size) (W : World) : (Instr.slice 9 (.string s) (some (.int .i64 (k : Int))) none none).run Tryd.prog W = .ok (.string (s.extract k s.size)) W := by
 rw [run_slice_string_l (P := Tryd.prog) W 9 s Tryd.underlying9 .i64 k (by omega) (by omega)]
 simp
theorem rslice_to (s : ByteArray) (k : Nat) (h : k ≤ s.size) (W : World) : (Instr.slice 9 (.string s) none (some (.int .i64 (k : Int))) none).run Tryd.prog W = .ok (.string (s.extract 0 k)) W := by
 rw [run_slice_string_h (P := Tryd.prog) W 9 s Tryd.underlying9 .i64 k (by omega) (by omega)]
 simp
/-- The next n bytes, or noughts; what is left; whether they are lacking. -/
def tk (n : Nat) (z : List Nat) : List Nat := if z.length < n then zer n else z.take n
def rs (n : Nat) (z : List Nat) : List Nat := if z.length < n then [] else z.drop n
def lk (n : Nat) (z : List Nat) : Bool := decide (z.length < n)
theorem tk_length (n : Nat) (z : List Nat) : (tk n z).length = n := by
 unfold tk
 split
 ·exact zer_length n
 ·rw [List.length_take]; omega
theorem tk_small {n : Nat} {z : List Nat} (h : ∀ x ∈ z, x < 256) : ∀ x ∈ tk n z, x < 256 := by
 unfold tk
 split
 ·exact zer_small n
 ·exact fun x hx => h x (List.mem_of_mem_take hx)
theorem rs_small {n : Nat} {z : List Nat} (h : ∀ x ∈ z, x < 256) : ∀ x ∈ rs n z, x < 256 := by
 unfold rs
 split
 ·exact fun x hx => by cases hx
 ·exact fun x hx => h x (List.mem_of_mem_drop hx)
theorem rs_le (n : Nat) (z : List Nat) : (rs n z).length ≤ z.length := by
 unfold rs
 split
 ·exact Nat.zero_le _
 ·rw [List.length_drop]; omega
theorem tk_app (y z : List Nat) : tk y.length (y ++ z) = y ∧ rs y.length (y ++ z) = z ∧ lk y.length (y ++ z) = false := by
 have h : ¬ (y ++ z).length < y.length := by rw [List.length_append]; omega
 unfold tk rs lk
 rw [if_neg h, if_neg h]
 exact ⟨List.take_left, List.drop_left, decide_eq_false h⟩
/-- The reader in a block. -/
def Rd (w : World) (p : Nat) (z : List Nat) (b : Bool) : Prop := w.heap[p]? = some (.cells #[.string (strOf z), .bool b] 75 (0, 0))
theorem Rd.lt {w : World} {p : Nat} {z : List Nat} {b : Bool} (h : Rd w p z b) : p < w.heap.size := (Array.getElem?_eq_some_iff.1 h).1
theorem Rd.up {S : Nat → Prop} {w w' : World} {p : Nat} {z : List Nat} {b : Bool} (h : Rd w p z b) (u : Up S w w') (hs : ¬ S p) : Rd w' p z b := (u.block p h.lt hs).trans h
set_option maxHeartbeats 1600000 in
theorem take_s (w : World) (p n : Nat) (z : List Nat) (b : Bool) (h : Rd w p z b) (hz : ∀ x ∈ z, x < 256) (hl : z.length ≤ 100000) (hn : n ≤ 300) :
  Calls Tryd.prog 40 #[.pointer (some ⟨p, 0, none⟩), .int .i64 (n : Nat)] w fun e w' => ∃ o, e = .returned (.string o) ∧ o = strOf (tk n z) ∧ Rd w' p (rs n z) (b || lk n z) ∧ Up (One p) w w' := by
 have hq : w.heap[p]? = _ := h
 have hlt := h.lt
 have hsz := strOf_size z
 obtain ⟨m, hm⟩ : ∃ m, m = z.length := ⟨_, rfl⟩
 rw [← hm] at hsz hl
 by_cases hb : m < n
 ·have T1 : tk n z = zer n := by unfold tk; rw [if_pos (by omega)]
  have T2 : rs n z = [] := by unfold rs; rw [if_pos (by omega)]
  have T3 : (b || lk n z) = true := by unfold lk; rw [decide_eq_true (by omega)]; simp
  have q1 := heap_set_same (heap_set_same hq 1 (.bool true)) 0 (.string ⟨#[]⟩)
  have u1 : Up (One p) w ((w.setCell ⟨p, 1, none⟩ (.bool true)).setCell ⟨p, 0, none⟩ (.string ⟨#[]⟩)) := ((Up.refl (One p) w).put rfl 1 (.bool true)).put rfl 0 (.string ⟨#[]⟩)
  obtain ⟨W1, hW1⟩ : ∃ W, W = (w.setCell ⟨p, 1, none⟩ (.bool true)).setCell ⟨p, 0, none⟩ (.string ⟨#[]⟩) := ⟨_, rfl⟩
  rw [← hW1] at q1 u1
  have hmk := make_bytes W1 n (by omega)
  have hcv := (slm_new W1 (zer n) (zer_small n) (by rw [zer_length]; omega)).conv n
  rw [zer_length] at hcv
  have HF : Hid (Rd (W1.alloc (.cells (bys (zer n)) 5)) p (rs n z) (b || lk n z) ∧ Up (One p) w (W1.alloc (.cells (bys (zer n)) 5))) := by
   refine ⟨?_, u1.alloc _⟩
   rw [T2, T3]
   show (W1.alloc _).heap[p]? = _
   rw [Below.heap_alloc _ _ _ (Nat.lt_of_lt_of_le hlt u1.size), q1]
   rfl
  have HT : Hid (strOf (zer n) = strOf (tk n z)) := by show _ = _; rw [T1]
  generalize strOf (zer n) = so at hcv HT
  obtain ⟨W2, hW2⟩ : ∃ W, W = W1.alloc (.cells (bys (zer n)) 5) := ⟨_, rfl⟩
  rw [← hW2] at hmk hcv HF
  have c0 : w.cell? ⟨p, 0, none⟩ = some (.string (strOf z)) := by simp [World.cell?, hq]
  have c1 : w.cell? ⟨p, 1, none⟩ = some (.bool b) := by simp [World.cell?, hq]
  have f0 : w.frozen? ⟨p, 0, none⟩ = false := by simp [World.frozen?, hq]
  have f1 : w.frozen? ⟨p, 1, none⟩ = false := by simp [World.frozen?, hq]
  generalize W1.heap.size = gm at hmk hcv
  rw [hW1] at hmk
  generalize strOf z = s at c0 hsz
  have i1 : (m : Int) < (n : Int) := by omega
  clear hq h hb q1 u1 hW1 hW2 T1 T2 T3 hm hz
  go_enter Tryd.func40, Tryd.ntmps40
  go_wp2
  go_ret
  exact ⟨so, rfl, HT.out, HF.out⟩
 ·have T1 : tk n z = z.take n := by unfold tk; rw [if_neg (by omega)]
  have T2 : rs n z = z.drop n := by unfold rs; rw [if_neg (by omega)]
  have T3 : (b || lk n z) = b := by unfold lk; rw [decide_eq_false (by omega)]; simp
  have q1 := heap_set_same hq 0 (.string (strOf (z.drop n)))
  have u1 : Up (One p) w (w.setCell ⟨p, 0, none⟩ (.string (strOf (z.drop n)))) := (Up.refl (One p) w).put rfl 0 (.string (strOf (z.drop n)))
  have e1 : (strOf z).extract 0 n = strOf (z.take n) := by rw [strOf_extract]; simp
  have e2 : (strOf z).extract n (strOf z).size = strOf (z.drop n) := by rw [strOf_extract, hsz, hm, List.take_of_length_le (by rw [List.length_drop]; omega)]
  have HF : Hid (Rd (w.setCell ⟨p, 0, none⟩ (.string (strOf (z.drop n)))) p (rs n z) (b || lk n z) ∧ Up (One p) w (w.setCell ⟨p, 0, none⟩ (.string (strOf (z.drop n))))) := by
   refine ⟨?_, u1⟩
   rw [T2, T3]
   exact q1
  have HT : Hid (strOf (z.take n) = strOf (tk n z)) := by show _ = _; rw [T1]
  have s1 := rslice_to (strOf z) n (by omega) w
  have s2 := rslice_from (strOf z) n (by omega) w
  rw [e1] at s1
  rw [e2] at s2
  have c0 : w.cell? ⟨p, 0, none⟩ = some (.string (strOf z)) := by simp [World.cell?, hq]
  have f0 : w.frozen? ⟨p, 0, none⟩ = false := by simp [World.frozen?, hq]
  generalize strOf (z.take n) = o1 at s1 HT
  generalize strOf (z.drop n) = o2 at s2 HF
  generalize strOf z = s at c0 hsz s1 s2
  have i1 : ¬ (m : Int) < (n : Int) := by omega
  clear hq h hb q1 u1 e1 e2 T1 T2 T3 hm hz
  go_enter Tryd.func40, Tryd.ntmps40
  go_wp2
  go_ret
  exact ⟨o1, rfl, HT.out, HF.out⟩
set_option maxHeartbeats 1600000 in
theorem num_s (w : World) (p n : Nat) (z : List Nat) (b : Bool) (h : Rd w p z b) (hz : ∀ x ∈ z, x < 256) (hl : z.length ≤ 100000) (hn : n ≤ 4) :
  Calls Tryd.prog 39 #[.pointer (some ⟨p, 0, none⟩), .int .i64 (n : Nat)] w fun e w' => e = .returned (.int .i64 ((fold8 (tk n z) : Nat) : Int)) ∧ Rd w' p (rs n z) (b || lk n z) ∧ Up (One p) w w' := by
 have HN := hid (take_s w p n z b h hz hl (by omega))
 obtain ⟨y, hy⟩ : ∃ y, y = tk n z := ⟨_, rfl⟩
 rw [← hy] at HN ⊢
 have HL : Hid (y.length = n) := by show _ = _; rw [hy]; exact tk_length _ _
 have HY : Hid (∀ x ∈ y, x < 256) := by show ∀ x ∈ y, x < 256; rw [hy]; exact tk_small hz
 have HM := hid hn
 clear hy h hz hl hn
 go_enter Tryd.func39, Tryd.ntmps39
 go_wp2_with fail
 refine HN.out.mono ?_
 rintro e w1 ⟨o, rfl, ho, hr, hu⟩
 have HO := hid ho
 have HR := hid hr
 have HU := hid hu
 have hos : o.size = n := by rw [ho, strOf_size, HL.out]
 clear ho hr hu HN
 go_wp2_with fail
 go_loopw [6, 7] (fun x i wr => ∃ t : Nat, t ≤ n ∧ i = .int .i64 (t : Nat) ∧ x = .int .i64 (fold8 (y.take t) : Nat) ∧ wr = w1) (fun _ i _ => n - (intOf i).toNat)
 case atStart => exact ⟨0, Nat.zero_le _, rfl, rfl, by trivial⟩
 case round =>
  obtain ⟨t, ht, rfl, rfl, rfl⟩ := hrel
  have hm4 := HM.out
  have i0 : (0 : Int) ≤ (t : Int) := by omega
  have i9 : (t : Int) ≤ 4 := by omega
  by_cases hlt : t < n
  ·have htl : t < y.length := by rw [HL.out]; exact hlt
   have hc := HY.out _ (List.getElem_mem htl)
   have HN := hid (fold8_next htl)
   have hfl := fold8_lt HY.out t (by omega)
   have h3 : 256 ^ t ≤ 256 ^ 3 := Nat.pow_le_pow_right (by omega) (by omega)
   have hix := idx_key o t y[t] (by omega) (by rw [HO.out, nums_strOf (small_getD HY.out)]; exact List.getElem?_eq_getElem htl)
   generalize y[t] = c at hix hc HN
   generalize fold8 (y.take t) = f at HN hfl ⊢
   have hf : f < 16777216 := by omega
   clear hfl h3 htl
   have i2 : (t : Int) < (n : Int) := by omega
   have HT := hid hlt
   have j1 := i64_or8 (x := (f : Int)) (y := (c : Int)) (by omega) (by omega) (by omega) (by omega)
   have j2 : (f : Int) * 256 < 4294967296 := by omega
   have j3 : (0 : Int) ≤ (f : Int) * 256 := by omega
   have j5 : wrap64 (c : Int) = (c : Int) := by rw [← IntWalk.i64_left]; exact IntWalk.i64_in _ (by omega)
   clear hc hf ht hlt
   go_wp2_with fail
   go_roundw
   case rel => exact ⟨t + 1, HT.out, by go_num, by rw [HN.out]; simp, by trivial⟩
   case measure => have := HT.out; simp [intOf]; omega
  ·obtain rfl : t = n := by omega
   have HE : Hid (fold8 (y.take t) = fold8 y) := by show _ = _; rw [List.take_of_length_le (by rw [HL.out]; exact Nat.le_refl _)]
   rw [HE.out]
   clear ht hlt hm4
   have i2 : ¬ (t : Int) < (t : Int) := by omega
   go_wp2_with fail
   go_ret
   exact ⟨rfl, HR.out, HU.out⟩
theorem fold8_bound {n : Nat} {z : List Nat} (hz : ∀ x ∈ z, x < 256) : fold8 (tk n z) < 256 ^ n := by
 have := fold8_lt (tk_small (n := n) hz) n (by rw [tk_length]; exact Nat.le_refl _)
 rwa [List.take_of_length_le (by rw [tk_length]; exact Nat.le_refl _)] at this
end Go.Proofs.YtpdkcpjofofkoaaDoor
namespace Go.Proofs.YtpdkcpjofofkoaaDoor
open Go.RowKit
set_option linter.unusedVariables false

/-- What the ten parts of Ok are told. -/
structure OkC (w : World) (s : ByteArray) (n sid co : Int) (sa : Option Addr) (ns cs : Nat) (la : Option Addr) (nl cl : Nat) (t : Tb) (k : Nat) (c1 c2 c3 c4 c5 c6 c7 c8 c9 c10 : Bool) : Prop where
 h1 : ∀ W, Up Nul w W → ∀ g, W.cell? ⟨g, 0, none⟩ = some (.int .i64 (s.size : Nat)) → Calls Tryd.prog 20 #[.agg #[.int .i64 (sh k 0), .int .i64 (sh k 1)], .slice (some ⟨g, 0, none⟩) 1 1] W fun e w' => e = .returned (.bool c1) ∧ Up Nul W w'
 h2 : ∀ W, Calls Tryd.prog 21 #[.string s] W fun e w' => e = .returned (.bool c2) ∧ Up Nul W w'
 h3 : ∀ W, Up Nul w W → ∀ g, W.cell? ⟨g, 0, none⟩ = some (.int .i64 n) → Calls Tryd.prog 20 #[.agg #[.int .i64 (sh k 2), .int .i64 (sh k 3)], .slice (some ⟨g, 0, none⟩) 1 1] W fun e w' => e = .returned (.bool c3) ∧ Up Nul W w'
 h4 : ∀ W, Up Nul w W → ∀ g, W.cell? ⟨g, 0, none⟩ = some (.int .i64 sid) → Calls Tryd.prog 20 #[.agg #[.int .i64 (sh k 4), .int .i64 (sh k 5)], .slice (some ⟨g, 0, none⟩) 1 1] W fun e w' => e = .returned (.bool c4) ∧ Up Nul W w'
 h5 : ∀ W, Up Nul w W → ∀ g, W.cell? ⟨g, 0, none⟩ = some (.int .i64 co) → Calls Tryd.prog 20 #[.agg #[.int .i64 (sh k 6), .int .i64 (sh k 7)], .slice (some ⟨g, 0, none⟩) 1 1] W fun e w' => e = .returned (.bool c5) ∧ Up Nul W w'
 h6 : ((ns : Int) == sh k 8) = c6
 h7 : ∀ W, Up Nul w W → Calls Tryd.prog 20 #[.agg #[.int .i64 (sh k 9), .int .i64 (sh k 10)], .slice sa ns cs] W fun e w' => e = .returned (.bool c7) ∧ Up Nul W w'
 h8 : c6 = true → ∃ q : Int, ((nl : Int) == q) = c8 ∧ ∀ W, Up Nul w W → Calls Tryd.prog 22 #[shv k, .slice sa ns cs] W fun e w' => e = .returned (.int .i64 q) ∧ Up Nul W w'
 h9 : ∀ W, Up Nul w W → Calls Tryd.prog 23 #[.slice la nl cl, .func (.func 24) #[] #[]] W fun e w' => e = .returned (.bool (! c9)) ∧ Up Nul W w'
 h10 : ∀ W, ∀ g, RowI W (some ⟨g, 0, none⟩) t.l → Calls Tryd.prog 20 #[.agg #[.int .i64 (sh k 13), .int .i64 (sh k 14)], .slice (some ⟨g, 0, none⟩) 6 6] W fun e w' => e = .returned (.bool c10) ∧ Up Nul W w'
end Go.Proofs.YtpdkcpjofofkoaaDoor
