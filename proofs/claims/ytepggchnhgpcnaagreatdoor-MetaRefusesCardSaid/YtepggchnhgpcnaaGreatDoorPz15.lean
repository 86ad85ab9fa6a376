/- Rows of values of some cells each: read, cut, and appended to. -/
import Derived.Test.YtepggchnhgpcnaaGreatDoorPkTidy
import Derived.Test.YtepggchnhgpcnaaGreatDoorPz14
import Derived.Test.YtepggchnhgpcnaaGreatDoorPz12
import Derived.Deep.Upon
import Derived.Sort.Walk0
import Derived.BigQuiet
import Derived.Deep.QuietTactic
namespace Go.Proofs.YtepggchnhgpcnaaGreatDoor
open Go.RowKit Go.Maps
set_option linter.unusedVariables false

structure RdR (s : Nat) (w : World) (a : Option Addr) (m : Nat) (ys : List Value) : Prop where
 len : ys.length = m * s
 one : ∀ u ∈ ys, u.oneCell' = true
 row : 0 < m → ∃ g o, a = some ⟨g, o, none⟩ ∧ g < w.heap.size ∧ ∀ j u, ys[j]? = some u → w.cell? ⟨g, o + j, none⟩ = some u
 noneR : (∃ g o, a = some ⟨g, o, none⟩) ∨ a = none
section
variable {S : Nat → Prop} {w w' : World} {T : TypeId} {base s n m c : Nat} {a : Option Addr} {v : Value} {xs ys : List Value}
theorem RdR.up (h : RdR s w a m ys) (u : Up S w w') (hs : ∀ g o, a = some ⟨g, o, none⟩ → ¬ S g) : RdR s w' a m ys :=
 ⟨h.len, h.one, fun hm => by
  obtain ⟨g, o, e, hg, hc⟩ := h.row hm
  exact ⟨g, o, e, Nat.lt_of_lt_of_le hg u.size, fun j x hx => (u.cell (p := ⟨g, o + j, none⟩) hg (hs g o e)).trans (hc j x hx)⟩, h.noneR⟩
theorem RdR.nxt (h : RdR s w a m ys) (u : Up Nul w w') : RdR s w' a m ys := h.up u fun _ _ _ => id
theorem RdR.nil (s : Nat) (w : World) : RdR s w none 0 [] := ⟨(by simp), (fun u h => by cases h), (fun h => absurd h (by omega)), .inr rfl⟩
theorem ownsRow.rd (h : w.ownsRow base T s v n xs) (h1 : ∀ u ∈ xs, u.oneCell' = true) : ∃ a c, v = .slice a n c ∧ n ≤ c ∧ RdR s w a n xs ∧ (a = none → n = 0 ∧ c = 0) ∧ ∀ g o, a = some ⟨g, o, none⟩ → v.ownBlock = some g := by
 rcases h.2 with ⟨rfl, rfl⟩ | ⟨g, cap, cur, rfl, h2, h3, h4, h5, h6, h7⟩
 ·exact ⟨none, 0, rfl, Nat.le_refl _, ⟨h.1, h1, fun h => absurd h (by omega), .inr rfl⟩, fun _ => ⟨rfl, rfl⟩, fun g o e => (by cases e)⟩
 ·refine ⟨_, cap, rfl, h4, ⟨h.1, h1, fun _ => ⟨g, 0, rfl, (Array.getElem?_eq_some_iff.1 h3).1, fun j u hu => ?_⟩, .inl ⟨g, 0, rfl⟩⟩, fun e => (by cases e), fun g' o e => (by injection e with e; injection e with e; rw [← e]; rfl)⟩
  have hl : j < n * s := by
   rw [← h.1]
   rcases Nat.lt_or_ge j xs.length with h | h
   ·exact h
   ·rw [List.getElem?_eq_none h] at hu; cases hu
  have hc : cur[j]? = some u := by
   have e : (cur.toList.take (n * s))[j]? = some u := by rw [h7]; exact hu
   rw [List.getElem?_take, if_pos hl] at e
   simpa using e
  simp only [World.cell?, h3, Nat.zero_add]
  exact hc
theorem ownsRow.up (h : w.ownsRow base T s v n xs) (u : Up S w w') (hs : ∀ g, v.ownBlock = some g → ¬ S g) : w'.ownsRow base T s v n xs := by
 refine ⟨h.1, ?_⟩
 rcases h.2 with hn | ⟨g, cap, cur, h1, h2, h3, h4⟩
 ·exact .inl hn
 ·have hl := (Array.getElem?_eq_some_iff.1 h3).1
  exact .inr ⟨g, cap, cur, h1, h2, (u.block g hl (hs g (by rw [h1]; rfl))).trans h3, h4⟩
theorem ownsRow.lower {b' : Nat} (h : w.ownsRow base T s v n xs) (hb : b' ≤ base) : w.ownsRow b' T s v n xs := by
 refine ⟨h.1, ?_⟩
 rcases h.2 with e | ⟨g, cap, cur, h1, h2, h3⟩
 ·exact .inl e
 ·exact .inr ⟨g, cap, cur, h1, Nat.le_trans hb h2, h3⟩
theorem ownsRow.lt (h : w.ownsRow base T s v n xs) : ∀ g, v.ownBlock = some g → base ≤ g ∧ g < w.heap.size := by
 rcases h.2 with ⟨rfl, _⟩ | ⟨g, cap, cur, rfl, h2, h3, _⟩
 ·intro g e; cases e
 ·intro g' e
  have e : g = g' := by injection e
  subst e
  exact ⟨h2, (Array.getElem?_eq_some_iff.1 h3).1⟩
theorem app_r {t : TypeId} {by_ : Nat} (ht : Tryz.prog.underlying t = some (.slice T)) (hinf : (Tryz.prog.info? T).map (fun i => (i.size, i.bytes, i.zero.map fun z => z.cells.size)) = some (s, by_, some s)) (hs : 0 < s) (hby : by_ ≤ 1000)
  (h : w.ownsRow base T s v n xs) (hr : RdR s w a m ys) (ha : a = none → m = 0 ∧ c = 0) (hl : n + m ≤ 100000) (hb : base ≤ w.heap.size) (ty : TypeId) :
  ∃ v' w', (Builtin.append_ #[t, t] ty #[v, .slice a m c]).run Tryz.prog w = .ok v' w' ∧ w'.ownsRow base T s v' (n + m) (xs ++ ys) ∧ w.grownBy w' v.ownBlock ∧ (v'.ownBlock = v.ownBlock ∨ v'.ownBlock = some w.heap.size) := by
 cases e : Tryz.prog.info? T with
 | none => rw [e] at hinf; cases hinf
 | some i =>
  rw [e] at hinf
  simp only [Option.map_some, Option.some.injEq, Prod.mk.injEq, Option.map_eq_some_iff] at hinf
  obtain ⟨e1, e2, z, e3, e4⟩ := hinf
  by_cases h0 : m = 0
  ·subst h0
   have hy : ys = [] := List.length_eq_zero_iff.1 (by rw [hr.len, Nat.zero_mul])
   subst hy
   have hshape : ∃ va vc, v = .slice va n vc ∧ n ≤ vc := by
    rcases h.2 with ⟨rfl, rfl⟩ | ⟨g, cap, cur, rfl, h2, h3, h4, _⟩
    ·exact ⟨none, 0, rfl, Nat.le_refl _⟩
    ·exact ⟨_, _, rfl, h4⟩
   obtain ⟨va, vc, rfl, hvc⟩ := hshape
   refine ⟨_, w, run_append_nothing w t t ty T i ht e va n vc hvc _ ?_, by rw [List.append_nil, Nat.add_zero]; exact h, ⟨rfl, rfl, rfl, Nat.le_refl _, fun _ _ _ => rfl⟩, .inl rfl⟩
   rcases hr.noneR with ⟨g, o, rfl⟩ | rfl
   ·exact Src.ofSlice w ht ⟨g, o, none⟩ 0 c [] (by simp) (fun j u hu => by cases hu) (fun u hu => by cases hu)
   ·obtain ⟨_, rfl⟩ := ha rfl
    exact Src.ofNil w ht 0
  ·obtain ⟨g, o, rfl, hg, hc⟩ := hr.row (by omega)
   have hb2 : (n + m) * by_ ≤ 140737488355328 := by
    have := Nat.mul_le_mul (show n + m ≤ 100000 from hl) hby
    omega
   have hnews : ∀ j u, ys[j]? = some u → w.cell? ((⟨g, o, none⟩ : Addr).add j) = some u := fun j u hu => by rw [add_off]; exact hc j u hu
   obtain ⟨v', w', hrun, g1, g2, _⟩ := run_append_own (P := Tryz.prog) w base t ty T i z s by_ ht e e3 e1 e2 e4 hs v n xs h ⟨g, o, none⟩ m c ys hr.len hnews hr.one (by unfold maxLen; omega) hb2 hb
   refine ⟨v', w', hrun, g1, g2, append_where_m w w' v v' t ty T i z base n m xs ht e e3 (by rw [e1]; exact h) ⟨g, o, none⟩ c ys (by omega) (by rw [e1]; exact hr.len) hnews hr.one (by omega) (by rw [e2]; exact hby) hrun⟩
theorem Up.app {row : Option Nat} {W : World} (h : Up S W w) (hg : w.grownBy w' row) (hr : ∀ k, row = some k → W.heap.size ≤ k ∨ S k) : Up S W w' :=
 ⟨hg.os.trans h.os, hg.tape.trans h.tape, hg.output.trans h.output, Nat.le_trans h.size hg.size, fun k hk hs => (hg.block k (Nat.lt_of_lt_of_le hk h.size) (fun e => by rcases hr k e.symm with e | e; omega; exact hs e)).trans (h.block k hk hs)⟩
theorem RdR.grown {row : Option Nat} (h : RdR s w a m ys) (hg : w.grownBy w' row) (hr : ∀ g o, a = some ⟨g, o, none⟩ → row ≠ some g) : RdR s w' a m ys :=
 ⟨h.len, h.one, fun hm => by
  obtain ⟨g, o, e, hgs, hc⟩ := h.row hm
  exact ⟨g, o, e, Nat.lt_of_lt_of_le hgs hg.size, fun j x hx => hg.cell (a := ⟨g, o + j, none⟩) (hc j x hx) fun e' => hr g o e e'.symm⟩, h.noneR⟩
end
theorem flat_len {α : Type} {f : α → List Value} {s : Nat} (hf : ∀ x, (f x).length = s) (l : List α) : (l.flatMap f).length = l.length * s := by
 induction l with
 | nil => simp
 | cons x l ih => rw [List.flatMap_cons, List.length_append, ih, hf, List.length_cons, Nat.add_mul]; omega
theorem flat_take {α : Type} {f : α → List Value} {s : Nat} (hf : ∀ x, (f x).length = s) (l : List α) (i : Nat) : (l.flatMap f).take (i * s) = (l.take i).flatMap f := by
 induction l generalizing i with
 | nil => simp
 | cons x l ih =>
  cases i with
  | zero => simp
  | succ i => rw [List.take_succ_cons, List.flatMap_cons, List.flatMap_cons, ← ih i, show (i + 1) * s = (f x).length + i * s from by rw [hf, Nat.add_mul]; omega, List.take_length_add_append]
theorem flat_drop {α : Type} {f : α → List Value} {s : Nat} (hf : ∀ x, (f x).length = s) (l : List α) (i : Nat) : (l.flatMap f).drop (i * s) = (l.drop i).flatMap f := by
 induction l generalizing i with
 | nil => simp
 | cons x l ih =>
  cases i with
  | zero => simp
  | succ i => rw [List.drop_succ_cons, List.flatMap_cons, ← ih i, show (i + 1) * s = (f x).length + i * s from by rw [hf, Nat.add_mul]; omega, List.drop_length_add_append]
theorem flat_at {α : Type} {f : α → List Value} {s : Nat} (hf : ∀ x, (f x).length = s) (l : List α) (i : Nat) (x : α) (h : l[i]? = some x) (j : Nat) (hj : j < s) : (l.flatMap f)[i * s + j]? = (f x)[j]? := by
 have hi : i < l.length := by
  rcases Nat.lt_or_ge i l.length with h' | h'
  ·exact h'
  ·rw [List.getElem?_eq_none h'] at h; cases h
 have e : l.drop i = x :: l.drop (i + 1) := by
  rw [List.getElem?_eq_getElem hi] at h
  injection h with h
  rw [← h, List.drop_eq_getElem_cons hi]
 rw [← List.getElem?_drop, flat_drop hf, e, List.flatMap_cons, List.getElem?_append_left (by rw [hf]; exact hj)]
section
variable {w : World} {s m c i : Nat} {a : Option Addr} {ys : List Value}
theorem RdR.take (h : RdR s w a m ys) (hi : i ≤ m) : RdR s w a i (ys.take (i * s)) :=
 ⟨by rw [List.length_take, h.len]; exact Nat.min_eq_left (Nat.mul_le_mul_right _ hi), fun u hu => h.one u (List.mem_of_mem_take hu), fun h0 => by
  obtain ⟨g, o, e, hg, hc⟩ := h.row (by omega)
  exact ⟨g, o, e, hg, fun j u hu => hc j u (by rw [List.getElem?_take] at hu; split at hu; exact hu; cases hu)⟩, h.noneR⟩
theorem RdR.drop (h : RdR s w a m ys) (hi : i ≤ m) (hmc : m ≤ c) : RdR s w (if c = i then a else a.map (·.add (i * s))) (m - i) (ys.drop (i * s)) := by
 refine ⟨by rw [List.length_drop, h.len, Nat.sub_mul], fun u hu => h.one u (List.mem_of_mem_drop hu), fun h0 => ?_, ?_⟩
 ·obtain ⟨g, o, e, hg, hc⟩ := h.row (by omega)
  by_cases hci : c = i
  ·omega
  ·rw [if_neg hci, e]
   refine ⟨g, o + i * s, by rw [Option.map_some, add_off], hg, fun j u hu => ?_⟩
   rw [List.getElem?_drop] at hu
   have := hc _ u hu
   rw [Nat.add_assoc]
   exact this
 ·rcases h.noneR with ⟨g, o, rfl⟩ | rfl
  ·split
   ·exact .inl ⟨g, o, rfl⟩
   ·exact .inl ⟨g, o + i * s, by rw [Option.map_some, add_off]⟩
  ·split <;> exact .inr rfl
end
end Go.Proofs.YtepggchnhgpcnaaGreatDoor
namespace Go.Proofs.YtepggchnhgpcnaaGreatDoor
open Go.RowKit Go.Maps Go.Sort
set_option linter.unusedVariables false

def bcl (b : Bl) : List Value := [.int .i64 b.n, .int .i64 b.sid, .int .i64 b.part]
def scl (s : St) (v : Value) : List Value := [.int .i64 s.kind, .int .i64 s.colour, .string s.k0, .string s.k1, .string s.k2, v]
abbrev blz : Bl := ⟨0, 0, 0⟩
abbrev stz : St := ⟨0, 0, noK, noK, noK, []⟩
def MM.bof (M : MM) (k : ByteArray) : Bl := (M.b k).getD blz
def MM.sof (M : MM) (i : Int) : St := (M.s i).getD stz
def bcells (M : MM) (ks : List ByteArray) : List Value := ks.flatMap fun k => bcl (M.bof k)
def scells (M : MM) (Q : Int → Value) (is : List Int) : List Value := is.flatMap fun i => scl (M.sof i) (Q i)
def kcells (ks : List ByteArray) : List Value := ks.map Value.string
theorem kcells_flat (ks : List ByteArray) : kcells ks = ks.flatMap fun k => [Value.string k] := by
 unfold kcells
 induction ks with
 | nil => rfl
 | cons x l ih => rw [List.map_cons, ih]; rfl
theorem intV_flat (zs : List Int) : intV zs = zs.flatMap fun z => [Value.int .i64 z] := by
 unfold intV
 induction zs with
 | nil => rfl
 | cons x l ih => rw [List.map_cons, ih]; rfl
theorem bcells_one (M : MM) (ks : List ByteArray) : ∀ u ∈ bcells M ks, u.oneCell' = true := by
 intro u hu
 obtain ⟨k, _, hk⟩ := List.mem_flatMap.1 hu
 simp only [bcl, List.mem_cons, List.not_mem_nil, or_false] at hk
 rcases hk with rfl | rfl | rfl <;> rfl
theorem kcells_one (ks : List ByteArray) : ∀ u ∈ kcells ks, u.oneCell' = true := by
 intro u hu
 obtain ⟨k, _, rfl⟩ := List.mem_map.1 hu
 rfl
theorem intV_one (zs : List Int) : ∀ u ∈ intV zs, u.oneCell' = true := by
 intro u hu
 obtain ⟨k, _, rfl⟩ := List.mem_map.1 hu
 rfl
abbrev kl (a b : ByteArray) : Prop := Op.bytesLess a.toList b.toList = true
theorem kl_iff (a b : ByteArray) : kl a b ↔ a.data.toList < b.data.toList := by
 unfold kl
 rw [bytesLess_eq, Lib.toList_data, Lib.toList_data, decide_eq_true_eq]
structure Pos {α : Type} (R : α → α → Prop) (l : List α) (k : α) (i : Nat) : Prop where
 le : i ≤ l.length
 lo : ∀ x ∈ l.take i, R x k
 hi : ∀ x, l[i]? = some x → ¬ R x k
abbrev PosK (ks : List ByteArray) (k : ByteArray) (i : Nat) : Prop := Pos kl ks k i
abbrev PosI (is : List Int) (k : Int) (i : Nat) : Prop := Pos (fun a b => a < b) is k i
structure RK (M : MM) (ks : List ByteArray) : Prop where
 up : ks.Pairwise kl
 mem : ∀ k, k ∈ ks ↔ (M.b k).isSome = true
structure RI (M : MM) (is : List Int) : Prop where
 up : is.Pairwise fun a b => a < b
 mem : ∀ i, i ∈ is ↔ (M.s i).isSome = true
abbrev rhead (kv bv iv sv : Value) (nx : Int) (t : Tb) : Array Value := #[kv, bv, iv, sv, .int .i64 nx, .int .i64 t.hot, .int .i64 t.warm, .int .i64 t.gap, .int .i64 t.add, .int .i64 t.top, .int .i64 t.half]
structure RR (F : Nat → Prop) (w : World) (Q : Int → Value) (M : MM) (ks : List ByteArray) (is : List Int) (kv bv iv sv : Value) : Prop where
 ko : w.ownsRow 0 9 1 kv ks.length (kcells ks)
 bo : w.ownsRow 0 51 3 bv ks.length (bcells M ks)
 io : w.ownsRow 0 3 1 iv is.length (intV is)
 so : w.ownsRow 0 46 6 sv is.length (scells M Q is)
 lo : ∀ i s, M.s i = some s → OwnLo 0 w (Q i) s.locs ∧ ∀ g, (Q i).ownBlock = some g → F g
 fk : ∀ g, kv.ownBlock = some g → F g
 fb : ∀ g, bv.ownBlock = some g → F g
 fi : ∀ g, iv.ownBlock = some g → F g
 fs : ∀ g, sv.ownBlock = some g → F g
 rk : RK M ks
 ri : RI M is
structure RM (F : Nat → Prop) (w : World) (q n : Nat) (Q : Int → Value) (M : MM) (ks : List ByteArray) (is : List Int) (kv bv iv sv : Value) : Prop where
 hp : w.heap[q]? = some (.cells (rhead kv bv iv sv (M.last + 1) M.t) 62 (0, 0))
 rr : RR F w Q M ks is kv bv iv sv
 fq : F q
 nk : ks.length ≤ n
 ni : is.length ≤ n
section
variable {F S : Nat → Prop} {w w' : World} {q n : Nat} {Q : Int → Value} {M : MM} {ks : List ByteArray} {is : List Int} {kv bv iv sv : Value}
theorem RR.up (h : RR F w Q M ks is kv bv iv sv) (u : Up S w w') (hs : ∀ k, F k → ¬ S k) : RR F w' Q M ks is kv bv iv sv where
 ko := ownsRow.up h.ko u fun g e => hs g (h.fk g e)
 bo := ownsRow.up h.bo u fun g e => hs g (h.fb g e)
 io := ownsRow.up h.io u fun g e => hs g (h.fi g e)
 so := ownsRow.up h.so u fun g e => hs g (h.fs g e)
 lo i s e := ⟨lo_up (h.lo i s e).1 u fun g e' => hs g ((h.lo i s e).2 g e'), (h.lo i s e).2⟩
 fk := h.fk
 fb := h.fb
 fi := h.fi
 fs := h.fs
 rk := h.rk
 ri := h.ri
theorem RR.wide {G : Nat → Prop} (h : RR F w Q M ks is kv bv iv sv) (hg : ∀ k, F k → G k) : RR G w Q M ks is kv bv iv sv :=
 ⟨h.ko, h.bo, h.io, h.so, fun i s e => ⟨(h.lo i s e).1, fun g e' => hg g ((h.lo i s e).2 g e')⟩, fun g e => hg g (h.fk g e), fun g e => hg g (h.fb g e), fun g e => hg g (h.fi g e), fun g e => hg g (h.fs g e), h.rk, h.ri⟩
theorem RM.lt (h : RM F w q n Q M ks is kv bv iv sv) : q < w.heap.size := (Array.getElem?_eq_some_iff.1 h.hp).1
theorem RM.up (h : RM F w q n Q M ks is kv bv iv sv) (u : Up S w w') (hs : ∀ k, F k → ¬ S k) : RM F w' q n Q M ks is kv bv iv sv :=
 ⟨(u.block q h.lt (hs q h.fq)).trans h.hp, h.rr.up u hs, h.fq, h.nk, h.ni⟩
theorem RM.nxt (h : RM F w q n Q M ks is kv bv iv sv) (u : Up Nul w w') : RM F w' q n Q M ks is kv bv iv sv := h.up u fun _ _ => id
theorem RM.wide {G : Nat → Prop} (h : RM F w q n Q M ks is kv bv iv sv) (hg : ∀ k, F k → G k) : RM G w q n Q M ks is kv bv iv sv := ⟨h.hp, h.rr.wide hg, hg q h.fq, h.nk, h.ni⟩
theorem RM.mono (h : RM F w q n Q M ks is kv bv iv sv) {m : Nat} (hm : n ≤ m) : RM F w q m Q M ks is kv bv iv sv := ⟨h.hp, h.rr, h.fq, Nat.le_trans h.nk hm, Nat.le_trans h.ni hm⟩
theorem row_ne {T T' : TypeId} {base s m g : Nat} {v : Value} {xs : List Value} {c : Array Value} {fr : Nat × Nat} (h : w.ownsRow base T s v m xs) (hq : w.heap[g]? = some (.cells c T' fr)) (hT : T ≠ T') : v.ownBlock ≠ some g := by
 rcases h.2 with ⟨rfl, _⟩ | ⟨g', cap, cur, rfl, _, h3, _⟩
 ·intro e; cases e
 ·intro e
  have e : g' = g := by injection e
  rw [e, hq] at h3
  injection h3 with h3
  injection h3 with _ h3
  exact hT h3.symm
theorem RR.head (h : RR F w Q M ks is kv bv iv sv) {c : Array Value} {fr : Nat × Nat} (hq : w.heap[q]? = some (.cells c 62 fr)) (u : Up (fun k => k = q) w w') : RR F w' Q M ks is kv bv iv sv where
 ko := ownsRow.up h.ko u fun g e e' => row_ne h.ko hq (by decide) (by rw [← e']; exact e)
 bo := ownsRow.up h.bo u fun g e e' => row_ne h.bo hq (by decide) (by rw [← e']; exact e)
 io := ownsRow.up h.io u fun g e e' => row_ne h.io hq (by decide) (by rw [← e']; exact e)
 so := ownsRow.up h.so u fun g e e' => row_ne h.so hq (by decide) (by rw [← e']; exact e)
 lo i s e := ⟨lo_up (h.lo i s e).1 u fun g e1 e' => row_ne (h.lo i s e).1 hq (by decide) (by rw [← e']; exact e1), (h.lo i s e).2⟩
 fk := h.fk
 fb := h.fb
 fi := h.fi
 fs := h.fs
 rk := h.rk
 ri := h.ri
end
theorem bs_eq (x k : ByteArray) : (x.toList == k.toList) = decide (some x = some k) := by
 rw [Lib.toList_data, Lib.toList_data]
 by_cases h : x = k
 ·subst h; simp
 ·have e1 : (x.data.toList == k.data.toList) = false := by
   rw [beq_eq_false_iff_ne]
   exact fun e => h (ByteArray.ext (Array.toList_inj.1 e))
  rw [e1]
  exact (decide_eq_false fun e => by injection e with e; exact h e).symm
section
variable {F S : Nat → Prop} {w w' : World} {q n : Nat} {Q : Int → Value} {M : MM} {ks : List ByteArray} {is : List Int} {kv bv iv sv : Value}
theorem RM.cells (h : RM F w q n Q M ks is kv bv iv sv) : w.cell? ⟨q, 0, none⟩ = some kv ∧ w.cell? ⟨q, 1, none⟩ = some bv ∧ w.cell? ⟨q, 2, none⟩ = some iv ∧ w.cell? ⟨q, 3, none⟩ = some sv ∧ w.cell? ⟨q, 4, none⟩ = some (.int .i64 (M.last + 1)) := by
 simp [World.cell?, h.hp]
theorem RM.froz (h : RM F w q n Q M ks is kv bv iv sv) (i : Nat) : w.frozen? ⟨q, i, none⟩ = false := by simp [World.frozen?, h.hp]
set_option maxRecDepth 10000 in
theorem key_at (h : RM F w q n Q M ks is kv bv iv sv) (hn : n ≤ 100000) (k : ByteArray) :
  Calls Tryz.prog 71 #[.pointer (some ⟨q, 0, none⟩), .string k] w fun e w' => ∃ i : Nat, e = .returned (.tuple #[.int .i64 (i : Nat), .bool (decide (ks[i]? = some k))]) ∧ PosK ks k i ∧ Up Nul w w' := by
 obtain ⟨c0, _⟩ := h.cells
 obtain ⟨a, c, rfl, hac, hr, _⟩ := ownsRow.rd h.rr.ko (kcells_one ks)
 have hnk := h.nk
 have HR : Hid (∀ i x, ks[i]? = some x → ∃ g o, a = some ⟨g, o, none⟩ ∧ w.cell? ⟨g, o + i, none⟩ = some (.string x)) := fun i x hx => by
  have hi : i < ks.length := (List.getElem?_eq_some_iff.1 hx).1
  obtain ⟨g, o, e, _, hc⟩ := hr.row (by omega)
  exact ⟨g, o, e, hc i _ (by unfold kcells; rw [List.getElem?_map, hx]; rfl)⟩
 have HL : Hid (ks.length ≤ 100000) := by show ks.length ≤ 100000; omega
 obtain ⟨N, NN⟩ : ∃ N, Hid (ks.length = N) := ⟨_, rfl⟩
 rw [NN.out] at c0
 have HN : Hid (N ≤ 100000) := by rw [← NN.out]; exact HL.out
 clear hr hac h hnk HL
 go_enter Tryz.func71, Tryz.ntmps71
 go_wp2_with fail
 go_loopw [6] (fun i wr => ∃ t : Nat, i = .int .i64 t ∧ t ≤ N ∧ wr = w ∧ Hid (∀ x ∈ ks.take t, kl x k)) (fun i _ => N - (intOf i).toNat)
 case atStart => exact ⟨0, rfl, Nat.zero_le _, rfl, fun x hx => by simp at hx⟩
 case round =>
  obtain ⟨t, rfl, ht, hwr, hlo⟩ := hrel
  have hww := hwr.symm
  subst hww
  by_cases hlt : t < N
  ·obtain ⟨x, hx⟩ : ∃ x, ks[t]? = some x := ⟨ks[t]'(by rw [NN.out]; exact hlt), List.getElem?_eq_getElem _⟩
   obtain ⟨g, o, rfl, hc⟩ := HR.out t x hx
   have HX := hid hx
   by_cases hk : Op.bytesLess x.toList k.toList = true
   ·obtain ⟨t1, T1⟩ : ∃ t1, Hid (t + 1 = t1) := ⟨_, rfl⟩
    have e1 : (t : Int) + 1 = (t1 : Int) := by have := T1.out; omega
    have HS : Hid (∀ y ∈ ks.take (t + 1), kl y k) := fun y hy => by
     rw [List.take_add_one, HX.out] at hy
     simp only [Option.toList_some, List.mem_append, List.mem_singleton] at hy
     rcases hy with hy | rfl
     ·exact hlo.out y hy
     ·exact hk
    have e2 : IntKind.i64.wrap (t1 : Int) = (t1 : Int) := IntWalk.i64_in _ (by have := HN.out; have := T1.out; omega)
    clear hx hlo
    go_wp2_with fail
    go_roundw
    case rel => exact ⟨t1, rfl, by have := T1.out; omega, by first | rfl | trivial, by rw [T1.out] at HS; exact HS⟩
    case measure => (have := T1.out; simp [intOf]; omega)
   ·have hk0 : Op.bytesLess x.toList k.toList = false := by simpa using hk
    have HP : Hid (PosK ks k t) := ⟨by rw [NN.out]; exact ht, hlo.out, fun y hy => by rw [HX.out] at hy; cases hy; exact hk⟩
    have HE : Hid ((x.toList == k.toList) = decide (ks[t]? = some k)) := by
     show _ = _
     rw [HX.out]
     exact bs_eq x k
    have hnn : ¬ N ≤ t := by omega
    clear hx hlo hk
    have HU := hid ((Up.refl Nul w).drewN 1)
    go_wp2_with fail
    go_quiet (fail)
    go_wp2_with fail
    go_ret2
    exact ⟨t, by rw [← HE.out]; rfl, HP.out, (Up.refl Nul _).drewN _⟩
  ·obtain rfl : t = N := by omega
   have HP : Hid (PosK ks k t) := ⟨by rw [NN.out]; exact Nat.le_refl _, hlo.out, fun y hy => by rw [List.getElem?_eq_none (by rw [NN.out]; exact Nat.le_refl _)] at hy; cases hy⟩
   have HE : Hid (decide (ks[t]? = some k) = false) := by
    show _ = _
    rw [List.getElem?_eq_none (by rw [NN.out]; exact Nat.le_refl _)]
    rfl
   clear hlo ht
   go_wp2_with fail
   go_quiet (fail)
   go_wp2_with fail
   go_ret2
   exact ⟨t, by rw [HE.out]; rfl, HP.out, (Up.refl Nul _).drewN _⟩
set_option maxRecDepth 10000 in
theorem sid_at (h : RM F w q n Q M ks is kv bv iv sv) (hn : n ≤ 100000) (k : Int) :
  Calls Tryz.prog 54 #[.pointer (some ⟨q, 0, none⟩), .int .i64 k] w fun e w' => ∃ i : Nat, e = .returned (.tuple #[.int .i64 (i : Nat), .bool (decide (is[i]? = some k))]) ∧ PosI is k i ∧ Up Nul w w' := by
 obtain ⟨_, _, c0, _⟩ := h.cells
 obtain ⟨a, c, rfl, hac, hr, _⟩ := ownsRow.rd h.rr.io (intV_one is)
 have hnk := h.ni
 have HR : Hid (∀ i x, is[i]? = some x → ∃ g o, a = some ⟨g, o, none⟩ ∧ w.cell? ⟨g, o + i, none⟩ = some (.int .i64 x)) := fun i x hx => by
  have hi : i < is.length := (List.getElem?_eq_some_iff.1 hx).1
  obtain ⟨g, o, e, _, hc⟩ := hr.row (by omega)
  exact ⟨g, o, e, hc i _ (by unfold intV; rw [List.getElem?_map, hx]; rfl)⟩
 have HL : Hid (is.length ≤ 100000) := by show is.length ≤ 100000; omega
 obtain ⟨N, NN⟩ : ∃ N, Hid (is.length = N) := ⟨_, rfl⟩
 rw [NN.out] at c0
 have HN : Hid (N ≤ 100000) := by rw [← NN.out]; exact HL.out
 clear hr hac h hnk HL
 go_enter Tryz.func54, Tryz.ntmps54
 go_wp2_with fail
 go_loopw [6] (fun i wr => ∃ t : Nat, i = .int .i64 t ∧ t ≤ N ∧ wr = w ∧ Hid (∀ x ∈ is.take t, x < k)) (fun i _ => N - (intOf i).toNat)
 case atStart => exact ⟨0, rfl, Nat.zero_le _, rfl, fun x hx => by simp at hx⟩
 case round =>
  obtain ⟨t, rfl, ht, hwr, hlo⟩ := hrel
  have hww := hwr.symm
  subst hww
  by_cases hlt : t < N
  ·obtain ⟨x, hx⟩ : ∃ x, is[t]? = some x := ⟨is[t]'(by rw [NN.out]; exact hlt), List.getElem?_eq_getElem _⟩
   obtain ⟨g, o, rfl, hc⟩ := HR.out t x hx
   have HX := hid hx
   by_cases hk : x < k
   ·obtain ⟨t1, T1⟩ : ∃ t1, Hid (t + 1 = t1) := ⟨_, rfl⟩
    have e1 : (t : Int) + 1 = (t1 : Int) := by have := T1.out; omega
    have HS : Hid (∀ y ∈ is.take (t + 1), y < k) := fun y hy => by
     rw [List.take_add_one, HX.out] at hy
     simp only [Option.toList_some, List.mem_append, List.mem_singleton] at hy
     rcases hy with hy | rfl
     ·exact hlo.out y hy
     ·exact hk
    have e2 : IntKind.i64.wrap (t1 : Int) = (t1 : Int) := IntWalk.i64_in _ (by have := HN.out; have := T1.out; omega)
    clear hx hlo
    go_wp2_with fail
    go_roundw
    case rel => exact ⟨t1, rfl, by have := T1.out; omega, by first | rfl | trivial, by rw [T1.out] at HS; exact HS⟩
    case measure => (have := T1.out; simp [intOf]; omega)
   ·have HP : Hid (PosI is k t) := ⟨by rw [NN.out]; exact ht, hlo.out, fun y hy => by rw [HX.out] at hy; cases hy; exact hk⟩
    by_cases hxk : x = k
    ·have HE : Hid (decide (is[t]? = some k) = true) := by show _ = _; rw [HX.out, hxk]; simp
     have hbe : (x == k) = true := by simpa using hxk
     clear hx hlo hxk
     go_wp2_with fail
     go_quiet (fail)
     go_wp2_with fail
     go_ret2
     exact ⟨t, by rw [HE.out]; rfl, HP.out, (Up.refl Nul _).drewN _⟩
    ·have HE : Hid (decide (is[t]? = some k) = false) := by
      show _ = _
      rw [HX.out]
      exact decide_eq_false fun e => by injection e with e; exact hxk e
     have hbe : (x == k) = false := by simpa using hxk
     clear hx hlo hxk
     go_wp2_with fail
     go_quiet (fail)
     go_wp2_with fail
     go_ret2
     exact ⟨t, by rw [HE.out]; rfl, HP.out, (Up.refl Nul _).drewN _⟩
  ·obtain rfl : t = N := by omega
   have HP : Hid (PosI is k t) := ⟨by rw [NN.out]; exact Nat.le_refl _, hlo.out, fun y hy => by rw [List.getElem?_eq_none (by rw [NN.out]; exact Nat.le_refl _)] at hy; cases hy⟩
   have HE : Hid (decide (is[t]? = some k) = false) := by
    show _ = _
    rw [List.getElem?_eq_none (by rw [NN.out]; exact Nat.le_refl _)]
    rfl
   clear hlo ht
   go_wp2_with fail
   go_quiet (fail)
   go_wp2_with fail
   go_ret2
   exact ⟨t, by rw [HE.out]; rfl, HP.out, (Up.refl Nul _).drewN _⟩
end
section
variable {α : Type} {R : α → α → Prop} {l : List α} {k : α} {i : Nat}
theorem Pos.drop (h : Pos R l k i) (hi : i < l.length) : ∃ x, l[i]? = some x ∧ l.drop i = x :: l.drop (i + 1) := ⟨l[i], List.getElem?_eq_getElem hi, List.drop_eq_getElem_cons hi⟩
theorem Pos.mem (h : Pos R l k i) (hl : l.Pairwise R) (ir : ∀ x, ¬ R x x) : k ∈ l ↔ l[i]? = some k := by
 constructor
 ·intro hk
  rw [← List.take_append_drop i l] at hk
  rcases List.mem_append.1 hk with hk | hk
  ·exact absurd (h.lo k hk) (ir k)
  ·rcases Nat.lt_or_ge i l.length with hi | hi
   ·obtain ⟨x, hx, hd⟩ := h.drop hi
    rw [hd] at hk
    rcases List.mem_cons.1 hk with rfl | hk
    ·exact hx
    ·have hp : (x :: l.drop (i + 1)).Pairwise R := by rw [← hd]; exact hl.drop
     exact absurd ((List.pairwise_cons.1 hp).1 k hk) (h.hi x hx)
   ·rw [List.drop_eq_nil_of_le hi] at hk; cases hk
 ·intro hk
  exact List.mem_of_getElem? hk
theorem Pos.ins (h : Pos R l k i) (hl : l.Pairwise R) (ir : ∀ x, ¬ R x x) (tr : ∀ x y z, R x y → R y z → R x z) (tri : ∀ x y, ¬ R x y → x ≠ y → R y x) (hk : k ∉ l) : (l.take i ++ [k] ++ l.drop i).Pairwise R := by
 have hd : ∀ y ∈ l.drop i, R k y := by
  rcases Nat.lt_or_ge i l.length with hi | hi
  ·obtain ⟨x, hx, hd⟩ := h.drop hi
   have hkx : R k x := tri x k (h.hi x hx) fun e => hk (by rw [← e]; exact List.mem_of_getElem? hx)
   have hp : (x :: l.drop (i + 1)).Pairwise R := by rw [← hd]; exact hl.drop
   rw [hd]
   intro y hy
   rcases List.mem_cons.1 hy with rfl | hy
   ·exact hkx
   ·exact tr _ _ _ hkx ((List.pairwise_cons.1 hp).1 y hy)
  ·rw [List.drop_eq_nil_of_le hi]; intro y hy; cases hy
 rw [List.append_assoc, List.pairwise_append]
 refine ⟨hl.take, ?_, ?_⟩
 ·rw [List.singleton_append, List.pairwise_cons]
  exact ⟨hd, hl.drop⟩
 ·intro a ha b hb
  rw [List.singleton_append] at hb
  rcases List.mem_cons.1 hb with rfl | hb
  ·exact h.lo a ha
  ·exact tr _ _ _ (h.lo a ha) (hd b hb)
theorem mem_ins (x : α) : x ∈ l.take i ++ [k] ++ l.drop i ↔ x = k ∨ x ∈ l := by
 have : x ∈ l ↔ x ∈ l.take i ∨ x ∈ l.drop i := by rw [← List.mem_append, List.take_append_drop]
 rw [this]
 simp only [List.mem_append, List.mem_singleton]
 constructor
 ·rintro ((h | h) | h)
  ·exact .inr (.inl h)
  ·exact .inl h
  ·exact .inr (.inr h)
 ·rintro (h | h | h)
  ·exact .inl (.inr h)
  ·exact .inl (.inl h)
  ·exact .inr h
theorem del_sub : (l.take i ++ l.drop (i + 1)).Sublist l := by
 rw [← List.eraseIdx_eq_take_drop_succ]
 exact List.eraseIdx_sublist _ _
theorem mem_del (hl : l.Pairwise R) (ir : ∀ x, ¬ R x x) (hk : l[i]? = some k) (x : α) : x ∈ l.take i ++ l.drop (i + 1) ↔ x ∈ l ∧ x ≠ k := by
 have hi : i < l.length := (List.getElem?_eq_some_iff.1 hk).1
 have e : l[i] = k := (List.getElem?_eq_some_iff.1 hk).2
 have hs : l = l.take i ++ k :: l.drop (i + 1) := by
  conv => lhs; rw [← List.take_append_drop i l, List.drop_eq_getElem_cons hi, e]
 have hp : (l.take i ++ k :: l.drop (i + 1)).Pairwise R := by rw [← hs]; exact hl
 obtain ⟨p1, p2, p3⟩ := List.pairwise_append.1 hp
 have hx : x ∈ l ↔ x ∈ l.take i ∨ x = k ∨ x ∈ l.drop (i + 1) := by
  constructor
  ·intro h; rw [hs] at h; simpa using h
  ·intro h; rw [hs]; simpa using h
 rw [hx, List.mem_append]
 constructor
 ·rintro (h | h)
  ·exact ⟨.inl h, fun e => ir k (p3 k (by rw [← e]; exact h) k (by simp))⟩
  ·exact ⟨.inr (.inr h), fun e => ir k (by have := (List.pairwise_cons.1 p2).1 x h; rw [e] at this; exact this)⟩
 ·rintro ⟨h | h | h, hne⟩
  ·exact .inl h
  ·exact absurd h hne
  ·exact .inr h
end
theorem kl_irr (x : ByteArray) : ¬ kl x x := by rw [kl_iff]; exact List.lt_irrefl _
theorem kl_tr (x y z : ByteArray) (h1 : kl x y) (h2 : kl y z) : kl x z := by rw [kl_iff] at *; exact List.lt_trans h1 h2
theorem kl_tri (x y : ByteArray) (h : ¬ kl x y) (hne : x ≠ y) : kl y x := by
 rw [kl_iff] at *
 have h1 : y.data.toList ≤ x.data.toList := List.not_lt.1 h
 rcases List.le_iff_lt_or_eq.1 h1 with h2 | h2
 ·exact h2
 ·exact absurd (ByteArray.ext (Array.toList_inj.1 h2)).symm hne
section
variable {M : MM} {ks : List ByteArray} {is : List Int} {k : ByteArray} {s : Int} {i : Nat}
theorem RK.at_ (h : RK M ks) (p : PosK ks k i) : (ks[i]? = some k) ↔ (M.b k).isSome = true := by rw [← p.mem h.up kl_irr, h.mem]
theorem RI.at_ (h : RI M is) (p : PosI is s i) : (is[i]? = some s) ↔ (M.s s).isSome = true := by rw [← p.mem h.up (fun x => Int.lt_irrefl x), h.mem]
theorem RK.ins (h : RK M ks) (p : PosK ks k i) (hk : M.b k = none) (b : Bl) : RK { M with b := upd M.b k (some b) } (ks.take i ++ [k] ++ ks.drop i) where
 up := p.ins h.up kl_irr kl_tr kl_tri fun e => by rw [h.mem, hk] at e; cases e
 mem x := by
  rw [mem_ins, h.mem]
  show _ ↔ (upd M.b k (some b) x).isSome = true
  by_cases e : x = k
  ·subst e; rw [upd_same]; simp
  ·rw [upd_ne _ _ e]; simp [e]
theorem RK.set (h : RK M ks) (hk : (M.b k).isSome = true) (b : Bl) : RK { M with b := upd M.b k (some b) } ks where
 up := h.up
 mem x := by
  rw [h.mem]
  show _ ↔ (upd M.b k (some b) x).isSome = true
  by_cases e : x = k
  ·subst e; rw [upd_same, hk]; simp
  ·rw [upd_ne _ _ e]
theorem RK.del (h : RK M ks) (hk : ks[i]? = some k) : RK { M with b := upd M.b k none } (ks.take i ++ ks.drop (i + 1)) where
 up := h.up.sublist del_sub
 mem x := by
  rw [mem_del h.up kl_irr hk, h.mem]
  show _ ↔ (upd M.b k none x).isSome = true
  by_cases e : x = k
  ·subst e; rw [upd_same]; simp
  ·rw [upd_ne _ _ e]; simp [e]
theorem RI.set (h : RI M is) (hk : (M.s s).isSome = true) (b : St) : RI { M with s := upd M.s s (some b) } is where
 up := h.up
 mem x := by
  rw [h.mem]
  show _ ↔ (upd M.s s (some b) x).isSome = true
  by_cases e : x = s
  ·subst e; rw [upd_same, hk]; simp
  ·rw [upd_ne _ _ e]
theorem RI.del (h : RI M is) (hk : is[i]? = some s) : RI { M with s := upd M.s s none } (is.take i ++ is.drop (i + 1)) where
 up := h.up.sublist del_sub
 mem x := by
  rw [mem_del h.up (fun x => Int.lt_irrefl x) hk, h.mem]
  show _ ↔ (upd M.s s none x).isSome = true
  by_cases e : x = s
  ·subst e; rw [upd_same]; simp
  ·rw [upd_ne _ _ e]; simp [e]
theorem RI.app (h : RI M is) (hs : ∀ i ∈ is, i < s) (b : St) : RI { M with s := upd M.s s (some b) } (is ++ [s]) where
 up := by
  rw [List.pairwise_append]
  exact ⟨h.up, List.pairwise_singleton _ _, fun a ha b hb => by rw [List.mem_singleton] at hb; subst hb; exact hs a ha⟩
 mem x := by
  rw [List.mem_append, List.mem_singleton, h.mem]
  show _ ↔ (upd M.s s (some b) x).isSome = true
  by_cases e : x = s
  ·subst e; rw [upd_same]; simp
  ·rw [upd_ne _ _ e]; simp [e]
theorem RK.last (h : RK M ks) {t : Tb} {l : Int} {f : Int → Option St} : RK { M with s := f, last := l, t := t } ks := ⟨h.up, h.mem⟩
theorem RI.last (h : RI M is) {t : Tb} {l : Int} {f : ByteArray → Option Bl} : RI { M with b := f, last := l, t := t } is := ⟨h.up, h.mem⟩
end
theorem flat_upd3 {α : Type} {f f' : α → List Value} (hf : ∀ x, (f x).length = 3) (l : List α) (i : Nat) (k : α) (hk : l[i]? = some k) (hne : ∀ j x, l[j]? = some x → j ≠ i → f' x = f x) (v0 v1 v2 : Value) (hv : f' k = [v0, v1, v2]) :
  l.flatMap f' = (((l.flatMap f).set (i * 3) v0).set (i * 3 + 1) v1).set (i * 3 + 2) v2 := by
 induction l generalizing i with
 | nil => cases hk
 | cons x l ih =>
  obtain ⟨a, b, c, e⟩ : ∃ a b c, f x = [a, b, c] := by
   have := hf x
   match h : f x, this with
   | [a, b, c], _ => exact ⟨a, b, c, rfl⟩
  cases i with
  | zero =>
   have : x = k := by simpa using hk
   subst this
   have e2 : l.flatMap f' = l.flatMap f := by
    rw [List.flatMap_def, List.flatMap_def]
    congr 1
    refine List.map_congr_left fun y hy => ?_
    obtain ⟨j, hj⟩ := List.getElem?_of_mem hy
    exact hne (j + 1) y (by simpa using hj) (by omega)
   rw [List.flatMap_cons, List.flatMap_cons, e, hv, e2]
   rfl
  | succ i =>
   have hx : f' x = f x := hne 0 x rfl (by omega)
   have := ih i (by simpa using hk) (fun j y hj hji => hne (j + 1) y (by simpa using hj) (by omega))
   rw [List.flatMap_cons, List.flatMap_cons, hx, e, this]
   have e3 : (i + 1) * 3 = i * 3 + 3 := by omega
   rw [e3]
   simp only [List.cons_append, List.nil_append, List.set_cons_succ, show i * 3 + 3 + 1 = (i * 3 + 1) + 3 from by omega, show i * 3 + 3 + 2 = (i * 3 + 2) + 3 from by omega]
theorem flat_upd6 {α : Type} {f f' : α → List Value} (hf : ∀ x, (f x).length = 6) (l : List α) (i : Nat) (k : α) (hk : l[i]? = some k) (hne : ∀ j x, l[j]? = some x → j ≠ i → f' x = f x) (v0 v1 v2 v3 v4 v5 : Value) (hv : f' k = [v0, v1, v2, v3, v4, v5]) :
  l.flatMap f' = ((((((l.flatMap f).set (i * 6) v0).set (i * 6 + 1) v1).set (i * 6 + 2) v2).set (i * 6 + 3) v3).set (i * 6 + 4) v4).set (i * 6 + 5) v5 := by
 induction l generalizing i with
 | nil => cases hk
 | cons x l ih =>
  obtain ⟨a, b, c, d, g, h', e⟩ : ∃ a b c d g h', f x = [a, b, c, d, g, h'] := by
   have := hf x
   match h : f x, this with
   | [a, b, c, d, g, h'], _ => exact ⟨a, b, c, d, g, h', rfl⟩
  cases i with
  | zero =>
   have : x = k := by simpa using hk
   subst this
   have e2 : l.flatMap f' = l.flatMap f := by
    rw [List.flatMap_def, List.flatMap_def]
    congr 1
    refine List.map_congr_left fun y hy => ?_
    obtain ⟨j, hj⟩ := List.getElem?_of_mem hy
    exact hne (j + 1) y (by simpa using hj) (by omega)
   rw [List.flatMap_cons, List.flatMap_cons, e, hv, e2]
   rfl
  | succ i =>
   have hx : f' x = f x := hne 0 x rfl (by omega)
   have := ih i (by simpa using hk) (fun j y hj hji => hne (j + 1) y (by simpa using hj) (by omega))
   rw [List.flatMap_cons, List.flatMap_cons, hx, e, this]
   have e3 : (i + 1) * 6 = i * 6 + 6 := by omega
   rw [e3]
   simp only [List.cons_append, List.nil_append, List.set_cons_succ, show i * 6 + 6 + 1 = (i * 6 + 1) + 6 from by omega, show i * 6 + 6 + 2 = (i * 6 + 2) + 6 from by omega, show i * 6 + 6 + 3 = (i * 6 + 3) + 6 from by omega, show i * 6 + 6 + 4 = (i * 6 + 4) + 6 from by omega, show i * 6 + 6 + 5 = (i * 6 + 5) + 6 from by omega]
theorem kcells_ins (a b : List ByteArray) (k : ByteArray) : kcells (a ++ [k] ++ b) = kcells a ++ [Value.string k] ++ kcells b := by simp [kcells]
theorem kcells_take (ks : List ByteArray) (i : Nat) : (kcells ks).take (i * 1) = kcells (ks.take i) := by rw [Nat.mul_one]; unfold kcells; rw [List.map_take]
theorem kcells_drop (ks : List ByteArray) (i : Nat) : (kcells ks).drop (i * 1) = kcells (ks.drop i) := by rw [Nat.mul_one]; unfold kcells; rw [List.map_drop]
theorem intV_take (ks : List Int) (i : Nat) : (intV ks).take (i * 1) = intV (ks.take i) := by rw [Nat.mul_one]; unfold intV; rw [List.map_take]
theorem intV_drop (ks : List Int) (i : Nat) : (intV ks).drop (i * 1) = intV (ks.drop i) := by rw [Nat.mul_one]; unfold intV; rw [List.map_drop]
theorem bcells_take (M : MM) (ks : List ByteArray) (i : Nat) : (bcells M ks).take (i * 3) = bcells M (ks.take i) := flat_take (f := fun k => bcl (M.bof k)) (fun _ => rfl) ks i
theorem bcells_drop (M : MM) (ks : List ByteArray) (i : Nat) : (bcells M ks).drop (i * 3) = bcells M (ks.drop i) := flat_drop (f := fun k => bcl (M.bof k)) (fun _ => rfl) ks i
theorem scells_take (M : MM) (Q : Int → Value) (is : List Int) (i : Nat) : (scells M Q is).take (i * 6) = scells M Q (is.take i) := flat_take (f := fun k => scl (M.sof k) (Q k)) (fun _ => rfl) is i
theorem scells_drop (M : MM) (Q : Int → Value) (is : List Int) (i : Nat) : (scells M Q is).drop (i * 6) = scells M Q (is.drop i) := flat_drop (f := fun k => scl (M.sof k) (Q k)) (fun _ => rfl) is i
theorem bcells_app (M : MM) (a b : List ByteArray) : bcells M (a ++ b) = bcells M a ++ bcells M b := List.flatMap_append
theorem scells_app (M : MM) (Q : Int → Value) (a b : List Int) : scells M Q (a ++ b) = scells M Q a ++ scells M Q b := List.flatMap_append
theorem bcells_congr {M M' : MM} {ks : List ByteArray} (h : ∀ k ∈ ks, M'.b k = M.b k) : bcells M' ks = bcells M ks := by
 unfold bcells
 rw [List.flatMap_def, List.flatMap_def]
 congr 1
 exact List.map_congr_left fun k hk => by unfold MM.bof; rw [h k hk]
theorem scells_congr {M M' : MM} {Q Q' : Int → Value} {is : List Int} (h : ∀ k ∈ is, M'.s k = M.s k ∧ Q' k = Q k) : scells M' Q' is = scells M Q is := by
 unfold scells
 rw [List.flatMap_def, List.flatMap_def]
 congr 1
 exact List.map_congr_left fun k hk => by unfold MM.sof; rw [(h k hk).1, (h k hk).2]
theorem bcl_len (b : Bl) : (bcl b).length = 3 := rfl
theorem scl_len (s : St) (v : Value) : (scl s v).length = 6 := rfl
theorem rzero_bl (w : World) : (zeroValue 51).run Tryz.prog w = .ok (.agg #[.int .i64 0, .int .i64 0, .int .i64 0]) w := by kernel_rfl
theorem rinfo_bl : (Tryz.prog.info? 51).map (·.size) = some 3 := by kernel_rfl
theorem rinfo_st : (Tryz.prog.info? 46).map (·.size) = some 6 := by kernel_rfl
theorem set3 {w : World} {r : Nat} {T : TypeId} {fr : Nat × Nat} {a b c : Value} (h : w.heap[r]? = some (.cells #[a, b, c] T fr)) (x y z : Value) :
  (((w.setCell ⟨r, 0, none⟩ x).setCell ⟨r, 1, none⟩ y).setCell ⟨r, 2, none⟩ z).heap[r]? = some (.cells #[x, y, z] T fr) := by
 have := heap_set_same (heap_set_same (heap_set_same h 0 x) 1 y) 2 z
 simpa using this
theorem up3 {S : Nat → Prop} {u w : World} (h : Up S u w) (r : Nat) (hr : u.heap.size ≤ r ∨ S r) (x y z : Value) : Up S u (((w.setCell ⟨r, 0, none⟩ x).setCell ⟨r, 1, none⟩ y).setCell ⟨r, 2, none⟩ z) :=
 ((h.setCell hr x).setCell hr y).setCell hr z
theorem set6 {w : World} {r : Nat} {T : TypeId} {fr : Nat × Nat} {a b c d e f : Value} (h : w.heap[r]? = some (.cells #[a, b, c, d, e, f] T fr)) (x0 x1 x2 x3 x4 x5 : Value) :
  ((((((w.setCell ⟨r, 0, none⟩ x0).setCell ⟨r, 1, none⟩ x1).setCell ⟨r, 2, none⟩ x2).setCell ⟨r, 3, none⟩ x3).setCell ⟨r, 4, none⟩ x4).setCell ⟨r, 5, none⟩ x5).heap[r]? = some (.cells #[x0, x1, x2, x3, x4, x5] T fr) := by
 have := heap_set_same (heap_set_same (heap_set_same (heap_set_same (heap_set_same (heap_set_same h 0 x0) 1 x1) 2 x2) 3 x3) 4 x4) 5 x5
 simpa using this
theorem up6 {S : Nat → Prop} {u w : World} (h : Up S u w) (r : Nat) (hr : u.heap.size ≤ r ∨ S r) (x0 x1 x2 x3 x4 x5 : Value) : Up S u ((((((w.setCell ⟨r, 0, none⟩ x0).setCell ⟨r, 1, none⟩ x1).setCell ⟨r, 2, none⟩ x2).setCell ⟨r, 3, none⟩ x3).setCell ⟨r, 4, none⟩ x4).setCell ⟨r, 5, none⟩ x5) :=
 (((((h.setCell hr x0).setCell hr x1).setCell hr x2).setCell hr x3).setCell hr x4).setCell hr x5
theorem bof_some {M : MM} {k : ByteArray} {b : Bl} (h : M.b k = some b) : M.bof k = b := by unfold MM.bof; rw [h]; rfl
theorem sof_some {M : MM} {k : Int} {b : St} (h : M.s k = some b) : M.sof k = b := by unfold MM.sof; rw [h]; rfl
section
variable {F S : Nat → Prop} {w w' : World} {q n : Nat} {Q : Int → Value} {M : MM} {ks : List ByteArray} {is : List Int} {kv bv iv sv : Value}
theorem scells_one (M : MM) (Q : Int → Value) (is : List Int) (h : ∀ i ∈ is, (Q i).oneCell' = true) : ∀ u ∈ scells M Q is, u.oneCell' = true := by
 intro u hu
 obtain ⟨k, hk0, hk⟩ := List.mem_flatMap.1 hu
 simp only [scl, List.mem_cons, List.not_mem_nil, or_false] at hk
 rcases hk with rfl | rfl | rfl | rfl | rfl | rfl
 ·rfl
 ·rfl
 ·rfl
 ·rfl
 ·rfl
 ·exact h k hk0
theorem RR.qone (h : RR F w Q M ks is kv bv iv sv) : ∀ i ∈ is, (Q i).oneCell' = true := fun i hi => by
 have := (h.ri.mem i).1 hi
 obtain ⟨s, hs⟩ := Option.isSome_iff_exists.1 this
 obtain ⟨a, c, e⟩ := (h.lo i s hs).1.shape
 rw [e]; rfl
theorem RM.brow (h : RM F w q n Q M ks is kv bv iv sv) : ∃ a c, bv = .slice a ks.length c ∧ ∀ i k, ks[i]? = some k → ∃ g o, a = some ⟨g, o, none⟩ ∧ g < w.heap.size ∧ w.cell? ⟨g, o + i * 3, none⟩ = some (.int .i64 (M.bof k).n) ∧ w.cell? ⟨g, o + i * 3 + 1, none⟩ = some (.int .i64 (M.bof k).sid) ∧ w.cell? ⟨g, o + i * 3 + 2, none⟩ = some (.int .i64 (M.bof k).part) := by
 obtain ⟨a, c, e, _, hr, _⟩ := ownsRow.rd h.rr.bo (bcells_one M ks)
 refine ⟨a, c, e, fun i k hk => ?_⟩
 have hi : i < ks.length := (List.getElem?_eq_some_iff.1 hk).1
 obtain ⟨g, o, e1, hg, hc⟩ := hr.row (by omega)
 have hat : ∀ j, j < 3 → ∀ v, (bcl (M.bof k))[j]? = some v → w.cell? ⟨g, o + (i * 3 + j), none⟩ = some v := fun j hj v hv => hc _ _ ((flat_at (f := fun k => bcl (M.bof k)) (s := 3) (fun _ => rfl) ks i k hk j hj).trans hv)
 refine ⟨g, o, e1, hg, ?_, ?_, ?_⟩
 ·exact hat 0 (by omega) _ rfl
 ·exact hat 1 (by omega) _ rfl
 ·exact hat 2 (by omega) _ rfl
theorem RM.srow (h : RM F w q n Q M ks is kv bv iv sv) : ∃ a c, sv = .slice a is.length c ∧ ∀ i k, is[i]? = some k → ∃ g o, a = some ⟨g, o, none⟩ ∧ g < w.heap.size ∧ w.cell? ⟨g, o + i * 6, none⟩ = some (.int .i64 (M.sof k).kind) ∧ w.cell? ⟨g, o + i * 6 + 1, none⟩ = some (.int .i64 (M.sof k).colour) ∧ w.cell? ⟨g, o + i * 6 + 2, none⟩ = some (.string (M.sof k).k0) ∧ w.cell? ⟨g, o + i * 6 + 3, none⟩ = some (.string (M.sof k).k1) ∧ w.cell? ⟨g, o + i * 6 + 4, none⟩ = some (.string (M.sof k).k2) ∧ w.cell? ⟨g, o + i * 6 + 5, none⟩ = some (Q k) := by
 obtain ⟨a, c, e, _, hr, _⟩ := ownsRow.rd h.rr.so (scells_one M Q is h.rr.qone)
 refine ⟨a, c, e, fun i k hk => ?_⟩
 have hi : i < is.length := (List.getElem?_eq_some_iff.1 hk).1
 obtain ⟨g, o, e1, hg, hc⟩ := hr.row (by omega)
 have hat : ∀ j, j < 6 → ∀ v, (scl (M.sof k) (Q k))[j]? = some v → w.cell? ⟨g, o + (i * 6 + j), none⟩ = some v := fun j hj v hv => hc _ _ ((flat_at (f := fun k => scl (M.sof k) (Q k)) (s := 6) (fun _ => rfl) is i k hk j hj).trans hv)
 exact ⟨g, o, e1, hg, hat 0 (by omega) _ rfl, hat 1 (by omega) _ rfl, hat 2 (by omega) _ rfl, hat 3 (by omega) _ rfl, hat 4 (by omega) _ rfl, hat 5 (by omega) _ rfl⟩
theorem key_yes (h : RM F w q n Q M ks is kv bv iv sv) (hn : n ≤ 100000) (k : ByteArray) (hk : (M.b k).isSome = true) :
  Calls Tryz.prog 71 #[.pointer (some ⟨q, 0, none⟩), .string k] w fun e w' => ∃ i : Nat, e = .returned (.tuple #[.int .i64 (i : Nat), .bool true]) ∧ ks[i]? = some k ∧ PosK ks k i ∧ Up Nul w w' := by
 refine (key_at h hn k).mono ?_
 rintro e w' ⟨i, rfl, hp, u⟩
 have := (h.rr.rk.at_ hp).2 hk
 exact ⟨i, by rw [decide_eq_true this], this, hp, u⟩
theorem key_no (h : RM F w q n Q M ks is kv bv iv sv) (hn : n ≤ 100000) (k : ByteArray) (hk : M.b k = none) :
  Calls Tryz.prog 71 #[.pointer (some ⟨q, 0, none⟩), .string k] w fun e w' => ∃ i : Nat, e = .returned (.tuple #[.int .i64 (i : Nat), .bool false]) ∧ PosK ks k i ∧ Up Nul w w' := by
 refine (key_at h hn k).mono ?_
 rintro e w' ⟨i, rfl, hp, u⟩
 have : ¬ ks[i]? = some k := fun e => by have := (h.rr.rk.at_ hp).1 e; rw [hk] at this; cases this
 exact ⟨i, by rw [decide_eq_false this], hp, u⟩
theorem sid_yes (h : RM F w q n Q M ks is kv bv iv sv) (hn : n ≤ 100000) (k : Int) (hk : (M.s k).isSome = true) :
  Calls Tryz.prog 54 #[.pointer (some ⟨q, 0, none⟩), .int .i64 k] w fun e w' => ∃ i : Nat, e = .returned (.tuple #[.int .i64 (i : Nat), .bool true]) ∧ is[i]? = some k ∧ PosI is k i ∧ Up Nul w w' := by
 refine (sid_at h hn k).mono ?_
 rintro e w' ⟨i, rfl, hp, u⟩
 have := (h.rr.ri.at_ hp).2 hk
 exact ⟨i, by rw [decide_eq_true this], this, hp, u⟩
theorem sid_no (h : RM F w q n Q M ks is kv bv iv sv) (hn : n ≤ 100000) (k : Int) (hk : M.s k = none) :
  Calls Tryz.prog 54 #[.pointer (some ⟨q, 0, none⟩), .int .i64 k] w fun e w' => ∃ i : Nat, e = .returned (.tuple #[.int .i64 (i : Nat), .bool false]) ∧ PosI is k i ∧ Up Nul w w' := by
 refine (sid_at h hn k).mono ?_
 rintro e w' ⟨i, rfl, hp, u⟩
 have : ¬ is[i]? = some k := fun e => by have := (h.rr.ri.at_ hp).1 e; rw [hk] at this; cases this
 exact ⟨i, by rw [decide_eq_false this], hp, u⟩
set_option maxRecDepth 10000 in
theorem rblob_any (h : RM F w q n Q M ks is kv bv iv sv) (hn : n ≤ 100000) (k : ByteArray) :
  Calls Tryz.prog 25 #[.pointer (some ⟨q, 0, none⟩), .string k] w fun e w' => e = .returned (.tuple #[blv (M.bof k), .bool (M.b k).isSome]) ∧ Up Nul w w' := by
 have u0 : Up Nul w (w.alloc (.cells #[.int .i64 0, .int .i64 0, .int .i64 0] 51)) := (Up.refl Nul w).alloc _
 have HB : Hid ((w.alloc (.cells #[.int .i64 0, .int .i64 0, .int .i64 0] 51)).heap[w.heap.size]? = some (.cells #[.int .i64 0, .int .i64 0, .int .i64 0] 51 (0, 0))) := heap_alloc_new _ _
 have HLT : Hid (w.heap.size < (w.alloc (.cells #[.int .i64 0, .int .i64 0, .int .i64 0] 51)).heap.size) := by show _ < _; rw [World.size_alloc]; omega
 have H := hid (h.nxt u0)
 have HU := hid u0
 cases hb : M.b k with
 | none =>
  have HK := hid (key_no H.out hn k hb)
  have HE : Hid (M.bof k = ⟨0, 0, 0⟩) := by show _ = _; unfold MM.bof; rw [hb]; rfl
  rw [HE.out]
  clear u0 h HE hb
  go_enter Tryz.func25, Tryz.ntmps25
  go_wp2_with fail
  refine HK.out.mono ?_
  rintro e w1 ⟨i, rfl, hp, u1⟩
  have hb := (u1.block w.heap.size HLT.out id).trans HB.out
  have z0 : w1.cell? ⟨w.heap.size, 0, none⟩ = some (.int .i64 0) := by simp [World.cell?, hb]
  have z1 : w1.cell? ⟨w.heap.size, 1, none⟩ = some (.int .i64 0) := by simp [World.cell?, hb]
  have z2 : w1.cell? ⟨w.heap.size, 2, none⟩ = some (.int .i64 0) := by simp [World.cell?, hb]
  have f0 : w1.frozen? ⟨w.heap.size, 0, none⟩ = false := by simp [World.frozen?, hb]
  have f1 : w1.frozen? ⟨w.heap.size, 1, none⟩ = false := by simp [World.frozen?, hb]
  have f2 : w1.frozen? ⟨w.heap.size, 2, none⟩ = false := by simp [World.frozen?, hb]
  have HB1 := hid hb
  have HU1 := hid (HU.out.trans u1)
  clear hp u1 hb
  go_wp2_with fail
  have hld := run_loadVar_row (P := Tryz.prog) _ _ _ 51 _ _ _ (set3 HB1.out (.int .i64 0) (.int .i64 0) (.int .i64 0)) Tryz.underlying51 rfl rinfo_bl
  refine bodyPost_ret (v := .tuple #[.agg #[.int .i64 0, .int .i64 0, .int .i64 0], .bool false]) (by rw [results_cell_tmp rfl]; simp [asAddr, hld, Result.andThen]) rfl ?_
  exact ⟨rfl, up3 HU1.out _ (.inl (Nat.le_refl _)) _ _ _⟩
 | some b =>
  have HK := hid (key_yes H.out hn k (by rw [hb]; rfl))
  have HE : Hid (M.bof k = b) := bof_some hb
  rw [HE.out]
  clear u0 h hb
  go_enter Tryz.func25, Tryz.ntmps25
  go_wp2_with fail
  refine HK.out.mono ?_
  rintro e w1 ⟨i, rfl, hi, hp, u1⟩
  have hb := (u1.block w.heap.size HLT.out id).trans HB.out
  have z0 : w1.cell? ⟨w.heap.size, 0, none⟩ = some (.int .i64 0) := by simp [World.cell?, hb]
  have z1 : w1.cell? ⟨w.heap.size, 1, none⟩ = some (.int .i64 0) := by simp [World.cell?, hb]
  have z2 : w1.cell? ⟨w.heap.size, 2, none⟩ = some (.int .i64 0) := by simp [World.cell?, hb]
  have f0 : w1.frozen? ⟨w.heap.size, 0, none⟩ = false := by simp [World.frozen?, hb]
  have f1 : w1.frozen? ⟨w.heap.size, 1, none⟩ = false := by simp [World.frozen?, hb]
  have f2 : w1.frozen? ⟨w.heap.size, 2, none⟩ = false := by simp [World.frozen?, hb]
  obtain ⟨a, c, rfl, hr⟩ := (H.out.nxt u1).brow
  obtain ⟨g, o, rfl, hg, b0, b1, b2⟩ := hr i k hi
  have HI : Hid (ks[i]? = some k) := hi
  have hil : i < ks.length := (List.getElem?_eq_some_iff.1 hi).1
  have c1 := (H.out.nxt u1).cells.2.1
  rw [HE.out] at b0 b1 b2
  have HB1 := hid hb
  have HU1 := hid (HU.out.trans u1)
  clear hp u1 hb hr hi hg HK H
  generalize ks.length = N at c1 hil
  obtain ⟨b0', b1', b2'⟩ := b
  go_wp2_with fail
  have hld := run_loadVar_row (P := Tryz.prog) _ _ _ 51 _ _ _ (set3 HB1.out (.int .i64 b0') (.int .i64 b1') (.int .i64 b2')) Tryz.underlying51 rfl rinfo_bl
  refine bodyPost_ret (v := .tuple #[.agg #[.int .i64 b0', .int .i64 b1', .int .i64 b2'], .bool true]) (by rw [results_cell_tmp rfl]; simp [asAddr, hld, Result.andThen]) rfl ?_
  exact ⟨rfl, up3 HU1.out _ (.inl (Nat.le_refl _)) _ _ _⟩
end
section
variable {F S : Nat → Prop} {w w' : World} {q n : Nat} {Q : Int → Value} {M : MM} {ks : List ByteArray} {is : List Int} {kv bv iv sv : Value}
set_option maxRecDepth 10000 in
theorem rstripe_no (h : RM F w q n Q M ks is kv bv iv sv) (hn : n ≤ 100000) (k : Int) (hk : M.s k = none) :
  Calls Tryz.prog 20 #[.pointer (some ⟨q, 0, none⟩), .int .i64 k] w fun e w' => e = .returned (.tuple #[stv stz (.slice none 0 0), .bool false]) ∧ Up Nul w w' := by
 have u0 : Up Nul w (w.alloc (.cells #[.int .i64 0, .int .i64 0, .string ⟨#[]⟩, .string ⟨#[]⟩, .string ⟨#[]⟩, .slice none 0 0] 46)) := (Up.refl Nul w).alloc _
 have HB : Hid ((w.alloc (.cells #[.int .i64 0, .int .i64 0, .string ⟨#[]⟩, .string ⟨#[]⟩, .string ⟨#[]⟩, .slice none 0 0] 46)).heap[w.heap.size]? = some (.cells #[.int .i64 0, .int .i64 0, .string ⟨#[]⟩, .string ⟨#[]⟩, .string ⟨#[]⟩, .slice none 0 0] 46 (0, 0))) := heap_alloc_new _ _
 have HLT : Hid (w.heap.size < (w.alloc (.cells #[.int .i64 0, .int .i64 0, .string ⟨#[]⟩, .string ⟨#[]⟩, .string ⟨#[]⟩, .slice none 0 0] 46)).heap.size) := by show _ < _; rw [World.size_alloc]; omega
 have H := hid (h.nxt u0)
 have HU := hid u0
 have HK := hid (sid_no H.out hn k hk)
 clear u0 h hk
 show Calls Tryz.prog 20 #[.pointer (some ⟨q, 0, none⟩), .int .i64 k] w fun e w' => e = .returned (.tuple #[.agg #[.int .i64 0, .int .i64 0, .string ⟨#[]⟩, .string ⟨#[]⟩, .string ⟨#[]⟩, .slice none 0 0], .bool false]) ∧ Up Nul w w'
 go_enter Tryz.func20, Tryz.ntmps20
 go_wp2_with fail
 ·refine HK.out.mono ?_
  rintro e w1 ⟨i, rfl, hp, u1⟩
  have hb := (u1.block w.heap.size HLT.out id).trans HB.out
  have z0 : w1.cell? ⟨w.heap.size, 0, none⟩ = some (.int .i64 0) := by simp [World.cell?, hb]
  have f0 : w1.frozen? ⟨w.heap.size, 0, none⟩ = false := by simp [World.frozen?, hb]
  have z1 : w1.cell? ⟨w.heap.size, 1, none⟩ = some (.int .i64 0) := by simp [World.cell?, hb]
  have f1 : w1.frozen? ⟨w.heap.size, 1, none⟩ = false := by simp [World.frozen?, hb]
  have z2 : w1.cell? ⟨w.heap.size, 2, none⟩ = some (.string ⟨#[]⟩) := by simp [World.cell?, hb]
  have f2 : w1.frozen? ⟨w.heap.size, 2, none⟩ = false := by simp [World.frozen?, hb]
  have z3 : w1.cell? ⟨w.heap.size, 3, none⟩ = some (.string ⟨#[]⟩) := by simp [World.cell?, hb]
  have f3 : w1.frozen? ⟨w.heap.size, 3, none⟩ = false := by simp [World.frozen?, hb]
  have z4 : w1.cell? ⟨w.heap.size, 4, none⟩ = some (.string ⟨#[]⟩) := by simp [World.cell?, hb]
  have f4 : w1.frozen? ⟨w.heap.size, 4, none⟩ = false := by simp [World.frozen?, hb]
  have z5 : w1.cell? ⟨w.heap.size, 5, none⟩ = some (.slice none 0 0) := by simp [World.cell?, hb]
  have f5 : w1.frozen? ⟨w.heap.size, 5, none⟩ = false := by simp [World.frozen?, hb]
  have HB1 := hid hb
  have HU1 := hid (HU.out.trans u1)
  clear hp u1 hb
  go_wp2_with fail
  have hld := run_loadVar_row (P := Tryz.prog) _ _ _ 46 _ _ _ (set6 HB1.out (.int .i64 0) (.int .i64 0) (.string ⟨#[]⟩) (.string ⟨#[]⟩) (.string ⟨#[]⟩) (.slice none 0 0)) Tryz.underlying46 rfl rinfo_st
  refine bodyPost_ret (v := .tuple #[.agg #[.int .i64 0, .int .i64 0, .string ⟨#[]⟩, .string ⟨#[]⟩, .string ⟨#[]⟩, .slice none 0 0], .bool false]) (by rw [results_cell_tmp rfl]; simp [asAddr, hld, Result.andThen]) rfl ?_
  exact ⟨rfl, up6 HU1.out _ (.inl (Nat.le_refl _)) _ _ _ _ _ _⟩
set_option maxRecDepth 10000 in
theorem rstripe_yes (h : RM F w q n Q M ks is kv bv iv sv) (hn : n ≤ 100000) (k : Int) (s : St) (hk : M.s k = some s) :
  Calls Tryz.prog 20 #[.pointer (some ⟨q, 0, none⟩), .int .i64 k] w fun e w' => e = .returned (.tuple #[stv s (Q k), .bool true]) ∧ Up Nul w w' := by
 have u0 : Up Nul w (w.alloc (.cells #[.int .i64 0, .int .i64 0, .string ⟨#[]⟩, .string ⟨#[]⟩, .string ⟨#[]⟩, .slice none 0 0] 46)) := (Up.refl Nul w).alloc _
 have HB : Hid ((w.alloc (.cells #[.int .i64 0, .int .i64 0, .string ⟨#[]⟩, .string ⟨#[]⟩, .string ⟨#[]⟩, .slice none 0 0] 46)).heap[w.heap.size]? = some (.cells #[.int .i64 0, .int .i64 0, .string ⟨#[]⟩, .string ⟨#[]⟩, .string ⟨#[]⟩, .slice none 0 0] 46 (0, 0))) := heap_alloc_new _ _
 have HLT : Hid (w.heap.size < (w.alloc (.cells #[.int .i64 0, .int .i64 0, .string ⟨#[]⟩, .string ⟨#[]⟩, .string ⟨#[]⟩, .slice none 0 0] 46)).heap.size) := by show _ < _; rw [World.size_alloc]; omega
 have H := hid (h.nxt u0)
 have HU := hid u0
 obtain ⟨qa, qc, hq⟩ := (h.rr.lo k s hk).1.shape
 have HK := hid (sid_yes H.out hn k (by rw [hk]; rfl))
 have HE : Hid (M.sof k = s) := sof_some hk
 clear u0 h hk
 obtain ⟨b0, b1, b2, b3, b4, b5⟩ := s
 rw [hq]
 have HQ := hid hq
 clear hq
 dsimp only at HQ ⊢
 generalize b5.length = ql at HQ ⊢
 go_enter Tryz.func20, Tryz.ntmps20
 go_wp2_with fail
 ·refine HK.out.mono ?_
  rintro e w1 ⟨i, rfl, hi, hp, u1⟩
  have hb := (u1.block w.heap.size HLT.out id).trans HB.out
  have z0 : w1.cell? ⟨w.heap.size, 0, none⟩ = some (.int .i64 0) := by simp [World.cell?, hb]
  have f0 : w1.frozen? ⟨w.heap.size, 0, none⟩ = false := by simp [World.frozen?, hb]
  have z1 : w1.cell? ⟨w.heap.size, 1, none⟩ = some (.int .i64 0) := by simp [World.cell?, hb]
  have f1 : w1.frozen? ⟨w.heap.size, 1, none⟩ = false := by simp [World.frozen?, hb]
  have z2 : w1.cell? ⟨w.heap.size, 2, none⟩ = some (.string ⟨#[]⟩) := by simp [World.cell?, hb]
  have f2 : w1.frozen? ⟨w.heap.size, 2, none⟩ = false := by simp [World.frozen?, hb]
  have z3 : w1.cell? ⟨w.heap.size, 3, none⟩ = some (.string ⟨#[]⟩) := by simp [World.cell?, hb]
  have f3 : w1.frozen? ⟨w.heap.size, 3, none⟩ = false := by simp [World.frozen?, hb]
  have z4 : w1.cell? ⟨w.heap.size, 4, none⟩ = some (.string ⟨#[]⟩) := by simp [World.cell?, hb]
  have f4 : w1.frozen? ⟨w.heap.size, 4, none⟩ = false := by simp [World.frozen?, hb]
  have z5 : w1.cell? ⟨w.heap.size, 5, none⟩ = some (.slice none 0 0) := by simp [World.cell?, hb]
  have f5 : w1.frozen? ⟨w.heap.size, 5, none⟩ = false := by simp [World.frozen?, hb]
  obtain ⟨a, c, rfl, hr⟩ := (H.out.nxt u1).srow
  obtain ⟨g, o, rfl, hg, y0, y1, y2, y3, y4, y5⟩ := hr i k hi
  have hil : i < is.length := (List.getElem?_eq_some_iff.1 hi).1
  have c1 := (H.out.nxt u1).cells.2.2.2.1
  rw [HE.out] at y0 y1 y2 y3 y4
  rw [HQ.out] at y5
  have HB1 := hid hb
  have HU1 := hid (HU.out.trans u1)
  clear hp u1 hb hr hi hg HK H HQ HE
  generalize is.length = N at c1 hil
  go_wp2_with fail
  have hld := run_loadVar_row (P := Tryz.prog) _ _ _ 46 _ _ _ (set6 HB1.out (.int .i64 b0) (.int .i64 b1) (.string b2) (.string b3) (.string b4) (.slice qa ql qc)) Tryz.underlying46 rfl rinfo_st
  refine bodyPost_ret (v := .tuple #[.agg #[.int .i64 b0, .int .i64 b1, .string b2, .string b3, .string b4, .slice qa ql qc], .bool true]) (by rw [results_cell_tmp rfl]; simp [asAddr, hld, Result.andThen]) rfl ?_
  exact ⟨rfl, up6 HU1.out _ (.inl (Nat.le_refl _)) _ _ _ _ _ _⟩
end
end Go.Proofs.YtepggchnhgpcnaaGreatDoor
