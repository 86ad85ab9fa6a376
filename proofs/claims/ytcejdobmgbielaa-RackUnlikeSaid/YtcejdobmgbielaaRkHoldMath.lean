/- append of many, and where the row lies behind it; Locs that are held: which slots they use. -/
import Derived.Test.YtcejdobmgbielaaRkMath
namespace Go.Proofs.Ytcejdobmgbielaa
open Go.RowKit
set_option linter.unusedVariables false

/-- Where the row lies behind an append of m. -/
theorem append_where_m (w w' : World) (v v' : Value) (t ty e : TypeId) (i : TypeInfo) (z : Value) (base n m : Nat) (xs : List Value) (ht : Try.prog.underlying t = some (.slice e)) (hi : Try.prog.info? e = some i) (hz : i.zero = some z) (hown : w.ownsRow base e i.size v n xs)
    (a : Addr) (c : Nat) (news : List Value) (h0 : 0 < m) (hl : news.length = m * i.size) (hnews : ∀ j u, news[j]? = some u → w.cell? (a.add j) = some u) (h1 : ∀ u ∈ news, u.oneCell' = true) (h63 : n + m ≤ 1000000) (hb : i.bytes ≤ 1000)
    (hrun : (Builtin.append_ #[t, t] ty #[v, .slice (some a) m c]).run Try.prog w = .ok v' w') : v'.ownBlock = v.ownBlock ∨ v'.ownBlock = some w.heap.size := by
  have hm : (n + m) * i.bytes ≤ 140737488355328 := by
    have := Nat.mul_le_mul h63 hb
    omega
  have hm2 : m * i.bytes ≤ 140737488355328 := Nat.le_trans (Nat.mul_le_mul_right _ (Nat.le_add_left m n)) hm
  rcases hown.2 with ⟨rfl, rfl⟩ | ⟨g, cap, cur, rfl, hbg, hg, hnc, hcm, hcs, htake⟩
  · have hr := run_append_nil (P := Try.prog) w t ty e i z ht hi hz a m c news hl hnews h0 (by omega) (by omega)
    rw [hrun] at hr
    injection hr with hr _
    exact .inr (by rw [hr]; rfl)
  · by_cases hroom : n + m ≤ cap
    · have hfit : n * i.size + news.length ≤ cur.size := by rw [hl, hcs, ← Nat.add_mul]; exact Nat.mul_le_mul_right _ hroom
      have hr := run_append_room (P := Try.prog) w t ty e i ht hi g n cap cur hg a m c news hl hnews h1 hroom hfit
      rw [hrun] at hr
      injection hr with hr _
      exact .inl (by rw [hr]; rfl)
    · have holds : ∀ j u, xs[j]? = some u → w.cell? ((⟨g, 0, none⟩ : Addr).add j) = some u := hown.cells (g := g) rfl
      have hr := run_append_grow (P := Try.prog) w t ty e i z ht hi hz ⟨g, 0, none⟩ n cap xs hown.1 holds a m c news hl hnews (by omega) (by omega) (growslice_fits (by omega) hm)
      rw [hrun] at hr
      injection hr with hr _
      exact .inr (by rw [hr]; rfl)
theorem info_lc : ∃ i z, Try.prog.info? 36 = some i ∧ i.zero = some z ∧ i.size = 3 ∧ i.bytes = 24 ∧ z.cells.size = 3 := by
  have h : (Try.prog.info? 36).map (fun i => (i.size, i.bytes, i.zero.map fun z => z.cells.size)) = some (3, 24, some 3) := by kernel_rfl
  cases e : Try.prog.info? 36 with
  | none => rw [e] at h; cases h
  | some i =>
    rw [e] at h
    simp only [Option.map_some, Option.some.injEq, Prod.mk.injEq, Option.map_eq_some_iff] at h
    obtain ⟨h1, h2, z, h3, h4⟩ := h
    exact ⟨i, z, rfl, h3, h1, h2, h4⟩
/-- append(v, more...) of Locs. -/
theorem wpList_append_lcs {w : World} {ops : Array Oper} {rest : List Oper} {o : Oper} {a : Act} {Q : Exit → Act → World → Prop} (hgd : o.guard = none) (s x : Operand)
    (ho : o.op = .call { callee := .builtin .append, args := #[s, x], argTypes := #[27, 27] }) (base : Nat) (v : Value) (l : List Lc) (hs : a.eval s = v) (hown : OwnL base w v l)
    (ad : Addr) (cap : Nat) (k : List Lc) (hk : 0 < k.length) (hx : a.eval x = .slice (some ad) k.length cap) (hc : ∀ j u, (lcV k)[j]? = some u → w.cell? (ad.add j) = some u) (hl : l.length + k.length ≤ 1000000) (hbase : base ≤ w.heap.size)
    (h : ∀ v' w', Hid (OwnL base w' v' (l ++ k)) → Hid (w.grownBy w' v.ownBlock) → Hid (v'.ownBlock = v.ownBlock ∨ v'.ownBlock = some w.heap.size) → wpList Try.prog ops Q rest (a.put o.dst v') w') : wpList Try.prog ops Q (o :: rest) a w := by
  obtain ⟨i0, z0, hi, hz, hz1, hz2, hz3⟩ := info_lc
  obtain ⟨v', w', hrun, g1, g2, _⟩ := run_append_own (P := Try.prog) w base 27 o.type 36 i0 z0 3 24 Try.underlying27 hi hz hz1 hz2 hz3 (by decide) v l.length (lcV l) hown ad k.length cap (lcV k) (lcV_length k) hc (lc_one k) (by unfold maxLen; omega) (by omega) hbase
  have hw := append_where_m w w' v v' _ _ _ i0 z0 base l.length k.length _ Try.underlying27 hi hz (by rw [hz1]; exact hown) ad cap (lcV k) hk (by rw [hz1]; exact lcV_length k) hc (lc_one k) hl (by rw [hz2]; omega) hrun
  refine wpList_plain hgd fun _ hK => ?_
  unfold Oper.wp
  simp [execOp, ho, resolve, invoke, builtin, hs, hx, hrun, Result.andThen]
  refine hK _ _ (h v' w' ?_ g2 hw)
  show w'.ownsRow base _ 3 v' (l ++ k).length (lcV (l ++ k))
  rw [List.length_append, lcV_append]
  exact g1
/-! ### The Rack's calls -/
section
variable {O : RackOps} {P : Nat → Prop} {w0 w w' : World} {r n m nx : Nat} {fu k : Option Nat} {D : Nat → DS}
/-- A row of the law's own has grown; it lies where it lay, or anew. -/
theorem RH.grow {Q : Nat → Prop} {row : Option Nat} (h : RH O P w0 w r n m fu k D nx) (g : w.grownBy w' row) (hr : ∀ x, row = some x → P x ∧ w0.heap.size ≤ x) (hQ : ∀ x, Q x → P x ∨ (w.heap.size ≤ x ∧ x < w'.heap.size)) : RH O Q w0 w' r n m fu k D nx := by
  obtain ⟨T, k1, k2, k3⟩ := h.ex
  have u : Up (fun x => row = some x) w w' := ⟨g.os, g.tape, g.output, g.size, fun k hk hs => g.block k hk fun e => hs e.symm⟩
  refine ⟨⟨T, O.keep k1 u fun g hg e => k3 g (hr g e).1 hg, k2, fun y hy e => ?_⟩, h.fz.up u fun f e hf => (h.fnew f e).2 (hr f hf).1, fun f e => ⟨(h.fnew f e).1, fun hy => ?_⟩, fun y hy => ?_, At.foot h.up u fun x hx => (hr x hx).2⟩
  · rcases hQ y hy with hy | ⟨hy, _⟩
    · exact k3 y hy e
    · have := O.lt k1 y e; omega
  · rcases hQ f hy with hy | ⟨hy, _⟩
    · exact (h.fnew f e).2 hy
    · have hz := h.fz
      rw [e] at hz
      have := Fz.lt hz
      omega
  · rcases hQ y hy with hy | ⟨_, hy⟩
    · exact Nat.lt_of_lt_of_le (h.own y hy) g.size
    · exact hy
theorem rh_bayNil (h : RH O P w0 w r n m fu k D nx) {x : Int} (hx : x < 0 ∨ (n : Int) ≤ x) : Calls Try.prog 13 #[.pointer (some ⟨r, 0, none⟩), .int .i64 x] w fun e w' => e = .returned (.pointer none) ∧ RH O P w0 w' r n m fu k D nx ∧ Up Nul w w' := by
  obtain ⟨T, h1, _⟩ := h.ex
  refine (O.bayNil h1 x hx).mono ?_
  rintro e w' ⟨rfl, u⟩
  exact ⟨rfl, h.nxt u, u⟩
theorem rh_size (h : RH O P w0 w r n m fu k D nx) : Calls Try.prog 17 #[.pointer (some ⟨r, 0, none⟩)] w fun e w' => e = .returned (.int .i64 (n : Nat)) ∧ RH O P w0 w' r n m fu k D nx ∧ Up Nul w w' := by
  obtain ⟨T, h1, _⟩ := h.ex
  refine (O.size h1).mono ?_
  rintro e w' ⟨rfl, u⟩
  exact ⟨rfl, h.nxt u, u⟩
theorem rh_reset (h : RH O P w0 w r n m fu k D nx) (x : Nat) (h1 : 1 ≤ x) (h2 : x ≤ 1000000000) : Calls Try.prog 11 #[.pointer (some ⟨r, 0, none⟩), .int .i64 (x : Nat)] w fun e w' =>
    ∃ D', e = .returned (.tuple #[]) ∧ (∀ i, i < n → (D' i).U = fun _ => false) ∧ RH O P w0 w' r n m fu k D' x ∧ Sp P w w' := by
  obtain ⟨T, k1, k2, k3⟩ := h.ex
  refine (O.reset k1 h.fz x h1 h2).mono ?_
  rintro e w' ⟨D', rfl, g1, g2⟩
  obtain ⟨x1, x2⟩ := RH.did k1 k2 k3 h.fnew h.own h.up g2
  exact ⟨D', rfl, fun i hi => (g1 i hi).1, x1, x2⟩
theorem rh_hold (h : RH O P w0 w r n m fu k D nx) {i j y : Nat} (hi : i < n) (hj : j < m) (hU : (D i).U j = false) (hy : y ≤ 1000000000) : Calls Try.prog 12 #[.pointer (some ⟨r, 0, none⟩), lcA (i : Nat) (j : Nat) (y : Nat)] w fun e w' =>
    e = .returned (.bool true) ∧ RH O P w0 w' r n m fu k (updD D i { D i with U := updB (D i).U j true }) (max nx (y + 1)) ∧ Sp P w w' := by
  obtain ⟨T, k1, k2, k3⟩ := h.ex
  refine (O.hold k1 h.fz i j y hi hj hU hy).mono ?_
  rintro e w' ⟨rfl, g2⟩
  obtain ⟨x1, x2⟩ := RH.did k1 k2 k3 h.fnew h.own h.up g2
  exact ⟨rfl, x1, x2⟩
theorem rh_holdBad (h : RH O P w0 w r n m fu k D nx) {x y z : Int} (hx : x < 0 ∨ (n : Int) ≤ x ∨ y < 0 ∨ (m : Int) ≤ y ∨ (D x.toNat).U y.toNat = true) : Calls Try.prog 12 #[.pointer (some ⟨r, 0, none⟩), lcA x y z] w fun e w' =>
    e = .returned (.bool false) ∧ RH O P w0 w' r n m fu k D nx ∧ Up Nul w w' := by
  obtain ⟨T, h1, _⟩ := h.ex
  refine (O.holdBad h1 h.fz x y z hx).mono ?_
  rintro e w' ⟨rfl, u⟩
  exact ⟨rfl, h.nxt u, u⟩
theorem rh_giveBad (h : RH O P w0 w r n m fu k D nx) {x y z : Int} (hx : x < 0 ∨ (n : Int) ≤ x) : Calls Try.prog 15 #[.pointer (some ⟨r, 0, none⟩), lcA x y z] w fun e w' =>
    e = .returned (.bool false) ∧ RH O P w0 w' r n m fu k D nx ∧ Up Nul w w' := by
  obtain ⟨T, h1, _⟩ := h.ex
  refine (O.giveBad h1 h.fz x y z hx).mono ?_
  rintro e w' ⟨rfl, u⟩
  exact ⟨rfl, h.nxt u, u⟩
/-- 'In' of a row of one. -/
theorem in_one (g c : Nat) (x : Int) (w : World) (hc : w.cell? ⟨g, 0, none⟩ = some (.int .i64 x)) :
    Calls Try.prog 16 #[.slice (some ⟨g, 0, none⟩) 1 c, .int .i64 x] w fun e w' => e = .returned (.bool true) ∧ Up Nul w w' := by
  have hxx : (x == x) = true := by simp
  go_enter Try.func16, Try.ntmps16
  go_wp2_with fail
  go_loopw [5] (fun i wr => i = .int .i64 0 ∧ wr = w) (fun i _ => 0)
  case atStart => exact ⟨rfl, rfl⟩
  case round =>
    obtain ⟨rfl, rfl⟩ := hrel
    go_wp2_with fail
    go_ret
    exact ⟨rfl, Up.refl _ _⟩
end
/-! ### Which slots some Locs use -/
def ubl (l : List Lc) (d s : Nat) : Bool := l.any fun c => c.disk == d && c.slot == s
theorem ubl_cons (c : Lc) (l : List Lc) (d s : Nat) : ubl (c :: l) d s = (if d = c.disk then updB (ubl l d) c.slot true s else ubl l d s) := by
  unfold ubl updB
  rw [List.any_cons]
  by_cases e : d = c.disk
  · rw [if_pos e]
    subst e
    by_cases e2 : s = c.slot
    · subst e2; simp
    · have : (c.slot == s) = false := by simp; exact fun h => e2 h.symm
      rw [if_neg e2, this]; simp
  · rw [if_neg e]
    have : (c.disk == d) = false := by simp; exact fun h => e h.symm
    rw [this]; simp
theorem ubl_append (l k : List Lc) (d s : Nat) : ubl (l ++ k) d s = (ubl l d s || ubl k d s) := by unfold ubl; rw [List.any_append]
/-- No two of them are one place. -/
def Apart (l : List Lc) : Prop := l.Pairwise fun a b => ¬ (a.disk = b.disk ∧ a.slot = b.slot)
theorem Apart.no {c : Lc} {l : List Lc} (h : Apart (c :: l)) : ubl l c.disk c.slot = false := by
  unfold ubl
  rw [List.any_eq_false]
  intro x hx e
  have := List.rel_of_pairwise_cons h hx
  simp at e
  exact this ⟨e.1.symm, e.2.symm⟩
/-- The sum of the first k. -/
def sm (F : Nat → Nat) : Nat → Nat
  | 0 => 0
  | k + 1 => sm F k + F k
theorem sm_congr {F G : Nat → Nat} : ∀ n, (∀ d, d < n → F d = G d) → sm F n = sm G n := by
  intro n
  induction n with
  | zero => intro _; rfl
  | succ n ih => intro h; rw [sm, sm, h n (Nat.lt_succ_self n), ih fun d hd => h d (by omega)]
theorem sm_one {F G : Nat → Nat} {c : Nat} : ∀ n, (∀ d, d < n → G d = F d + if d = c then 1 else 0) → sm G n = sm F n + if c < n then 1 else 0 := by
  intro n
  induction n with
  | zero => intro _; rfl
  | succ n ih =>
    intro h
    rw [sm, sm, h n (Nat.lt_succ_self n), ih fun d hd => h d (by omega)]
    by_cases e : n = c
    · subst e; rw [if_pos rfl, if_neg (Nat.lt_irrefl _), if_pos (Nat.lt_succ_self _)]; omega
    · rw [if_neg e]
      by_cases e2 : c < n
      · rw [if_pos e2, if_pos (by omega)]; omega
      · rw [if_neg e2, if_neg (by omega)]; omega
/-- As many slots are used as there are Locs. -/
theorem ubl_sum {n m : Nat} : ∀ l : List Lc, Apart l → (∀ c ∈ l, c.disk < n ∧ c.slot < m) → sm (fun d => (us (ubl l d) m).length) n = l.length := by
  intro l
  induction l with
  | nil =>
    intro _ _
    rw [sm_congr (G := fun _ => 0) n fun d _ => by
      show (us (ubl [] d) m).length = 0
      rw [show ubl [] d = fun _ => false from rfl, us_none]; rfl]
    have z : ∀ n, sm (fun _ => 0) n = 0 := fun n => by
      induction n with
      | zero => rfl
      | succ n ih => rw [sm, ih]
    exact z n
  | cons c l ih =>
    intro h1 h2
    obtain ⟨hc1, hc2⟩ := h2 c (List.mem_cons_self ..)
    rw [sm_one (F := fun d => (us (ubl l d) m).length) (c := c.disk) n fun d _ => ?_, ih h1.tail fun x hx => h2 x (List.mem_cons_of_mem _ hx), if_pos hc1, List.length_cons]
    by_cases e : d = c.disk
    · rw [if_pos e, show ubl (c :: l) d = updB (ubl l d) c.slot true from funext fun s => by rw [ubl_cons, if_pos e]]
      have h3 := h1.no
      rw [← e] at h3
      rw [us_one h3 m, if_pos hc2]
    · rw [if_neg e, show ubl (c :: l) d = ubl l d from funext fun s => by rw [ubl_cons, if_neg e]]; rfl
theorem ubl_iff (l : List Lc) (d s : Nat) : ubl l d s = true ↔ ∃ c ∈ l, c.disk = d ∧ c.slot = s := by
  unfold ubl
  rw [List.any_eq_true]
  simp
theorem us_alike {U V : Nat → Bool} : ∀ n, (∀ s, s < n → U s = V s) → us U n = us V n := by
  intro n
  induction n with
  | zero => intro _; rfl
  | succ n ih => intro h; rw [us, us, h n (Nat.lt_succ_self n), ih fun s hs => h s (by omega)]
/-- Where the law stands: the Locs told so far. -/
structure Hld (n m : Nat) (l : List Lc) (D : Nat → DS) (nx : Nat) : Prop where
  U : ∀ d, d < n → ∀ s, s < m → (D d).U s = ubl l d s
  apart : Apart l
  inr : ∀ c ∈ l, c.disk < n ∧ c.slot < m
  nx : nx = l.length + 1
  id : ∀ i c, l[i]? = some c → c.id = i + 1
theorem Hld.new {n m : Nat} {D : Nat → DS} (h : NewD n D) : Hld n m [] D 1 :=
  ⟨fun d hd s _ => by rw [h.U d hd]; rfl, List.Pairwise.nil, fun c hc => (by cases hc), rfl, fun i c hc => (by cases hc)⟩
theorem mem_locs {m nx : Nat} {D : Nat → DS} {p : List Nat} {c : Lc} (h : c ∈ locs m nx D p) : ∃ i, ∃ hi : i < p.length, c = ⟨p[i], slo m (D p[i]), nx + i⟩ := by
  obtain ⟨i, hi, e⟩ := List.mem_iff_getElem.1 h
  have hi2 : i < p.length := by rw [← locs_length m nx D p]; exact hi
  exact ⟨i, hi2, by rw [← e, locs_at _ _ _ _ hi2]⟩
theorem Hld.take {n m nx : Nat} {l : List Lc} {D D' : Nat → DS} {p : List Nat} (h : Hld n m l D nx) (hd : p.Nodup) (hf : ∀ d ∈ p, d < n ∧ 0 < fre m (D d)) (h1 : ∀ d ∈ p, D' d = tkD m (D d)) (h2 : ∀ d, d ∉ p → D' d = D d) : Hld n m (l ++ locs m nx D p) D' (nx + p.length) := by
  refine ⟨fun d hdn s hs => ?_, ?_, fun c hc => ?_, by rw [List.length_append, locs_length, h.nx]; omega, fun i c hc => ?_⟩
  · have hu := h.U d hdn s hs
    rw [ubl_append]
    by_cases e : d ∈ p
    · rw [h1 d e]
      show updB (D d).U (slo m (D d)) true s = _
      unfold updB
      by_cases e2 : s = slo m (D d)
      · rw [if_pos e2]
        have : ubl (locs m nx D p) d s = true := (ubl_iff _ _ _).2 (by
          obtain ⟨i, hi, ei⟩ := List.mem_iff_getElem.1 e
          refine ⟨⟨p[i], slo m (D p[i]), nx + i⟩, ?_, ei, by rw [e2, ei]⟩
          exact List.mem_iff_getElem.2 ⟨i, by rw [locs_length]; exact hi, locs_at _ _ _ _ hi _⟩)
        rw [this, Bool.or_true]
      · rw [if_neg e2, hu]
        have : ubl (locs m nx D p) d s = false := by
          cases e3 : ubl (locs m nx D p) d s with
          | false => rfl
          | true =>
            obtain ⟨c, hc, k1, k2⟩ := (ubl_iff _ _ _).1 e3
            obtain ⟨i, hi, rfl⟩ := mem_locs hc
            dsimp only at k1 k2
            rw [k1] at k2
            exact absurd k2.symm e2
        rw [this, Bool.or_false]
    · rw [h2 d e, hu]
      have : ubl (locs m nx D p) d s = false := by
        cases e3 : ubl (locs m nx D p) d s with
        | false => rfl
        | true =>
          obtain ⟨c, hc, k1, _⟩ := (ubl_iff _ _ _).1 e3
          obtain ⟨i, hi, rfl⟩ := mem_locs hc
          exact absurd (k1 ▸ List.getElem_mem hi) e
      rw [this, Bool.or_false]
  · refine List.pairwise_append.2 ⟨h.apart, List.pairwise_iff_getElem.2 fun i j hi hj hij => ?_, fun a ha b hb => ?_⟩
    · have hi2 : i < p.length := by rw [← locs_length m nx D p]; exact hi
      have hj2 : j < p.length := by rw [← locs_length m nx D p]; exact hj
      rw [locs_at _ _ _ _ hi2, locs_at _ _ _ _ hj2]
      exact fun k => List.pairwise_iff_getElem.1 hd i j hi2 hj2 hij k.1
    · obtain ⟨i, hi, rfl⟩ := mem_locs hb
      intro k
      have hp := hf _ (List.getElem_mem hi)
      obtain ⟨s1, s2⟩ := slo_free hp.2
      rw [h.U _ hp.1 _ s1] at s2
      have := (ubl_iff l p[i] (slo m (D p[i]))).2 ⟨a, ha, k⟩
      rw [s2] at this
      cases this
  · rcases List.mem_append.1 hc with hc | hc
    · exact h.inr c hc
    · obtain ⟨i, hi, rfl⟩ := mem_locs hc
      have hp := hf _ (List.getElem_mem hi)
      exact ⟨hp.1, (slo_free hp.2).1⟩
  · by_cases e : i < l.length
    · rw [List.getElem?_append_left e] at hc
      exact h.id i c hc
    · rw [List.getElem?_append_right (by omega)] at hc
      obtain ⟨hl, rfl⟩ := List.getElem?_eq_some_iff.1 hc
      rw [locs_at _ _ _ _ (by rw [← locs_length m nx D p]; exact hl)]
      show nx + (i - l.length) = i + 1
      rw [h.nx]
      omega
/-- .. held anew, from the last one on. -/
structure Anew (n m : Nat) (l : List Lc) (i : Nat) (D : Nat → DS) (nx : Nat) : Prop where
  U : ∀ d, d < n → ∀ s, s < m → (D d).U s = ubl (l.drop i) d s
  nx : nx = if i = l.length then 1 else l.length + 1
theorem drop_at {l : List Lc} {j : Nat} (h : j < l.length) : l.drop j = l[j] :: l.drop (j + 1) := List.drop_eq_getElem_cons h
theorem Apart.drop {l : List Lc} (h : Apart l) (i : Nat) : Apart (l.drop i) := List.Pairwise.drop h
theorem Anew.free {n m nx j : Nat} {l : List Lc} {D : Nat → DS} (h : Anew n m l (j + 1) D nx) (ha : Apart l) (hr : ∀ c ∈ l, c.disk < n ∧ c.slot < m) (hj : j < l.length) : (D l[j].disk).U l[j].slot = false := by
  obtain ⟨h1, h2⟩ := hr _ (List.getElem_mem hj)
  rw [h.U _ h1 _ h2]
  have := ha.drop j
  rw [drop_at hj] at this
  exact this.no
theorem Anew.hold {n m nx j : Nat} {l : List Lc} {D : Nat → DS} (h : Anew n m l (j + 1) D nx) (hj : j < l.length) (hid : l[j].id = j + 1) :
    Anew n m l j (updD D l[j].disk { D l[j].disk with U := updB (D l[j].disk).U l[j].slot true }) (max nx (l[j].id + 1)) := by
  refine ⟨fun d hd s hs => ?_, ?_⟩
  · rw [drop_at hj, ubl_cons]
    by_cases e : d = l[j].disk
    · rw [if_pos e, e, updD_same]
      show updB (D l[j].disk).U l[j].slot true s = updB (ubl (l.drop (j + 1)) l[j].disk) l[j].slot true s
      unfold updB
      by_cases e2 : s = l[j].slot
      · rw [if_pos e2, if_pos e2]
      · rw [if_neg e2, if_neg e2, h.U _ (by rw [← e]; exact hd) s hs]
    · rw [if_neg e, updD_other _ _ e, h.U d hd s hs]
  · rw [h.nx, hid, if_neg (by omega : ¬ j = l.length)]
    by_cases e : j + 1 = l.length
    · rw [if_pos e]; omega
    · rw [if_neg e]; omega
theorem Anew.held {n m nx j : Nat} {l : List Lc} {D : Nat → DS} (h : Anew n m l j D nx) (hr : ∀ c ∈ l, c.disk < n ∧ c.slot < m) (hj : j < l.length) : (D l[j].disk).U l[j].slot = true := by
  obtain ⟨h1, h2⟩ := hr _ (List.getElem_mem hj)
  rw [h.U _ h1 _ h2, drop_at hj, ubl_cons, if_pos rfl]
  unfold updB
  rw [if_pos rfl]
theorem Anew.sum {n m nx : Nat} {l : List Lc} {D : Nat → DS} (h : Anew n m l 0 D nx) (ha : Apart l) (hr : ∀ c ∈ l, c.disk < n ∧ c.slot < m) : sm (fun d => (us (D d).U m).length) n = l.length := by
  rw [← ubl_sum l ha hr]
  refine sm_congr n fun d hd => ?_
  rw [us_alike m fun s hs => h.U d hd s hs]
  rfl
theorem Anew.last {n m nx : Nat} {l : List Lc} {D : Nat → DS} (h : Anew n m l 0 D nx) : nx = l.length + 1 := by
  rw [h.nx]
  by_cases e : 0 = l.length
  · rw [if_pos e]; omega
  · rw [if_neg e]
end Go.Proofs.Ytcejdobmgbielaa
