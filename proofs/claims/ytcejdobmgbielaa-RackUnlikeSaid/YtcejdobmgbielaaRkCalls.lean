/- The program's 'Hold', 'Give', 'Put', 'Get', 'Reset', 'Sync' of a Rack. -/
import Derived.Test.YtcejdobmgbielaaRkRack
import Derived.StillTailTactics
namespace Go.Proofs.Ytcejdobmgbielaa
open Go.RowKit
set_option linter.unusedVariables false

section
variable {w w' : World} {r bb n m cap nx : Nat} {fu k : Option Nat} {D : Nat → DS} {T : Nat → Prop}
/-- One disk's call, and what becomes of all. -/
theorem RK.one (h : RK w r n m fu D nx T) (hf : FzO w fu k) (i : Nat) (hi : i < n) : ∃ F, Dk w m fu (D i) F ∧ ∀ w' k' s', s'.q = (D i).q → s'.b = (D i).b → Dn w w' m fu k' F s' → Rd RK w w' r n m fu k' T Nul (updD D i s') nx := by
  obtain ⟨bb, cap, T0, h1, h2, h3⟩ := h.ex
  obtain ⟨F, g1, g2, g3⟩ := h2.one hf hi
  refine ⟨F, g1, fun w' k' s' hq _ dn => h1.md h2 hf h3 h.le (g3 w' k' s' dn) fun j hj => ?_⟩
  by_cases e : j = i
  · rw [e, updD_same, hq]
  · rw [updD_other D s' e]
theorem RK.bayOk (h : RK w r n m fu D nx T) (i : Nat) (hi : i < n) : Calls Try.prog 13 #[.pointer (some ⟨r, 0, none⟩), .int .i64 (i : Nat)] w fun e w' => e = .returned (.pointer (some ⟨(D i).q, 0, none⟩)) ∧ w' = w := by
  obtain ⟨bb, cap, T0, h1, _, _⟩ := h.ex
  exact rbay_ok h1 hi h.le.2.1
theorem RK.bayNo (h : RK w r n m fu D nx T) (x : Int) (hx : x < 0 ∨ (n : Int) ≤ x) : Calls Try.prog 13 #[.pointer (some ⟨r, 0, none⟩), .int .i64 x] w fun e w' => e = .returned (.pointer none) ∧ w' = w := by
  obtain ⟨bb, cap, T0, h1, _, _⟩ := h.ex
  exact rbay_no h1 x hx
theorem RK.bayHold (h : RK w r n m fu D nx T) (hf : FzO w fu k) (i j : Nat) (hi : i < n) (hj : j < m) (hU : (D i).U j = false) : Calls Try.prog 38 #[.pointer (some ⟨(D i).q, 0, none⟩), .int .i64 (j : Nat)] w fun e w' =>
    e = .returned (.bool true) ∧ Rd RK w w' r n m fu k T Nul (updD D i { D i with U := updB (D i).U j true }) nx := by
  obtain ⟨F, g1, g2⟩ := h.one hf i hi
  refine (dk_hold g1 hf (j : Nat)).mono ?_
  rintro e w' (⟨_, rfl, dn⟩ | ⟨hn, _⟩)
  · rw [Int.toNat_natCast] at dn
    exact ⟨rfl, g2 _ _ { D i with U := updB (D i).U j true } rfl rfl dn⟩
  · exact absurd ⟨Int.natCast_nonneg _, by omega, by rw [Int.toNat_natCast]; exact hU⟩ hn
theorem RK.bayHoldBad (h : RK w r n m fu D nx T) (hf : FzO w fu k) (i : Nat) (y : Int) (hi : i < n) (hy : y < 0 ∨ (m : Int) ≤ y ∨ (D i).U y.toNat = true) : Calls Try.prog 38 #[.pointer (some ⟨(D i).q, 0, none⟩), .int .i64 y] w fun e w' =>
    e = .returned (.bool false) ∧ Up Nul w w' := by
  obtain ⟨F, g1, g2⟩ := h.one hf i hi
  refine (dk_hold g1 hf y).mono ?_
  rintro e w' (⟨hc, _⟩ | ⟨_, rfl, u⟩)
  · rcases hy with e | e | e
    · exact absurd hc.1 (by omega)
    · exact absurd hc.2.1 (by omega)
    · have := hc.2.2; rw [e] at this; cases this
  · exact ⟨rfl, u⟩
/-- A block that the Rack has not stays over a call. -/
theorem Rd.cell {X : Nat → Prop} {k' : Option Nat} {D' : Nat → DS} {nx' : Nat} (h : Rd RK w w' r n m fu k' T X D' nx') {p : Addr} {v : Value} (hv : w.cell? p = some v) (h1 : ¬ T p.block) (h2 : ¬ fu = some p.block) : w'.cell? p = some v :=
  (h.up.cell (lt_of_cell hv) fun e => e.elim h1 h2).trans hv
set_option maxRecDepth 100000 in
set_option maxHeartbeats 1600000 in
theorem rhold_any (h : RK w r n m fu D nx T) (hf : FzO w fu k) (i j y : Nat) (hi : i < n) (hj : j < m) (hU : (D i).U j = false) (hy : y ≤ 1000000000) : Calls Try.prog 12 #[.pointer (some ⟨r, 0, none⟩), lcA (i : Nat) (j : Nat) (y : Nat)] w fun e w' =>
    e = .returned (.bool true) ∧ Rd RK w w' r n m fu k T Nul (updD D i { D i with U := updB (D i).U j true }) (max nx (y + 1)) := by
  unfold lcA
  have UA := hid ((Up.refl Nul w).alloc (.cells #[.int .i64 (i : Nat), .int .i64 (j : Nat), .int .i64 (y : Nat)] 36))
  have HA := hid (h.nxt UA.out)
  have HFA := hid (hf.up UA.out fun _ _ => id)
  have HB := hid (HA.out.bayOk i hi)
  have HH := hid (HA.out.bayHold HFA.out i j hi hj hU)
  obtain ⟨s', S'⟩ : ∃ s' : DS, Hid (s' = { D i with U := updB (D i).U j true }) := ⟨_, rfl⟩
  rw [← S'.out] at HH ⊢
  obtain ⟨q, Q⟩ : ∃ q, Hid ((D i).q = q) := ⟨_, rfl⟩
  rw [Q.out] at HB HH
  have HAF := hid (rafter_any y (by omega))
  have HBX : Hid (¬ T w.heap.size ∧ ¬ fu = some w.heap.size) := by
    refine ⟨fun e => by have := h.lt _ e; omega, fun e => ?_⟩
    rw [e] at hf
    have := Fz.lt hf
    omega
  have HC : Hid ((w.alloc (.cells #[.int .i64 (i : Nat), .int .i64 (j : Nat), .int .i64 (y : Nat)] 36)).cell? ⟨w.heap.size, 2, none⟩ = some (.int .i64 (y : Nat))) := World.cell?_alloc_new _ _ _ 2
  have HM : Hid (((max nx (y + 1) : Nat) : Int) = max (nx : Int) ((y : Int) + 1)) := by show _ = _; omega
  have HY : Hid (((y + 1 : Nat) : Int) = (y : Int) + 1) := by show _ = _; omega
  have HM1 : Hid (1 ≤ max nx (y + 1)) := by show _ ≤ _; omega
  rw [HY.out] at HAF
  clear hU hj hy h hf hi HA HFA
  go_enter Try.func12, Try.ntmps12
  go_wp2_with fail
  refine HB.out.mono ?_
  rintro e w1 ⟨rfl, rfl⟩
  go_wp2_with fail
  refine HH.out.mono ?_
  rintro e w2 ⟨rfl, rd⟩
  have HRD := hid rd
  have c2 := rd.cell HC.out HBX.out.1 HBX.out.2
  obtain ⟨T2, p1, p2, p3⟩ := rd.ex
  obtain ⟨bb, cap, T0, q1, q2, q3⟩ := p1.ex
  have HQ := hid (And.intro q1 (And.intro q2 (And.intro q3 p1.le)))
  have HP := hid p2
  have d1 := q1.c1
  have f1 := q1.f1
  clear rd p1 p2 p3 q1 q2 q3
  go_wp2_with fail
  go_still_tail 11, (by kernel_rfl)
  still_call (HAF.out _)
  repeat still_step
  refine wpStill_nil ?_
  change wpList _ _ _ _ _ (w2.drewN 1)
  go_wp2
  go_ret
  refine ⟨rfl, Rd.after UA.out HRD.out fun T' hT hf' => ?_⟩
  have := hT.put hf' HM1.out 1
  rw [HM.out] at this
  exact this
theorem rholdBad_any (h : RK w r n m fu D nx T) (hf : FzO w fu k) (x y z : Int) (hx : x < 0 ∨ (n : Int) ≤ x ∨ y < 0 ∨ (m : Int) ≤ y ∨ (D x.toNat).U y.toNat = true) : Calls Try.prog 12 #[.pointer (some ⟨r, 0, none⟩), lcA x y z] w fun e w' =>
    e = .returned (.bool false) ∧ Up Nul w w' := by
  unfold lcA
  have UA := hid ((Up.refl Nul w).alloc (.cells #[.int .i64 x, .int .i64 y, .int .i64 z] 36))
  have HA := hid (h.nxt UA.out)
  have HFA := hid (hf.up UA.out fun _ _ => id)
  by_cases hc : x < 0 ∨ (n : Int) ≤ x
  · have HB := hid (HA.out.bayNo x hc)
    clear hx hc h hf
    go_enter Try.func12, Try.ntmps12
    go_wp2_with fail
    refine HB.out.mono ?_
    rintro e w1 ⟨rfl, rfl⟩
    go_wp2_with fail
    go_ret
    exact ⟨rfl, UA.out⟩
  · obtain ⟨i, rfl⟩ : ∃ i : Nat, x = i := ⟨x.toNat, by omega⟩
    rw [Int.toNat_natCast] at hx
    have hi : i < n := by omega
    have hy : y < 0 ∨ (m : Int) ≤ y ∨ (D i).U y.toNat = true := by
      rcases hx with e | e | e
      · exact absurd (.inl e) hc
      · exact absurd (.inr e) hc
      · exact e
    have HB := hid (HA.out.bayOk i hi)
    have HH := hid (HA.out.bayHoldBad HFA.out i y hi hy)
    obtain ⟨q, Q⟩ : ∃ q, Hid ((D i).q = q) := ⟨_, rfl⟩
    rw [Q.out] at HB HH
    clear hx hc h hf hi hy
    go_enter Try.func12, Try.ntmps12
    go_wp2_with fail
    refine HB.out.mono ?_
    rintro e w1 ⟨rfl, rfl⟩
    go_wp2_with fail
    refine HH.out.mono ?_
    rintro e w2 ⟨rfl, u⟩
    have U2 := hid (UA.out.trans u)
    clear u
    go_wp2_with fail
    go_ret
    exact ⟨rfl, U2.out⟩
theorem rgiveBad_any (h : RK w r n m fu D nx T) (x y z : Int) (hx : x < 0 ∨ (n : Int) ≤ x) : Calls Try.prog 15 #[.pointer (some ⟨r, 0, none⟩), lcA x y z] w fun e w' =>
    e = .returned (.bool false) ∧ Up Nul w w' := by
  unfold lcA
  have UA := hid ((Up.refl Nul w).alloc (.cells #[.int .i64 x, .int .i64 y, .int .i64 z] 36))
  have HB := hid ((h.nxt UA.out).bayNo x hx)
  clear hx h
  go_enter Try.func15, Try.ntmps15
  go_wp2_with fail
  refine HB.out.mono ?_
  rintro e w1 ⟨rfl, rfl⟩
  go_wp2_with fail
  go_ret
  exact ⟨rfl, UA.out⟩
theorem RK.bayWrite (h : RK w r n m fu D nx T) (hf : FzO w fu k) (i j y : Nat) (a : Option Addr) (l c : Nat) (z : List Nat) (hz : SlN w a l z) (hc : l ≤ c) (hl : l ≤ 64) (hi : i < n) (hj : j < m) (hU : (D i).U j = true) (hlv : (D i).live = true) (hy : y < 4294967296) (hp : (D i).ps.length < 1000) :
    Calls Try.prog 41 #[.pointer (some ⟨(D i).q, 0, none⟩), .int .i64 (j : Nat), .int .i64 (y : Nat), .slice a l c] w fun e w' =>
      (k = some 0 ∧ e = .returned (.int .i64 4) ∧ Up Nul w w') ∨ (k ≠ some 0 ∧ e = .returned (.int .i64 0) ∧ Rd RK w w' r n m fu (less k) T Nul (updD D i { D i with R := upd (D i).R j (FrM.fr y z), ps := (D i).ps ++ [(j, (D i).R j)] }) nx) := by
  obtain ⟨F, g1, g2⟩ := h.one hf i hi
  refine (dk_write g1 hf hp hz hc hj hU hy hl).mono ?_
  rintro e w' (⟨h1, _⟩ | ⟨_, h2, rfl, u⟩ | ⟨_, h2, rfl, dn⟩)
  · rw [hlv] at h1; cases h1
  · exact .inl ⟨h2, rfl, u⟩
  · exact .inr ⟨h2, rfl, g2 _ _ { D i with R := upd (D i).R j (FrM.fr y z), ps := (D i).ps ++ [(j, (D i).R j)] } rfl rfl dn⟩
theorem rput_any (h : RK w r n m fu D nx T) (hf : FzO w fu k) (i j y : Nat) (a : Option Addr) (l c : Nat) (z : List Nat) (hz : SlN w a l z) (hc : l ≤ c) (hl : l ≤ 64) (hi : i < n) (hj : j < m) (hU : (D i).U j = true) (hlv : (D i).live = true) (hy : y < 4294967296) (hp : (D i).ps.length < 1000) :
    Calls Try.prog 23 #[.pointer (some ⟨r, 0, none⟩), lcA (i : Nat) (j : Nat) (y : Nat), .slice a l c] w fun e w' =>
      (k = some 0 ∧ e = .returned (.int .i64 4) ∧ Up Nul w w') ∨ (k ≠ some 0 ∧ e = .returned (.int .i64 0) ∧ Rd RK w w' r n m fu (less k) T Nul (updD D i { D i with R := upd (D i).R j (FrM.fr y z), ps := (D i).ps ++ [(j, (D i).R j)] }) nx) := by
  unfold lcA
  have UA := hid ((Up.refl Nul w).alloc (.cells #[.int .i64 (i : Nat), .int .i64 (j : Nat), .int .i64 (y : Nat)] 36))
  have HA := hid (h.nxt UA.out)
  have HFA := hid (hf.up UA.out fun _ _ => id)
  have HB := hid (HA.out.bayOk i hi)
  have HH := hid (HA.out.bayWrite HFA.out i j y a l c z (hz.nxt UA.out) hc hl hi hj hU hlv hy hp)
  obtain ⟨s', S'⟩ : ∃ s' : DS, Hid (s' = { D i with R := upd (D i).R j (FrM.fr y z), ps := (D i).ps ++ [(j, (D i).R j)] }) := ⟨_, rfl⟩
  rw [← S'.out] at HH ⊢
  obtain ⟨q, Q⟩ : ∃ q, Hid ((D i).q = q) := ⟨_, rfl⟩
  rw [Q.out] at HB HH
  clear hz hc hl hi hj hU hlv hy hp h hf
  go_enter Try.func23, Try.ntmps23
  go_wp2_with fail
  refine HB.out.mono ?_
  rintro e w1 ⟨rfl, rfl⟩
  go_wp2_with fail
  refine HH.out.mono ?_
  rintro e w2 (⟨hk, rfl, u⟩ | ⟨hk, rfl, rd⟩)
  · have HK := hid hk
    have U2 := hid (UA.out.trans u)
    clear hk u
    go_wp2_with fail
    go_ret
    exact .inl ⟨HK.out, rfl, U2.out⟩
  · have HK := hid hk
    have HRD := hid rd
    clear hk rd
    go_wp2_with fail
    go_ret
    exact .inr ⟨HK.out, rfl, Rd.after UA.out HRD.out fun T' hT hf' => Rd.nul hT hf' (Up.refl _ _)⟩
/-- What Get tells. -/
def GtE (w : World) (R : List Nat) (y : Int) (e : Ending) (w' : World) : Prop :=
  ((∃ a l c, FrM.tk R = some (FrM.idOf R, FrM.datOf R) ∧ (FrM.idOf R : Int) = y ∧ e = .returned (.tuple #[.slice a l c, .int .i64 0]) ∧ SlN w' a l (FrM.datOf R)) ∨
   (∃ a c, (FrM.tk R = none ∨ ¬ (FrM.idOf R : Int) = y) ∧ e = .returned (.tuple #[.slice a 0 c, .int .i64 6]))) ∧ Up Nul w w'
theorem GtE.yes {R : List Nat} {y : Int} {a : Option Addr} {l c : Nat} (h1 : FrM.tk R = some (FrM.idOf R, FrM.datOf R)) (h2 : (FrM.idOf R : Int) = y) (h3 : SlN w' a l (FrM.datOf R)) (u : Up Nul w w') : GtE w R y (.returned (.tuple #[.slice a l c, .int .i64 0])) w' := ⟨.inl ⟨a, l, c, h1, h2, rfl, h3⟩, u⟩
theorem GtE.no {R : List Nat} {y : Int} {a : Option Addr} {c : Nat} (h1 : FrM.tk R = none ∨ ¬ (FrM.idOf R : Int) = y) (u : Up Nul w w') : GtE w R y (.returned (.tuple #[.slice a 0 c, .int .i64 6])) w' := ⟨.inr ⟨a, c, h1, rfl⟩, u⟩
theorem rget_any (h : RK w r n m fu D nx T) (hf : FzO w fu k) (i j : Nat) (y : Int) (hi : i < n) (hj : j < m) (hlv : (D i).live = true) :
    Calls Try.prog 24 #[.pointer (some ⟨r, 0, none⟩), lcA (i : Nat) (j : Nat) y] w (GtE w ((D i).R j) y) := by
  unfold lcA
  have UA := hid ((Up.refl Nul w).alloc (.cells #[.int .i64 (i : Nat), .int .i64 (j : Nat), .int .i64 y] 36))
  have HA := hid (h.nxt UA.out)
  have HB := hid (HA.out.bayOk i hi)
  obtain ⟨F, g1, _⟩ := HA.out.one (hf.up UA.out fun _ _ => id) i hi
  have HH := hid (dk_read g1 y hj hlv)
  obtain ⟨q, Q⟩ : ∃ q, Hid ((D i).q = q) := ⟨_, rfl⟩
  rw [Q.out] at HB HH
  generalize (D i).R j = R at HH ⊢
  clear hi hj hlv h hf g1
  go_enter Try.func24, Try.ntmps24
  go_wp2_with fail
  refine HB.out.mono ?_
  rintro e w1 ⟨rfl, rfl⟩
  go_wp2_with fail
  refine HH.out.mono ?_
  rintro e w2 ⟨⟨a, l, c, h1, h2, rfl, h3⟩ | ⟨a, c, h1, rfl⟩, u⟩
  · have G := hid (And.intro h1 (And.intro h2 h3))
    have U2 := hid (UA.out.trans u)
    clear h1 h2 h3 u
    go_wp2_with fail
    go_ret2
    exact GtE.yes G.out.1 G.out.2.1 G.out.2.2 U2.out
  · have G := hid h1
    have U2 := hid (UA.out.trans u)
    clear h1 u
    go_wp2_with fail
    go_ret2
    exact GtE.no G.out U2.out
end
end Go.Proofs.Ytcejdobmgbielaa
