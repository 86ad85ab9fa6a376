/- 'Invert' of a Matrix. -/
import Derived.Test.YtebglmfdchfplaaMatBeside
import Derived.Test.YtebglmfdchfplaaMatTimes
namespace Go.Proofs.Ytebglmfdchfplaa
open Go.RowKit
set_option linter.unusedVariables false

theorem stl_congr {n m at_ p : Nat} {L M : GfM.Mx} (h : ∀ i j, i < n → j < m → L i j = M i j) (ha : at_ < n) (hp : p < n) (hm : at_ < m) (i j : Nat) (hi : i < n) (hj : j < m) : GfM.stl at_ p L i j = GfM.stl at_ p M i j := by
  unfold GfM.stl GfM.swp
  rw [h p j hp hj, h p at_ hp hm]
  by_cases e1 : i = at_
  · rw [if_pos e1, if_pos e1]
  · rw [if_neg e1, if_neg e1, if_neg e1, if_neg e1]
    by_cases e2 : i = p
    · rw [if_pos e2, if_pos e2, h at_ j ha hj, h at_ at_ ha hm]
    · rw [if_neg e2, if_neg e2, h i j hi hj, h i at_ hi hm]
theorem run_stuck {n k : Nat} {L M : GfM.Mx} (h : GfM.run n L k = some M) (hp : GfM.pivot n k M = none) (d : Nat) : GfM.run n L (k + 1 + d) = none := by
  induction d with
  | zero => simp [GfM.run, h, hp]
  | succ d ih => rw [← Nat.add_assoc, GfM.run, ih]; rfl
theorem run_next {n k p : Nat} {L M : GfM.Mx} (h : GfM.run n L k = some M) (hp : GfM.pivot n k M = some p) : GfM.run n L (k + 1) = some (GfM.stl k p M) := by
  simp [GfM.run, h, hp]
/-- The cells of n rows of n. -/
def cz (n : Nat) (z : List Nat) : GfM.Mx := fun i j => z.getD (i * n + j) 0

/-- Where no line has anything in the column: false. -/
theorem settle_none2 (W : World) (p F gl n m at_ : Nat) (b : Nat → Nat) (L : Nat → List Nat) (w : World) (h : Elim W F gl n m b L w) (hf : Fld F w) (ha : at_ < n) (hnm : n ≤ m) (hn : n ≤ 32)
    (hp : GfM.pivot n at_ (celL L) = none) :
    Calls Try.prog 76 #[.pointer (some ⟨p, 0, none⟩), .slice (some ⟨gl, 0, none⟩) n n, .int .i64 at_] w
      fun e w' => e = .returned (.bool false) ∧ Up (One F) W w' ∧ Fld F w' := by
  have hmf : ∀ (fn : Fn) (first cap : Array Value) (w : World), (Instr.makeFunc fn first cap).run Try.prog w = .ok (.func fn first cap) w := fun _ _ _ _ => rfl
  have hA : (w.alloc (.cells #[.int .i64 at_] 3)).cell? ⟨w.heap.size, 0, none⟩ = some (.int .i64 at_) := World.cell?_alloc_new w _ _ 0
  have H : Hid _ := h.alloc (.cells #[.int .i64 at_] 3)
  have HP : Hid _ := hp
  have HF := hid (hf.alloc (.cells #[.int .i64 at_] 3))
  clear h hp hf
  go_enter Try.func76, Try.ntmps76
  go_wp2_with ((go_at_call 71; (with_reducible refine (index_none W F gl n m at_ w.heap.size _ b L _ H.out hA (by omega) hn HP.out).mono ?_); rintro e w1 ⟨rfl, rfl⟩))
  go_ret
  exact ⟨rfl, H.out.up, HF.out⟩

theorem invert_bad (p q F r c : Nat) (z : List Nat) (w : World) (hm : Mat w p q F r c z) (hn : r ≠ c) :
    Calls Try.prog 61 #[.pointer (some ⟨p, 0, none⟩)] w fun e w' => e = .returned (.tuple #[.pointer none, .int .i64 1]) ∧ ∃ n, w' = w.drewN n := by
  have m1 := hm.rows
  have m2 := hm.cols
  have hd : ((r : Int) == (c : Int)) = false := by simp; omega
  have hd2 : ((r : Int) != (c : Int)) = true := by simp; omega
  clear hm hn
  go_enter Try.func61, Try.ntmps61
  go_wp2_with fail
  go_quiet (fail)
  go_wp2
  go_ret2
  exact ⟨rfl, _, rfl⟩

theorem Mat.copied {w w' : World} {p q F r c : Nat} {y y' : List Nat} (h : Mat w p q F r c y) (hb : Blk w' q y') (hl : y'.length = y.length) (u : Up (One q) w w') : Mat w' p q F r c y' :=
  have hc : ∀ j, w'.cell? ⟨p, j, none⟩ = w.cell? ⟨p, j, none⟩ := fun j => u.cell (p := ⟨p, j, none⟩) h.pl h.pq
  { h with f := (hc 0).trans h.f, rows := (hc 1).trans h.rows, cols := (hc 2).trans h.cols, cells := (hc 3).trans h.cells, blk := hb, len := hl.trans h.len, pl := Nat.lt_of_lt_of_le h.pl u.size }
theorem row_told {n k : Nat} {y s : List Nat} {f : Nat → Nat → Nat} (hn : 0 < n) (hs : s.length = n) (hl : k * n + n ≤ y.length) (ht : ∀ t, t < k * n → y.getD t 0 = f (t / n) (t % n)) (hr : ∀ j, j < n → s.getD j 0 = f k j) :
    ∀ t, t < (k + 1) * n → (over y (k * n) s).getD t 0 = f (t / n) (t % n) := by
  intro t h
  rw [Nat.add_mul, Nat.one_mul] at h
  rw [over_at (by rw [hs]; exact hl), hs]
  by_cases e : k * n ≤ t
  · rw [if_pos ⟨e, by omega⟩, hr _ (by omega)]
    obtain ⟨j, rfl⟩ : ∃ j, t = k * n + j := ⟨t - k * n, by omega⟩
    have hj : j < n := by omega
    rw [Nat.add_sub_cancel_left, Nat.mul_comm k n, Nat.mul_add_mod, Nat.mod_eq_of_lt hj, Nat.mul_add_div hn, Nat.div_eq_of_lt hj, Nat.add_zero]
  · rw [if_neg (by omega), ht t (by omega)]

set_option maxRecDepth 100000 in
set_option maxHeartbeats 3200000 in
theorem invert_any (p q F n : Nat) (z : List Nat) (w : World) (hm : Mat w p q F n n z) (hf : Fld F w) :
    Calls Try.prog 61 #[.pointer (some ⟨p, 0, none⟩)] w fun e w' => Up (One F) w w' ∧ Fld F w' ∧
      ((GfM.run n (GfM.beside n (cz n z)) n = none ∧ e = .returned (.tuple #[.pointer none, .int .i64 2])) ∨
       ∃ M, GfM.run n (GfM.beside n (cz n z)) n = some M ∧ e = .returned (.tuple #[.pointer (some ⟨w.heap.size + 1, 0, none⟩), .int .i64 0]) ∧ Mat w' (w.heap.size + 1) w.heap.size F n n (tab (n * n) fun t => GfM.half n M (t / n) (t % n))) := by
  have hnot : ∀ (x : Bool) (w : World), (Op.unary .not (.bool x)).run Try.prog w = .ok (.bool (!x)) w := fun _ _ => rfl
  have s1 := hm.f
  have s2 := hm.rows
  have s3 := hm.cols
  have HM := hid hm
  have HF := hid hf
  have hn := hm.r32
  have hn1 := hm.r1
  clear hm hf
  go_enter Try.func61, Try.ntmps61
  go_wp2_with fail
  go_quiet (fail)
  obtain ⟨wa, WA⟩ : ∃ x, x = w.drewN nq := ⟨_, rfl⟩
  rw [← WA]
  have a1 : wa.cell? ⟨p, 0, none⟩ = some (.pointer (some ⟨F, 0, none⟩)) := by rw [WA]; exact s1
  have a2 : wa.cell? ⟨p, 1, none⟩ = some (.int .i64 n) := by rw [WA]; exact s2
  have a3 : wa.cell? ⟨p, 2, none⟩ = some (.int .i64 n) := by rw [WA]; exact s3
  have hsz : wa.heap.size = w.heap.size := by rw [WA]; rfl
  have hma : Mat wa p q F n n z := by rw [WA]; exact HM.out.drewN nq
  have hfa : Fld F wa := by rw [WA]; exact HF.out.drewN nq
  have hua : Up (One F) w wa := by rw [WA]; exact (Up.refl _ _).drewN nq
  have H := hid (blank_good F n n wa.drew hfa.lt hn1 hn hn1 hn)
  have HA := hid (And.intro hma (And.intro hfa hua))
  have SZ := hid hsz
  clear WA s1 s2 s3 hma hfa hua hsz
  go_wp2_with fail
  go_region_held3 (fun w' => w'.cell? ⟨p, 0, none⟩ = some (.pointer (some ⟨F, 0, none⟩)) ∧ w'.cell? ⟨p, 1, none⟩ = some (.int .i64 n) ∧ w'.cell? ⟨p, 2, none⟩ = some (.int .i64 n)) (first | exact ⟨by assumption, by assumption, by assumption⟩ | go_keep)
    ((go_at_call 51; (with_reducible refine H.out.mono ?_); rintro e w1 ⟨rfl, k1⟩; have b1 := (k1.up.cell (p := ⟨p, 0, none⟩) HA.out.1.pl id).trans a1; have b2 := (k1.up.cell (p := ⟨p, 1, none⟩) HA.out.1.pl id).trans a2; have b3 := (k1.up.cell (p := ⟨p, 2, none⟩) HA.out.1.pl id).trans a3; have K1 := hid k1; clear k1))
  have hW : Mat w1 p q F n n z ∧ Mat w1 (wa.heap.size + 1) wa.heap.size F n n (zer (n * n)) ∧ Fld F w1 ∧ Up (One F) w w1 ∧ p ≠ wa.heap.size ∧ q ≠ wa.heap.size := by
    have k1 := K1.out
    obtain ⟨h1, h3, h4⟩ := HA.out
    have e1 := h1.pl
    have e2 := h1.ql
    exact ⟨h1.drew.up k1.up id id, k1.mat, h3.drew.up (S := Nul) k1.up id, h4.drew.trans k1.up.nul, by omega, by omega⟩
  have HB := hid (beside_any p q F n z w1 hW.1)
  have HW := hid hW
  obtain ⟨p3, P3⟩ : ∃ x, Hid (x = wa.heap.size + 1) := ⟨_, rfl⟩
  obtain ⟨q3, Q3⟩ : ∃ x, Hid (x = wa.heap.size) := ⟨_, rfl⟩
  rw [← P3.out, ← Q3.out] at HW
  rw [← P3.out]
  clear hW b1 b2 b3 a1 a2 a3 H K1
  go_wp2_with fail
  refine HB.out.mono ?_
  rintro e w2 ⟨rfl, b0, L0, h0, h00⟩
  obtain ⟨gl, GL⟩ : ∃ x, Hid (x = w1.heap.size) := ⟨_, rfl⟩
  rw [← GL.out] at h0 ⊢
  have HE0 := hid (And.intro (h0.elim (F := F)) (And.intro (HW.out.2.2.1.up (S := Nul) h0.up id) h00))
  clear h0 h00 HB
  go_wp2_with fail
  go_loopw [42] (fun i wr => ∃ k : Nat, k ≤ n ∧ i = .int .i64 k ∧ ∃ b L M, GfM.run n (GfM.beside n (cz n z)) k = some M ∧ Elim w1 F gl n (2 * n) b L wr ∧ Fld F wr ∧ ∀ i j, i < n → j < 2 * n → celL L i j = M i j) (fun i _ => n - (intOf i).toNat)
  case atStart => exact ⟨0, by omega, rfl, b0, L0, _, rfl, HE0.out.1, HE0.out.2.1, fun i j hi hj => by unfold celL; rw [HE0.out.2.2 i hi]; exact tab_at _ _ _ hj⟩
  case round =>
    clear HE0
    obtain ⟨k, hk, rfl, b, L, M, hr, he, hf, hc⟩ := hrel
    by_cases hlt : k < n
    · have hpc : GfM.pivot n k (celL L) = GfM.pivot n k M := GfM.pivot_congr fun i hi => hc i k hi (by omega)
      cases hp : GfM.pivot n k M with
      | none =>
        have HS := hid (settle_none2 w1 p F gl n (2 * n) k b L wr he hf hlt (by omega) hn (hpc.trans hp))
        have hR : GfM.run n (GfM.beside n (cz n z)) n = none := by
          have := run_stuck hr hp (n - (k + 1))
          rwa [show k + 1 + (n - (k + 1)) = n by omega] at this
        have HR := hid hR
        clear he hf hc hr hp hpc hR
        go_wp2_with fail
        refine HS.out.mono ?_
        rintro e w3 ⟨rfl, u3, f3⟩
        have H3 := hid (And.intro (HW.out.2.2.2.1.trans u3) f3)
        clear u3 f3
        go_wp2
        go_ret2
        exact ⟨H3.out.1, H3.out.2, .inl ⟨HR.out, rfl⟩⟩
      | some p' =>
        obtain ⟨p1, p2, p3'⟩ := GfM.pivot_some hp
        obtain ⟨t, rfl⟩ : ∃ t, p' = k + t := ⟨p' - k, by omega⟩
        have HS := hid (settle_some w1 p q F gl n (2 * n) k t n n z b L wr HW.out.1 HW.out.2.2.1.lt hf he hlt (by omega) hn (by omega) (hpc.trans hp))
        have HR := hid (run_next hr hp)
        have HC := hid fun i j hi hj => stl_congr (at_ := k) (p := k + t) hc hlt p2 (by omega) i j hi hj
        clear he hf hc hr hp hpc p1 p2 p3'
        go_wp2_with fail
        refine HS.out.mono ?_
        rintro e w3 ⟨rfl, b', L', e3, f3, c3⟩
        have H3 := hid (And.intro e3 (And.intro f3 c3))
        clear e3 f3 c3
        go_wp2
        go_roundw
        case rel => exact ⟨k + 1, by omega, by go_num, b', L', _, HR.out, H3.out.1, .inr H3.out.2.1, fun i j hi hj => (H3.out.2.2 i j hi hj).trans (HC.out i j hi hj)⟩
        case measure => simp [intOf]; omega
    · obtain rfl : n = k := by omega
      have HR := hid hr
      have HE := hid (And.intro he (And.intro hf hc))
      clear he hf hr hc
      have hm3 : Mat wr p3 q3 F n n (zer (n * n)) := HW.out.2.1.up HE.out.1.up HW.out.2.1.pF HW.out.2.1.qF
      have HM3 := hid hm3
      have hgq : gl ≠ q3 := by have := GL.out; have := HW.out.2.1.ql; omega
      have hgp3 : p3 ≠ q3 := HW.out.2.1.pq
      have hmw : Mat wr p q F n n z := HW.out.1.up HE.out.1.up HW.out.1.pF HW.out.1.qF
      have HMW := hid hmw
      obtain ⟨we, WE⟩ : ∃ x, x = wr := ⟨_, rfl⟩
      rw [← WE] at HE HM3 HMW
      clear hm3 hmw
      have HS : Hid (Up (One q3) we wr) := by show Up (One q3) we wr; rw [WE]; exact Up.refl _ _
      rw [WE] at HM3
      clear WE
      go_wp2
      go_loopw [53] (fun i wr => ∃ k : Nat, k ≤ n ∧ i = .int .i64 k ∧ ∃ y, Mat wr p3 q3 F n n y ∧ (∀ t, t < k * n → y.getD t 0 = GfM.half n M (t / n) (t % n)) ∧ Up (One q3) we wr) (fun i _ => n - (intOf i).toNat)
      case atStart => exact ⟨0, by omega, rfl, _, HM3.out, fun t ht => by rw [Nat.zero_mul] at ht; exact absurd ht (Nat.not_lt_zero _), HS.out⟩
      case round =>
        clear HS HM3
        obtain ⟨k, hk, rfl, y, hy, hyt, hyu⟩ := hrel
        by_cases hlt : k < n
        · have hel := HE.out.1
          have hcl := (hyu.cell (p := ⟨gl, k, none⟩) hel.gll hgq).trans (hel.lin k hlt)
          have hbk := (hel.rows k hlt).up hyu (fun e => by have := (hel.own k hlt).1; have := HW.out.2.1.ql; unfold One at e; omega)
          have hlen := hel.lens k hlt
          have hmwr := HMW.out.up hyu HW.out.2.2.2.2.1 HW.out.2.2.2.2.2
          have m2 := hmwr.cols
          have HMW2 := hid hmwr
          have hbq : b k ≠ q3 := by have := (hel.own k hlt).1; have := HW.out.2.1.ql; omega
          have HM1 : Hid (Mat wr.drew p3 q3 F n n y) := hy.drew
          have HYT := hid hyt
          have HYU := hid hyu
          have HBK : Hid (Blk wr.drew (b k) (L k)) := hbk.drew
          have HLN := hid hlen
          have hyl := hy.len
          have hkn : k * n + n ≤ y.length := by
            have := Nat.mul_le_mul_right n (show k + 1 ≤ n from hlt)
            rw [hyl]
            rw [Nat.add_mul] at this
            omega
          have HKN := hid hkn
          have hpq : p ≠ q3 := HW.out.2.2.2.2.1
          have HCC := hid HE.out.2.2
          have i1 : (0 : Int) ≤ (n : Int) := by omega
          obtain ⟨mm, MM⟩ : ∃ x, Hid (2 * n = x) := ⟨_, rfl⟩
          rw [MM.out] at hcl
          have i2 : (n : Int) ≤ (mm : Int) := by have := MM.out; omega
          have i3 : mm ≠ n := by have := MM.out; omega
          have i4 : n < mm := by have := MM.out; omega
          obtain ⟨bk, BK⟩ : ∃ x, Hid (b k = x) := ⟨_, rfl⟩
          rw [BK.out] at hcl HBK hbq
          clear hel hbk hlen hmwr hy hyt hyu hkn hyl
          go_wp2_with fail
          go_region_held3 (fun w' => w'.cell? ⟨p, 2, none⟩ = some (.int .i64 n)) (first | assumption | go_keep)
            ((first
              | (go_at_call 52; (with_reducible refine (row_any p3 q3 F n n k y _ HM1.out hlt).mono ?_); rintro e wb ⟨rfl, m1, E1⟩; have D1 : Hid (Mat wb p3 q3 F n n y ∧ Blk wb bk (L k) ∧ Up (One q3) wr wb) := (by show Mat wb p3 q3 F n n y ∧ _; rw [E1]; exact ⟨HM1.out.drewN m1, HBK.out.drewN m1, ((Up.refl _ wr).drew).drewN m1⟩); have d1 : wb.cell? ⟨p, 2, none⟩ = some (.int .i64 n) := (by rw [E1]; exact m2); clear E1)
              | ((with_reducible refine step_copy_bytes rfl (.tmp 60) (.tmp 66) rfl q3 (k * n) (mm - n) n _ bk n _ y (((L k).drop n).take (mm - n)) D1.out.1.blk (D1.out.2.1.row n (mm - n) (by rw [HLN.out, MM.out]; omega)) (by simp; have := HLN.out; have := MM.out; omega) (by have := MM.out; omega) (by have := HKN.out; have := MM.out; omega) rfl rfl ?_); intro wc H1 H2; have d2 := (H2.out.1.cell (p := ⟨p, 2, none⟩) (lt_of_cell d1) hpq).trans d1)))
          go_wp2
          have hsl : (((L k).drop n).take (mm - n)).length = n := by simp; have := HLN.out; have := MM.out; omega
          have hfin : Mat wc p3 q3 F n n (over y (k * n) (((L k).drop n).take (mm - n))) := D1.out.1.copied H1.out (over_length (by rw [hsl]; exact HKN.out)) H2.out.1
          have htold := row_told (f := GfM.half n M) (by omega) hsl HKN.out HYT.out fun j hj => by
            have h1 := HCC.out k (n + j) hlt (by omega)
            unfold celL at h1
            unfold GfM.half
            rw [← h1, rowz_at (by have := MM.out; omega)]
          have HFI := hid (And.intro hfin (And.intro htold ((HYU.out.trans D1.out.2.2).trans H2.out.1)))
          clear hfin htold hsl
          go_roundw
          case rel => exact ⟨k + 1, by omega, by go_num, _, HFI.out⟩
          case measure => simp [intOf]; omega
        · obtain rfl : n = k := by omega
          have HY := hid (And.intro hy (And.intro hyt hyu))
          clear hy hyt hyu
          go_wp2
          go_ret2
          have e1 : p3 = w.heap.size + 1 := by have := P3.out; have := SZ.out; omega
          have e2 : q3 = w.heap.size := by have := Q3.out; have := SZ.out; omega
          subst e1 e2
          obtain ⟨y1, y2, y3⟩ := HY.out
          obtain ⟨_, _, _, u1, _⟩ := HW.out
          have u2 := u1.trans HE.out.1.up
          refine ⟨⟨y3.os.trans u2.os, y3.tape.trans u2.tape, y3.output.trans u2.output, Nat.le_trans u2.size y3.size, fun j hj hs => (y3.block j (Nat.lt_of_lt_of_le hj u2.size) (by unfold One; omega)).trans (u2.block j hj hs)⟩,
            HE.out.2.1.up (S := One w.heap.size) y3 (fun e => y1.qF e.symm), .inr ⟨M, HR.out, rfl, ?_⟩⟩
          rw [← eq_tab y1.len y2]
          exact y1
end Go.Proofs.Ytebglmfdchfplaa
