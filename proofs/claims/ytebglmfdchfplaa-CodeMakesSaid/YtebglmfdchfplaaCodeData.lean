/- The statements' own 'Data'. -/
import Derived.Test.YtebglmfdchfplaaCodeEmptyWalk
namespace Go.Proofs.Ytebglmfdchfplaa
open Go.RowKit
set_option linter.unusedVariables false

/-- A slice of bytes that came in, as numbers. -/
structure SlN (w : World) (a : Option Addr) (n : Nat) (z : List Nat) : Prop where
  len : z.length = n
  row : n = 0 ∨ ∃ b o, a = some ⟨b, o, none⟩ ∧ b < w.heap.size ∧ Row w b o z
  le : n ≤ 9223372036854775807
theorem SlN.of {w : World} {a : Option Addr} {len cap : Nat} {zs : List Int} (h : CameIn w a len cap zs) : ∃ z, SlN w a len z := by
  rcases came_in h with rfl | ⟨b, o, z, rfl, rfl, r, hb, hm⟩
  · exact ⟨[], rfl, .inl rfl, by omega⟩
  · exact ⟨z, rfl, .inr ⟨b, o, rfl, hb, r⟩, hm⟩
theorem SlN.up {S : Nat → Prop} {w w' : World} {a : Option Addr} {n : Nat} {z : List Nat} (h : SlN w a n z) (u : Up S w w') (hs : ∀ k, k < w.heap.size → ¬ S k) : SlN w' a n z :=
  ⟨h.len, by
    rcases h.row with e | ⟨b, o, e, hb, r⟩
    · exact .inl e
    · exact .inr ⟨b, o, e, Nat.lt_of_lt_of_le hb u.size, r.up u hb (hs b hb)⟩, h.le⟩
theorem SlN.small {w : World} {a : Option Addr} {n : Nat} {z : List Nat} (h : SlN w a n z) (i : Nat) : z.getD i 0 < 256 := by
  rcases h.row with e | ⟨b, o, _, _, r⟩
  · have hl := h.len
    rw [e] at hl
    rw [List.eq_nil_of_length_eq_zero hl]
    simp
  · exact r.small i

/-- Row i of the data. -/
def dat (L : Nat) (z : List Nat) (i : Nat) : List Nat := tab L fun j => if i * L + j < z.length then z.getD (i * L + j) 0 else (31 * i + 17 * j) % 256
theorem dat_length (L : Nat) (z : List Nat) (i : Nat) : (dat L z i).length = L := tab_length _ _
theorem dat_small {L : Nat} {z : List Nat} (hz : ∀ i, z.getD i 0 < 256) (i j : Nat) : (dat L z i).getD j 0 < 256 := small_getD (tab_small fun j => by
  split
  · exact hz _
  · omega) j
/-- The data, i rows of it made. -/
structure Dat (w : World) (L i : Nat) (z : List Nat) (v : Value) (b : Nat → Nat) (wr : World) : Prop where
  own : OwnV 22 w.heap.size wr v (lnV i L b)
  rows : ∀ t, t < i → Blk wr (b t) (dat L z t)
  base : ∀ t, t < i → w.heap.size ≤ b t
  inj : ∀ s t, s < i → t < i → b s = b t → s = t
  up : Up Nul w wr
theorem own_ne {base : Nat} {w : World} {v : Value} {xs : List Value} {q : Nat} {z : List Nat} (h : OwnV 22 base w v xs) (hb : Blk w q z) : v.ownBlock ≠ some q := by
  intro e
  rcases h.2 with ⟨e2, _⟩ | ⟨g, cap, cur, e2, _, h3, _⟩
  · subst e2; cases e
  · subst e2
    have : g = q := by simpa [Value.ownBlock] using e
    subst this
    rw [hb.heap] at h3
    cases h3
theorem OwnV.apart {T : TypeId} {S : Nat → Prop} {base : Nat} {w w' : World} {v : Value} {xs : List Value} (h : OwnV T base w v xs) (u : Up S w w') (hs : ∀ g, v.ownBlock = some g → ¬ S g) : OwnV T base w' v xs := by
  refine ⟨h.1, ?_⟩
  rcases h.2 with hn | ⟨g, cap, cur, h1, h2, h3, h4⟩
  · exact .inl hn
  · exact .inr ⟨g, cap, cur, h1, h2, (u.block g (Array.getElem?_eq_some_iff.1 h3).1 (hs g (by rw [h1]; rfl))).trans h3, h4⟩
theorem Dat.step {S : Nat → Prop} {w wr w2 : World} {L i : Nat} {z : List Nat} {v : Value} {b : Nat → Nat} (h : Dat w L i z v b wr) (u : Up S wr w2) (h1 : ∀ g, v.ownBlock = some g → ¬ S g) (h2 : ∀ t, t < i → ¬ S (b t)) (h3 : ∀ k, k < w.heap.size → ¬ S k) : Dat w L i z v b w2 :=
  ⟨h.own.apart u h1, fun t ht => (h.rows t ht).up u (h2 t ht), h.base, h.inj, ⟨u.os.trans h.up.os, u.tape.trans h.up.tape, u.output.trans h.up.output, Nat.le_trans h.up.size u.size, fun k hk hs => (u.block k (Nat.lt_of_lt_of_le hk h.up.size) (h3 k hk)).trans (h.up.block k hk hs)⟩⟩
theorem Dat.elim {w wr : World} {F L k : Nat} {z : List Nat} {v : Value} {b : Nat → Nat} (h : Dat w L k z v b wr) (k1 : 1 ≤ k) : ∃ g cap, v = .slice (some ⟨g, 0, none⟩) k cap ∧ Elim w F g k L b (dat L z) wr ∧ k ≤ cap := by
  have hl := lnV_length k L b
  obtain ⟨g, cap, e, e1, e2, e3, e4, e5⟩ := OwnV.row h.own (by omega)
  rw [hl] at e e5
  exact ⟨g, cap, e, ⟨fun i hi => e3 i _ (lnV_at hi), e4, e2, e1, h.rows, fun i _ => dat_length _ _ _, fun i hi => ⟨h.base i hi, fun eq => own_ne h.own (h.rows i hi) (by rw [e, eq]; rfl)⟩, h.inj, h.up.nul⟩, e5⟩

set_option maxRecDepth 100000 in
set_option maxHeartbeats 1600000 in
theorem data_any (F k L n cap : Nat) (a : Option Addr) (z : List Nat) (w : World) (hz : SlN w a n z) (k1 : 1 ≤ k) (k14 : k ≤ 14) (L70 : L ≤ 70) :
    Calls Try.prog 12 #[.int .i64 k, .int .i64 L, .slice a n cap] w
      fun e w' => (∃ g capg b, e = .returned (.slice (some ⟨g, 0, none⟩) k capg) ∧ Elim w F g k L b (dat L z) w' ∧ k ≤ capg) ∧ Up Nul w w' := by
  have HZ := hid hz
  have hle := hz.le
  clear hz
  go_enter Try.func12, Try.ntmps12
  go_wp2_with fail
  go_loopw [7, 8] (fun v i wr => ∃ t : Nat, t ≤ k ∧ i = .int .i64 t ∧ ∃ b, Dat w L t z v b wr) (fun _ i _ => k - (intOf i).toNat)
  case atStart => exact ⟨0, by omega, rfl, fun _ => 0, OwnV.nil _ _ _, fun _ h => absurd h (Nat.not_lt_zero _), fun _ h => absurd h (Nat.not_lt_zero _), fun _ _ h => absurd h (Nat.not_lt_zero _), Up.refl _ _⟩
  case round =>
    obtain ⟨i, hi, rfl, b, hd⟩ := hrel
    have HD := hid hd
    clear hd
    by_cases hlt : i < k
    · have hmk := make_bytes wr L (by omega)
      have ha := HD.out.step ((Up.refl Nul wr).alloc (.cells (bys (zer L)) 5)) (fun _ _ => id) (fun _ _ => id) fun _ _ => id
      have HB := hid (And.intro ha (Blk.new wr _ (zer_small L)))
      have HNB : Hid (∀ t, t < i → b t ≠ wr.heap.size) := fun t ht => by have := (HD.out.rows t ht).lt; omega
      have HWQ : Hid (w.heap.size ≤ wr.heap.size) := HD.out.up.size
      have HNV : Hid (u7.ownBlock ≠ some wr.heap.size) := fun e => by have := World.ownsRow.lt HD.out.own _ e; omega
      clear ha HD
      go_wp2_with fail
      generalize wr.alloc (.cells (bys (zer L)) 5) = wa at *
      generalize wr.heap.size = q at *
      clear hmk
      go_loopw [10] (fun j wr => ∃ t : Nat, t ≤ L ∧ j = .int .i64 t ∧ Dat w L i z u7 b wr ∧ ∃ y, Blk wr q y ∧ y.length = L ∧ ∀ u, u < t → y.getD u 0 = (dat L z i).getD u 0) (fun j _ => L - (intOf j).toNat)
      case atStart => exact ⟨0, by omega, rfl, HB.out.1, _, HB.out.2, zer_length _, fun _ h => absurd h (Nat.not_lt_zero _)⟩
      case round =>
        clear HB
        obtain ⟨j, hj, rfl, hd, y, hb, hl, hy⟩ := hrel
        have HD := hid hd
        have HB := hid (And.intro hb (And.intro hl hy))
        clear hd hb hl hy
        by_cases hlt2 : j < L
        · have x0 := HB.out.1.cell j (by rw [HB.out.2.1]; exact hlt2)
          have f0 := HB.out.1.froz j
          generalize y.getD j 0 = y0 at x0
          obtain ⟨cc, HCC⟩ : ∃ x, Hid ((31 * i + 17 * j) % 256 = x) := ⟨_, rfl⟩
          have c8 : cc < 256 := by rw [← HCC.out]; omega
          have hv : (31 * (i : Int) + 17 * (j : Int)) % 256 = (cc : Int) := by rw [← HCC.out]; omega
          have e1 : (i : Int) * (L : Int) = ((i * L : Nat) : Int) := by simp
          have hil : i * L ≤ 14 * 70 := Nat.mul_le_mul (by omega) L70
          obtain ⟨iL, HIL⟩ : ∃ x, Hid (i * L = x) := ⟨_, rfl⟩
          rw [HIL.out] at e1 hil
          have i1 : (0 : Int) ≤ (j : Int) := by omega
          have i2 : (j : Int) < (L : Int) := by omega
          have hsu : Up (One q) wr (wr.setCell ⟨q, j, none⟩ (.int .u8 cc)) := (Up.refl _ _).setCell (p := ⟨q, j, none⟩) (.inr (show One q q from rfl)) _
          have HS1 := hid hsu
          have x1 : (wr.setCell ⟨q, j, none⟩ (.int .u8 cc)).cell? ⟨q, j, none⟩ = some (.int .u8 cc) := World.cell?_setCell_same _ _ _ x0
          clear hsu
          by_cases hlt3 : iL + j < n
          · obtain ⟨bb, oo, rfl, hbb, hrow⟩ : ∃ b o, a = some ⟨b, o, none⟩ ∧ b < w.heap.size ∧ Row w b o z := by
              rcases HZ.out.row with e | h
              · omega
              · exact h
            have hne : bb ≠ q := by have := HWQ.out; omega
            have xb := ((hrow.up HD.out.up hbb id).cells (iL + j) (by rw [HZ.out.len]; exact hlt3))
            have xs := hrow.small (iL + j)
            obtain ⟨x, X⟩ : ∃ x, Hid (z.getD (iL + j) 0 = x) := ⟨_, rfl⟩
            rw [X.out] at xb xs
            have xb2 : (wr.setCell ⟨q, j, none⟩ (.int .u8 cc)).cell? ⟨bb, oo + (iL + j), none⟩ = some (.int .u8 x) := (HS1.out.cell (p := ⟨bb, oo + (iL + j), none⟩) (lt_of_cell xb) hne).trans xb
            have HV : Hid ((dat L z i).getD j 0 = x) := by
              show _ = _
              unfold dat
              rw [tab_at _ _ _ hlt2, HIL.out, if_pos (by rw [HZ.out.len]; exact hlt3), X.out]
            have hu2 : Up (One q) wr ((wr.setCell ⟨q, j, none⟩ (.int .u8 cc)).setCell ⟨q, j, none⟩ (.int .u8 x)) := HS1.out.setCell (p := ⟨q, j, none⟩) (.inr (show One q q from rfl)) _
            have HU2 := hid hu2
            have i3 : (0 : Int) ≤ (iL : Int) + (j : Int) := by omega
            have i4 : (iL : Int) + (j : Int) < (n : Int) := by omega
            clear hu2 hrow hne xb
            go_wp2
            go_roundw
            case rel => exact ⟨j + 1, by omega, by go_num, HD.out.step HU2.out (fun g hg e => HNV.out (by unfold One at e; rw [hg, e])) (fun t ht e => HNB.out t ht e) (fun q2 hq2 e => by have := HWQ.out; unfold One at e; omega), _, (HB.out.1.set j cc c8).set j x xs, by rw [List.length_set, List.length_set]; exact HB.out.2.1, fun u hu => by
              rw [getD_set _ _ _ _ (by rw [List.length_set, HB.out.2.1]; exact hlt2)]
              split
              · next e => rw [e, HV.out]
              · rw [getD_set _ _ _ _ (by rw [HB.out.2.1]; exact hlt2), if_neg (by assumption)]
                exact HB.out.2.2 u (by omega)⟩
            case measure => simp [intOf]; omega
          · have HV : Hid ((dat L z i).getD j 0 = cc) := by
              show _ = _
              unfold dat
              rw [tab_at _ _ _ hlt2, HIL.out, if_neg (by rw [HZ.out.len]; exact hlt3), HCC.out]
            have i4 : ¬ (iL : Int) + (j : Int) < (n : Int) := by omega
            go_wp2
            go_roundw
            case rel => exact ⟨j + 1, by omega, by go_num, HD.out.step HS1.out (fun g hg e => HNV.out (by unfold One at e; rw [hg, e])) (fun t ht e => HNB.out t ht e) (fun q2 hq2 e => by have := HWQ.out; unfold One at e; omega), _, HB.out.1.set j cc c8, by rw [List.length_set]; exact HB.out.2.1, fun u hu => by
              rw [getD_set _ _ _ _ (by rw [HB.out.2.1]; exact hlt2)]
              split
              · next e => rw [e, HV.out]
              · exact HB.out.2.2 u (by omega)⟩
            case measure => simp [intOf]; omega
        · obtain rfl : L = j := by omega
          have hyd : y = dat L z i := ext_getD (by rw [HB.out.2.1, dat_length]) fun u hu => HB.out.2.2 u (by rw [HB.out.2.1] at hu; exact hu)
          have HBL : Hid (Blk wr q (dat L z i)) := by show Blk wr q _; rw [← hyd]; exact HB.out.1
          have HLL : Hid ((lnV i L b).length + 1 ≤ 1000000) := by show _ ≤ _; rw [lnV_length]; omega
          clear hyd HB
          go_wp2_with (first
            | (at_builtin; refine wpList_append_vals Try.underlying33 info_sl rfl (by omega) rfl (.tmp 49) (.tmp 51) rfl w.heap.size u7 (lnV i L b) rfl (OwnV.alloc HD.out.own _) ⟨wr.heap.size, 0, none⟩ 1 1 [.slice (some ⟨q, 0, none⟩) L L] rfl (fun j u hj => by
                match j, hj with
                | 0, hj => cases hj; exact World.cell?_alloc_new wr _ _ 0) (fun u hu => by cases hu with | head => rfl | tail _ h => cases h) rfl HLL.out (by have := HD.out.up.size; simp; omega) ?_; intro v2 w2 G1 G2)
            | go_in)
          go_roundw
          case rel => exact ⟨i + 1, by omega, by go_num, fun t => if t = i then q else b t, by
            have hu : Up (fun x => some x = u7.ownBlock) (wr.alloc (.cells #[.slice (some ⟨q, 0, none⟩) L L] 22)) w2 := Up.ofg G2.out
            have ha := (Up.refl Nul wr).alloc (.cells #[.slice (some ⟨q, 0, none⟩) L L] 22)
            have hln : lnV (i + 1) L (fun t => if t = i then q else b t) = lnV i L b ++ [.slice (some ⟨q, 0, none⟩) L L] := by
              unfold lnV
              rw [List.range_succ, List.map_append]
              congr 1
              · exact List.map_congr_left fun t ht => by
                  have := List.mem_range.1 ht
                  simp only [if_neg (show ¬ t = i by omega)]
              · simp
            refine ⟨by rw [hln]; exact G1.out, fun t ht => ?_, fun t ht => ?_, fun s t hs ht e => ?_, ?_⟩
            · by_cases e : t = i
              · subst e
                simp only [if_true]
                exact (HBL.out.up ha id).up hu fun e => HNV.out e.symm
              · simp only [if_neg e]
                exact ((HD.out.rows t (by omega)).up ha id).up hu fun e2 => own_ne HD.out.own (HD.out.rows t (by omega)) e2.symm
            · by_cases e : t = i
              · subst e
                simp only [if_true]
                exact HWQ.out
              · simp only [if_neg e]
                exact HD.out.base t (by omega)
            · by_cases e1 : s = i
              · by_cases e2 : t = i
                · omega
                · simp only [if_pos e1, if_neg e2] at e
                  exact absurd e.symm (HNB.out t (by omega))
              · by_cases e2 : t = i
                · simp only [if_neg e1, if_pos e2] at e
                  exact absurd e (HNB.out s (by omega))
                · simp only [if_neg e1, if_neg e2] at e
                  exact HD.out.inj s t (by omega) (by omega) e
            · exact (HD.out.up.alloc _).grown G2.out fun x hx => OwnV.base HD.out.own x hx⟩
          case measure => simp [intOf]; omega
    · obtain rfl : k = i := by omega
      obtain ⟨g, capg, rfl, hel, hcg⟩ := HD.out.elim (F := F) k1
      have HE := hid (And.intro hel hcg)
      clear hel hcg
      go_wp2
      go_ret
      exact ⟨⟨g, capg, b, rfl, HE.out⟩, HD.out.up⟩
end Go.Proofs.Ytebglmfdchfplaa
