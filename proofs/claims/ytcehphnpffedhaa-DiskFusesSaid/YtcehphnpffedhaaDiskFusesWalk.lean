/- The law DiskFuses, walked. -/
import Derived.Test.YtcehphnpffedhaaDiskLaw
namespace Go.Proofs.Ytcehphnpffedhaa
open Go.RowKit
set_option linter.unusedVariables false

theorem fu8_wrap (v : Int) : IntKind.u8.wrap v = v % 256 := IntKind.wrap_u8 v
/-- A slice of bools that came in. -/
structure SlB (w : World) (a : Option Addr) (n : Nat) (f : Nat → Bool) : Prop where
  row : n = 0 ∨ ∃ g o, a = some ⟨g, o, none⟩ ∧ g < w.heap.size ∧ ∀ i, i < n → w.cell? ⟨g, o + i, none⟩ = some (.bool (f i))
  le : n ≤ 9223372036854775807
/-- Two Disks and the Fuse that both have. -/
structure F2 (w0 w : World) (ba bb f : Nat) (k : Option Nat) (m : Nat) : Prop where
  ex : ∃ da db, Dsk w da ∧ Dsk w db ∧ (da.b = ba ∧ da.n = 4 ∧ da.fu = some f ∧ da.live = true ∧ da.ps.length ≤ m) ∧ (db.b = bb ∧ db.n = 4 ∧ db.fu = some f ∧ db.live = true ∧ db.ps.length ≤ m) ∧ (∀ g, da.foot g → db.foot g → False) ∧ (∀ g, da.foot g → w0.heap.size ≤ g) ∧ (∀ g, db.foot g → w0.heap.size ≤ g)
  fz : FzO w (some f) k
  fn : w0.heap.size ≤ f
  up : Up Nul w0 w
section
variable {w0 w : World} {ba bb f : Nat} {k : Option Nat} {m : Nat}
theorem F2.symm (h : F2 w0 w ba bb f k m) : F2 w0 w bb ba f k m := by
  obtain ⟨da, db, h1, h2, h3, h4, h5, h6, h7⟩ := h.ex
  exact ⟨⟨db, da, h2, h1, h4, h3, fun g x y => h5 g y x, h7, h6⟩, h.fz, h.fn, h.up⟩
theorem F2.nxt (h : F2 w0 w ba bb f k m) {w' : World} (u : Up Nul w w') : F2 w0 w' ba bb f k m := by
  obtain ⟨da, db, h1, h2, h3⟩ := h.ex
  exact ⟨⟨da, db, h1.nxt u, h2.nxt u, h3⟩, h.fz.up u fun _ _ => id, h.fn, h.up.trans u⟩
theorem F2.more (h : F2 w0 w ba bb f k m) {m' : Nat} (hm : m ≤ m') : F2 w0 w ba bb f k m' := by
  obtain ⟨da, db, h1, h2, ⟨a1, a2, a3, a4, a5⟩, ⟨b1, b2, b3, b4, b5⟩, h3⟩ := h.ex
  exact ⟨⟨da, db, h1, h2, ⟨a1, a2, a3, a4, Nat.le_trans a5 hm⟩, ⟨b1, b2, b3, b4, Nat.le_trans b5 hm⟩, h3⟩, h.fz, h.fn, h.up⟩
/-- A write to the first one. -/
theorem F2.write (h : F2 w0 w ba bb f k m) {s : Nat} (hs : s < 4) (hk : k ≠ some 0) (hm : m < 1000) {q c : Nat} {y : List Nat} (hy : Blk w q y) (hl : y.length = 96) :
    Calls Try.prog 10 #[.pointer (some ⟨ba, 0, none⟩), .int .i64 s, .slice (some ⟨q, 0, none⟩) 96 c] w fun e w' => e = .returned (.int .i64 0) ∧ F2 w0 w' ba bb f (less k) (m + 1) := by
  obtain ⟨da, db, h1, h2, ⟨rfl, a2, a3, a4, a5⟩, ⟨b1, b2, b3, b4, b5⟩, h5, h6, h7⟩ := h.ex
  have hz := h.fz
  rw [← a3] at hz
  have hz' := h.fz
  rw [← b3] at hz'
  have no : ∀ (A : Array Value) (T : TypeId), w.heap[q]? = some (Obj.cells A T (0, 0)) → ¬ DD T := fun A T e1 e2 => by
    have e3 := hy.heap
    rw [e1] at e3
    injection e3 with e3
    injection e3 with _ e3 _
    exact dd_byte (e3 ▸ e2)
  refine (write_good da s k (some ⟨q, 0, none⟩) c y w h1 (by omega) a4 hz hk (by omega) ⟨hl, .inr ⟨q, 0, rfl, hy.lt, hy.whole⟩, by omega⟩ fun x hx => ?_).mono ?_
  · injection hx with hx
    subst hx
    refine ⟨fun e => ?_, fun e => ?_⟩
    · obtain ⟨A, T, e1, e2, _⟩ := h1.ty e
      exact no A T e1 e2
    · rw [e] at hz
      exact no _ _ (Fz.heap hz) (.inr (.inr (.inr rfl)))
  · rintro e w' ⟨rfl, g1, d', g2⟩
    obtain ⟨pa, pc, e⟩ := g2.at_
    refine ⟨rfl, ⟨⟨d', db, g2.dsk, h2.up g2.up fun g hg hc => ?_, ⟨by rw [e], by rw [e]; exact a2, by rw [e]; exact a3, by rw [e]; exact a4, ?_⟩, ⟨b1, b2, b3, b4, by omega⟩, fun g x y => ?_, fun g hg => ?_, h7⟩, by rw [← a3]; exact g1, h.fn, At.foot h.up g2.up fun g hg => ?_⟩⟩
    · rcases hc with hc | hc
      · exact h5 g hc hg
      · exact foot_fuse h2 hz' g hg (by rw [b3, ← a3]; exact hc)
    · rw [e]
      show (da.ps ++ [(s, da.slot s)]).length ≤ m + 1
      rw [List.length_append]
      exact Nat.add_le_add_right a5 1
    · rcases g2.foot g x with x | x
      · exact h5 g x y
      · have := h2.foot_lt y
        omega
    · rcases g2.foot g hg with hg | hg
      · exact h6 g hg
      · exact Nat.le_trans h.up.size hg
    · rcases hg with hg | hg
      · exact h6 g hg
      · rw [a3] at hg
        injection hg with hg
        subst hg
        exact h.fn
theorem F2.dead (h : F2 w0 w ba bb f (some 0) m) {s : Nat} (hs : s < 4) (a : Option Addr) (c : Nat) :
    Calls Try.prog 10 #[.pointer (some ⟨ba, 0, none⟩), .int .i64 s, .slice a 96 c] w fun e w' => e = .returned (.int .i64 4) ∧ w' = w := by
  obtain ⟨da, db, h1, h2, ⟨rfl, a2, a3, a4, a5⟩, ⟨b1, b2, b3, b4, b5⟩, h5, h6, h7⟩ := h.ex
  have hz := h.fz
  rw [← a3] at hz
  exact write_dead da s a c w h1 (by omega) a4 hz
theorem F2.sync (h : F2 w0 w ba bb f k m) (hk : k ≠ some 0) :
    Calls Try.prog 12 #[.pointer (some ⟨ba, 0, none⟩)] w fun e w' => e = .returned (.int .i64 0) ∧ F2 w0 w' ba bb f k m := by
  obtain ⟨da, db, h1, h2, ⟨rfl, a2, a3, a4, a5⟩, ⟨b1, b2, b3, b4, b5⟩, h5, h6, h7⟩ := h.ex
  have hz := h.fz
  rw [← a3] at hz
  refine (sync_good da k w h1 a4 hz hk).mono ?_
  rintro e w' ⟨rfl, g1, g2⟩
  have hft : ∀ g, DK.foot { da with pa := none, pc := 0, ps := [] } g → da.foot g := fun g hg => by
    rcases hg with e | e | e
    · exact .inl e
    · exact .inr (.inl e)
    · cases e
  refine ⟨rfl, ⟨⟨_, db, g1, h2.up g2 fun g hg e => h5 g (.inl e) hg, ⟨rfl, a2, a3, a4, Nat.zero_le _⟩, ⟨b1, b2, b3, b4, b5⟩, fun g x y => h5 g (hft g x) y, fun g hg => h6 g (hft g hg), h7⟩, h.fz.up g2 fun g e1 e2 => ?_, h.fn, At.foot h.up g2 fun g e => h6 g (.inl e)⟩⟩
  exact foot_fuse h1 hz g (.inl e2) (by rw [a3]; exact e1)
theorem F2.sync_dead (h : F2 w0 w ba bb f (some 0) m) :
    Calls Try.prog 12 #[.pointer (some ⟨ba, 0, none⟩)] w fun e w' => e = .returned (.int .i64 4) ∧ w' = w := by
  obtain ⟨da, db, h1, h2, ⟨rfl, a2, a3, a4, a5⟩, ⟨b1, b2, b3, b4, b5⟩, h5, h6, h7⟩ := h.ex
  have hz := h.fz
  rw [← a3] at hz
  exact sync_dead da w h1 a4 hz
end
/-- What is left of k writes, 0 of any number, behind t. -/
def fsK (k t : Nat) : Option Nat := if k = 0 then none else some (k - t)
theorem fsK_less (k t : Nat) : less (fsK k t) = fsK k (t + 1) := by
  unfold fsK less
  split
  · rfl
  · show some (k - t - 1) = _
    congr 1
theorem ofk_nat (k : Nat) : ofk (k : Int) = fsK k 0 := by
  unfold ofk fsK
  by_cases h : k = 0
  · subst h; rfl
  · rw [if_pos (by omega), if_neg h]; congr 1
set_option maxRecDepth 100000 in
set_option maxHeartbeats 6400000 in
theorem fuses_any (x : Int) (a1 : Option Addr) (n1 c1 : Nat) (f1 : Nat → Bool) (w : World) (hz1 : SlB w a1 n1 f1) :
    Calls Try.prog 7 #[.int .i64 x, .slice a1 n1 c1] w fun e w' => e = .returned (.bool true) ∧ Below w.heap.size w w' := by
  have HZ1 := hid hz1
  have l1 : (n1 : Int) ≤ 9223372036854775807 := by have := hz1.le; omega
  clear hz1
  obtain ⟨kk, hkk, hk32⟩ := i64_mask5 x
  have HK : Hid (kk < 32) := hk32
  have hk33 : (kk : Int) < 32 := by omega
  have hk34 : (0 : Int) ≤ (kk : Int) := by omega
  clear hk32
  go_enter Try.func7, Try.ntmps7
  go_wp2_with fail
  refine (fuseH (Up.refl Nul w) (kk : Int) (by omega)).mono ?_
  rintro e w1 ⟨f, rfl, g1, g2, g3⟩
  have HF := hid (And.intro g1 g2)
  have U1 := hid g3
  clear g1 g2 g3
  go_wp2_with fail
  refine (new_any 4 (some f) w1).mono ?_
  rintro e w2 ⟨ba, qa, rfl, ha1, ha2, ha3, ha4⟩
  go_wp2_with fail
  refine (new_any 4 (some f) w2).mono ?_
  rintro e w3 ⟨bb, qb, rfl, hb1, hb2, hb3, hb4⟩
  have H3 : Hid (F2 w w3 ba bb f (fsK kk 0) 0) := by
    have e0 : cnt 4 = 4 := rfl
    have s1 : ∀ g, (DK.new ba qa (cnt 4) (some f)).foot g → g < w2.heap.size := fun g hg => ha1.foot_lt hg
    refine ⟨⟨_, _, ha1.nxt hb2, hb1, ⟨rfl, e0, rfl, rfl, Nat.le_refl _⟩, ⟨rfl, e0, rfl, rfl, Nat.le_refl _⟩, fun g x y => ?_, fun g x => ?_, fun g x => ?_⟩, ?_, HF.out.2 f rfl, (U1.out.trans ha2).trans hb2⟩
    · have := s1 g x
      rcases y with y | y | y
      · have y : g = bb := y
        omega
      · have y : g = qb := y
        omega
      · cases y
    · have := U1.out.size
      rcases x with y | y | y
      · have y : g = ba := y
        omega
      · have y : g = qa := y
        omega
      · cases y
    · have := U1.out.size
      have := ha2.size
      rcases x with y | y | y
      · have y : g = bb := y
        omega
      · have y : g = qb := y
        omega
      · cases y
    · rw [← ofk_nat]
      exact (HF.out.1.up ha2 fun _ _ => id).up hb2 fun _ _ => id
  clear ha1 ha2 ha3 ha4 hb1 hb2 hb3 hb4 HF U1
  go_wp2_with fail
  go_loopw [8, 9, 10, 11] (fun dn i _ _ wr => ∃ t : Nat, t ≤ 60 ∧ t ≤ n1 ∧ dn = .int .i64 (t : Nat) ∧ i = .int .i64 (t : Nat) ∧ F2 w wr ba bb f (fsK kk t) t) (fun _ i _ _ _ => 60 - (intOf i).toNat)
  case atStart => exact ⟨0, by omega, by omega, rfl, rfl, H3.out⟩
  case round =>
    obtain ⟨t, ht, htn, rfl, rfl, hh⟩ := hrel
    have HH := hid hh
    clear hh H3
    have i0 : (0 : Int) ≤ (t : Int) := by omega
    by_cases hlt : t < n1
    · have i1 : (t : Int) < (n1 : Int) := by omega
      by_cases h60 : t < 60
      · have i2 : (t : Int) < 60 := by omega
        obtain ⟨gb, o, ha, hbl, hcell⟩ : ∃ gb o, a1 = some ⟨gb, o, none⟩ ∧ gb < w.heap.size ∧ ∀ i, i < n1 → w.cell? ⟨gb, o + i, none⟩ = some (.bool (f1 i)) := by
          rcases HZ1.out.row with e | e
          · omega
          · exact e
        subst ha
        have x1 := (HH.out.up.cell (p := ⟨gb, o + t, none⟩) hbl id).trans (hcell t hlt)
        obtain ⟨s, hs, hs4⟩ := i64_mask2 (t : Int)
        have HS4 : Hid (s < 4) := hs4
        have i5 : (t : Int) % 256 = (t : Int) := by omega
        have i6 : IntKind.u8.wrap (t : Int) = (t : Int) := by rw [fu8_wrap]; exact i5
        have HFU : Hid (∀ W, Calls Try.prog 11 #[.int .u8 (t : Int)] W fun e w' => ∃ q, e = .returned (.slice (some ⟨q, 0, none⟩) 96 96) ∧ Blk w' q (ful t) ∧ Up Nul W w') := fun W => fullH t W (by omega)
        have HREL : Hid (t + 1 ≤ 60 ∧ t + 1 ≤ n1) := ⟨by omega, by omega⟩
        have HME : Hid (60 - (t + 1) < 60 - t) := by show _ < _; omega
        clear hcell hbl hs4
        generalize f1 t = bv at x1
        cases bv with
        | false =>
          have HX := hid HH.out
          rcases Nat.eq_zero_or_pos kk with hk0 | hk0
          · have e0 : fsK kk t = none := by unfold fsK; rw [if_pos hk0]
            have e1 : fsK kk (t + 1) = none := by unfold fsK; rw [if_pos hk0]
            have j1 : ¬ (0 : Int) < (kk : Int) := by omega
            rw [e0] at HX
            clear HH HZ1 ht htn hk0
            go_wp2_with fail
            refine (HFU.out _).mono ?_
            rintro e w4 ⟨q, rfl, k1, k2⟩
            have HB := hid (HX.out.nxt k2)
            clear k2
            go_wp2_with fail
            refine (HB.out.write HS4.out (by decide) (by omega) k1 (ful_length t)).mono ?_
            rintro e w5 ⟨rfl, h5⟩
            clear k1 HB
            go_wp2_with fail
            refine (h5.sync (by decide)).mono ?_
            rintro e w6 ⟨rfl, h6⟩
            have HN : Hid (F2 w w6 ba bb f (fsK kk (t + 1)) (t + 1)) := by rw [e1]; exact h6
            clear h5 h6 HX
            go_wp2
            clear i5 i6 hs
            go_roundw
            case rel => exact ⟨t + 1, HREL.out.1, HREL.out.2, by go_num, by go_num, HN.out⟩
            case measure => simp only [intOf]; omega
          · have j1 : (0 : Int) < (kk : Int) := by omega
            have e0 : fsK kk t = some (kk - t) := by unfold fsK; rw [if_neg (by omega)]
            have e1 : fsK kk (t + 1) = some (kk - (t + 1)) := by unfold fsK; rw [if_neg (by omega)]
            by_cases hkt : kk ≤ t
            · have j2 : (kk : Int) ≤ (t : Int) := by omega
              have j3 : min ((t : Int) + 1) (kk : Int) = (kk : Int) := by omega
              have e2 : kk - t = 0 := by omega
              have e3 : kk - (t + 1) = 0 := by omega
              rw [e0, e2] at HX
              rw [e3] at e1
              clear HH HZ1 ht htn
              go_wp2_with fail
              refine (HFU.out _).mono ?_
              rintro e w4 ⟨q, rfl, k1, k2⟩
              have HB := hid (HX.out.nxt k2)
              clear k2
              go_wp2_with fail
              refine (HB.out.dead HS4.out _ _).mono ?_
              rintro e w5 ⟨rfl, rfl⟩
              go_wp2_with fail
              refine (HB.out.sync_dead).mono ?_
              rintro e w6 ⟨rfl, rfl⟩
              have HN : Hid (F2 w w6 ba bb f (fsK kk (t + 1)) (t + 1)) := by rw [e1]; exact HB.out.more (by omega)
              clear k1 HB HX
              go_wp2
              clear i5 i6 hs
              go_roundw
              case rel => exact ⟨t + 1, HREL.out.1, HREL.out.2, by go_num, by go_num, HN.out⟩
              case measure => simp only [intOf]; omega
            · have j2 : ¬ (kk : Int) ≤ (t : Int) := by omega
              rw [e0] at HX
              have hne : (some (kk - t) : Option Nat) ≠ some 0 := fun e => by injection e with e; omega
              have HNE := hid hne
              have el : less (some (kk - t)) = some (kk - (t + 1)) := by show some (kk - t - 1) = _; congr 1
              by_cases hkt1 : kk = t + 1
              · have j3 : min ((t : Int) + 1) (kk : Int) = (kk : Int) := by omega
                have e3 : kk - (t + 1) = 0 := by omega
                rw [e3] at e1 el
                have HEL := hid el
                clear HH HZ1 ht htn hne el hkt1 hkt e3
                go_wp2_with fail
                refine (HFU.out _).mono ?_
                rintro e w4 ⟨q, rfl, k1, k2⟩
                have HB := hid (HX.out.nxt k2)
                clear k2
                go_wp2_with fail
                refine (HB.out.write HS4.out HNE.out (by omega) k1 (ful_length t)).mono ?_
                rintro e w5 ⟨rfl, h5⟩
                rw [HEL.out] at h5
                clear k1 HB
                go_wp2_with fail
                refine (h5.sync_dead).mono ?_
                rintro e w6 ⟨rfl, rfl⟩
                have HN : Hid (F2 w w6 ba bb f (fsK kk (t + 1)) (t + 1)) := by rw [e1]; exact h5
                clear h5 HX
                go_wp2
                clear i5 i6 hs
                go_roundw
                case rel => exact ⟨t + 1, HREL.out.1, HREL.out.2, by go_num, by go_num, HN.out⟩
                case measure => simp only [intOf]; omega
              · have j3 : min ((t : Int) + 1) (kk : Int) = (t : Int) + 1 := by omega
                have j4 : ¬ (kk : Int) ≤ (t : Int) + 1 := by omega
                have hne2 : (some (kk - (t + 1)) : Option Nat) ≠ some 0 := fun e => by injection e with e; omega
                have HNE2 := hid hne2
                have HEL := hid el
                clear HH HZ1 ht htn hne hne2 el
                go_wp2_with fail
                refine (HFU.out _).mono ?_
                rintro e w4 ⟨q, rfl, k1, k2⟩
                have HB := hid (HX.out.nxt k2)
                clear k2
                go_wp2_with fail
                refine (HB.out.write HS4.out HNE.out (by omega) k1 (ful_length t)).mono ?_
                rintro e w5 ⟨rfl, h5⟩
                rw [HEL.out] at h5
                clear k1 HB
                go_wp2_with fail
                refine (h5.sync HNE2.out).mono ?_
                rintro e w6 ⟨rfl, h6⟩
                have HN : Hid (F2 w w6 ba bb f (fsK kk (t + 1)) (t + 1)) := by rw [e1]; exact h6
                clear h5 h6 HX
                go_wp2
                clear i5 i6 hs
                go_roundw
                case rel => exact ⟨t + 1, HREL.out.1, HREL.out.2, by go_num, by go_num, HN.out⟩
                case measure => simp only [intOf]; omega
        | true =>
          have HX := hid HH.out.symm
          rcases Nat.eq_zero_or_pos kk with hk0 | hk0
          · have e0 : fsK kk t = none := by unfold fsK; rw [if_pos hk0]
            have e1 : fsK kk (t + 1) = none := by unfold fsK; rw [if_pos hk0]
            have j1 : ¬ (0 : Int) < (kk : Int) := by omega
            rw [e0] at HX
            clear HH HZ1 ht htn hk0
            go_wp2_with fail
            refine (HFU.out _).mono ?_
            rintro e w4 ⟨q, rfl, k1, k2⟩
            have HB := hid (HX.out.nxt k2)
            clear k2
            go_wp2_with fail
            refine (HB.out.write HS4.out (by decide) (by omega) k1 (ful_length t)).mono ?_
            rintro e w5 ⟨rfl, h5⟩
            clear k1 HB
            go_wp2_with fail
            refine (h5.sync (by decide)).mono ?_
            rintro e w6 ⟨rfl, h6⟩
            have HN : Hid (F2 w w6 ba bb f (fsK kk (t + 1)) (t + 1)) := by rw [e1]; exact h6.symm
            clear h5 h6 HX
            go_wp2
            clear i5 i6 hs
            go_roundw
            case rel => exact ⟨t + 1, HREL.out.1, HREL.out.2, by go_num, by go_num, HN.out⟩
            case measure => simp only [intOf]; omega
          · have j1 : (0 : Int) < (kk : Int) := by omega
            have e0 : fsK kk t = some (kk - t) := by unfold fsK; rw [if_neg (by omega)]
            have e1 : fsK kk (t + 1) = some (kk - (t + 1)) := by unfold fsK; rw [if_neg (by omega)]
            by_cases hkt : kk ≤ t
            · have j2 : (kk : Int) ≤ (t : Int) := by omega
              have j3 : min ((t : Int) + 1) (kk : Int) = (kk : Int) := by omega
              have e2 : kk - t = 0 := by omega
              have e3 : kk - (t + 1) = 0 := by omega
              rw [e0, e2] at HX
              rw [e3] at e1
              clear HH HZ1 ht htn
              go_wp2_with fail
              refine (HFU.out _).mono ?_
              rintro e w4 ⟨q, rfl, k1, k2⟩
              have HB := hid (HX.out.nxt k2)
              clear k2
              go_wp2_with fail
              refine (HB.out.dead HS4.out _ _).mono ?_
              rintro e w5 ⟨rfl, rfl⟩
              go_wp2_with fail
              refine (HB.out.sync_dead).mono ?_
              rintro e w6 ⟨rfl, rfl⟩
              have HN : Hid (F2 w w6 ba bb f (fsK kk (t + 1)) (t + 1)) := by rw [e1]; exact HB.out.symm.more (by omega)
              clear k1 HB HX
              go_wp2
              clear i5 i6 hs
              go_roundw
              case rel => exact ⟨t + 1, HREL.out.1, HREL.out.2, by go_num, by go_num, HN.out⟩
              case measure => simp only [intOf]; omega
            · have j2 : ¬ (kk : Int) ≤ (t : Int) := by omega
              rw [e0] at HX
              have hne : (some (kk - t) : Option Nat) ≠ some 0 := fun e => by injection e with e; omega
              have HNE := hid hne
              have el : less (some (kk - t)) = some (kk - (t + 1)) := by show some (kk - t - 1) = _; congr 1
              by_cases hkt1 : kk = t + 1
              · have j3 : min ((t : Int) + 1) (kk : Int) = (kk : Int) := by omega
                have e3 : kk - (t + 1) = 0 := by omega
                rw [e3] at e1 el
                have HEL := hid el
                clear HH HZ1 ht htn hne el hkt1 hkt e3
                go_wp2_with fail
                refine (HFU.out _).mono ?_
                rintro e w4 ⟨q, rfl, k1, k2⟩
                have HB := hid (HX.out.nxt k2)
                clear k2
                go_wp2_with fail
                refine (HB.out.write HS4.out HNE.out (by omega) k1 (ful_length t)).mono ?_
                rintro e w5 ⟨rfl, h5⟩
                rw [HEL.out] at h5
                clear k1 HB
                go_wp2_with fail
                refine (h5.sync_dead).mono ?_
                rintro e w6 ⟨rfl, rfl⟩
                have HN : Hid (F2 w w6 ba bb f (fsK kk (t + 1)) (t + 1)) := by rw [e1]; exact h5.symm
                clear h5 HX
                go_wp2
                clear i5 i6 hs
                go_roundw
                case rel => exact ⟨t + 1, HREL.out.1, HREL.out.2, by go_num, by go_num, HN.out⟩
                case measure => simp only [intOf]; omega
              · have j3 : min ((t : Int) + 1) (kk : Int) = (t : Int) + 1 := by omega
                have j4 : ¬ (kk : Int) ≤ (t : Int) + 1 := by omega
                have hne2 : (some (kk - (t + 1)) : Option Nat) ≠ some 0 := fun e => by injection e with e; omega
                have HNE2 := hid hne2
                have HEL := hid el
                clear HH HZ1 ht htn hne hne2 el
                go_wp2_with fail
                refine (HFU.out _).mono ?_
                rintro e w4 ⟨q, rfl, k1, k2⟩
                have HB := hid (HX.out.nxt k2)
                clear k2
                go_wp2_with fail
                refine (HB.out.write HS4.out HNE.out (by omega) k1 (ful_length t)).mono ?_
                rintro e w5 ⟨rfl, h5⟩
                rw [HEL.out] at h5
                clear k1 HB
                go_wp2_with fail
                refine (h5.sync HNE2.out).mono ?_
                rintro e w6 ⟨rfl, h6⟩
                have HN : Hid (F2 w w6 ba bb f (fsK kk (t + 1)) (t + 1)) := by rw [e1]; exact h6.symm
                clear h5 h6 HX
                go_wp2
                clear i5 i6 hs
                go_roundw
                case rel => exact ⟨t + 1, HREL.out.1, HREL.out.2, by go_num, by go_num, HN.out⟩
                case measure => simp only [intOf]; omega
      · have i2 : ¬ (t : Int) < 60 := by omega
        have hz := HH.out.fz
        have HU : Hid (Up Nul w wr ∧ w.heap.size ≤ f) := ⟨HH.out.up, HH.out.fn⟩
        have hz : Fz wr f (fsK kk t) := hz
        have HSE := hid (set_any f _ 1 wr hz (by omega))
        clear hz HH HZ1 ht htn
        go_wp2_with fail
        refine HSE.out.mono ?_
        rintro e w4 ⟨rfl, f4, u4, _⟩
        have HF4 : Hid (FzO w4 (some f) (some 1)) := f4
        have U4 : Hid (Up Nul w w4) := HU.out.1.newer u4 fun i hi e => by have := HU.out.2; unfold One at e; omega
        clear f4 u4 HSE
        go_wp2_with fail
        refine (spend_live (some f) (some 1) w4 HF4.out (by decide)).mono ?_
        rintro e w5 ⟨rfl, f5, u5, _⟩
        have HF5 : Hid (FzO w5 (some f) (some 0)) := f5
        have U5 : Hid (Up Nul w w5) := U4.out.newer u5 fun i hi e => by have := HU.out.2; unfold FF at e; injection e with e; omega
        clear f5 u5 U4 HF4
        go_wp2_with fail
        refine (spend_dead (some f) w5 HF5.out).mono ?_
        rintro e w6 ⟨rfl, rfl⟩
        go_wp2_with fail
        refine (dead_any (some f) _ _ HF5.out).mono ?_
        rintro e w7 ⟨rfl, rfl⟩
        go_wp2_with fail
        refine (awake_any _).mono ?_
        rintro e w8 ⟨rfl, kb⟩
        have U8 := hid (U5.out.trans kb)
        clear kb
        go_wp2
        go_ret
        exact ⟨rfl, U8.out.below (Nat.le_refl _) fun _ _ => id⟩
    · have i1 : ¬ (t : Int) < (n1 : Int) := by omega
      have hz := HH.out.fz
      have HU : Hid (Up Nul w wr ∧ w.heap.size ≤ f) := ⟨HH.out.up, HH.out.fn⟩
      have hz : Fz wr f (fsK kk t) := hz
      have HSE := hid (set_any f _ 1 wr hz (by omega))
      clear hz HH HZ1 ht htn
      go_wp2_with fail
      refine HSE.out.mono ?_
      rintro e w4 ⟨rfl, f4, u4, _⟩
      have HF4 : Hid (FzO w4 (some f) (some 1)) := f4
      have U4 : Hid (Up Nul w w4) := HU.out.1.newer u4 fun i hi e => by have := HU.out.2; unfold One at e; omega
      clear f4 u4 HSE
      go_wp2_with fail
      refine (spend_live (some f) (some 1) w4 HF4.out (by decide)).mono ?_
      rintro e w5 ⟨rfl, f5, u5, _⟩
      have HF5 : Hid (FzO w5 (some f) (some 0)) := f5
      have U5 : Hid (Up Nul w w5) := U4.out.newer u5 fun i hi e => by have := HU.out.2; unfold FF at e; injection e with e; omega
      clear f5 u5 U4 HF4
      go_wp2_with fail
      refine (spend_dead (some f) w5 HF5.out).mono ?_
      rintro e w6 ⟨rfl, rfl⟩
      go_wp2_with fail
      refine (dead_any (some f) _ _ HF5.out).mono ?_
      rintro e w7 ⟨rfl, rfl⟩
      go_wp2_with fail
      refine (awake_any _).mono ?_
      rintro e w8 ⟨rfl, kb⟩
      have U8 := hid (U5.out.trans kb)
      clear kb
      go_wp2
      go_ret
      exact ⟨rfl, U8.out.below (Nat.le_refl _) fun _ _ => id⟩
theorem fuses_walk (x : Int) (a : Option Addr) (n c : Nat) (f : Nat → Bool) (w : World) (h : SlB w a n f) :
    Calls Try.prog 7 #[.int .i64 x, .slice a n c] w fun e w' => e = .returned (.bool true) ∧ Below w.heap.size w w' := fuses_any x a n c f w h
end Go.Proofs.Ytcehphnpffedhaa
