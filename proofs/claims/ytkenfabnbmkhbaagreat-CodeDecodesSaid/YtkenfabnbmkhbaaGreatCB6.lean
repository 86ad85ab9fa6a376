/- Part 6 of what the walks rest on: CodeWorld, CodeAlike, CodeThere, CodeConcat, CodeEncode, CodeDecode. -/
import Derived.Test.YtkenfabnbmkhbaaGreatCB5
namespace Go.Proofs.YtkenfabnbmkhbaaGreat
open Go.RowKit
set_option linter.unusedVariables false

set_option maxRecDepth 100000 in
set_option maxHeartbeats 1600000 in
theorem across_any (p q F r k g o cap L : Nat) (z : List Nat) (R : Nat → List Nat) (FS : List Nat) (w0 w : World) (hs : LS w0 FS w) (hm : LM FS w p q F r k z) (hR : LL FS w g o k fun i => some (R i)) (hl : ∀ i, i < k → (R i).length = L) (hL : L ≤ 64) :
    Calls Tryz.prog 33 #[.pointer (some ⟨p, 0, none⟩), .slice (some ⟨g, o, none⟩) k cap] w
      fun e w' => ∃ gl b, e = .returned (.tuple #[.slice (some ⟨gl, 0, none⟩) r r, .int .i64 0]) ∧ Elim w F gl r L b (acrZ k L z R) w' ∧ Fld F w' := by
  have c1 := hm.mat.c1
  have r32 := hm.mat.r32
  have k32 := hm.mat.c32
  have HS0 := hid (And.intro hs (And.intro hm hR))
  have HL := hid hl
  have HFM := hid hm.F
  clear hs hm hR hl
  go_enter Tryz.func33, Tryz.ntmps33
  go_wp2_with fail
  refine (size_any p q F r k z _ HS0.out.2.1.mat).mono ?_
  rintro e wq ⟨rfl, nq, EQ⟩
  have hn := HS0.out.1.drewN nq
  rw [← EQ] at hn
  have HS : Hid (LS w0 FS wq ∧ LM FS wq p q F r k z ∧ LL FS wq g o k fun i => some (R i)) := ⟨HS0.out.1.nxt hn, HS0.out.2.1.nxt hn, HS0.out.2.2.nxt hn⟩
  have HEQ := hid EQ
  have hmk := make_slices wq r (by omega)
  have HB := hid (Bes.start wq r L (fun _ => 0) (fun _ => []))
  have HFW : Hid (F < wq.heap.size) := (HS.out.1.fld F HFM.out).lt
  have HT : Hid (∀ W, Up (One F) wq W → Fld F W → Nxt FS wq W) := fun W u f => HS.out.1.one HFM.out u f
  clear hn EQ HS0
  go_wp2_with fail
  obtain ⟨gl, GL⟩ : ∃ x, Hid (x = wq.heap.size) := ⟨_, rfl⟩
  rw [← GL.out] at HB ⊢
  go_loopw [27] (fun i wr => ∃ j : Nat, j ≤ r ∧ i = .int .i64 j ∧ ∃ b P, Bes wq gl r L j b P wr ∧ ∀ i, i < j → P i = zer L) (fun i _ => r - (intOf i).toNat)
  case atStart => exact ⟨0, by omega, rfl, _, _, HB.out, fun _ h => absurd h (Nat.not_lt_zero _)⟩
  case round =>
    clear HB hmk
    obtain ⟨j, hj, rfl, b, P, hb, hP⟩ := hrel
    have HBB := hid hb
    have HP := hid hP
    clear hb hP
    by_cases hlt : j < r
    · obtain ⟨b0, o0, cap0, x0, _⟩ := (HS.out.2.2.nxt (HS.out.1.nul HBB.out.up)).at (i := 0) c1 rfl
      rw [HL.out 0 c1, Nat.add_zero] at x0
      have hmk2 := make_bytes wr L (by omega)
      obtain ⟨v0, y0⟩ := (HBB.out.alloc (.cells (bys (zer L)) 5)).any j hlt
      have f0 := (HBB.out.alloc (.cells (bys (zer L)) 5)).frz j
      have HNX := hid (HBB.out.make hlt)
      have i1 : (0 : Int) ≤ (j : Int) := by omega
      have i2 : (j : Int) < (r : Int) := by omega
      go_wp2
      go_roundw
      case rel => exact ⟨j + 1, by omega, by go_num, _, _, HNX.out, fun i hi => by
        by_cases e : i = j
        · simp [e]
        · simp only [e, if_false]
          exact HP.out i (by omega)⟩
      case measure => simp [intOf]; omega
    · obtain rfl : j = r := by omega
      have hel := HBB.out.elim (F := F)
      have hmk3 := make_bytes wr k (by omega)
      have hac : Acs wq F gl j L wr.heap.size k b P (zer k) (wr.alloc (.cells (bys (zer k)) 5)) :=
        ⟨hel.alloc _, Blk.new wr _ (zer_small _), zer_length _, HBB.out.up.size, by have := HBB.out.gll; omega, fun i hi => by have := hel.lt hi; omega, ((HS.out.1.fld F HFM.out).up HBB.out.up id).alloc _⟩
      have HAC := hid hac
      obtain ⟨b0, o0, cap0, x0, _⟩ := (HS.out.2.2.nxt (HT.out _ hac.el.up hac.fld)).at (i := 0) c1 rfl
      rw [HL.out 0 c1, Nat.add_zero] at x0
      clear hel hac HBB HP
      go_wp2_with fail
      generalize wr.alloc (.cells (bys (zer k)) 5) = wa at *
      generalize wr.heap.size = col at *
      obtain ⟨V, HV⟩ : ∃ V : Nat → Nat → Nat, Hid (V = fun j t => GfM.xs k fun s => GfM.mul (z.getD (j * k + s) 0) ((R s).getD t 0)) := ⟨_, rfl⟩
      have HV8 : Hid (∀ j t, V j t < 256) := fun j t => by rw [HV.out]; exact GfM.xs_lt fun _ _ => GfM.mul_lt _ _
      clear x0 hmk3
      go_loopw [46] (fun i wr => ∃ t : Nat, t ≤ L ∧ i = .int .i64 t ∧ ∃ P y, Acs wq F gl j L col k b P y wr ∧ Tld j L t 0 V P) (fun i _ => L - (intOf i).toNat)
      case atStart => exact ⟨0, by omega, rfl, _, _, HAC.out, fun i hi u hu hc => by omega⟩
      case round =>
        clear HAC
        obtain ⟨t, ht, rfl, P, y, ha, hT⟩ := hrel
        have HA := hid ha
        have HTL := hid hT
        clear ha hT
        by_cases hlt2 : t < L
        · go_wp2_with fail
          go_loopw [51] (fun i wr => ∃ s : Nat, s ≤ k ∧ i = .int .i64 s ∧ ∃ y, Acs wq F gl j L col k b P y wr ∧ ∀ i, i < s → y.getD i 0 = (R i).getD t 0) (fun i _ => k - (intOf i).toNat)
          case atStart => exact ⟨0, by omega, rfl, _, HA.out, fun _ h => absurd h (Nat.not_lt_zero _)⟩
          case round =>
            clear HA
            obtain ⟨s, hs, rfl, y, ha, hy⟩ := hrel
            have HA := hid ha
            have HY := hid hy
            clear ha hy
            have HN := hid (HT.out _ HA.out.el.up HA.out.fld)
            by_cases hlt3 : s < k
            · obtain ⟨bs, os, caps, xs, hr⟩ := (HS.out.2.2.nxt HN.out).at hlt3 rfl
              rw [HL.out s hlt3] at xs
              have xc := hr.row.cells t (by rw [HL.out s hlt3]; exact hlt2)
              have x8 := hr.row.small t
              obtain ⟨x, X⟩ : ∃ x, Hid ((R s).getD t 0 = x) := ⟨_, rfl⟩
              rw [X.out] at xc x8
              have y0 := HA.out.cb.cell s (by rw [HA.out.cl]; exact hlt3)
              have f0 := HA.out.cb.froz s
              generalize y.getD s 0 = ys at y0
              have i1 : (0 : Int) ≤ (s : Int) := by omega
              have i2 : (s : Int) < (k : Int) := by omega
              have i3 : (0 : Int) ≤ (t : Int) := by omega
              have i4 : (t : Int) < (L : Int) := by omega
              clear hr
              go_wp2
              go_roundw
              case rel => exact ⟨s + 1, by omega, by go_num, _, HA.out.put HFW.out s x x8, fun i hi => by
                rw [getD_set _ _ _ _ (by rw [HA.out.cl]; exact hlt3)]
                split
                · next e => rw [e, X.out]
                · exact HY.out i (by omega)⟩
              case measure => simp [intOf]; omega
            · obtain rfl : s = k := by omega
              have hrow := HA.out.cb.row 0 s (by rw [HA.out.cl]; omega)
              rw [List.drop_zero, List.take_of_length_le (by rw [HA.out.cl]; exact Nat.le_refl _)] at hrow
              have HTM := hid (times_good p q F j s col 0 s z y wr (HS.out.2.1.nxt HN.out).mat HA.out.fld hrow HA.out.cl HA.out.cb.lt (by have := HA.out.cw; have := HFW.out; omega))
              clear hrow
              go_wp2_with fail
              refine HTM.out.mono ?_
              rintro e wt ⟨rfl, t1, t2, t3⟩
              have HT1 := hid (And.intro (HA.out.times HFW.out t2 t3) t1)
              have HSB : Hid (∀ i, i < j → wr.heap.size ≠ b i) := fun i hi => by have := HA.out.el.lt hi; omega
              have HVV : Hid (∀ i, i < j → sumAt s z y i = V i t) := fun i hi => by
                rw [HV.out]
                exact GfM.xs_congr fun u hu => by rw [HY.out u hu]
              generalize wr.heap.size = sb at *
              clear t1 t2 t3 HTM HA HN HY
              go_wp2_with fail
              go_loopw [75] (fun i wr => ∃ n : Nat, n ≤ j ∧ i = .int .i64 n ∧ ∃ P, Acs wq F gl j L col s b P y wr ∧ Blk wr sb (tab j fun i => sumAt s z y i) ∧ Tld j L t n V P) (fun i _ => j - (intOf i).toNat)
              case atStart => exact ⟨0, by omega, rfl, _, HT1.out.1, HT1.out.2, HTL.out⟩
              case round =>
                clear HT1 HTL
                obtain ⟨n, hn, rfl, P, ha, hsb, hT⟩ := hrel
                have HA := hid ha
                have HSU := hid hsb
                have HTL := hid hT
                clear ha hsb hT
                by_cases hlt4 : n < j
                · have x1 := HSU.out.cell n (by rw [tab_length]; exact hlt4)
                  rw [tab_at _ _ _ hlt4] at x1
                  have v8 : sumAt s z y n < 256 := sumAt_lt _ _ _ _
                  have HVN := hid (HVV.out n hlt4)
                  generalize sumAt s z y n = v at x1 v8 HVN
                  have x2 := HA.out.el.lin n hlt4
                  have x3 := (HA.out.el.rows n hlt4).cell t (by rw [HA.out.el.lens n hlt4]; exact hlt2)
                  have f3 := (HA.out.el.rows n hlt4).froz t
                  generalize (P n).getD t 0 = u at x3
                  have i1 : (0 : Int) ≤ (n : Int) := by omega
                  have i2 : (n : Int) < (j : Int) := by omega
                  have i3 : (0 : Int) ≤ (t : Int) := by omega
                  have i4 : (t : Int) < (L : Int) := by omega
                  have HNE := hid (HSB.out n hlt4)
                  go_wp2
                  go_roundw
                  case rel => exact ⟨n + 1, by omega, by go_num, _, HA.out.turn HFW.out hlt4 t v v8, HSU.out.other (p := ⟨b n, t, none⟩) HNE.out _, HTL.out.next HA.out.el.lens hlt4 hlt2 HVN.out.symm⟩
                  case measure => simp [intOf]; omega
                · obtain rfl : n = j := by omega
                  go_wp2
                  go_roundw
                  case rel => exact ⟨t + 1, by omega, by go_num, _, _, HA.out, HTL.out.line⟩
                  case measure => simp [intOf]; omega
        · obtain rfl : t = L := by omega
          go_wp2
          go_ret2
          have he := HA.out.el.congr (M := acrZ k t z R) fun i hi => eq_tab (HA.out.el.lens i hi) fun u hu => by
            have := HTL.out i hi u hu (.inl hu)
            rw [this, HV.out]
          have hq := HEQ.out
          subst hq
          exact ⟨gl, b, rfl, he.base, HA.out.fld⟩

/-- A length that may not be, or that is not the first one. -/
def UL (l : Nat → Nat) (i : Nat) : Prop := 64 < l i ∨ l i ≠ l 0
theorem unl_yes (A g o m cm n l0 c c0 : Nat) (a a0 : Option Addr) (w : World) (hA : w.cell? ⟨A, 0, none⟩ = some (.slice (some ⟨g, o, none⟩) m cm)) (hm : 0 < m) (h0 : w.cell? ⟨g, o, none⟩ = some (.slice a0 l0 c0)) (h : 64 < n ∨ n ≠ l0) :
    Calls Tryz.prog 59 #[.slice a n c, .pointer (some ⟨A, 0, none⟩)] w fun e w' => e = .returned (.bool true) ∧ w' = w := by
  have i1 : (0 : Int) < (m : Int) := by omega
  by_cases h1 : 64 < n
  · clear h
    have e1 : (64 : Int) < (n : Int) := by omega
    go_enter Tryz.func59, Tryz.ntmps59
    go_wp2
    go_ret
    exact ⟨rfl, rfl⟩
  · have h2 : n ≠ l0 := by omega
    have e1 : ¬ (64 : Int) < (n : Int) := by omega
    have e2 : ((n : Int) == (l0 : Int)) = false := by simp; omega
    have e3 : ((n : Int) != (l0 : Int)) = true := by simp; omega
    clear h
    go_enter Tryz.func59, Tryz.ntmps59
    go_wp2
    go_ret
    exact ⟨rfl, rfl⟩
theorem unl_no (A g o m cm n c c0 : Nat) (a a0 : Option Addr) (w : World) (hA : w.cell? ⟨A, 0, none⟩ = some (.slice (some ⟨g, o, none⟩) m cm)) (hm : 0 < m) (h0 : w.cell? ⟨g, o, none⟩ = some (.slice a0 n c0)) (h : n ≤ 64) :
    Calls Tryz.prog 59 #[.slice a n c, .pointer (some ⟨A, 0, none⟩)] w fun e w' => e = .returned (.bool false) ∧ w' = w := by
  have i1 : (0 : Int) < (m : Int) := by omega
  have e1 : ¬ (64 : Int) < (n : Int) := by omega
  go_enter Tryz.func59, Tryz.ntmps59
  go_wp2
  go_ret
  exact ⟨rfl, rfl⟩
set_option maxHeartbeats 400000 in
theorem indexU_any (A g o n cap cm : Nat) (l : Nat → Nat) (w : World) (hA : w.cell? ⟨A, 0, none⟩ = some (.slice (some ⟨g, o, none⟩) n cm)) (hl : RowL w g o n l) (hn : n ≤ 9223372036854775807) :
    Calls Tryz.prog 74 #[.slice (some ⟨g, o, none⟩) n cap, .func (.func 59) #[] #[.pointer (some ⟨A, 0, none⟩)]] w
      fun e w' => (∃ x : Int, e = .returned (.int .i64 x) ∧ ((0 ≤ x ∧ ∃ i, i < n ∧ UL l i) ∨ (x < 0 ∧ ∀ i, i < n → ¬ UL l i))) ∧ w' = w := by
  have HL := hid hl
  clear hl
  go_enter Tryz.func74, Tryz.ntmps74
  go_wp2
  go_loopw [8] (fun i wr => ∃ k : Nat, k ≤ n ∧ i = .int .i64 k ∧ wr = w ∧ ∀ i, i < k → ¬ UL l i) (fun i _ => n - (intOf i).toNat)
  case atStart => exact ⟨0, by omega, rfl, rfl, fun _ h => absurd h (Nat.not_lt_zero _)⟩
  case round =>
    obtain ⟨k, hk, rfl, rfl, hg⟩ := hrel
    have HG := hid hg
    clear hg
    by_cases hlt : k < n
    · obtain ⟨a, c, hc⟩ := HL.out k hlt
      obtain ⟨a0, c0, h0⟩ := HL.out 0 (by omega)
      rw [Nat.add_zero] at h0
      obtain ⟨x, X⟩ : ∃ x, Hid (l k = x) := ⟨_, rfl⟩
      obtain ⟨y, Y⟩ : ∃ x, Hid (l 0 = x) := ⟨_, rfl⟩
      rw [X.out] at hc
      rw [Y.out] at h0
      by_cases hb : 64 < x ∨ x ≠ y
      · have HB := hid (unl_yes A g o n cm x y c c0 a a0 _ hA (by omega) h0 hb)
        have HU : Hid (UL l k) := by show 64 < l k ∨ l k ≠ l 0; rw [X.out, Y.out]; exact hb
        clear hb h0
        go_wp2_with ((go_at_call 59; (with_reducible refine HB.out.mono ?_); rintro e w1 ⟨rfl, rfl⟩))
        go_ret
        exact ⟨⟨_, rfl, .inl ⟨by omega, k, hlt, HU.out⟩⟩, rfl⟩
      · have hxy : x = y := by omega
        have HB := hid (unl_no A g o n cm x c c0 a a0 _ hA (by omega) (by rw [hxy]; exact h0) (by omega))
        have HU : Hid (¬ UL l k) := by show ¬ (64 < l k ∨ l k ≠ l 0); rw [X.out, Y.out]; exact hb
        clear hb h0 hxy
        go_wp2_with ((go_at_call 59; (with_reducible refine HB.out.mono ?_); rintro e w1 ⟨rfl, rfl⟩))
        go_roundw
        case rel => exact ⟨k + 1, by omega, by go_num, trivial, fun i hi => by
          by_cases e : i = k
          · rw [e]; exact HU.out
          · exact HG.out i (by omega)⟩
        case measure => simp [intOf]; omega
    · obtain rfl : n = k := by omega
      go_wp2
      go_ret
      exact ⟨⟨_, rfl, .inr ⟨by omega, HG.out⟩⟩, rfl⟩
theorem containsU_any (A g o n cap cm : Nat) (l : Nat → Nat) (w : World) (hA : w.cell? ⟨A, 0, none⟩ = some (.slice (some ⟨g, o, none⟩) n cm)) (hl : RowL w g o n l) (hn : n ≤ 9223372036854775807) :
    Calls Tryz.prog 60 #[.slice (some ⟨g, o, none⟩) n cap, .func (.func 59) #[] #[.pointer (some ⟨A, 0, none⟩)]] w
      fun e w' => ((e = .returned (.bool true) ∧ ∃ i, i < n ∧ UL l i) ∨ (e = .returned (.bool false) ∧ ∀ i, i < n → ¬ UL l i)) ∧ w' = w := by
  have H := hid (indexU_any A g o n cap cm l w hA hl hn)
  clear hA hl hn
  go_enter Tryz.func60, Tryz.ntmps60
  go_wp2_with fail
  refine H.out.mono ?_
  rintro e w1 ⟨⟨x, rfl, ⟨h0, hb⟩ | ⟨h0, hb⟩⟩, rfl⟩
  · have HB := hid hb
    clear hb
    go_wp2
    go_ret
    exact ⟨.inl ⟨by simp, HB.out⟩, rfl⟩
  · have HB := hid hb
    have h1 : ¬ 0 ≤ x := by omega
    clear hb
    go_wp2
    go_ret
    exact ⟨.inr ⟨by simp [h1], HB.out⟩, rfl⟩
theorem alike_any (g o n cap : Nat) (l : Nat → Nat) (w : World) (hl : RowL w g o n l) (hg : g < w.heap.size) (hn : n ≤ 9223372036854775807) :
    Calls Tryz.prog 41 #[.slice (some ⟨g, o, none⟩) n cap] w
      fun e w' => ((e = .returned (.bool true) ∧ ∀ i, i < n → ¬ UL l i) ∨ (e = .returned (.bool false) ∧ ∃ i, i < n ∧ UL l i)) ∧ Up Nul w w' := by
  have hmf : ∀ (fn : Fn) (first cap : Array Value) (w : World), (Instr.makeFunc fn first cap).run Tryz.prog w = .ok (.func fn first cap) w := fun _ _ _ _ => rfl
  have hnot : ∀ (x : Bool) (w : World), (Op.unary .not (.bool x)).run Tryz.prog w = .ok (.bool (!x)) w := fun _ _ => rfl
  have hu : Up Nul w (w.alloc (.cells #[.slice (some ⟨g, o, none⟩) n cap] 34)) := (Up.refl _ _).alloc _
  have hA : (w.alloc (.cells #[.slice (some ⟨g, o, none⟩) n cap] 34)).cell? ⟨w.heap.size, 0, none⟩ = some (.slice (some ⟨g, o, none⟩) n cap) := World.cell?_alloc_new w _ _ 0
  have H := hid (containsU_any w.heap.size g o n cap cap l _ hA (hl.up hu hg id) hn)
  have HU := hid hu
  clear hl hg hn hu
  go_enter Tryz.func41, Tryz.ntmps41
  go_wp2_with fail
  refine H.out.mono ?_
  rintro e w1 ⟨⟨rfl, hb⟩ | ⟨rfl, hb⟩, rfl⟩
  · have HB := hid hb
    clear hb
    go_wp2
    go_ret
    exact ⟨.inr ⟨rfl, HB.out⟩, HU.out⟩
  · have HB := hid hb
    clear hb
    go_wp2
    go_ret
    exact ⟨.inl ⟨rfl, HB.out⟩, HU.out⟩
/-- The slice v, of the call's own, holds the values xs, a cell each. -/
def OwnV (T : TypeId) (base : Nat) (w : World) (v : Value) (xs : List Value) : Prop := w.ownsRow base T 1 v xs.length xs
theorem OwnV.nil (T : TypeId) (base : Nat) (w : World) : OwnV T base w (.slice none 0 0) [] := World.ownsRow_nil _ _ _ _
theorem OwnV.alloc {T : TypeId} {base : Nat} {w : World} {v : Value} {xs : List Value} (h : OwnV T base w v xs) (o : Obj) : OwnV T base (w.alloc o) v xs := World.ownsRow.alloc h o
theorem OwnV.drewN {T : TypeId} {base : Nat} {w : World} {v : Value} {xs : List Value} (h : OwnV T base w v xs) (n : Nat) : OwnV T base (w.drewN n) v xs := h
theorem OwnV.up {T : TypeId} {S : Nat → Prop} {base : Nat} {w w' : World} {v : Value} {xs : List Value} (h : OwnV T base w v xs) (u : Up S w w') (hs : ∀ k, base ≤ k → k < w.heap.size → ¬ S k) : OwnV T base w' v xs := by
  refine ⟨h.1, ?_⟩
  rcases h.2 with hn | ⟨g, cap, cur, h1, h2, h3, h4⟩
  · exact .inl hn
  · have hl := (Array.getElem?_eq_some_iff.1 h3).1
    exact .inr ⟨g, cap, cur, h1, h2, (u.block g hl (hs g h2 hl)).trans h3, h4⟩
theorem OwnV.base {T : TypeId} {base : Nat} {w : World} {v : Value} {xs : List Value} (h : OwnV T base w v xs) : ∀ k, v.ownBlock = some k → base ≤ k := fun k hk => (World.ownsRow.lt h k hk).1
theorem OwnV.row {T : TypeId} {base : Nat} {w : World} {v : Value} {xs : List Value} (h : OwnV T base w v xs) (h0 : 0 < xs.length) :
    ∃ g cap, v = .slice (some ⟨g, 0, none⟩) xs.length cap ∧ base ≤ g ∧ g < w.heap.size ∧ (∀ i x, xs[i]? = some x → w.cell? ⟨g, i, none⟩ = some x) ∧ (∀ i, w.frozen? ⟨g, i, none⟩ = false) ∧ xs.length ≤ cap := by
  rcases h.2 with ⟨_, hn⟩ | ⟨g, cap, cur, h1, h2, h3, h4, h5, h6, h7⟩
  · omega
  · refine ⟨g, cap, h1, h2, (Array.getElem?_eq_some_iff.1 h3).1, fun i x hi => ?_, fun i => by simp [World.frozen?, h3], h4⟩
    have hl : i < xs.length := by
      rcases Nat.lt_or_ge i xs.length with h | h
      · exact h
      · rw [List.getElem?_eq_none h] at hi; cases hi
    have hc : cur[i]? = some x := by
      have e : (cur.toList.take (xs.length * 1))[i]? = some x := by rw [h7]; exact hi
      rw [List.getElem?_take, if_pos (by omega)] at e
      simpa using e
    simp only [World.cell?, h3]
    exact hc
/-- append(v, y...). -/
theorem wpList_append_vals {t T : TypeId} {zr : Value} {by_ : Nat} (ht : Tryz.prog.underlying t = some (.slice T)) (hinf : (Tryz.prog.info? T).map (fun i => (i.zero, i.size, i.bytes)) = some (some zr, 1, by_)) (hz1 : zr.cells.size = 1) (hby : by_ ≤ 24)
    {w : World} {ops : Array Oper} {rest : List Oper} {o : Oper} {a : Act} {Q : Exit → Act → World → Prop} (hgd : o.guard = none) (s x : Operand)
    (ho : o.op = .call { callee := .builtin .append, args := #[s, x], argTypes := #[t, t] }) (base : Nat) (v : Value) (xs : List Value) (hs : a.eval s = v) (hown : OwnV T base w v xs)
    (ad : Addr) (n cap : Nat) (ys : List Value) (hx : a.eval x = .slice (some ad) n cap) (hc : ∀ j u, ys[j]? = some u → w.cell? (ad.add j) = some u) (h1 : ∀ u ∈ ys, u.oneCell' = true) (hy : ys.length = n) (hl : xs.length + n ≤ 1000000) (hbase : base ≤ w.heap.size)
    (h : ∀ v' w', Hid (OwnV T base w' v' (xs ++ ys)) → Hid (w.grownBy w' v.ownBlock) → wpList Tryz.prog ops Q rest (a.put o.dst v') w') : wpList Tryz.prog ops Q (o :: rest) a w := by
  obtain ⟨i0, hi, hz0, hz2, hz3⟩ := info_parts hinf
  refine wpList_append_own w hgd s x t ho base T i0 zr 1 by_ ht hi hz0 hz2 hz3 hz1 (by decide) v xs.length xs hs hown ad n cap ys hx (by rw [hy, Nat.mul_one]) hc h1 (by unfold maxLen; omega) ?_ hbase fun v' w' g1 g2 _ => h v' w' ?_ g2
  · have := Nat.mul_le_mul (show xs.length + n ≤ 1000000 from hl) hby
    omega
  · show w'.ownsRow base T 1 v' (xs ++ ys).length (xs ++ ys)
    rw [List.length_append, hy]
    exact g1
theorem info_int : (Tryz.prog.info? 3).map (fun i => (i.zero, i.size, i.bytes)) = some (some (.int .i64 0), 1, 8) := by kernel_rfl
/-- append(v, one int). -/
theorem wpList_append_int {w : World} {ops : Array Oper} {rest : List Oper} {o : Oper} {a : Act} {Q : Exit → Act → World → Prop} (hgd : o.guard = none) (s x : Operand)
    (ho : o.op = .call { callee := .builtin .append, args := #[s, x], argTypes := #[91, 91] }) (base : Nat) (v : Value) (xs : List Value) (hs : a.eval s = v) (hown : OwnV 3 base w v xs)
    (ad : Addr) (cap : Nat) (y : Int) (hx : a.eval x = .slice (some ad) 1 cap) (hc : w.cell? ad = some (.int .i64 y)) (hl : xs.length + 1 ≤ 1000000) (hbase : base ≤ w.heap.size)
    (h : ∀ v' w', Hid (OwnV 3 base w' v' (xs ++ [.int .i64 y])) → Hid (w.grownBy w' v.ownBlock) → wpList Tryz.prog ops Q rest (a.put o.dst v') w') : wpList Tryz.prog ops Q (o :: rest) a w :=
  wpList_append_vals Tryz.underlying91 info_int rfl (by omega) hgd s x ho base v xs hs hown ad 1 cap [.int .i64 y] hx (fun j u hj => by
    match j, hj with
    | 0, hj => simp at hj; subst hj; simpa [Addr.add] using hc) (fun u hu => by simp at hu; subst hu; rfl) rfl hl hbase h

/-- A Code of k data and r parities. -/
structure CD (FS : List Nat) (w : World) (c F k r pp pq sp sq : Nat) (Z : List Nat) : Prop where
  k0 : w.cell? ⟨c, 0, none⟩ = some (.int .i64 k)
  r0 : w.cell? ⟨c, 1, none⟩ = some (.int .i64 r)
  p0 : w.cell? ⟨c, 2, none⟩ = some (.pointer (some ⟨pp, 0, none⟩))
  s0 : w.cell? ⟨c, 3, none⟩ = some (.pointer (some ⟨sp, 0, none⟩))
  lt : c < w.heap.size
  b : c ∉ FS
  par : LM FS w pp pq F r k Z
  shd : LM FS w sp sq F (k + r) k (unitZ k ++ Z)
  k14 : k ≤ 14
  r4 : r ≤ 4
theorem CD.nxt {FS : List Nat} {w w' : World} {c F k r pp pq sp sq : Nat} {Z : List Nat} (h : CD FS w c F k r pp pq sp sq Z) (n : Nxt FS w w') : CD FS w' c F k r pp pq sp sq Z :=
  have e : ∀ j, w'.cell? ⟨c, j, none⟩ = w.cell? ⟨c, j, none⟩ := fun j => n.up.cell (p := ⟨c, j, none⟩) h.lt h.b
  ⟨(e 0).trans h.k0, (e 1).trans h.r0, (e 2).trans h.p0, (e 3).trans h.s0, Nat.lt_of_lt_of_le h.lt n.up.size, h.b, h.par.nxt n, h.shd.nxt n, h.k14, h.r4⟩
theorem CD.newF {FS : List Nat} {w w' : World} {c F k r pp pq sp sq G : Nat} {Z : List Nat} (h : CD FS w c F k r pp pq sp sq Z) (n : NewF w w' G) : CD (G :: FS) w' c F k r pp pq sp sq Z :=
  have e : ∀ j, w'.cell? ⟨c, j, none⟩ = w.cell? ⟨c, j, none⟩ := fun j => n.n.up.cell (p := ⟨c, j, none⟩) h.lt id
  ⟨(e 0).trans h.k0, (e 1).trans h.r0, (e 2).trans h.p0, (e 3).trans h.s0, Nat.lt_of_lt_of_le h.lt n.n.up.size, fun hm => by
    rcases List.mem_cons.1 hm with e | hm
    · have := h.lt
      have := n.eq
      omega
    · exact h.b hm, h.par.newF n, h.shd.newF n, h.k14, h.r4⟩
theorem Shd.slice {FS : List Nat} {w : World} {v : Value} {x : Option (List Nat)} (h : Shd FS w v x) : ∃ a n cap, v = .slice a n cap := by
  cases x with
  | none => exact ⟨_, _, _, h⟩
  | some z =>
    obtain ⟨b, o, cap, e, _⟩ := h
    exact ⟨_, _, _, e⟩
/-- Shards that are being chosen, the first k of them told. -/
structure Chs (FS : List Nat) (w : World) (h m k : Nat) (T : Nat → Option (List Nat)) (wr : World) : Prop where
  told : ∀ i, i < k → ∃ v, wr.cell? ⟨h, i, none⟩ = some v ∧ Shd FS w v (T i)
  any : ∀ i, i < m → ∃ v, wr.cell? ⟨h, i, none⟩ = some v
  frz : ∀ i, wr.frozen? ⟨h, i, none⟩ = false
  lt : h < wr.heap.size
  hw : w.heap.size ≤ h
  up : Up Nul w wr
theorem Chs.start (FS : List Nat) (w : World) (m : Nat) (T : Nat → Option (List Nat)) : Chs FS w w.heap.size m 0 T (w.alloc (.cells (nilS m) 22)) :=
  ⟨fun _ h => absurd h (Nat.not_lt_zero _), fun i hi => ⟨_, (World.cell?_alloc_new w _ _ i).trans (nilS_at m i hi)⟩, fun i => World.frozen?_alloc_new w _ _ i, by simp, Nat.le_refl _, (Up.refl _ _).alloc _⟩
theorem Chs.next {FS : List Nat} {w wr : World} {h m k : Nat} {T : Nat → Option (List Nat)} (c : Chs FS w h m k T wr) (hk : k < m) {v : Value} (hv : Shd FS w v (T k)) : Chs FS w h m (k + 1) T (wr.setCell ⟨h, k, none⟩ v) := by
  obtain ⟨v0, c0⟩ := c.any k hk
  have hc : ∀ i, i ≠ k → (wr.setCell ⟨h, k, none⟩ v).cell? ⟨h, i, none⟩ = wr.cell? ⟨h, i, none⟩ := fun i hi => World.cell?_setCell_other _ _ _ _ (by intro e; have := congrArg Addr.off e; simp at this; omega)
  refine ⟨fun i hi => ?_, fun i hi => ?_, fun i => by rw [World.frozen?_setCell]; exact c.frz i, by simpa using c.lt, c.hw, c.up.setCell (p := ⟨h, k, none⟩) (.inl c.hw) _⟩
  · by_cases e : i = k
    · subst e
      exact ⟨v, World.cell?_setCell_same _ _ _ c0, hv⟩
    · rw [hc i e]
      exact c.told i (by omega)
  · by_cases e : i = k
    · subst e
      exact ⟨v, World.cell?_setCell_same _ _ _ c0⟩
    · rw [hc i e]
      exact c.any i hi
/-- A row of places, perhaps without any. -/
def Plc (w : World) (a : Option Addr) (m : Nat) (f : Nat → Nat) : Prop := m = 0 ∨ ∃ gp op, a = some ⟨gp, op, none⟩ ∧ gp < w.heap.size ∧ RowI w gp op m fun i => (f i : Int)
theorem Plc.up {w w' : World} {a : Option Addr} {m : Nat} {f : Nat → Nat} (h : Plc w a m f) (u : Up Nul w w') : Plc w' a m f := by
  rcases h with h | ⟨gp, op, e, hl, hr⟩
  · exact .inl h
  · exact .inr ⟨gp, op, e, Nat.lt_of_lt_of_le hl u.size, hr.up u hl id⟩
set_option maxHeartbeats 800000 in
theorem chosen_any (FS : List Nat) (w0 w : World) (g o n cap m capm : Nat) (a : Option Addr) (S : Nat → Option (List Nat)) (f : Nat → Nat) (hs : LS w0 FS w) (hS : LL FS w g o n S) (hf : Plc w a m f) (hlt : ∀ i, i < m → f i < n) (hm : m ≤ 1000) :
    Calls Tryz.prog 52 #[.slice (some ⟨g, o, none⟩) n cap, .slice a m capm] w
      fun e w' => ∃ h, e = .returned (.slice (some ⟨h, 0, none⟩) m m) ∧ LL FS w' h 0 m (fun i => S (f i)) ∧ Up Nul w w' ∧ w.heap.size ≤ h := by
  have hmk := make_slices w m hm
  have HC := hid (Chs.start FS w m fun i => S (f i))
  have HS := hid (And.intro hs hS)
  have HF := hid hf
  have HLT := hid hlt
  clear hs hS hf hlt
  go_enter Tryz.func52, Tryz.ntmps52
  go_wp2_with fail
  obtain ⟨h, GL⟩ : ∃ x, Hid (x = w.heap.size) := ⟨_, rfl⟩
  rw [← GL.out] at HC ⊢
  go_loopw [13] (fun i wr => ∃ k : Nat, k ≤ m ∧ i = .int .i64 k ∧ Chs FS w h m k (fun i => S (f i)) wr) (fun i _ => m - (intOf i).toNat)
  case atStart => exact ⟨0, by omega, rfl, HC.out⟩
  case round =>
    clear HC hmk
    obtain ⟨k, hk, rfl, hc⟩ := hrel
    have HC := hid hc
    clear hc
    by_cases hlt : k < m
    · obtain ⟨gp, op, rfl, hgp, hrow⟩ : ∃ gp op, a = some ⟨gp, op, none⟩ ∧ gp < w.heap.size ∧ RowI w gp op m fun i => (f i : Int) := by
        rcases HF.out with e | e
        · omega
        · exact e
      have x1 := (hrow.up HC.out.up hgp id) k hlt
      have hfn := HLT.out k hlt
      have HSK : Hid (∃ v, w.cell? ⟨g, o + f k, none⟩ = some v ∧ Shd FS w v (S (f k))) := HS.out.2.cells (f k) hfn
      obtain ⟨fk, FK⟩ : ∃ x, Hid (f k = x) := ⟨_, rfl⟩
      obtain ⟨v, hv, hsv⟩ := HSK.out
      have x2 := (HC.out.up.cell (p := ⟨g, o + f k, none⟩) HS.out.2.lt id).trans hv
      have x1' : wr.cell? ⟨gp, op + k, none⟩ = some (.int .i64 (f k : Int)) := x1
      rw [FK.out] at x1' x2 hfn
      obtain ⟨va, vn, vc, rfl⟩ := hsv.slice
      have HV := hid hsv
      obtain ⟨v0, y0⟩ := HC.out.any k hlt
      have f0 := HC.out.frz k
      have i1 : (0 : Int) ≤ (k : Int) := by omega
      have i2 : (k : Int) < (m : Int) := by omega
      have i3 : (0 : Int) ≤ (fk : Int) := by omega
      have i4 : (fk : Int) < (n : Int) := by omega
      clear x1 hrow hsv hv HSK
      go_wp2
      go_roundw
      case rel => exact ⟨k + 1, by omega, by go_num, HC.out.next hlt HV.out⟩
      case measure => simp [intOf]; omega
    · obtain rfl : m = k := by omega
      go_wp2
      go_ret
      have hn := HS.out.1.nul HC.out.up
      exact ⟨h, rfl, ⟨fun i hi => by
        obtain ⟨v, h1, h2⟩ := HC.out.told i hi
        exact ⟨v, by rw [Nat.zero_add]; exact h1, h2.nxt hn⟩, HC.out.lt, HS.out.1.lt HC.out.hw⟩, HC.out.up, HC.out.hw⟩
/-- The places of the shards that are there. -/
def Tl (S : Nat → Option (List Nat)) (n : Nat) : List Nat := (List.range n).filter fun i => (S i).isSome
theorem Tl_some {S : Nat → Option (List Nat)} {k : Nat} {z : List Nat} (h : S k = some z) : Tl S (k + 1) = Tl S k ++ [k] := by simp [Tl, List.range_succ, h]
theorem Tl_none {S : Nat → Option (List Nat)} {k : Nat} (h : S k = none) : Tl S (k + 1) = Tl S k := by simp [Tl, List.range_succ, h]
theorem Tl_len (S : Nat → Option (List Nat)) (n : Nat) : (Tl S n).length ≤ n := by
  have := List.length_filter_le (fun i => (S i).isSome) (List.range n)
  simpa [Tl] using this
theorem Tl_mem {S : Nat → Option (List Nat)} {n i : Nat} (h : i < (Tl S n).length) : (Tl S n).getD i 0 < n ∧ ∃ z, S ((Tl S n).getD i 0) = some z := by
  have := GfM.getD_mem h
  unfold Tl at this ⊢
  rw [List.mem_filter] at this
  exact ⟨List.mem_range.1 this.1, Option.isSome_iff_exists.1 this.2⟩
theorem Tl_nodup (S : Nat → Option (List Nat)) (n : Nat) : (Tl S n).Nodup := List.nodup_range.filter _
/-- Places as values. -/
def ints (T : List Nat) : List Value := T.map fun (t : Nat) => Value.int .i64 (t : Int)
theorem ints_at {T : List Nat} {i : Nat} (h : i < T.length) : (ints T)[i]? = some (.int .i64 (T.getD i 0 : Nat)) := by
  simp [ints, List.getD_eq_getElem?_getD, List.getElem?_eq_getElem h]
theorem OwnV.plc {base : Nat} {w : World} {v : Value} {T : List Nat} (h : OwnV 3 base w v (ints T)) : ∃ a cap, v = .slice a T.length cap ∧ T.length ≤ cap ∧ (Plc w a T.length fun i => T.getD i 0) ∧ ∀ ad, a = some ad → base ≤ ad.block := by
  have hl : (ints T).length = T.length := by simp [ints]
  by_cases h0 : T.length = 0
  · rcases h.2 with ⟨e, e0⟩ | ⟨g, cap, cur, e, hb, _, hc, _⟩
    · exact ⟨none, 0, by rw [e, h0], by omega, .inl h0, fun ad h => by cases h⟩
    · exact ⟨some ⟨g, 0, none⟩, cap, by rw [e, hl], by omega, .inl h0, fun ad h => by cases h; exact hb⟩
  · obtain ⟨g, cap, e, hb, h2, h3, _, h5⟩ := h.row (by omega)
    exact ⟨_, cap, by rw [e, hl], by omega, .inr ⟨g, 0, rfl, h2, fun i hi => by rw [Nat.zero_add]; exact h3 i _ (ints_at hi)⟩, fun ad h => by cases h; exact hb⟩
/-- How long the shards are that are there. -/
def lenT (S : Nat → Option (List Nat)) (n i : Nat) : Nat := ((S ((Tl S n).getD i 0)).getD []).length
set_option maxHeartbeats 800000 in
theorem there_len (FS : List Nat) (w0 w : World) (c F k r pp pq sp sq : Nat) (Z : List Nat) (n cap : Nat) (a : Option Addr) (hs : LS w0 FS w) (hc : CD FS w c F k r pp pq sp sq Z) (hn : n ≠ k + r) :
    Calls Tryz.prog 31 #[.pointer (some ⟨c, 0, none⟩), .slice a n cap] w
      fun e w' => e = .returned (.tuple #[.slice none 0 0, .int .i64 1]) ∧ Up Nul w w' := by
  have x1 := hc.k0
  have x2 := hc.r0
  have b1 := hc.k14
  have b2 := hc.r4
  have e1 : ((n : Int) == (k : Int) + (r : Int)) = false := by simp; omega
  have e2 : ((n : Int) != (k : Int) + (r : Int)) = true := by simp; omega
  clear hc hs
  go_enter Tryz.func31, Tryz.ntmps31
  go_wp2_with fail
  go_quiet (fail)
  go_wp2
  go_ret2
  exact ⟨rfl, (Up.refl _ _).drewN _⟩
set_option maxRecDepth 100000 in
set_option maxHeartbeats 1600000 in
theorem there_any (FS : List Nat) (w0 w : World) (c F k r pp pq sp sq : Nat) (Z : List Nat) (g o n cap : Nat) (S : Nat → Option (List Nat)) (hs : LS w0 FS w) (hc : CD FS w c F k r pp pq sp sq Z) (hS : LL FS w g o n S) (hn : n = k + r) :
    Calls Tryz.prog 31 #[.pointer (some ⟨c, 0, none⟩), .slice (some ⟨g, o, none⟩) n cap] w
      fun e w' => (((∀ i, i < (Tl S n).length → ¬ UL (lenT S n) i) ∧ ∃ a capm, e = .returned (.tuple #[.slice a (Tl S n).length capm, .int .i64 0]) ∧ (Tl S n).length ≤ capm ∧ (Plc w' a (Tl S n).length fun i => (Tl S n).getD i 0) ∧ ∀ ad, a = some ad → w.heap.size ≤ ad.block) ∨
        ((∃ i, i < (Tl S n).length ∧ UL (lenT S n) i) ∧ e = .returned (.tuple #[.slice none 0 0, .int .i64 1]))) ∧ Up Nul w w' := by
  have hnot : ∀ (x : Bool) (w : World), (Op.unary .not (.bool x)).run Tryz.prog w = .ok (.bool (!x)) w := fun _ _ => rfl
  have x1 := hc.k0
  have x2 := hc.r0
  have b1 := hc.k14
  have b2 := hc.r4
  have e1 : ((n : Int) == (k : Int) + (r : Int)) = true := by simp; omega
  have e2 : ((n : Int) != (k : Int) + (r : Int)) = false := by simp; omega
  have hn18 : n ≤ 18 := by omega
  have HS := hid (And.intro hs hS)
  clear hc hs hS hn
  go_enter Tryz.func31, Tryz.ntmps31
  go_wp2_with fail
  go_quiet (fail)
  go_wp2_with fail
  go_loopw [6, 23] (fun pl i wr => ∃ j : Nat, j ≤ n ∧ i = .int .i64 j ∧ OwnV 3 w.heap.size wr pl (ints (Tl S j)) ∧ Up Nul w wr) (fun _ i _ => n - (intOf i).toNat)
  case atStart => exact ⟨0, by omega, rfl, OwnV.nil _ _ _, (Up.refl _ _).drewN _⟩
  case round =>
    obtain ⟨j, hj, rfl, hown, hu⟩ := hrel
    have HO := hid hown
    have HU := hid hu
    clear hown hu
    by_cases hlt : j < n
    · have i1 : (0 : Int) ≤ (j : Int) := by omega
      have i2 : (j : Int) < (n : Int) := by omega
      cases e : S j with
      | none =>
        have y1 := (HU.out.cell (p := ⟨g, o + j, none⟩) HS.out.2.lt id).trans (HS.out.2.not hlt e)
        have E := hid (Tl_none e)
        clear e
        go_wp2
        go_roundw
        case rel => exact ⟨j + 1, by omega, by go_num, by rw [E.out]; exact HO.out, HU.out⟩
        case measure => simp [intOf]; omega
      | some z =>
        obtain ⟨b, so, capb, hcell, _⟩ := HS.out.2.at hlt e
        have y1 := (HU.out.cell (p := ⟨g, o + j, none⟩) HS.out.2.lt id).trans hcell
        have E : Hid (ints (Tl S (j + 1)) = ints (Tl S j) ++ [.int .i64 j]) := by show _ = _; rw [Tl_some e]; simp [ints]
        have HLE : Hid ((ints (Tl S j)).length + 1 ≤ 1000000) := by
          have := Tl_len S j
          show _ ≤ _
          simp [ints]
          omega
        clear e hcell
        go_wp2_with (first
          | (at_builtin; refine wpList_append_int rfl (.tmp 30) (.tmp 32) rfl w.heap.size _ (ints (Tl S j)) rfl (HO.out.alloc _) ⟨wr.heap.size, 0, none⟩ 1 j rfl (World.cell?_alloc_new wr _ _ 0) HLE.out (by have := HU.out.size; simp; omega) ?_; intro v2 w2 H1 H2)
          | go_in)
        go_roundw
        case rel => exact ⟨j + 1, by omega, by go_num, by rw [E.out]; exact H1.out, (HU.out.alloc _).grown H2.out fun q hq => HO.out.base q hq⟩
        case measure => simp [intOf]; omega
    · obtain rfl : n = j := by omega
      obtain ⟨a, capm, rfl, hcm, hplc, hbase⟩ := HO.out.plc
      have HNX := hid (HS.out.1.nul HU.out)
      have hTl := Tl_len S n
      have HCH := hid (chosen_any FS w0 wr g o n cap (Tl S n).length capm a S (fun i => (Tl S n).getD i 0) (HS.out.1.nxt HNX.out) (HS.out.2.nxt HNX.out) hplc (fun i hi => (Tl_mem hi).1) (by omega))
      have HP := hid (And.intro hcm (And.intro hplc hbase))
      clear hcm hplc hbase
      go_wp2_with fail
      refine HCH.out.mono ?_
      rintro e w1 ⟨h, rfl, c1, c2, c3⟩
      have HAL := hid (alike_any h 0 (Tl S n).length (Tl S n).length (lenT S n) w1 c1.lens c1.lt (by omega))
      have HU1 := hid c2
      clear c1 c2 c3 HCH
      go_wp2_with fail
      refine HAL.out.mono ?_
      rintro e w2 ⟨⟨rfl, hb⟩ | ⟨rfl, hb⟩, u2⟩
      · have HB := hid (And.intro hb u2)
        clear hb u2 HAL
        go_wp2
        go_ret2
        exact ⟨.inl ⟨HB.out.1, a, capm, rfl, HP.out.1, HP.out.2.1.up (HU1.out.trans HB.out.2), HP.out.2.2⟩, (HU.out.trans HU1.out).trans HB.out.2⟩
      · have HB := hid (And.intro hb u2)
        clear hb u2 HAL
        go_wp2
        go_ret2
        exact ⟨.inr ⟨HB.out.1, rfl⟩, (HU.out.trans HU1.out).trans HB.out.2⟩

theorem add_block (a : Addr) (j : Nat) : (a.add j).block = a.block := by unfold Addr.add; split <;> rfl
set_option maxHeartbeats 800000 in
theorem grow_b (n : Nat) (w : World) (n1 : 1 ≤ n) (n2 : n ≤ 2000) :
    Calls Tryz.prog 42 #[.slice none 0 0, .int .i64 n] w fun e w' => ∃ h cap, e = .returned (.slice (some ⟨h, 0, none⟩) 0 cap) ∧ w'.ownsRow w.heap.size 5 1 (.slice (some ⟨h, 0, none⟩) 0 cap) 0 [] ∧ Up Nul w w' := by
  obtain ⟨i0, hi, hz0, hz2, hz3⟩ := info_parts info_u8
  have hr : ∀ ty, (Builtin.append_ #[22, 3] ty #[.slice none 0 0, .int .i64 n]).run Tryz.prog w = _ := fun ty =>
    Lib.run_append_nil_zeros (P := Tryz.prog) w 22 3 ty 5 i0 (.int .u8 0) .i64 .i64 Tryz.underlying22 Tryz.underlying3 hi hz0 n (by omega) (by rw [hz2]; omega) (by omega) (by rw [hz3]; omega)
  have hge := grownCap_ge w n 0 5
  have hmx := grownCap_le_maxLen w n 0 5 (by unfold maxLen; omega)
  obtain ⟨gc, GC⟩ : ∃ x, Hid (grownCap w n 0 5 = x) := ⟨_, rfl⟩
  rw [GC.out] at hge hmx
  have HO : Hid ((w.drew.alloc (.cells (Builtin.zeroCells ((.int .u8 0) : Value).cells n ++ Builtin.zeroCells ((.int .u8 0) : Value).cells (gc - n)) 5)).ownsRow w.heap.size 5 1 (.slice (some ⟨w.heap.size, 0, none⟩) 0 gc) 0 []) :=
    World.ownsRow_made w.drew _ gc (Nat.le_refl _) hmx (by
      rw [Array.size_append, size_zeroCells, size_zeroCells]
      show n * 1 + (gc - n) * 1 = gc * 1
      omega)
  have HU : Hid (Up Nul w (w.drew.alloc (.cells (Builtin.zeroCells ((.int .u8 0) : Value).cells n ++ Builtin.zeroCells ((.int .u8 0) : Value).cells (gc - n)) 5))) := ((Up.refl Nul w).drew).alloc _
  rw [GC.out] at hr
  have HR := hid hr
  generalize (w.drew.alloc (.cells (Builtin.zeroCells ((.int .u8 0) : Value).cells n ++ Builtin.zeroCells ((.int .u8 0) : Value).cells (gc - n)) 5)) = wa at *
  have c1 : ¬ ((n : Int) < 0) := by omega
  have c2 : (0 : Int) < (n : Int) := by omega
  have c3 : IntKind.i64.wrap (n : Int) = n := IntWalk.i64_in _ (by omega)
  have c4 : wrap64 (n : Int) = n := by rw [← IntWalk.i64_left]; exact c3
  clear hi hz0 hz2 hz3 hr hmx GC
  go_enter Tryz.func42, Tryz.ntmps42
  go_wp2_with (first
    | (at_builtin; refine Lib.wpList_append_run _ rfl (.tmp 20) (.tmp 21) _ _ rfl _ _ rfl rfl _ _ (HR.out _) ?_)
    | go_in)
  go_ret
  exact ⟨_, gc, rfl, HO.out, HU.out⟩
set_option maxHeartbeats 800000 in
theorem grow_s (n : Nat) (w : World) (n1 : 1 ≤ n) (n2 : n ≤ 2000) :
    Calls Tryz.prog 57 #[.slice none 0 0, .int .i64 n] w fun e w' => ∃ h cap, e = .returned (.slice (some ⟨h, 0, none⟩) 0 cap) ∧ w'.ownsRow w.heap.size 22 1 (.slice (some ⟨h, 0, none⟩) 0 cap) 0 [] ∧ Up Nul w w' := by
  obtain ⟨i0, hi, hz0, hz2, hz3⟩ := info_parts info_sl
  have hr : ∀ ty, (Builtin.append_ #[34, 3] ty #[.slice none 0 0, .int .i64 n]).run Tryz.prog w = _ := fun ty =>
    Lib.run_append_nil_zeros (P := Tryz.prog) w 34 3 ty 22 i0 (.slice none 0 0) .i64 .i64 Tryz.underlying34 Tryz.underlying3 hi hz0 n (by omega) (by rw [hz2]; omega) (by omega) (by rw [hz3]; omega)
  have hge := grownCap_ge w n 0 22
  have hmx := grownCap_le_maxLen w n 0 22 (by unfold maxLen; omega)
  obtain ⟨gc, GC⟩ : ∃ x, Hid (grownCap w n 0 22 = x) := ⟨_, rfl⟩
  rw [GC.out] at hge hmx
  have HO : Hid ((w.drew.alloc (.cells (Builtin.zeroCells ((.slice none 0 0) : Value).cells n ++ Builtin.zeroCells ((.slice none 0 0) : Value).cells (gc - n)) 22)).ownsRow w.heap.size 22 1 (.slice (some ⟨w.heap.size, 0, none⟩) 0 gc) 0 []) :=
    World.ownsRow_made w.drew _ gc (Nat.le_refl _) hmx (by
      rw [Array.size_append, size_zeroCells, size_zeroCells]
      show n * 1 + (gc - n) * 1 = gc * 1
      omega)
  have HU : Hid (Up Nul w (w.drew.alloc (.cells (Builtin.zeroCells ((.slice none 0 0) : Value).cells n ++ Builtin.zeroCells ((.slice none 0 0) : Value).cells (gc - n)) 22))) := ((Up.refl Nul w).drew).alloc _
  rw [GC.out] at hr
  have HR := hid hr
  generalize (w.drew.alloc (.cells (Builtin.zeroCells ((.slice none 0 0) : Value).cells n ++ Builtin.zeroCells ((.slice none 0 0) : Value).cells (gc - n)) 22)) = wa at *
  have c1 : ¬ ((n : Int) < 0) := by omega
  have c2 : (0 : Int) < (n : Int) := by omega
  have c3 : IntKind.i64.wrap (n : Int) = n := IntWalk.i64_in _ (by omega)
  have c4 : wrap64 (n : Int) = n := by rw [← IntWalk.i64_left]; exact c3
  clear hi hz0 hz2 hz3 hr hmx GC
  go_enter Tryz.func57, Tryz.ntmps57
  go_wp2_with (first
    | (at_builtin; refine Lib.wpList_append_run _ rfl (.tmp 20) (.tmp 21) _ _ rfl _ _ rfl rfl _ _ (HR.out _) ?_)
    | go_in)
  go_ret
  exact ⟨_, gc, rfl, HO.out, HU.out⟩
set_option maxHeartbeats 800000 in
/-- Two rows, one behind the other. -/
theorem cat_b (gs b1 b2 o1 o2 n1 n2 c1 c2 : Nat) (z1 z2 : List Nat) (w : World) (h0 : w.cell? ⟨gs, 0, none⟩ = some (.slice (some ⟨b1, o1, none⟩) n1 c1)) (h1 : w.cell? ⟨gs, 1, none⟩ = some (.slice (some ⟨b2, o2, none⟩) n2 c2))
    (r1 : Row w b1 o1 z1) (r2 : Row w b2 o2 z2) (l1 : z1.length = n1) (l2 : z2.length = n2) (k1 : b1 < w.heap.size) (k2 : b2 < w.heap.size) (n11 : 1 ≤ n1) (n12 : n1 ≤ 1024) (n22 : n2 ≤ 512) :
    Calls Tryz.prog 21 #[.slice (some ⟨gs, 0, none⟩) 2 2] w fun e w' => ∃ v, e = .returned v ∧ OwnB w.heap.size w' v (z1 ++ z2) ∧ Up Nul w w' := by
  have G0 := hid (lt_of_cell h0)
  have HX := hid (And.intro (And.intro (And.intro r1 r2) (And.intro l1 l2)) (And.intro k1 k2))
  have HG := hid (grow_b (n1 + n2) w (by omega) (by omega))
  have e1 : (n1 : Int) + (n2 : Int) = ((n1 + n2 : Nat) : Int) := by simp
  obtain ⟨nn, NN⟩ : ∃ x, Hid (n1 + n2 = x) := ⟨_, rfl⟩
  have hnn : nn ≤ 1536 := by rw [← NN.out]; omega
  rw [NN.out] at e1 HG
  have i1 : ¬ ((n1 : Int) < 0) := by omega
  have i2 : ¬ ((nn : Int) < 0) := by omega
  have HC := hid (And.intro h0 h1)
  clear r1 r2 l1 l2 k1 k2
  go_enter Tryz.func21, Tryz.ntmps21
  go_wp2_with fail
  refine wp_loop_rounds 3 ?_
  rw [rounds_succ]
  go_wp2_with fail
  rw [rounds_succ]
  go_wp2_with fail
  rw [rounds_succ]
  go_wp2_with fail
  refine HG.out.mono ?_
  rintro e wg ⟨h, cap, rfl, hown, hu⟩
  have x0 := (hu.cell (p := ⟨gs, 0, none⟩) G0.out id).trans HC.out.1
  have x1 := (hu.cell (p := ⟨gs, 1, none⟩) G0.out id).trans HC.out.2
  have HO := hid (And.intro hown hu)
  clear hown hu HG h0 h1
  go_wp2_with fail
  refine wp_loop_rounds 3 ?_
  rw [rounds_succ]
  go_wp2_with (first
    | (at_builtin; refine wpList_append_bytes rfl (.tmp 31) (.tmp 32) rfl w.heap.size (.slice (some ⟨h, 0, none⟩) 0 cap) [] rfl ⟨HO.out.1, fun _ hx => by cases hx⟩ b1 o1 n1 c1 z1 rfl (HX.out.1.1.1.up HO.out.2 HX.out.2.1 id) HX.out.1.2.1 (by simp; omega) HO.out.2.size ?_; intro v1 w1 H1 H2)
    | go_in)
  have u1 := hid (HO.out.2.grown H2.out fun q hq => (World.ownsRow.lt HO.out.1 q hq).1)
  have y1 := (u1.out.cell (p := ⟨gs, 1, none⟩) G0.out id).trans HC.out.2
  rw [rounds_succ]
  go_wp2_with (first
    | (at_builtin; refine wpList_append_bytes rfl (.tmp 31) (.tmp 32) rfl w.heap.size v1 ([] ++ z1) rfl H1.out b2 o2 n2 c2 z2 rfl (HX.out.1.1.2.up u1.out HX.out.2.2 id) HX.out.1.2.2 (by simp [HX.out.1.2.1]; omega) u1.out.size ?_; intro v2 w2 H3 H4)
    | go_in)
  have u2 := hid (u1.out.grown H4.out fun q hq => H1.out.base q hq)
  rw [rounds_succ]
  go_wp2
  go_ret
  exact ⟨_, rfl, H3.out, u2.out⟩
set_option maxHeartbeats 800000 in
/-- Two rows, one behind the other. -/
theorem cat_s (gs b1 b2 o1 o2 n1 n2 c1 c2 : Nat) (z1 z2 : List Value) (w : World) (h0 : w.cell? ⟨gs, 0, none⟩ = some (.slice (some ⟨b1, o1, none⟩) n1 c1)) (h1 : w.cell? ⟨gs, 1, none⟩ = some (.slice (some ⟨b2, o2, none⟩) n2 c2))
    (r1 : ∀ j u, z1[j]? = some u → w.cell? ((⟨b1, o1, none⟩ : Addr).add j) = some u) (r2 : ∀ j u, z2[j]? = some u → w.cell? ((⟨b2, o2, none⟩ : Addr).add j) = some u) (v1 : ∀ u ∈ z1, u.oneCell' = true) (v2 : ∀ u ∈ z2, u.oneCell' = true) (l1 : z1.length = n1) (l2 : z2.length = n2) (k1 : b1 < w.heap.size) (k2 : b2 < w.heap.size) (n11 : 1 ≤ n1) (n12 : n1 ≤ 1024) (n22 : n2 ≤ 512) :
    Calls Tryz.prog 34 #[.slice (some ⟨gs, 0, none⟩) 2 2] w fun e w' => ∃ v, e = .returned v ∧ OwnV 22 w.heap.size w' v (z1 ++ z2) ∧ Up Nul w w' := by
  have G0 := hid (lt_of_cell h0)
  have HX := hid (And.intro (And.intro (And.intro r1 r2) (And.intro (And.intro l1 l2) (And.intro v1 v2))) (And.intro k1 k2))
  have HG := hid (grow_s (n1 + n2) w (by omega) (by omega))
  have e1 : (n1 : Int) + (n2 : Int) = ((n1 + n2 : Nat) : Int) := by simp
  obtain ⟨nn, NN⟩ : ∃ x, Hid (n1 + n2 = x) := ⟨_, rfl⟩
  have hnn : nn ≤ 1536 := by rw [← NN.out]; omega
  rw [NN.out] at e1 HG
  have i1 : ¬ ((n1 : Int) < 0) := by omega
  have i2 : ¬ ((nn : Int) < 0) := by omega
  have HC := hid (And.intro h0 h1)
  clear r1 r2 l1 l2 v1 v2 k1 k2
  go_enter Tryz.func34, Tryz.ntmps34
  go_wp2_with fail
  refine wp_loop_rounds 3 ?_
  rw [rounds_succ]
  go_wp2_with fail
  rw [rounds_succ]
  go_wp2_with fail
  rw [rounds_succ]
  go_wp2_with fail
  refine HG.out.mono ?_
  rintro e wg ⟨h, cap, rfl, hown, hu⟩
  have x0 := (hu.cell (p := ⟨gs, 0, none⟩) G0.out id).trans HC.out.1
  have x1 := (hu.cell (p := ⟨gs, 1, none⟩) G0.out id).trans HC.out.2
  have HO := hid (And.intro hown hu)
  clear hown hu HG h0 h1
  go_wp2_with fail
  refine wp_loop_rounds 3 ?_
  rw [rounds_succ]
  go_wp2_with (first
    | (at_builtin; refine wpList_append_vals Tryz.underlying34 info_sl rfl (by omega) rfl (.tmp 31) (.tmp 32) rfl w.heap.size (.slice (some ⟨h, 0, none⟩) 0 cap) [] rfl HO.out.1 ⟨b1, o1, none⟩ n1 c1 z1 rfl (fun j u hj => (HO.out.2.cell (by rw [add_block]; exact HX.out.2.1) id).trans (HX.out.1.1.1 j u hj)) HX.out.1.2.2.1 HX.out.1.2.1.1 (by simp; omega) HO.out.2.size ?_; intro v1 w1 H1 H2)
    | go_in)
  have u1 := hid (HO.out.2.grown H2.out fun q hq => (World.ownsRow.lt HO.out.1 q hq).1)
  have y1 := (u1.out.cell (p := ⟨gs, 1, none⟩) G0.out id).trans HC.out.2
  rw [rounds_succ]
  go_wp2_with (first
    | (at_builtin; refine wpList_append_vals Tryz.underlying34 info_sl rfl (by omega) rfl (.tmp 31) (.tmp 32) rfl w.heap.size v1 ([] ++ z1) rfl H1.out ⟨b2, o2, none⟩ n2 c2 z2 rfl (fun j u hj => (u1.out.cell (by rw [add_block]; exact HX.out.2.2) id).trans (HX.out.1.1.2 j u hj)) HX.out.1.2.2.2 HX.out.1.2.1.2 (by simp [HX.out.1.2.1.1]; omega) u1.out.size ?_; intro v2 w2 H3 H4)
    | go_in)
  have u2 := hid (u1.out.grown H4.out fun q hq => H1.out.base q hq)
  rw [rounds_succ]
  go_wp2
  go_ret
  exact ⟨_, rfl, H3.out, u2.out⟩

/-- All that is there is alike. -/
theorem not_ul {l : Nat → Nat} {L i : Nat} (hL : L ≤ 64) (h : l i = L) (h0 : l 0 = L) : ¬ UL l i := by
  unfold UL
  omega
theorem Elim.back {W V w : World} {F gl n m : Nat} {b : Nat → Nat} {L : Nat → List Nat} (h : Elim V F gl n m b L w) (u : Up (One F) W V) : Elim W F gl n m b L w :=
  { h with glo := Nat.le_trans u.size h.glo, own := fun i hi => ⟨Nat.le_trans u.size (h.own i hi).1, (h.own i hi).2⟩, up := u.trans h.up }
set_option maxHeartbeats 800000 in
theorem enc_len (FS : List Nat) (w0 w : World) (c F k r pp pq sp sq : Nat) (Z : List Nat) (n cap : Nat) (a : Option Addr) (hs : LS w0 FS w) (hc : CD FS w c F k r pp pq sp sq Z) (hn : n ≠ k) :
    Calls Tryz.prog 19 #[.pointer (some ⟨c, 0, none⟩), .slice a n cap] w
      fun e w' => e = .returned (.tuple #[.slice none 0 0, .int .i64 1]) ∧ Up Nul w w' := by
  have x1 := hc.k0
  have e1 : ((n : Int) == (k : Int)) = false := by simp; omega
  have e2 : ((n : Int) != (k : Int)) = true := by simp; omega
  clear hc hs hn
  go_enter Tryz.func19, Tryz.ntmps19
  go_wp2
  go_ret2
  exact ⟨rfl, Up.refl _ _⟩
set_option maxHeartbeats 800000 in
theorem enc_bad (FS : List Nat) (w0 w : World) (c F k r pp pq sp sq : Nat) (Z : List Nat) (g o cap : Nat) (l : Nat → Nat) (hs : LS w0 FS w) (hc : CD FS w c F k r pp pq sp sq Z) (hl : RowL w g o k l) (hg : g < w.heap.size) (hb : ∃ i, i < k ∧ UL l i) :
    Calls Tryz.prog 19 #[.pointer (some ⟨c, 0, none⟩), .slice (some ⟨g, o, none⟩) k cap] w
      fun e w' => e = .returned (.tuple #[.slice none 0 0, .int .i64 1]) ∧ Up Nul w w' := by
  have hnot : ∀ (x : Bool) (w : World), (Op.unary .not (.bool x)).run Tryz.prog w = .ok (.bool (!x)) w := fun _ _ => rfl
  have x1 := hc.k0
  have k14 := hc.k14
  have HA := hid (alike_any g o k cap l w hl hg (by omega))
  have HB := hid hb
  clear hc hs hl hg hb
  go_enter Tryz.func19, Tryz.ntmps19
  go_wp2_with fail
  refine HA.out.mono ?_
  rintro e w1 ⟨⟨rfl, hb⟩ | ⟨rfl, hb⟩, u1⟩
  · obtain ⟨i, hi, h⟩ := HB.out
    exact absurd h (hb i hi)
  · have HU := hid u1
    clear u1 hb HA
    go_wp2
    go_ret2
    exact ⟨rfl, HU.out⟩
set_option maxHeartbeats 800000 in
theorem enc_good (FS : List Nat) (w0 w : World) (c F k r pp pq sp sq : Nat) (Z : List Nat) (g o cap L : Nat) (R : Nat → List Nat) (hs : LS w0 FS w) (hc : CD FS w c F k r pp pq sp sq Z) (hR : LL FS w g o k fun i => some (R i)) (hl : ∀ i, i < k → (R i).length = L) (hL : L ≤ 64) :
    Calls Tryz.prog 19 #[.pointer (some ⟨c, 0, none⟩), .slice (some ⟨g, o, none⟩) k cap] w
      fun e w' => ∃ gl b, e = .returned (.tuple #[.slice (some ⟨gl, 0, none⟩) r r, .int .i64 0]) ∧ Elim w F gl r L b (acrZ k L Z R) w' ∧ Fld F w' := by
  have hnot : ∀ (x : Bool) (w : World), (Op.unary .not (.bool x)).run Tryz.prog w = .ok (.bool (!x)) w := fun _ _ => rfl
  have x1 := hc.k0
  have k14 := hc.k14
  have c1 := hc.par.mat.c1
  have HA := hid (alike_any g o k cap _ w hR.lens hR.lt (by omega))
  have HS := hid (And.intro hs (And.intro hc hR))
  have HL := hid hl
  clear hc hs hl hR
  go_enter Tryz.func19, Tryz.ntmps19
  go_wp2_with fail
  refine HA.out.mono ?_
  rintro e w1 ⟨⟨rfl, hb⟩ | ⟨rfl, hb⟩, u1⟩
  · have HU := hid u1
    have HN := hid (HS.out.1.nul u1)
    have x2 := (HS.out.2.1.nxt HN.out).p0
    have HAC := hid (across_any pp pq F r k g o cap L Z R FS w0 w1 (HS.out.1.nxt HN.out) (HS.out.2.1.nxt HN.out).par (HS.out.2.2.nxt HN.out) HL.out hL)
    clear u1 hb HA
    go_wp2_with fail
    refine HAC.out.mono ?_
    rintro e w2 ⟨gl, b, rfl, h1, h2⟩
    have HE := hid (And.intro h1 h2)
    clear h1 h2 HAC
    go_wp2
    go_ret2
    exact ⟨gl, b, rfl, HE.out.1.back HU.out.nul, HE.out.2⟩
  · obtain ⟨i, hi, h⟩ := hb
    exact absurd h (not_ul hL (HL.out i hi) (HL.out 0 c1))
set_option maxHeartbeats 1600000 in
theorem data_good (FS : List Nat) (w0 w : World) (c F k r pp pq sp sq : Nat) (Z : List Nat) (g o n cap L gp op capm : Nat) (S : Nat → Option (List Nat)) (R : Nat → List Nat) (T : Nat → Nat) (M : GfM.Mx) (hs : LS w0 FS w) (hc : CD FS w c F k r pp pq sp sq Z) (hS : LL FS w g o n S)
    (hn : n = k + r) (hT : RowI w gp op k fun i => (T i : Int)) (hgp : gp < w.heap.size) (hgF : gp ≠ F) (hlt : ∀ i, i < k → T i < n) (hR : ∀ i, i < k → S (T i) = some (R i)) (hl : ∀ i, i < k → (R i).length = L) (hL : L ≤ 64)
    (hM : GfM.run k (GfM.beside k (cz k (pickZ k k (unitZ k ++ Z) T))) k = some M) :
    Calls Tryz.prog 32 #[.pointer (some ⟨c, 0, none⟩), .slice (some ⟨g, o, none⟩) n cap, .slice (some ⟨gp, op, none⟩) k capm] w
      fun e w' => ∃ gl b, e = .returned (.tuple #[.slice (some ⟨gl, 0, none⟩) k k, .int .i64 0]) ∧ Elim w F gl k L b (acrZ k L (invZ k M) R) w' ∧ Fld F w' := by
  have x1 := hc.s0
  have k14 := hc.k14
  have c1 := hc.par.mat.c1
  have HS := hid (And.intro hs (And.intro hc hS))
  have HT := hid (And.intro hT (And.intro hgp hlt))
  have HR := hid (And.intro hR hl)
  have HP := hid (pick_good sp sq F (k + r) k gp op k capm (unitZ k ++ Z) T w hc.shd.mat (hs.fld F hc.shd.F).lt hT hgp (fun i hi => by have := hlt i hi; omega) c1 (by omega))
  have HM := hid hM
  clear hc hs hl hR hS hn hT hgp hlt hM
  go_enter Tryz.func32, Tryz.ntmps32
  go_wp2_with fail
  refine HP.out.mono ?_
  rintro e w1 ⟨p3, q3, rfl, m3, u3, f3, g3⟩
  have HN := hid (HS.out.1.nul u3)
  have HU := hid u3
  have HI := hid (invert_any p3 q3 F k _ w1 m3 ((HS.out.1.nxt HN.out).fld F HS.out.2.1.shd.F))
  clear m3 u3 f3 g3 HP
  go_wp2_with fail
  refine HI.out.mono ?_
  rintro e w2 ⟨u4, f4, ⟨hno, _⟩ | ⟨M2, hM2, rfl, m4⟩⟩
  · rw [HM.out] at hno
    cases hno
  · have eM : M2 = M := by
      rw [HM.out] at hM2
      exact (Option.some.inj hM2).symm
    subst eM
    have hz : w1.heap.size + 1 ∉ FS ∧ w1.heap.size ∉ FS := ⟨(HS.out.1.nxt HN.out).lt (by omega), (HS.out.1.nxt HN.out).lt (by omega)⟩
    have HN2 := hid (HN.out.trans ((HS.out.1.nxt HN.out).one HS.out.2.1.shd.F u4 f4))
    have HU2 := hid (HU.out.nul.trans u4)
    have HLM : Hid (LM FS w2 (w1.heap.size + 1) w1.heap.size F k k (invZ k M2)) := ⟨m4, HS.out.2.1.shd.F, hz.1, hz.2⟩
    have HCH := hid (chosen_any FS w0 w2 g o n cap k capm (some ⟨gp, op, none⟩) S T (HS.out.1.nxt HN2.out) (HS.out.2.2.nxt HN2.out) (.inr ⟨gp, op, rfl, Nat.lt_of_lt_of_le HT.out.2.1 HN2.out.up.size, fun i hi => by
      exact (HU2.out.cell (p := ⟨gp, op + i, none⟩) HT.out.2.1 hgF).trans (HT.out.1 i hi)⟩) HT.out.2.2 (by omega))
    clear u4 f4 hM2 m4 hz HI
    go_wp2_with fail
    refine HCH.out.mono ?_
    rintro e w3 ⟨h, rfl, c3, u5, g5⟩
    have HN3 := hid (HN2.out.trans ((HS.out.1.nxt HN2.out).nul u5))
    have HU3 := hid (HU2.out.trans u5.nul)
    have HAC := hid (across_any (w1.heap.size + 1) w1.heap.size F k k h 0 k L (invZ k M2) R FS w0 w3 (HS.out.1.nxt HN3.out) (HLM.out.nxt ((HS.out.1.nxt HN2.out).nul u5)) (c3.congr HR.out.1) HR.out.2 hL)
    clear c3 u5 g5 HCH
    go_wp2_with fail
    refine HAC.out.mono ?_
    rintro e w4 ⟨gl, b, rfl, h1, h2⟩
    have HE := hid (And.intro h1 h2)
    clear h1 h2 HAC
    go_wp2
    go_ret2
    exact ⟨gl, b, rfl, HE.out.1.back HU3.out, HE.out.2⟩

theorem Tl_iff {S : Nat → Option (List Nat)} {n t : Nat} : t ∈ Tl S n ↔ t < n ∧ (S t).isSome = true := by
  unfold Tl
  rw [List.mem_filter, List.mem_range]
/-- All that is there is L bytes long. -/
def Fine (S : Nat → Option (List Nat)) (n L : Nat) : Prop := ∀ t, t < n → ∀ z, S t = some z → z.length = L
theorem Fine.len {S : Nat → Option (List Nat)} {n L : Nat} (h : Fine S n L) {i : Nat} (hi : i < (Tl S n).length) : lenT S n i = L := by
  obtain ⟨h1, z, h2⟩ := Tl_mem hi
  unfold lenT
  rw [h2]
  exact h _ h1 z h2
theorem Fine.no {S : Nat → Option (List Nat)} {n L : Nat} (h : Fine S n L) (hL : L ≤ 64) {i : Nat} (hi : i < (Tl S n).length) : ¬ UL (lenT S n) i := not_ul hL (h.len hi) (h.len (by omega))
theorem there_fine (FS : List Nat) (w0 w : World) (c F k r pp pq sp sq : Nat) (Z : List Nat) (g o n cap L : Nat) (S : Nat → Option (List Nat)) (hs : LS w0 FS w) (hc : CD FS w c F k r pp pq sp sq Z) (hS : LL FS w g o n S) (hn : n = k + r) (hf : Fine S n L) (hL : L ≤ 64) :
    Calls Tryz.prog 31 #[.pointer (some ⟨c, 0, none⟩), .slice (some ⟨g, o, none⟩) n cap] w
      fun e w' => (∃ a capm, e = .returned (.tuple #[.slice a (Tl S n).length capm, .int .i64 0]) ∧ (Tl S n).length ≤ capm ∧ (Plc w' a (Tl S n).length fun i => (Tl S n).getD i 0) ∧ ∀ ad, a = some ad → w.heap.size ≤ ad.block) ∧ Up Nul w w' := by
  refine (there_any FS w0 w c F k r pp pq sp sq Z g o n cap S hs hc hS hn).mono ?_
  rintro e w' ⟨⟨_, h⟩ | ⟨⟨i, hi, h⟩, _⟩, u⟩
  · exact ⟨h, u⟩
  · exact absurd h (hf.no hL hi)
theorem there_odd (FS : List Nat) (w0 w : World) (c F k r pp pq sp sq : Nat) (Z : List Nat) (g o n cap : Nat) (S : Nat → Option (List Nat)) (hs : LS w0 FS w) (hc : CD FS w c F k r pp pq sp sq Z) (hS : LL FS w g o n S) (hn : n = k + r) (ho : ∃ i, i < (Tl S n).length ∧ UL (lenT S n) i) :
    Calls Tryz.prog 31 #[.pointer (some ⟨c, 0, none⟩), .slice (some ⟨g, o, none⟩) n cap] w
      fun e w' => e = .returned (.tuple #[.slice none 0 0, .int .i64 1]) ∧ Up Nul w w' := by
  refine (there_any FS w0 w c F k r pp pq sp sq Z g o n cap S hs hc hS hn).mono ?_
  rintro e w' ⟨⟨h, _⟩ | ⟨_, h⟩, u⟩
  · obtain ⟨i, hi, hu⟩ := ho
    exact absurd hu (h i hi)
  · exact ⟨h, u⟩
/-- What hands back ErrArg hands it back. -/
theorem decode_len (FS : List Nat) (w0 w : World) (c F k r pp pq sp sq : Nat) (Z : List Nat) (n cap : Nat) (a : Option Addr) (hs : LS w0 FS w) (hc : CD FS w c F k r pp pq sp sq Z) (hn : n ≠ k + r) :
    Calls Tryz.prog 13 #[.pointer (some ⟨c, 0, none⟩), .slice a n cap] w
      fun e w' => e = .returned (.tuple #[.slice none 0 0, .int .i64 1]) ∧ Up Nul w w' := by
  have H := hid (there_len FS w0 w c F k r pp pq sp sq Z n cap a hs hc hn)
  clear hs hc hn
  go_enter Tryz.func13, Tryz.ntmps13
  go_wp2_with fail
  refine H.out.mono ?_
  rintro e w1 ⟨rfl, u⟩
  have HU := hid u
  clear u H
  go_wp2
  go_ret2
  exact ⟨rfl, HU.out⟩
theorem decode_odd (FS : List Nat) (w0 w : World) (c F k r pp pq sp sq : Nat) (Z : List Nat) (g o n cap : Nat) (S : Nat → Option (List Nat)) (hs : LS w0 FS w) (hc : CD FS w c F k r pp pq sp sq Z) (hS : LL FS w g o n S) (hn : n = k + r) (ho : ∃ i, i < (Tl S n).length ∧ UL (lenT S n) i) :
    Calls Tryz.prog 13 #[.pointer (some ⟨c, 0, none⟩), .slice (some ⟨g, o, none⟩) n cap] w
      fun e w' => e = .returned (.tuple #[.slice none 0 0, .int .i64 1]) ∧ Up Nul w w' := by
  have H := hid (there_odd FS w0 w c F k r pp pq sp sq Z g o n cap S hs hc hS hn ho)
  clear hs hc hn hS ho
  go_enter Tryz.func13, Tryz.ntmps13
  go_wp2_with fail
  refine H.out.mono ?_
  rintro e w1 ⟨rfl, u⟩
  have HU := hid u
  clear u H
  go_wp2
  go_ret2
  exact ⟨rfl, HU.out⟩
end Go.Proofs.YtkenfabnbmkhbaaGreat
