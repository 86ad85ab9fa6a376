/- Rows of records: Split. -/
import Derived.Test.YtencinajieicpaaTrRows
namespace Go.Proofs.Ytencinajieicpaa
open Go.RowKit
set_option linter.unusedVariables false

theorem info_row : (Try.prog.info? 30).map (fun i => (i.zero, i.size, i.bytes)) = some (some (.slice none 0 0), 1, 24) := by kernel_rfl
/-- append(v, one value), and where the row lies. -/
theorem wpList_append_one {t T : TypeId} {zr : Value} {by_ : Nat} (ht : Try.prog.underlying t = some (.slice T)) (hinf : (Try.prog.info? T).map (fun i => (i.zero, i.size, i.bytes)) = some (some zr, 1, by_)) (hz1 : zr.cells.size = 1) (hby : by_ ≤ 24)
    {w : World} {ops : Array Oper} {rest : List Oper} {o : Oper} {a : Act} {Q : Exit → Act → World → Prop} (hgd : o.guard = none) (s x : Operand)
    (ho : o.op = .call { callee := .builtin .append, args := #[s, x], argTypes := #[t, t] }) (base : Nat) (v : Value) (xs : List Value) (hs : a.eval s = v) (hown : OwnV T base w v xs)
    (ad : Addr) (cap : Nat) (u : Value) (hx : a.eval x = .slice (some ad) 1 cap) (hc : w.cell? ad = some u) (h1 : u.oneCell' = true) (hl : xs.length + 1 ≤ 1000000) (hbase : base ≤ w.heap.size)
    (h : ∀ v' w', Hid (OwnV T base w' v' (xs ++ [u])) → Hid (w.grownBy w' v.ownBlock) → Hid (v'.ownBlock = v.ownBlock ∨ v'.ownBlock = some w.heap.size) → wpList Try.prog ops Q rest (a.put o.dst v') w') : wpList Try.prog ops Q (o :: rest) a w := by
  obtain ⟨i0, hi, hz, hzs, hzb⟩ := info_parts hinf
  have hnews : ∀ (j : Nat) (y : Value), [u][j]? = some y → w.cell? (ad.add j) = some y := fun j y hj => by
    match j, hj with
    | 0, hj => simp at hj; subst hj; simpa [Addr.add] using hc
  have h1' : ∀ y ∈ [u], y.oneCell' = true := fun y hy => by
    obtain rfl : y = u := by simpa using hy
    exact h1
  have hm : (xs.length + 1) * by_ ≤ 140737488355328 := by
    have := Nat.mul_le_mul hl hby
    omega
  obtain ⟨v', w', hrun, g1, g2, _⟩ := run_append_own (P := Try.prog) w base t o.type T i0 zr 1 by_ ht hi hz hzs hzb hz1 (by decide) v xs.length xs hown ad 1 cap [u] rfl hnews h1' (by unfold maxLen; omega) hm hbase
  have hw := append_where_m w w' v v' _ _ _ i0 _ base xs.length 1 xs ht hi hz (by rw [hzs]; exact hown) ad cap [u] (by decide) (by rw [hzs]; rfl) hnews h1' hl (by rw [hzb]; omega) hrun
  refine wpList_plain hgd fun _ hK => ?_
  unfold Oper.wp
  simp [execOp, ho, resolve, invoke, builtin, hs, hx, hrun, Result.andThen]
  refine hK _ _ (h v' w' ?_ g2 hw)
  show w'.ownsRow base _ 1 v' (xs ++ [u]).length (xs ++ [u])
  rw [List.length_append]
  exact g1
theorem OwnV.bk {T : TypeId} {base : Nat} {w : World} {v : Value} {xs : List Value} (h : OwnV T base w v xs) : ∀ g, v.ownBlock = some g → g < w.heap.size := fun g hg => (World.ownsRow.lt h g hg).2
/-- A slice of the call's own has room. -/
theorem OwnV.shp {T : TypeId} {base : Nat} {w : World} {v : Value} {xs : List Value} (h : OwnV T base w v xs) : ∃ a c, v = .slice a xs.length c ∧ xs.length ≤ c := by
  rcases h.2 with ⟨e1, e0⟩ | ⟨g, cap, cur, e1, _, _, h4, _⟩
  · exact ⟨none, 0, by rw [e1, e0], by omega⟩
  · exact ⟨_, _, e1, h4⟩
/-- The slice v, of the call's own, has the rows l, in new blocks. -/
structure RowR (base : Nat) (w : World) (v : Value) (l : List (List Nat)) : Prop where
  ex : ∃ vs : List Value, OwnV 30 base w v vs ∧ vs.length = l.length ∧ ∀ (i : Nat) (y : List Nat), l[i]? = some y → ∃ ea ec, vs[i]? = some (Value.slice ea y.length ec) ∧ SlN w ea y.length y ∧ (y.length = 0 ∨ ∀ x, ea = some x → base ≤ x.block ∧ ¬ v.ownBlock = some x.block)
theorem RowR.nil (base : Nat) (w : World) : RowR base w (.slice none 0 0) [] := ⟨[], OwnV.nil _ _ _, rfl, fun i y h => by cases h⟩
theorem RowR.own {base : Nat} {w : World} {v : Value} {l : List (List Nat)} (h : RowR base w v l) : (∀ g, v.ownBlock = some g → base ≤ g ∧ g < w.heap.size) ∧ ∃ a c, v = .slice a l.length c ∧ l.length ≤ c := by
  obtain ⟨vs, h1, h2, h3⟩ := h.ex
  refine ⟨fun g hg => ⟨h1.base g hg, h1.bk g hg⟩, ?_⟩
  rw [← h2]
  exact h1.shp
theorem RowR.rrp {base : Nat} {w : World} {v : Value} {l : List (List Nat)} (h : RowR base w v l) : RRp (fun g => base ≤ g) w v l := by
  obtain ⟨_, a, c, e1, e2⟩ := h.own
  obtain ⟨vs, h1, h2, h3⟩ := h.ex
  refine ⟨a, c, e1, e2, ?_⟩
  rcases Nat.eq_zero_or_pos l.length with e | e
  · exact .inl e
  · obtain ⟨g, cap, e3, hb, hg, hc, _, hcap⟩ := h1.row (by omega)
    rw [e1] at e3
    injection e3 with e3
    refine .inr ⟨g, 0, e3, hg, hb, fun i z hi => ?_⟩
    obtain ⟨ea, ec, k1, k2, k3⟩ := h3 i z hi
    exact ⟨ea, ec, by rw [Nat.zero_add]; exact hc i _ k1, k2, k3.imp id fun h x e => (h x e).1⟩
theorem RowR.nxt {base : Nat} {w w' : World} {v : Value} {l : List (List Nat)} (h : RowR base w v l) (u : Up Nul w w') : RowR base w' v l := by
  obtain ⟨vs, h1, h2, h3⟩ := h.ex
  refine ⟨vs, h1.up u (fun _ _ _ h => h), h2, fun i y hy => ?_⟩
  obtain ⟨ea, ec, k1, k2, k3⟩ := h3 i y hy
  exact ⟨ea, ec, k1, k2.nxt u, k3⟩
/-- One more row, in a world with its slice in a new block. -/
theorem RowR.more {base : Nat} {w w2 : World} {v v' : Value} {l : List (List Nat)} {vs : List Value} {ea : Option Addr} {ec : Nat} {y : List Nat} (h2 : vs.length = l.length) (hb : ∀ g, v.ownBlock = some g → g < w.heap.size)
    (h3 : ∀ (i : Nat) (y : List Nat), l[i]? = some y → ∃ ea ec, vs[i]? = some (Value.slice ea y.length ec) ∧ SlN w ea y.length y ∧ (y.length = 0 ∨ ∀ x, ea = some x → base ≤ x.block ∧ ¬ v.ownBlock = some x.block))
    (hy : SlN w ea y.length y) (hn : y.length = 0 ∨ ∀ x, ea = some x → base ≤ x.block ∧ ¬ v.ownBlock = some x.block)
    (g1 : OwnV 30 base w2 v' (vs ++ [.slice ea y.length ec])) (g2 : w.grownBy w2 v.ownBlock) (g3 : v'.ownBlock = v.ownBlock ∨ v'.ownBlock = some w.heap.size) : RowR base w2 v' (l ++ [y]) := by
  have ug : Up (fun g => v.ownBlock = some g) w w2 := ⟨g2.os, g2.tape, g2.output, g2.size, fun k hk hs => g2.block k hk fun e => hs e.symm⟩
  have key : ∀ {a : Option Addr} {z : List Nat}, SlN w a z.length z → (z.length = 0 ∨ ∀ x, a = some x → base ≤ x.block ∧ ¬ v.ownBlock = some x.block) → SlN w2 a z.length z ∧ (z.length = 0 ∨ ∀ x, a = some x → base ≤ x.block ∧ ¬ v'.ownBlock = some x.block) := fun {a z} hz hx => by
    refine ⟨hz.off ug (hx.imp id fun h x e => (h x e).2), ?_⟩
    by_cases h0 : z.length = 0
    · exact .inl h0
    · refine .inr fun x e => ⟨(hx.resolve_left h0 x e).1, fun e2 => ?_⟩
      rcases g3 with g3 | g3
      · exact (hx.resolve_left h0 x e).2 (g3.symm.trans e2)
      · rw [g3] at e2
        have := hz.lt h0 x e
        injection e2 with e2
        omega
  refine ⟨vs ++ [.slice ea y.length ec], g1, by simp [h2], fun i z hz => ?_⟩
  by_cases hi : i < l.length
  · rw [List.getElem?_append_left hi] at hz
    obtain ⟨a, c, k1, k2, k3⟩ := h3 i z hz
    obtain ⟨k4, k5⟩ := key k2 k3
    exact ⟨a, c, by rw [List.getElem?_append_left (by omega)]; exact k1, k4, k5⟩
  · have hi2 : i = l.length := by
      rcases Nat.lt_or_ge i (l ++ [y]).length with h | h
      · simp at h; omega
      · rw [List.getElem?_eq_none h] at hz; cases hz
    subst hi2
    rw [List.getElem?_append_right (Nat.le_refl _), Nat.sub_self] at hz
    obtain rfl : y = z := by simpa using hz
    obtain ⟨k4, k5⟩ := key hy hn
    exact ⟨ea, ec, by rw [← h2, List.getElem?_append_right (Nat.le_refl _), Nat.sub_self]; rfl, k4, k5⟩
set_option maxRecDepth 100000 in
set_option maxHeartbeats 1600000 in
theorem split_any {w : World} (a : Option Addr) (l cp : Nat) (z : List Nat) (h : SlN w a l z) (hc : l ≤ cp) (hl : l ≤ 100000) :
    Calls Try.prog 23 #[.slice a l cp] w fun e w' => ∃ v, e = .returned (.tuple #[v, .int .i64 ((flt (spl z)).length : Nat)]) ∧ RRp (fun g => w.heap.size ≤ g) w' v (spl z) ∧ Up Nul w w' := by
  have HZ := hid h
  have HL := hid (And.intro hc hl)
  clear h hc hl
  go_enter Try.func23, Try.ntmps23
  go_wp2_with fail
  go_loopw [2, 3] (fun v i wr => ∃ (p : Nat) (D _r : List (List Nat)) (R : List Nat), i = .int .i64 (p : Nat) ∧ z = flt D ++ R ∧ spl z = D ++ spl R ∧ p = (flt D).length ∧ D.length ≤ p ∧ RowR w.heap.size wr v D ∧ Up Nul w wr) (fun _ i _ => l - (intOf i).toNat)
  case atStart => exact ⟨0, [], [], z, rfl, rfl, rfl, rfl, Nat.le_refl _, RowR.nil _ _, Up.refl _ _⟩
  case round =>
    obtain ⟨p, D, _, R, rfl, hz, hs, hp, hD, hr, hu⟩ := hrel
    have HR := hid hr
    have HU := hid hu
    have hll : l = p + R.length := by rw [← HZ.out.len, hz, List.length_append, hp]
    have i0 : (0 : Int) ≤ (p : Int) := by omega
    have i9 : (p : Int) ≤ 100000 := by have := HL.out; omega
    have HD := hid (And.intro hz (And.intro hs (And.intro hp (And.intro hD hll))))
    cases R with
    | nil =>
      obtain rfl : l = p := by simpa using hll
      have HE : Hid (spl z = D ∧ (flt D).length = l) := ⟨by rw [HD.out.2.1]; simp [spl_nil], hp.symm⟩
      clear hz hs hp hr hu hll hD
      go_wp2_with fail
      go_ret2
      rw [HE.out.1, HE.out.2]
      exact ⟨_, rfl, HR.out.rrp, HU.out⟩
    | cons c b =>
      have hpl : p < l := by rw [hll]; simp
      have i1 : (p : Int) < (l : Int) := by omega
      obtain ⟨g, o, rfl, hg, row⟩ := HZ.out.row.resolve_left (by omega)
      have hcell := row.cells p (by rw [HZ.out.len]; exact hpl)
      have hget : z.getD p 0 = c := by
        rw [hz, hp, List.getD_eq_getElem?_getD, List.getElem?_append_right (Nat.le_refl _), Nat.sub_self]
        rfl
      have hc256 : c < 256 := by have := row.small p; rw [hget] at this; exact this
      rw [hget] at hcell
      have x1 := (HU.out.cell (p := ⟨g, o + p, none⟩) hg id).trans hcell
      have HF := hid fun W => fits_any (c : Int) W
      have hs1 := run_from_any (some ⟨g, o, none⟩) l cp (p + 1) (by omega)
      rw [show ((p + 1 : Nat) : Int) = (p : Int) + 1 by omega] at hs1
      have hmid := HZ.out.mid (p + 1) c cp
      have hbl : l - (p + 1) = b.length := by rw [hll, List.length_cons]; omega
      rw [hbl] at hs1
      obtain ⟨q, hq⟩ : ∃ q, q = atOff (some ⟨g, o, none⟩) (p + 1) cp := ⟨_, rfl⟩
      rw [← hq] at hs1 hmid
      obtain ⟨bl, BL⟩ : ∃ bl, Hid (b.length = bl) := ⟨_, rfl⟩
      rw [BL.out] at hs1 hbl
      obtain ⟨kc, KC⟩ : ∃ kc, Hid (kc = cp - (p + 1)) := ⟨_, rfl⟩
      rw [← KC.out] at hs1
      have hspl := spl_cons c b
      rw [BL.out] at hspl
      have HX := hid (And.intro hspl hmid)
      have HB := hid hbl
      clear hspl hmid hbl hcell hget row hg hz hs hp hr hu hll hD
      by_cases hfit : 1 ≤ (c : Int) ∧ (c : Int) ≤ 250
      · by_cases hroom : bl < c
        · have HE : Hid (spl z = D ∧ (flt D).length = p) := ⟨by rw [HD.out.2.1, HX.out.1, if_pos (.inr (.inr hroom))]; simp, HD.out.2.2.1.symm⟩
          rw [decide_eq_true hfit] at HF
          have i2 : (bl : Int) < (c : Int) := by omega
          clear hq hfit hpl hroom
          go_wp2_with fail
          refine (HF.out _).mono ?_
          rintro e w1 ⟨rfl, rfl⟩
          go_wp2_with fail
          go_ret2
          rw [HE.out.1, HE.out.2]
          exact ⟨_, rfl, HR.out.rrp, HU.out⟩
        · have HE : Hid (spl (c :: b) = b.take c :: spl (b.drop c)) := by
            show _ = _
            rw [HX.out.1, if_neg (by omega)]
          have hdr : z.drop (p + 1) = b := by
            rw [HD.out.1, HD.out.2.2.1, List.drop_append, List.drop_of_length_le (by omega), List.nil_append, show (flt D).length + 1 - (flt D).length = 1 by omega]
            rfl
          have hyl : (b.take c).length = c := by rw [List.length_take, BL.out]; omega
          have hsl : SlN w q c (b.take c) := by
            have := HX.out.2 (by have := HB.out; omega) HL.out.1
            rw [hdr] at this
            exact this
          rw [decide_eq_true hfit] at HF
          have i2 : ¬ (bl : Int) < (c : Int) := by omega
          have hs2 := run_upto q bl kc c (by have := KC.out; have := HB.out; have := HL.out; omega)
          have HC := hid (bclone_any q c kc (b.take c) wr (hsl.nxt HU.out) hsl.nil0 (by omega))
          have HXX := hid (And.intro hyl (And.intro hpl hroom))
          have HC1 : Hid (1 ≤ c ∧ c ≤ 250) := ⟨by omega, by omega⟩
          have HTD : Hid (z = flt (D ++ [b.take c]) ++ b.drop c) := by
            show _ = _
            rw [HD.out.1, flt_append, flt_one, List.append_assoc]
            unfold enc
            rw [hyl, List.cons_append, List.take_append_drop]
          generalize b.take c = y at HE HC HXX HTD
          clear hq hfit hpl hroom hdr hyl hsl
          go_wp2_with fail
          refine (HF.out _).mono ?_
          rintro e w1 ⟨rfl, rfl⟩
          go_wp2_with fail
          refine HC.out.mono ?_
          rintro e w2 ⟨a2, k2, rfl, hgot⟩
          have HG := hid hgot
          have hu2 : Up Nul w2 (w2.alloc (.cells #[.slice a2 c k2] 30)) := (Up.refl Nul w2).alloc _
          have HU2 := hid (HU.out.trans (HG.out.up.trans hu2))
          have hrow := (HR.out.nxt HG.out.up).nxt hu2
          obtain ⟨vs, r1, r2, r3⟩ := hrow.ex
          have HR1 := hid r1
          have HR2 := hid r2
          have HR3 := hid r3
          have HVL : Hid (vs.length + 1 ≤ 1000000) := by show _ ≤ _; rw [r2]; have := HD.out.2.2.2.1; omega
          have HSN := hid (HG.out.sl.nxt hu2)
          have HON := hid hrow.own.1
          have HOLD := hid HR.out.own.1
          have hcell : (w2.alloc (.cells #[.slice a2 c k2] 30)).cell? ⟨w2.heap.size, 0, none⟩ = some (.slice a2 c k2) := World.cell?_alloc_new w2 _ _ 0
          have HCE := hid hcell
          clear hgot hu2 hrow r1 r2 r3 hcell
          go_wp2_with (first
            | (at_builtin; refine wpList_append_one Try.underlying22 info_row rfl (by omega) rfl (.tmp 28) (.tmp 33) rfl w.heap.size _ vs rfl HR1.out ⟨w2.heap.size, 0, none⟩ 1 (.slice a2 c k2) rfl HCE.out rfl HVL.out HU2.out.size ?_
               intro v3 w3 G1 G2 G3)
            | fail)
          have hlen := HXX.out.1
          have hrow3 : RowR w.heap.size w3 v3 (D ++ [y]) := by
            refine RowR.more (w := w2.alloc (.cells #[.slice a2 c k2] 30)) (ea := a2) (ec := k2) HR2.out (fun g hg => (HON.out g hg).2) HR3.out (by rw [hlen]; exact HSN.out) (.inr fun x ex => ?_) (by rw [hlen]; exact G1.out) G2.out G3.out
            obtain ⟨g, o, e1, e2⟩ := HG.out.new (by have := HC1.out; omega)
            rw [e1] at ex
            cases ex
            refine ⟨Nat.le_trans HU.out.size e2, fun e3 => ?_⟩
            have := (HOLD.out _ e3).2
            exact absurd this (Nat.not_lt.2 e2)
          have HR4 := hid hrow3
          have HU4 : Hid (Up Nul w w3) := HU2.out.grown G2.out fun q hq => (HON.out q hq).1
          clear hrow3 G1 G2 G3 HR1 HR2 HR3 HSN HON HOLD HCE HG
          go_wp2_with fail
          go_roundw
          case rel => exact ⟨p + (1 + c), D ++ [y], [], b.drop c, by go_num, HTD.out, by
              rw [HD.out.2.1, HE.out, List.append_assoc]; rfl, by
              rw [flt_append, flt_one, List.length_append, enc_length, hlen, ← HD.out.2.2.1]; omega, by
              rw [List.length_append]; have := HD.out.2.2.2.1; simp only [List.length_cons, List.length_nil]; omega, HR4.out, HU4.out⟩
          case measure => have := HXX.out.2; have := HC1.out; simp [intOf]; omega
      · have HE : Hid (spl z = D ∧ (flt D).length = p) := ⟨by rw [HD.out.2.1, HX.out.1, if_pos (by omega)]; simp, HD.out.2.2.1.symm⟩
        rw [decide_eq_false hfit] at HF
        clear hq hfit hpl
        go_wp2_with fail
        refine (HF.out _).mono ?_
        rintro e w1 ⟨rfl, rfl⟩
        go_wp2_with fail
        go_ret2
        rw [HE.out.1, HE.out.2]
        exact ⟨_, rfl, HR.out.rrp, HU.out⟩
end Go.Proofs.Ytencinajieicpaa
