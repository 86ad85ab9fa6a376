/- The statements' own 'stripes', walked. -/
import Derived.Test.YtmaffnadmfphpaaGreatConvRef
import Derived.Deep.RegionLaw
namespace Go.Proofs.YtmaffnadmfphpaaGreat
open Go.RowKit
set_option linter.unusedVariables false

/-- Shard i of stripe t: data, then parities. -/
def stp (L : Nat) (z : List Nat) (t i : Nat) : List Nat := if i < 4 then dat L z (4 * t + i) else acrZ 4 L (narZ t) (fun s => dat L z (4 * t + s)) (i - 4)
theorem stp_length (L : Nat) (z : List Nat) (t i : Nat) : (stp L z t i).length = L := by
  unfold stp
  split
  · exact dat_length _ _ _
  · exact acrZ_length _ _ _ _ _
theorem stp_low {L : Nat} {z : List Nat} {t i : Nat} (h : i < 4) : stp L z t i = dat L z (4 * t + i) := by unfold stp; rw [if_pos h]
theorem stp_high (L : Nat) (z : List Nat) (t i : Nat) : stp L z t (4 + i) = acrZ 4 L (narZ t) (fun s => dat L z (4 * t + s)) i := by unfold stp; rw [if_neg (by omega), Nat.add_sub_cancel_left]
/-- k stripes in a row. -/
def strp (k : Nat) (G C : Nat → Nat) : List Value := (List.range k).map fun t => Value.slice (some ⟨G t, 0, none⟩) 6 (C t)
theorem strp_length (k : Nat) (G C : Nat → Nat) : (strp k G C).length = k := by simp [strp]
theorem strp_at {k i : Nat} {G C : Nat → Nat} (h : i < k) : (strp k G C)[i]? = some (.slice (some ⟨G i, 0, none⟩) 6 (C i)) := by simp [strp, h]
theorem strp_next (k g c : Nat) (G C : Nat → Nat) : strp (k + 1) (fun t => if t = k then g else G t) (fun t => if t = k then c else C t) = strp k G C ++ [.slice (some ⟨g, 0, none⟩) 6 c] := by
  unfold strp
  rw [List.range_succ, List.map_append]
  congr 1
  · exact List.map_congr_left fun t ht => by
      have := List.mem_range.1 ht
      simp only [if_neg (show ¬ t = k by omega)]
  · simp
theorem info_ssl : (Tryz.prog.info? 30).map (fun i => (i.zero, i.size, i.bytes)) = some (some (.slice none 0 0), 1, 24) := by kernel_rfl
theorem run_mid_s (g n cap l h k : Nat) (hl : l + k = h) (hk : 0 < k) (hh : h ≤ n) (hc : n ≤ cap) (w : World) :
    (Instr.slice 30 (.slice (some ⟨g, 0, none⟩) n cap) (some (.int .i64 l)) (some (.int .i64 h)) none).run Tryz.prog w = .ok (.slice (some ⟨g, l, none⟩) k (cap - l)) w := by
  have h0 : (Tryz.prog.info? (Tryz.prog.elem 30)).map (·.size) = some 1 := by kernel_rfl
  obtain ⟨i, hi, hs⟩ := Option.map_eq_some_iff.1 h0
  rw [run_slice_lh (P := Tryz.prog) (w := w) 30 (some ⟨g, 0, none⟩) n cap (by kernel_rfl) .i64 .i64 l h (by omega) (by omega) (by omega)]
  have e : Addr.add ⟨g, 0, none⟩ l = ⟨g, l, none⟩ := by
    by_cases h0 : l = 0
    · subst h0; simp [Addr.add]
    · simp [Addr.add, h0]
  have hsz : (sizeOf (Tryz.prog.elem 30)).run Tryz.prog w = .ok 1 w := by simp [sizeOf, typeInfo, hi, hs]
  rw [hsz]
  simp only [Result.andThen, sliced, Int.toNat_natCast, Nat.mul_one, Option.map_some, e]
  rw [if_neg (by omega), show h - l = k by omega]
/-- append(v, y...), at a step of a region that draws. -/
theorem step_append_vals {t T : TypeId} {zr : Value} {by_ : Nat} (ht : Tryz.prog.underlying t = some (.slice T)) (hinf : (Tryz.prog.info? T).map (fun i => (i.zero, i.size, i.bytes)) = some (some zr, 1, by_)) (hz1 : zr.cells.size = 1) (hby : by_ ≤ 24)
    {w : World} {ops : Array Oper} {o : Oper} {a : Act} {K : Act → World → Prop} {Q : Exit → Act → World → Prop} {E : Prop} (hgd : o.guard = none) (s x : Operand)
    (ho : o.op = .call { callee := .builtin .append, args := #[s, x], argTypes := #[t, t] }) (base : Nat) (v : Value) (xs : List Value) (hs : a.eval s = v) (hown : OwnV T base w v xs)
    (ad : Addr) (n cap : Nat) (ys : List Value) (hx : a.eval x = .slice (some ad) n cap) (hc : ∀ j u, ys[j]? = some u → w.cell? (ad.add j) = some u) (h1 : ∀ u ∈ ys, u.oneCell' = true) (hy : ys.length = n) (hl : xs.length + n ≤ 1000000) (hbase : base ≤ w.heap.size)
    (h : ∀ v' w', Hid (OwnV T base w' v' (xs ++ ys)) → Hid (w.grownBy w' v.ownBlock) → K (a.put o.dst v') w') : if Region.wanted o (yielded ops a.tmps) = true then Oper.wp Tryz.prog o a w K Q else E := by
  have hw : Region.wanted o (yielded ops a.tmps) = true := by simp [Region.wanted, hgd]
  rw [if_pos hw]
  obtain ⟨i0, hi, hz0, hz2, hz3⟩ := info_parts hinf
  have hb : by_ * (xs.length + n) ≤ 24 * 1000000 := Nat.mul_le_mul hby hl
  obtain ⟨v', w', hrun, g1, g2, _⟩ := run_append_own (P := Tryz.prog) w base t o.type T i0 zr 1 by_ ht hi hz0 hz2 hz3 hz1 (by decide) v xs.length xs hown ad n cap ys (by rw [hy, Nat.mul_one]) hc h1 (by unfold maxLen; omega) (by first | (rw [Nat.mul_comm]; omega) | omega) hbase
  unfold Oper.wp
  simp [execOp, ho, resolve, invoke, builtin, hs, hx, hrun, Result.andThen]
  refine h v' w' ?_ g2
  show w'.ownsRow base _ 1 v' (xs ++ ys).length (xs ++ ys)
  rw [List.length_append, hy]
  exact g1
theorem Up.conv {S : Nat → Prop} {u w : World} (h : Up S u w) (e : TypeId) (s : ByteArray) : Up S u (Lib.bytesWorld w e s) := h.trans (bytes_below w e s).nul
theorem alloc_two (W : World) (x y : Value) (T : TypeId) : ∀ j u, [x, y][j]? = some u → (W.alloc (.cells #[x, y] T)).cell? (Addr.add ⟨W.heap.size, 0, none⟩ j) = some u := fun j u hj => by
  match j, hj with
  | 0, hj => cases hj; exact World.cell?_alloc_new W _ _ 0
  | 1, hj => cases hj; exact World.cell?_alloc_new W _ _ 1
theorem alloc_one (W : World) (x : Value) (T : TypeId) : ∀ j u, [x][j]? = some u → (W.alloc (.cells #[x] T)).cell? (Addr.add ⟨W.heap.size, 0, none⟩ j) = some u := fun j u hj => by
  match j, hj with
  | 0, hj => cases hj; exact World.cell?_alloc_new W _ _ 0
theorem one_two {x y : Value} (hx : x.oneCell' = true) (hy : y.oneCell' = true) : ∀ u ∈ [x, y], u.oneCell' = true := fun u hu => by
  rcases List.mem_cons.1 hu with rfl | hu
  · exact hx
  · rcases List.mem_cons.1 hu with rfl | hu
    · exact hy
    · cases hu
theorem one_one {x : Value} (hx : x.oneCell' = true) : ∀ u ∈ [x], u.oneCell' = true := fun u hu => by
  rcases List.mem_cons.1 hu with rfl | hu
  · exact hx
  · cases hu
/-- A row out of a string, in block q. -/
def Cv (w7 W : World) (q : Nat) (P : List Nat) : Prop := w7.heap.size ≤ q ∧ Row W q 0 P ∧ Typ 5 W q
theorem cnv {w7 X W : World} {P : List Nat} {s : ByteArray} (hP : ∀ i, P.getD i 0 < 256) (hs : strOf P = s) (h1 : Up Nul w7 X) (h2 : Up Nul (Lib.bytesWorld X 5 s) W) : Cv w7 W X.heap.size P := by
  have hlt : X.heap.size < (Lib.bytesWorld X 5 s).heap.size := by rw [Lib.bytesWorld_size]; exact Nat.lt_succ_self _
  have hr := (Trn.start X s).row
  rw [← hs, nums_strOf hP, hs] at hr
  exact ⟨h1.size, hr.up h2 hlt id, Typ.up ⟨_, _, Lib.bytesWorld_at_new X 5 s⟩ h2 id⟩
theorem new_stripe {w0 wr w7 W w2 : World} {FS : List Nat} {L gl cl qa qb ca cb : Nat} {b : Nat → Nat} {R : Nat → List Nat} {PA PB : List Nat} {v2 : Value} (hls : LS w0 FS wr) (U : Up Nul wr w7) (hg1 : wr.heap.size ≤ gl) (hg2 : gl < w7.heap.size)
    (hb : ∀ i, i < 4 → Blk wr (b i) (R i) ∧ (R i).length = L ∧ b i ∉ FS) (hA4 : R 4 = PA) (hB5 : R 5 = PB) (lA : PA.length = L) (lB : PB.length = L) (hA : Cv w7 W qa PA) (hB : Cv w7 W qb PB) (hW : Up Nul w7 W)
    (G3 : OwnV 22 wr.heap.size w2 v2 (lnV 4 L b ++ [.slice (some ⟨qa, 0, none⟩) L ca, .slice (some ⟨qb, 0, none⟩) L cb])) (G4 : W.grownBy w2 (Value.slice (some ⟨gl, 0, none⟩) 4 cl).ownBlock) :
    (∃ g c, v2 = .slice (some ⟨g, 0, none⟩) 6 c ∧ TL FS w2 g 6 R ∧ 6 ≤ c) ∧ Up Nul wr w2 := by
  have u2 := Up.ofg G4
  have ur : Up Nul wr w2 := (U.trans hW).grown G4 fun q e => by
    have : gl = q := by simpa [Value.ownBlock] using e
    omega
  obtain ⟨g, c, rfl, g1, g2, g3, _, gc⟩ := G3.row (by rw [List.length_append, lnV_length]; simp)
  have hlen : (lnV 4 L b ++ [Value.slice (some ⟨qa, 0, none⟩) L ca, .slice (some ⟨qb, 0, none⟩) L cb]).length = 6 := by rw [List.length_append, lnV_length]; rfl
  rw [hlen] at *
  refine ⟨⟨g, c, rfl, ⟨G3.typ rfl, hls.lt g1, fun i hi => ?_⟩, gc⟩, ur⟩
  have nA : ¬ some qa = (Value.slice (some ⟨gl, 0, none⟩) 4 cl).ownBlock := fun e => by
    have : gl = qa := by simpa [Value.ownBlock] using e.symm
    have := hA.1
    omega
  have nB : ¬ some qb = (Value.slice (some ⟨gl, 0, none⟩) 4 cl).ownBlock := fun e => by
    have : gl = qb := by simpa [Value.ownBlock] using e.symm
    have := hB.1
    omega
  have hsz : wr.heap.size ≤ w7.heap.size := U.size
  rcases Nat.lt_or_ge i 4 with h | h
  · obtain ⟨h1, h2, h3⟩ := hb i h
    have hbk := h1.up ur id
    refine ⟨b i, 0, L, ?_, ?_, ⟨_, _, hbk.heap⟩, h3⟩
    · rw [h2]
      exact g3 i _ (by rw [List.getElem?_append_left (by rw [lnV_length]; exact h)]; exact lnV_at h)
    · have := hbk.row 0 L (by rw [h2]; omega)
      rwa [List.drop_zero, List.take_of_length_le (by rw [h2]; exact Nat.le_refl _)] at this
  · rcases Nat.eq_or_lt_of_le h with h | h
    · subst h
      refine ⟨qa, 0, ca, ?_, ?_, hA.2.2.up u2 nA, ?_⟩
      · rw [hA4, lA]
        exact g3 4 _ (by rw [List.getElem?_append_right (by rw [lnV_length]; omega), lnV_length]; rfl)
      · rw [hA4]
        exact hA.2.1.up u2 hA.2.2.lt nA
      · exact hls.lt (by have := hA.1; omega)
    · obtain rfl : i = 5 := by omega
      refine ⟨qb, 0, cb, ?_, ?_, hB.2.2.up u2 nB, ?_⟩
      · rw [hB5, lB]
        exact g3 5 _ (by rw [List.getElem?_append_right (by rw [lnV_length]; omega), lnV_length]; rfl)
      · rw [hB5]
        exact hB.2.1.up u2 hB.2.2.lt nB
      · exact hls.lt (by have := hB.1; omega)

/-- Where the loop stands. -/
structure Sts (FS : List Nat) (W : World) (L : Nat) (z : List Nat) (k : Nat) (v : Value) (G C : Nat → Nat) (wr : World) : Prop where
  own : OwnV 30 W.heap.size wr v (strp k G C)
  tl : ∀ t, t < k → TL FS wr (G t) 6 (stp L z t)
  cap : ∀ t, t < k → 6 ≤ C t
  up : Up Nul W wr

/-- Three stripes in a row. -/
structure SS (FS : List Nat) (w : World) (go : Nat) (G C : Nat → Nat) (L : Nat) (z : List Nat) : Prop where
  cell : ∀ t, t < 3 → w.cell? ⟨go, t, none⟩ = some (.slice (some ⟨G t, 0, none⟩) 6 (C t))
  lt : go < w.heap.size
  b : go ∉ FS
  ll : ∀ t, t < 3 → LL FS w (G t) 0 6 fun i => some (stp L z t i)
  cap : ∀ t, t < 3 → 6 ≤ C t
theorem SS.nxt {FS : List Nat} {w w' : World} {go L : Nat} {G C : Nat → Nat} {z : List Nat} (h : SS FS w go G C L z) (n : Nxt FS w w') : SS FS w' go G C L z :=
  ⟨fun t ht => (n.up.cell (p := ⟨go, t, none⟩) h.lt h.b).trans (h.cell t ht), Nat.lt_of_lt_of_le h.lt n.up.size, h.b, fun t ht => (h.ll t ht).nxt n, h.cap⟩
theorem SS.newF {FS : List Nat} {w w' : World} {go L F : Nat} {G C : Nat → Nat} {z : List Nat} (h : SS FS w go G C L z) (n : NewF w w' F) : SS (F :: FS) w' go G C L z :=
  ⟨fun t ht => (n.n.up.cell (p := ⟨go, t, none⟩) h.lt id).trans (h.cell t ht), Nat.lt_of_lt_of_le h.lt n.n.up.size, fun hm => by
    rcases List.mem_cons.1 hm with e | hm
    · have := h.lt
      have := n.eq
      omega
    · exact h.b hm, fun t ht => (h.ll t ht).newF n, h.cap⟩
set_option maxRecDepth 100000 in
set_option maxHeartbeats 3200000 in
theorem stripesL {w0 w : World} {FS : List Nat} {L n cap : Nat} {a : Option Addr} {z : List Nat} (hs : LS w0 FS w) (hz : SlN w0 a n z) (L1 : 1 ≤ L) (L64 : L ≤ 64) :
    Calls Tryz.prog 9 #[.int .i64 L, .slice a n cap] w
      fun e w' => ∃ go co gs cs G C, e = .returned (.tuple #[.slice (some ⟨go, 0, none⟩) 3 co, .slice (some ⟨gs, 0, none⟩) 12 cs]) ∧ OwnV 30 w.heap.size w' (.slice (some ⟨go, 0, none⟩) 3 co) (strp 3 G C) ∧ (∀ t, t < 3 → TL FS w' (G t) 6 (stp L z t)) ∧ SS FS w' go G C L z ∧ St2 w' gs 12 (dat L z) ∧ Up Nul w w' := by
  have HS := hid (And.intro hs hz)
  have HSD : Hid (∀ i u, (dat L z i).getD u 0 < 256) := dat_small fun i => hz.small i
  clear hs hz
  go_enter Tryz.func9, Tryz.ntmps9
  go_wp2_with fail
  refine (data_any 0 12 L n cap a z w (HS.out.2.up HS.out.1.up fun _ _ => id) (by omega) (by omega) (by omega)).mono ?_
  rintro e w1 ⟨⟨gd, cd, bd, rfl, de, dc⟩, u1⟩
  have H1 := hid (And.intro (HS.out.1.nul u1) (And.intro de (And.intro u1 (HS.out.1.nxt (HS.out.1.nul u1)))))
  have HDF : Hid (gd ∉ FS ∧ ∀ i, i < 12 → bd i ∉ FS) := ⟨HS.out.1.lt de.glo, fun i hi => HS.out.1.lt (de.own i hi).1⟩
  clear de u1
  go_wp2_with fail
  go_loopw [7, 8] (fun v i wr => ∃ k : Nat, k ≤ 3 ∧ i = .int .i64 k ∧ ∃ G C, Sts FS w1 L z k v G C wr) (fun _ i _ => 3 - (intOf i).toNat)
  case atStart => exact ⟨0, by omega, rfl, id, id, OwnV.nil _ _ _, fun _ h => absurd h (Nat.not_lt_zero _), fun _ h => absurd h (Nat.not_lt_zero _), Up.refl _ _⟩
  case round =>
    obtain ⟨k, hk, rfl, G, C, hst⟩ := hrel
    have HT := hid hst
    clear hst
    by_cases hlt : k < 3
    · have i3 : (k : Int) < 3 := by omega
      have HA1 : Hid (OwnV 22 wr.heap.size (wr.alloc (.cells #[] 22)) (.slice (some ⟨wr.heap.size, 0, none⟩) 0 0) []) := World.ownsRow_made wr #[] 0 (Nat.le_refl _) (by unfold maxLen; omega) rfl
      have UA := hid ((Up.refl Nul wr).alloc (.cells #[] 22))
      have HD0 := hid (H1.out.2.1.nul HT.out.up)
      have HGL : Hid (gd < w1.heap.size) := H1.out.2.1.gll
      have HV4 : Hid ([] ++ lnV 4 L (fun i => bd (4 * k + i)) = lnV 4 L fun i => bd (4 * k + i)) := List.nil_append _
      go_wp2_with (at_builtin; refine wpList_append_vals Tryz.underlying30 info_sl rfl (by omega) rfl (.tmp 18) (.tmp 25) rfl wr.heap.size _ [] rfl HA1.out ⟨gd, 4 * k, none⟩ (4 * k + 4 - 4 * k) (cd - 4 * k) (lnV 4 L fun i => bd (4 * k + i)) rfl (fun j u hj => by
          have hj4 : j < 4 := by
            rcases Nat.lt_or_ge j 4 with h | h
            · exact h
            · rw [List.getElem?_eq_none (by rw [lnV_length]; omega)] at hj; cases hj
          rw [lnV_at hj4] at hj
          cases hj
          have ea : Addr.add ⟨gd, 4 * k, none⟩ j = ⟨gd, 4 * k + j, none⟩ := by
            by_cases h0 : j = 0
            · subst h0; simp [Addr.add]
            · simp [Addr.add, h0]
          rw [ea]
          exact (UA.out.cell (p := ⟨gd, 4 * k + j, none⟩) (Nat.lt_of_lt_of_le HGL.out HT.out.up.size) id).trans (HD0.out.lin (4 * k + j) (by omega))) (lnV_one _ _ _) (by rw [lnV_length]; omega) (by simp only [List.length_nil]; omega) UA.out.size ?_; intro v7 w7 G1 G2; have U7 := hid (UA.out.grown G2.out fun q hq => HA1.out.base q hq))
      rw [HV4.out] at G1
      obtain ⟨gl, cl, rfl, glo, glt, glc, _, _⟩ := G1.out.row (by rw [lnV_length]; omega)
      rw [lnV_length] at G1 ⊢
      have HS7 := hid (H1.out.2.2.2.nul (HT.out.up.trans U7.out))
      have HL7 : Hid (LL FS w7 gl 0 4 fun i => some (dat L z (4 * k + i))) := ⟨fun i hi => by
        refine ⟨_, by rw [Nat.zero_add]; exact glc i _ (lnV_at hi), bd (4 * k + i), 0, L, by rw [dat_length], ?_⟩
        have hb := (HD0.out.rows (4 * k + i) (by omega)).up U7.out id
        exact ⟨by have := hb.row 0 L (by rw [dat_length]; omega); rwa [List.drop_zero, List.take_of_length_le (by rw [dat_length]; exact Nat.le_refl _)] at this, hb.lt, HDF.out.2 _ (by omega)⟩, glt, (H1.out.2.2.2.nxt (H1.out.2.2.2.nul HT.out.up)).lt glo⟩
      clear HA1 UA glo glt glc
      have HT7 : Hid (OwnV 30 w1.heap.size w7 u7 (strp k G C) ∧ (∀ t, t < k → TL FS w7 (G t) 6 (stp L z t)) ∧ Up Nul w1 w7) := ⟨HT.out.own.apart U7.out fun _ _ => id, fun t ht => (HT.out.tl t ht).nul U7.out, HT.out.up.trans U7.out⟩
      have HD7 := hid (HD0.out.nul U7.out)
      have HLS := hid (H1.out.2.2.2.nxt HS7.out)
      have HDr := HD0
      have HTr := HT
      have UW7 := U7
      clear HD0 HT U7
      go_wp2_with fail
      refine (refNarrowL HLS.out k hlt).mono ?_
      rintro e w8 ⟨gx, cx, gy, cy, rfl, rx, ry, u8⟩
      have H8 := hid (And.intro (HLS.out.nul u8) (And.intro rx (And.intro ry u8)))
      clear rx ry u8
      go_wp2_with fail
      refine (stringsL (HLS.out.nxt H8.out.1) (HL7.out.nxt H8.out.1) (by omega) (by omega)).mono ?_
      rintro e w9 ⟨gS, cS, rfl, stS, u9⟩
      have n9 := (HLS.out.nxt H8.out.1).nul u9
      have H9 := hid (And.intro (H8.out.1.trans n9) (And.intro (H8.out.2.1.nxt n9) (And.intro (H8.out.2.2.1.nxt n9) (And.intro stS (H8.out.2.2.2.trans u9)))))
      clear stS u9 n9
      go_wp2_with fail
      refine (refEncL (D := fun i => dat L z (4 * k + i)) (L := L) (HLS.out.nxt H9.out.1) H9.out.2.1 H9.out.2.2.1 (ris_length _ _) (ris_length _ _) (by omega) (by omega) (by omega) (by omega) H9.out.2.2.2.1 (fun i _ => dat_length _ _ _) (fun i u => HSD.out _ u) (by omega)).mono ?_
      rintro e wA ⟨gp, cp, rfl, stp', uA⟩
      have HA := hid (And.intro (H9.out.2.2.2.2.trans uA) stp')
      clear stp' uA
      have s0 := HA.out.2.cells 0 (by omega)
      have s1 := HA.out.2.cells 1 (by omega)
      obtain ⟨PA, hPA⟩ : ∃ x, Hid (acrZ 4 L (coefZ 4 2 (ris (4 * k) 4) (ris 14 2)) (fun i => dat L z (4 * k + i)) 0 = x) := ⟨_, rfl⟩
      obtain ⟨PB, hPB⟩ : ∃ x, Hid (acrZ 4 L (coefZ 4 2 (ris (4 * k) 4) (ris 14 2)) (fun i => dat L z (4 * k + i)) 1 = x) := ⟨_, rfl⟩
      rw [hPA.out] at s0
      rw [hPB.out] at s1
      have HPL : Hid (PA.length = L ∧ PB.length = L ∧ (∀ i, PA.getD i 0 < 256) ∧ ∀ i, PB.getD i 0 < 256) := by
        rw [← hPA.out, ← hPB.out]
        exact ⟨acrZ_length _ _ _ _ _, acrZ_length _ _ _ _ _, acrZ_small _ _ _ _ _, acrZ_small _ _ _ _ _⟩
      have hcA := fun W : World => Lib.run_convert_string_bytes (P := Tryz.prog) W 9 22 5 (strOf PA) Tryz.underlying9 Tryz.underlying22 Tryz.underlying5
      have hcB := fun W : World => Lib.run_convert_string_bytes (P := Tryz.prog) W 9 22 5 (strOf PB) Tryz.underlying9 Tryz.underlying22 Tryz.underlying5
      obtain ⟨sA, SA⟩ : ∃ x, Hid (strOf PA = x) := ⟨_, rfl⟩
      obtain ⟨sB, SB⟩ : ∃ x, Hid (strOf PB = x) := ⟨_, rfl⟩
      have zA : sA.size = L := by rw [← SA.out, strOf_size]; exact HPL.out.1
      have zB : sB.size = L := by rw [← SB.out, strOf_size]; exact HPL.out.2.1
      rw [SA.out] at hcA s0
      rw [SB.out] at hcB s1
      rw [zA] at hcA
      rw [zB] at hcB
      have x0 : wA.drew.cell? ⟨gp, 0, none⟩ = some (.string sA) := s0
      have x1 : wA.drew.cell? ⟨gp, 1, none⟩ = some (.string sB) := s1
      have CC : Hid (∀ W : World, Up Nul wA W → W.cell? ⟨gp, 0, none⟩ = some (.string sA) ∧ W.cell? ⟨gp, 1, none⟩ = some (.string sB)) := fun W u => ⟨(u.cell (p := ⟨gp, 0, none⟩) HA.out.2.lt id).trans s0, (u.cell (p := ⟨gp, 1, none⟩) HA.out.2.lt id).trans s1⟩
      clear s0 s1 zA zB
      go_wp2_with fail
      have y0 := (CC.out (Lib.bytesWorld wA.drew 5 sB) (Up.conv (Up.refl _ _).drew _ _)).1
      have y1 := (CC.out (Lib.bytesWorld wA.drew 5 sA) (Up.conv (Up.refl _ _).drew _ _)).2
      have HG : Hid (wr.heap.size ≤ gl ∧ gl < w7.heap.size) := ⟨(by obtain ⟨g', _, e', h', _⟩ := G1.out.row (by rw [lnV_length]; omega); cases e'; exact h'), HL7.out.lt⟩
      have HW7 : Hid (Up Nul wr w7) := UW7.out
      have HK4 : Hid ((lnV 4 L fun i => bd (4 * k + i)).length = 4) := lnV_length _ _ _
      have HB4 : Hid (∀ i, i < 4 → Blk wr (bd (4 * k + i)) (stp L z k i) ∧ (stp L z k i).length = L ∧ bd (4 * k + i) ∉ FS) := fun i hi => ⟨by rw [stp_low hi]; exact HDr.out.rows (4 * k + i) (by omega), stp_length _ _ _ _, HDF.out.2 _ (by omega)⟩
      have HP45 : Hid (stp L z k 4 = PA ∧ stp L z k 5 = PB) := ⟨by rw [← hPA.out]; exact stp_high L z k 0, by rw [← hPB.out]; exact stp_high L z k 1⟩
      have HLr := hid (H1.out.2.2.2.nxt (H1.out.2.2.2.nul HTr.out.up))
      have HSZ : Hid (w1.heap.size ≤ wr.heap.size ∧ wr.heap.size ≤ w7.heap.size) := ⟨HTr.out.up.size, HW7.out.size⟩
      go_region_law (first
        | (refine step_append_vals Tryz.underlying30 info_sl rfl (by omega) (by rfl) (.tmp 33) (.tmp 42) (by rfl) wr.heap.size _ (lnV 4 L fun i => bd (4 * k + i)) (by rfl) (OwnV.apart (S := Nul) G1.out (by repeat (first | exact HA.out.1 | refine Up.alloc ?_ _ | refine Up.conv ?_ _ _ | refine Up.drew ?_)) (fun _ _ => id)) _ 2 _ [_, _] (by rfl) (alloc_two _ _ _ _) (one_two (by rfl) (by rfl)) (by rfl) (by rw [HK4.out]; omega) (Nat.le_trans HSZ.out.2 (Up.size (S := Nul) (by repeat (first | exact HA.out.1 | refine Up.alloc ?_ _ | refine Up.conv ?_ _ _ | refine Up.drew ?_)))) ?_; intro v2 w2 G3 G4; have NS := hid (by first | exact new_stripe (R := stp L z k) (FS := FS) HLr.out HW7.out HG.out.1 HG.out.2 HB4.out HP45.out.1 HP45.out.2 HPL.out.1 HPL.out.2.1 (cnv (X := wA.drew) HPL.out.2.2.1 SA.out (by repeat (first | exact HA.out.1 | refine Up.alloc ?_ _ | refine Up.conv ?_ _ _ | refine Up.drew ?_)) (by repeat (first | exact Up.refl _ _ | refine Up.alloc ?_ _ | refine Up.conv ?_ _ _ | refine Up.drew ?_))) (cnv (X := Lib.bytesWorld wA.drew 5 sA) HPL.out.2.2.2 SB.out (by repeat (first | exact HA.out.1 | refine Up.alloc ?_ _ | refine Up.conv ?_ _ _ | refine Up.drew ?_)) (by repeat (first | exact Up.refl _ _ | refine Up.alloc ?_ _ | refine Up.conv ?_ _ _ | refine Up.drew ?_))) (by repeat (first | exact HA.out.1 | refine Up.alloc ?_ _ | refine Up.conv ?_ _ _ | refine Up.drew ?_)) G3.out G4.out | exact new_stripe (R := stp L z k) (FS := FS) HLr.out HW7.out HG.out.1 HG.out.2 HB4.out HP45.out.1 HP45.out.2 HPL.out.1 HPL.out.2.1 (cnv (X := Lib.bytesWorld wA.drew 5 sB) HPL.out.2.2.1 SA.out (by repeat (first | exact HA.out.1 | refine Up.alloc ?_ _ | refine Up.conv ?_ _ _ | refine Up.drew ?_)) (by repeat (first | exact Up.refl _ _ | refine Up.alloc ?_ _ | refine Up.conv ?_ _ _ | refine Up.drew ?_))) (cnv (X := wA.drew) HPL.out.2.2.2 SB.out (by repeat (first | exact HA.out.1 | refine Up.alloc ?_ _ | refine Up.conv ?_ _ _ | refine Up.drew ?_)) (by repeat (first | exact Up.refl _ _ | refine Up.alloc ?_ _ | refine Up.conv ?_ _ _ | refine Up.drew ?_))) (by repeat (first | exact HA.out.1 | refine Up.alloc ?_ _ | refine Up.conv ?_ _ _ | refine Up.drew ?_)) G3.out G4.out); obtain ⟨⟨g6, c6, rfl, t6, q6⟩, u6⟩ := NS.out; have H6 := hid (And.intro t6 u6); have Q6 := hid q6; clear NS t6 u6 q6 G3 G4)
        | (refine step_append_vals Tryz.underlying26 info_ssl rfl (by omega) (by rfl) (.tmp 32) (.tmp 44) (by rfl) w1.heap.size u7 (strp k G C) (by rfl) (OwnV.alloc (OwnV.apart (S := Nul) HTr.out.own H6.out.2 (fun _ _ => id)) _) _ 1 _ [_] (by rfl) (alloc_one _ _ _) (one_one (by rfl)) (by rfl) (by rw [strp_length]; omega) (Nat.le_trans HSZ.out.1 (H6.out.2.alloc _).size) ?_; intro v3 w3 G5 G6))
      all_goals
        go_wp2
        go_roundw
        case rel => exact ⟨k + 1, by omega, by go_num, (fun t => if t = k then g6 else G t), (fun t => if t = k then c6 else C t), by rw [strp_next]; exact G5.out, fun t ht => by
          have ho := OwnV.alloc (OwnV.apart (S := Nul) HTr.out.own H6.out.2 (fun _ _ => id)) (.cells #[.slice (some ⟨g6, 0, none⟩) 6 c6] 30)
          by_cases e : t = k
          · subst e
            simp only [if_true]
            exact (H6.out.1.nul ((Up.refl _ _).alloc _)).grown G6 ho
          · simp only [if_neg e]
            exact ((HTr.out.tl t (by omega)).nul (H6.out.2.alloc _)).grown G6 ho, fun t ht => by
          by_cases e : t = k
          · simp only [if_pos e]; exact Q6.out
          · simp only [if_neg e]; exact HTr.out.cap t (by omega), ((HTr.out.up.trans H6.out.2).alloc _).grown G6.out fun x hx => HTr.out.own.base x hx⟩
        case measure => simp [intOf]; omega
    · obtain rfl : k = 3 := by omega
      obtain ⟨go, co, rfl, gb, glt, gc, _, _⟩ := HT.out.own.row (by rw [strp_length]; omega)
      have HGO := hid (And.intro gb (And.intro glt gc))
      clear gb glt gc
      rw [strp_length] at HT ⊢
      have HL := hid ((H1.out.2.1.ll HS.out.1).nxt (H1.out.2.2.2.nul HT.out.up))
      have HLS := hid (H1.out.2.2.2.nxt (H1.out.2.2.2.nul HT.out.up))
      go_wp2_with fail
      refine (stringsL HLS.out HL.out (by omega) (by omega)).mono ?_
      rintro e w2 ⟨gS, cS, rfl, stS, u2⟩
      have H2 := hid (And.intro stS u2)
      clear stS u2
      go_wp2
      go_ret2
      exact ⟨go, co, gS, cS, G, C, rfl, OwnV.weak (OwnV.apart (S := Nul) HT.out.own H2.out.2 (fun _ _ => id)) H1.out.2.2.1.size, fun t ht => (HT.out.tl t ht).nul H2.out.2, ⟨fun t ht => (H2.out.2.cell (p := ⟨go, t, none⟩) HGO.out.2.1 id).trans (HGO.out.2.2 t _ (strp_at ht)), Nat.lt_of_lt_of_le HGO.out.2.1 H2.out.2.size, H1.out.2.2.2.lt HGO.out.1, fun t ht => ((HT.out.tl t ht).nul H2.out.2).ll, HT.out.cap⟩, H2.out.1, (H1.out.2.2.1.trans HT.out.up).trans H2.out.2⟩
end Go.Proofs.YtmaffnadmfphpaaGreat
