/- The statements' own 'awake'. -/
import Derived.Test.YtebglmfdchfplaaCodeMade
namespace Go.Proofs.Ytebglmfdchfplaa
open Go.RowKit
set_option linter.unusedVariables false

/-- A new row of bytes. -/
theorem LR.mk1 {w0 w : World} {FS : List Nat} (h : LS w0 FS w) (z : List Nat) (hz : ∀ x ∈ z, x < 256) : LR FS (w.alloc (.cells (bys z) 5)) w.heap.size 0 z := by
  have hb := Blk.new w z hz
  have hr := hb.row 0 z.length (by omega)
  rw [List.drop_zero, List.take_of_length_le (Nat.le_refl _)] at hr
  exact ⟨hr, hb.lt, h.lt (Nat.le_refl _)⟩
def awS (t : Nat) : Option (List Nat) := if t = 1 then some [0] else if t = 2 then some [142] else none
def awT (t : Nat) : Option (List Nat) := if t = 2 then some [142] else none
def awD (t : Nat) : List Nat := if t = 0 then [1] else [0]
theorem aw_enc : acrZ 2 1 (coefZ 2 1 [0, 1] [2]) awD 0 = [142] := by decide +kernel
theorem awS_tl : 2 ≤ (Tl awS (2 + 1)).length := by decide
theorem awT_tl : (Tl awT (2 + 1)).length < 2 := by decide
theorem aw_dst : Dst ([0, 1] ++ [2]) := by
  intro i j hi hj e
  have hi : i < 3 := hi
  have hj : j < 3 := hj
  rcases (show i = 0 ∨ i = 1 ∨ i = 2 by omega) with rfl | rfl | rfl <;> rcases (show j = 0 ∨ j = 1 ∨ j = 2 by omega) with rfl | rfl | rfl <;> first | rfl | (revert e; decide)
/-- A new row of shards. -/
theorem LL.mk1 {w0 w : World} {FS : List Nat} {n : Nat} {S : Nat → Option (List Nat)} (h : LS w0 FS w) (vs : Array Value) (t : TypeId) (hv : ∀ i, i < n → ∃ v, vs[i]? = some v ∧ Shd FS w v (S i)) : LL FS (w.alloc (.cells vs t)) w.heap.size 0 n S := by
  have m := h.alloc (.cells vs t)
  refine ⟨fun i hi => ?_, by simp, h.lt (Nat.le_refl _)⟩
  obtain ⟨v, e, hs⟩ := hv i hi
  exact ⟨v, by rw [Nat.zero_add, World.cell?_alloc_new]; exact e, hs.nxt m⟩
theorem aw_right {M : GfM.Mx} (hM : GfM.run 2 (GfM.beside 2 (cz 2 (pickZ 2 2 (unitZ 2 ++ coefZ 2 1 [0, 1] [2]) fun i => (Tl awS (2 + 1)).getD i 0))) 2 = some M) : decZ 2 1 1 (coefZ 2 1 [0, 1] [2]) awS M 0 = [1] := by
  refine (dec_right (D := awD) stack_small (fun i _ => by unfold awD; split <;> rfl) (fun i j => ?_) awS_tl (fun t ht z e => ?_) hM (by omega)).trans rfl
  · unfold awD
    split
    · exact small_getD (by decide) _
    · exact small_getD (by decide) _
  · have ht : t < 3 := ht
    match t, ht with
    | 0, _ => cases e
    | 1, _ => cases e; rfl
    | 2, _ => cases e; exact aw_enc.symm

set_option maxRecDepth 100000 in
set_option maxHeartbeats 3200000 in
theorem awake_any (w : World) : Calls Try.prog 8 #[] w fun e w' => e = .returned (.bool true) ∧ Up Nul w w' := by
  go_enter Try.func8, Try.ntmps8
  go_wp2_with fail
  refine (gfNewF _).mono ?_
  rintro e w1 ⟨F, rfl, n1⟩
  have H1 := hid ((LS.start w).newF n1)
  clear n1
  go_wp2_with fail
  have hs1 := H1.out.alloc (.cells #[.int .u8 0, .int .u8 1] 5)
  have hl1 := H1.out.nxt hs1
  have hs2 := hl1.alloc (.cells #[.int .u8 2] 5)
  have hx : LR [F] (w1.alloc (.cells #[.int .u8 0, .int .u8 1] 5)) w1.heap.size 0 [0, 1] := LR.mk1 H1.out [0, 1] (by decide)
  have hy : LR [F] ((w1.alloc (.cells #[.int .u8 0, .int .u8 1] 5)).alloc (.cells #[.int .u8 2] 5)) (w1.heap.size + 1) 0 [2] := by
    have := LR.mk1 hl1 [2] (by decide)
    have e : (w1.alloc (.cells #[.int .u8 0, .int .u8 1] 5)).heap.size = w1.heap.size + 1 := by simp
    rw [e] at this
    exact this
  refine (new_code [F] w _ F w1.heap.size 0 (w1.heap.size + 1) 0 2 1 2 1 [0, 1] [2] (hl1.nxt hs2) (List.mem_cons_self ..) (hx.nxt hs2) hy rfl rfl (by omega) (by omega) (by omega) (by omega) aw_dst).mono ?_
  rintro e w2 ⟨c, pp, pq, sp, sq, rfl, c2, n2⟩
  have H2 := hid (And.intro ((hl1.nxt hs2).nxt n2) c2)
  clear hs1 hl1 hs2 hx hy n2 c2 H1
  go_wp2_with fail
  have ha1 := H2.out.1.alloc (.cells #[.int .u8 1] 5)
  have hl1 := H2.out.1.nxt ha1
  have ha2 := hl1.alloc (.cells #[.int .u8 0] 5)
  have hl2 := hl1.nxt ha2
  have e1 : (w2.alloc (.cells #[.int .u8 1] 5)).heap.size = w2.heap.size + 1 := by simp
  have e2 : ((w2.alloc (.cells #[.int .u8 1] 5)).alloc (.cells #[.int .u8 0] 5)).heap.size = w2.heap.size + 1 + 1 := by simp
  have r1 : LR [F] ((w2.alloc (.cells #[.int .u8 1] 5)).alloc (.cells #[.int .u8 0] 5)) w2.heap.size 0 [1] := LR.nxt (LR.mk1 H2.out.1 [1] (by decide)) ha2
  have r2 : LR [F] ((w2.alloc (.cells #[.int .u8 1] 5)).alloc (.cells #[.int .u8 0] 5)) (w2.heap.size + 1) 0 [0] := by
    have := LR.mk1 hl1 [0] (by decide)
    rw [e1] at this
    exact this
  have ll := LL.mk1 (n := 2) (S := fun i => some (awD i)) hl2 #[.slice (some ⟨w2.heap.size, 0, none⟩) 1 1, .slice (some ⟨w2.heap.size + 1, 0, none⟩) 1 1] 22 (fun i hi => by
    match i, hi with
    | 0, _ => exact ⟨_, rfl, _, _, _, rfl, r1⟩
    | 1, _ => exact ⟨_, rfl, _, _, _, rfl, r2⟩)
  have ha3 := hl2.alloc (.cells #[.slice (some ⟨w2.heap.size, 0, none⟩) 1 1, .slice (some ⟨w2.heap.size + 1, 0, none⟩) 1 1] 22)
  rw [e2] at ll
  refine (enc_good [F] w _ c F 2 1 pp pq sp sq (coefZ 2 1 [0, 1] [2]) (w2.heap.size + 1 + 1) 0 2 1 awD (hl2.nxt ha3) (((H2.out.2.nxt ha1).nxt ha2).nxt ha3) ll (fun i _ => by unfold awD; split <;> rfl) (by omega)).mono ?_
  rintro e w3 ⟨gl, b, rfl, h1, h2⟩
  have n3 := (hl2.nxt ha3).one (List.mem_cons_self ..) h1.up h2
  have p3 := h1.ll (hl2.nxt ha3)
  have H3 : Hid (LS w [F] w3 ∧ CD [F] w3 c F 2 1 pp pq sp sq (coefZ 2 1 [0, 1] [2]) ∧ LL [F] w3 gl 0 1 fun _ => some [142]) := ⟨(hl2.nxt ha3).nxt n3, (((H2.out.2.nxt ha1).nxt ha2).nxt ha3).nxt n3, p3.congr fun i hi => by
    have : i = 0 := by omega
    subst this
    rw [aw_enc]⟩
  clear ha1 hl1 ha2 hl2 e1 e2 r1 r2 ll ha3 h1 h2 n3 p3 H2
  go_wp2_with fail
  have ha1 := H3.out.1.alloc (.cells #[.int .u8 0] 5)
  have hl1 := H3.out.1.nxt ha1
  have ha2 := hl1.alloc (.cells #[.int .u8 142] 5)
  have hl2 := hl1.nxt ha2
  have e1 : (w3.alloc (.cells #[.int .u8 0] 5)).heap.size = w3.heap.size + 1 := by simp
  have e2 : ((w3.alloc (.cells #[.int .u8 0] 5)).alloc (.cells #[.int .u8 142] 5)).heap.size = w3.heap.size + 1 + 1 := by simp
  have r1 : LR [F] ((w3.alloc (.cells #[.int .u8 0] 5)).alloc (.cells #[.int .u8 142] 5)) w3.heap.size 0 [0] := LR.nxt (LR.mk1 H3.out.1 [0] (by decide)) ha2
  have r2 : LR [F] ((w3.alloc (.cells #[.int .u8 0] 5)).alloc (.cells #[.int .u8 142] 5)) (w3.heap.size + 1) 0 [142] := by
    have := LR.mk1 hl1 [142] (by decide)
    rw [e1] at this
    exact this
  have ll := LL.mk1 (n := 3) (S := awS) hl2 #[.slice none 0 0, .slice (some ⟨w3.heap.size, 0, none⟩) 1 1, .slice (some ⟨w3.heap.size + 1, 0, none⟩) 1 1] 22 (fun i hi => by
    match i, hi with
    | 0, _ => exact ⟨_, rfl, rfl⟩
    | 1, _ => exact ⟨_, rfl, _, _, _, rfl, r1⟩
    | 2, _ => exact ⟨_, rfl, _, _, _, rfl, r2⟩)
  have ha3 := hl2.alloc (.cells #[.slice none 0 0, .slice (some ⟨w3.heap.size, 0, none⟩) 1 1, .slice (some ⟨w3.heap.size + 1, 0, none⟩) 1 1] 22)
  rw [e2] at ll
  obtain ⟨M, hM⟩ := Tl_regular (k := 2) (r := 1) (X := [0, 1]) (Y := [2]) awS rfl rfl aw_dst (small_getD (by decide)) (small_getD (by decide)) awS_tl
  refine (decode_good [F] w _ c F 2 1 pp pq sp sq (coefZ 2 1 [0, 1] [2]) (w3.heap.size + 1 + 1) 0 3 3 1 awS M (hl2.nxt ha3) (((H3.out.2.1.nxt ha1).nxt ha2).nxt ha3) ll rfl (fun t ht z e => by
    match t, ht with
    | 0, _ => cases e
    | 1, _ => cases e; rfl
    | 2, _ => cases e; rfl) (by omega) awS_tl hM).mono ?_
  rintro e w4 ⟨gm, capm, bm, rfl, h1, h2⟩
  have n4 := (hl2.nxt ha3).one (List.mem_cons_self ..) h1.up h2
  have p4 := h1.ll (hl2.nxt ha3)
  have nn := ((ha1.trans ha2).trans ha3).trans n4
  have H4 : Hid (LS w [F] w4 ∧ CD [F] w4 c F 2 1 pp pq sp sq (coefZ 2 1 [0, 1] [2]) ∧ (LL [F] w4 gl 0 1 fun _ => some [142]) ∧ LL [F] w4 gm 0 1 fun _ => some [1]) := ⟨H3.out.1.nxt nn, H3.out.2.1.nxt nn, H3.out.2.2.nxt nn, (p4.sub 0 1 (by omega)).congr fun i hi => by
    have : i = 0 := by omega
    subst this
    rw [aw_right hM]⟩
  clear ha1 hl1 ha2 hl2 e1 e2 r1 r2 ll ha3 h1 h2 n4 p4 nn H3 hM
  go_wp2_with fail
  have ha1 := H4.out.1.alloc (.cells #[.int .u8 142] 5)
  have hl1 := H4.out.1.nxt ha1
  have e1 : (w4.alloc (.cells #[.int .u8 142] 5)).heap.size = w4.heap.size + 1 := by simp
  have r1 : LR [F] (w4.alloc (.cells #[.int .u8 142] 5)) w4.heap.size 0 [142] := LR.mk1 H4.out.1 [142] (by decide)
  have ll := LL.mk1 (n := 3) (S := awT) hl1 #[.slice none 0 0, .slice none 0 0, .slice (some ⟨w4.heap.size, 0, none⟩) 1 1] 22 (fun i hi => by
    match i, hi with
    | 0, _ => exact ⟨_, rfl, rfl⟩
    | 1, _ => exact ⟨_, rfl, rfl⟩
    | 2, _ => exact ⟨_, rfl, _, _, _, rfl, r1⟩)
  have ha3 := hl1.alloc (.cells #[.slice none 0 0, .slice none 0 0, .slice (some ⟨w4.heap.size, 0, none⟩) 1 1] 22)
  rw [e1] at ll
  refine (decode_lost [F] w _ c F 2 1 pp pq sp sq (coefZ 2 1 [0, 1] [2]) (w4.heap.size + 1) 0 3 3 1 awT (hl1.nxt ha3) ((H4.out.2.1.nxt ha1).nxt ha3) ll rfl (fun t ht z e => by
    match t, ht with
    | 0, _ => cases e
    | 1, _ => cases e
    | 2, _ => cases e; rfl) (by omega) awT_tl).mono ?_
  rintro e w5 ⟨rfl, u5⟩
  have nn := (ha1.trans ha3).trans ((hl1.nxt ha3).nul u5)
  have H5 := hid (And.intro (H4.out.1.nxt nn) (And.intro (H4.out.2.2.1.nxt nn) (H4.out.2.2.2.nxt nn)))
  clear ha1 hl1 e1 r1 ll ha3 nn u5 H4
  obtain ⟨b1, o1, k1, x1, y1⟩ := H5.out.2.1.at (i := 0) (by omega) rfl
  obtain ⟨b2, o2, k2, x2, y2⟩ := H5.out.2.2.at (i := 0) (by omega) rfl
  rw [Nat.add_zero] at x1 x2
  have z1 := conv_row (cap := k1) y1.row (rfl : [142].length = 1)
  have z2 := conv_row (cap := k2) y2.row (rfl : [1].length = 1)
  have z1' : (convert 22 9 (.slice (some ⟨b1, o1, none⟩) 1 k1)).run Try.prog w5 = .ok (.string ⟨#[142]⟩) w5 := z1
  have z2' : (convert 22 9 (.slice (some ⟨b2, o2, none⟩) 1 k2)).run Try.prog w5 = .ok (.string ⟨#[1]⟩) w5 := z2
  have x1' : w5.cell? ⟨gl, 0, none⟩ = some (.slice (some ⟨b1, o1, none⟩) 1 k1) := x1
  have x2' : w5.cell? ⟨gm, 0, none⟩ = some (.slice (some ⟨b2, o2, none⟩) 1 k2) := x2
  clear x1 x2 y1 y2 z1 z2
  go_wp2
  go_ret
  exact ⟨rfl, H5.out.1.up⟩
theorem awakeL {w0 w : World} {FS : List Nat} (h : LS w0 FS w) : Calls Try.prog 8 #[] w fun e w' => e = .returned (.bool true) ∧ Nxt FS w w' :=
  (awake_any w).mono fun e w' ⟨h1, h2⟩ => ⟨h1, h.nul h2⟩
end Go.Proofs.Ytebglmfdchfplaa
