/- The program's Bay: 'Write', 'Scan'. -/
import Derived.Test.YtfmgbmpdifjliaaBayReal2
namespace Go.Proofs.Ytfmgbmpdifjliaa
open Go.RowKit
set_option linter.unusedVariables false
section
variable {w w' : World} {q b ub n : Nat} {U : Nat → Bool} {F : Nat → Prop}
theorem pwrite_bad (h : PBs w q b n U F) (hn : n ≤ 64) (x id : Int) (a : Option Addr) (l c : Nat) (z : List Nat) (hz : SlN w a l z) (hc : l ≤ c) (hid1 : -9223372036854775808 ≤ id ∧ id ≤ 9223372036854775807) (hx : x < 0 ∨ (n : Int) ≤ x ∨ U x.toNat = false ∨ id < 0 ∨ 4294967295 < id ∨ 64 < l) :
    Calls Try.prog 11 #[.pointer (some ⟨q, 0, none⟩), .int .i64 x, .int .i64 id, .slice a l c] w fun e w' => e = .returned (.int .i64 1) ∧ Up Nul w w' := by
  obtain ⟨ub, h1, _⟩ := h
  by_cases h0 : x < 0 ∨ (n : Int) ≤ x
  · have HL := hid (plack_yes h1 x h0)
    clear h1 hz hx hn h0
    go_enter Try.func11, Try.ntmps11
    go_wp2_with fail
    refine HL.out.mono ?_
    rintro e w1 ⟨rfl, rfl⟩
    go_wp2
    go_ret
    exact ⟨rfl, Up.refl _ _⟩
  · obtain ⟨i, rfl⟩ : ∃ i : Nat, x = i := ⟨x.toNat, by omega⟩
    have hi : i < n := by omega
    have i1 : (i : Int) < (n : Int) := by omega
    have cu := h1.row.cell hi
    have c1 := h1.c1
    have HL := hid (plack_no h1 i hi)
    cases hu : U i with
    | false =>
      rw [hu] at cu
      clear h1 hz hx hn h0 hu
      go_enter Try.func11, Try.ntmps11
      go_wp2_with fail
      refine HL.out.mono ?_
      rintro e w1 ⟨rfl, rfl⟩
      go_wp2
      go_ret
      exact ⟨rfl, Up.refl _ _⟩
    | true =>
      rw [hu] at cu
      have HF := hid (put_bad id a l c w hid1 hz.le (by
        rcases hx with e | e | e | e
        · exact absurd (.inl e) h0
        · exact absurd (.inr e) h0
        · simp [hu] at e
        · omega))
      clear h1 hz hx hn h0 hu
      go_enter Try.func11, Try.ntmps11
      go_wp2_with fail
      refine HL.out.mono ?_
      rintro e w1 ⟨rfl, rfl⟩
      go_wp2_with fail
      refine HF.out.mono ?_
      rintro e w2 ⟨rfl, rfl⟩
      go_wp2
      go_ret
      exact ⟨rfl, Up.refl _ _⟩
theorem pwrite_good (h : PBs w q b n U F) (hn : n ≤ 64) (i id : Nat) (a : Option Addr) (l c : Nat) (z : List Nat) (P : Int → World → Prop) (hz : SlN w a l z) (hc : l ≤ c) (hi : i < n) (hu : U i = true) (hid1 : id < 4294967296) (hl : l ≤ 64)
    (hw : ∀ w1 a1 c1, Up Nul w w1 → SlN w1 a1 96 (FrM.fr id z) → (∀ y, a1 = some y → ∃ A, w1.heap[y.block]? = some (Obj.cells A 5 (0, 0))) → Calls Try.prog 44 #[.pointer (some ⟨b, 0, none⟩), .int .i64 (i : Nat), .slice a1 96 c1] w1 fun e w2 => ∃ code, e = .returned (.int .i64 code) ∧ P code w2) :
    Calls Try.prog 11 #[.pointer (some ⟨q, 0, none⟩), .int .i64 (i : Nat), .int .i64 (id : Nat), .slice a l c] w fun e w2 => ∃ code, e = .returned (.int .i64 code) ∧ P code w2 := by
  have HF := hid (put_good id a l c z w hid1 hl hz)
  have HZ : Hid (z.length ≤ 64) := by show _ ≤ _; rw [hz.len]; exact hl
  have HW := hid hw
  obtain ⟨ub, h1, _⟩ := h
  have H := hid h1
  have HI := hid hi
  have HL := hid (plack_no h1 i hi)
  have i1 : (i : Int) < (n : Int) := by omega
  have c1 := h1.c1
  have cu := h1.row.cell hi
  rw [hu] at cu
  clear h1 hz hl hw hid1 hi hu hn
  go_enter Try.func11, Try.ntmps11
  go_wp2_with fail
  refine HL.out.mono ?_
  rintro e w1 ⟨rfl, rfl⟩
  go_wp2_with fail
  refine HF.out.mono ?_
  rintro e w2 ⟨rfl, bl, u⟩
  have HU := hid u
  have HBL := hid bl
  have c0 := (H.out.nxt u).c0
  clear u bl
  go_wp2_with fail
  refine (HW.out w2 _ _ HU.out (fr_sln HBL.out HZ.out) (fun y hy => by injection hy with hy; rw [← hy]; exact ⟨_, HBL.out.heap⟩)).mono ?_
  rintro e w3 ⟨code, rfl, hp⟩
  have HP := hid hp
  clear hp
  go_wp2
  go_ret
  exact ⟨_, rfl, HP.out⟩
theorem pscan_gone {w0 : World} {fu k : Option Nat} {R : Nat → List Nat} {ps : List (Nat × List Nat)} (h : PBr w q b ub n U) (hd : H w0 w b n fu k false R ps) (hn : n ≤ 64) :
    Calls Try.prog 14 #[.pointer (some ⟨q, 0, none⟩)] w fun e w' => e = .returned (.slice none 0 0) ∧ Up Nul w w' := by
  have HB := hid h
  have HD := hid hd
  have HN := hid hn
  have c1 := h.c1
  clear h hd hn
  go_enter Try.func14, Try.ntmps14
  go_wp2_with fail
  clear c1
  go_loopw [3, 15] (fun v i wr => ∃ t : Nat, t ≤ n ∧ i = .int .i64 (t : Nat) ∧ v = .slice none 0 0 ∧ Up Nul w wr) (fun _ i _ => n - (intOf i).toNat)
  case atStart => exact ⟨0, Nat.zero_le _, rfl, rfl, Up.refl _ _⟩
  case round =>
    obtain ⟨t, ht, rfl, rfl, hu⟩ := hrel
    have HU := hid hu
    clear hu
    have i0 : (0 : Int) ≤ (t : Int) := by omega
    have i2 : (t : Int) ≤ 64 := by have := HN.out; omega
    by_cases hlt : t < n
    · have i1 : (t : Int) < (n : Int) := by omega
      have HT := hid hlt
      have c0 := (HB.out.nxt HU.out).c0
      clear hlt ht
      have HR := hid (readH_gone (HD.out.nxt HU.out) HT.out)
      go_wp2_with fail
      refine HR.out.mono ?_
      rintro e w2 ⟨rfl, rfl⟩
      have HK := hid (take_no none 0 0 [] w2 (tk_len (by decide)) ⟨rfl, .inl rfl, by omega⟩ (Nat.le_refl _))
      go_wp2_with fail
      refine HK.out.mono ?_
      rintro e w3 ⟨rfl, u⟩
      have HU2 := hid (HU.out.trans u)
      clear u c0
      go_wp2_with fail
      go_roundw
      case rel => exact ⟨t + 1, HT.out, by go_num, rfl, HU2.out⟩
      case measure => have := HT.out; simp [intOf]; omega
    · obtain rfl : t = n := by omega
      go_wp2_with fail
      go_ret
      exact ⟨rfl, HU.out⟩
set_option maxHeartbeats 800000 in
theorem pscan_live {w0 : World} {fu k : Option Nat} {R : Nat → List Nat} {ps : List (Nat × List Nat)} (h : PBr w q b ub n U) (hd : H w0 w b n fu k true R ps) (hn : n ≤ 64) :
    Calls Try.prog 14 #[.pointer (some ⟨q, 0, none⟩)] w fun e w' => ∃ v, e = .returned v ∧ OwnK w.heap.size w' v (scn R n) ∧ Up Nul w w' := by
  have HB := hid h
  have HD := hid hd
  have HN := hid hn
  have c1 := h.c1
  clear h hd hn
  go_enter Try.func14, Try.ntmps14
  go_wp2_with fail
  clear c1
  go_loopw [3, 15] (fun v i wr => ∃ t : Nat, t ≤ n ∧ i = .int .i64 (t : Nat) ∧ OwnK w.heap.size wr v (scn R t) ∧ Up Nul w wr) (fun _ i _ => n - (intOf i).toNat)
  case atStart => exact ⟨0, Nat.zero_le _, rfl, OwnK.nil _ _, Up.refl _ _⟩
  case round =>
    obtain ⟨t, ht, rfl, ho, hu⟩ := hrel
    have HO := hid ho
    have HU := hid hu
    clear ho hu
    obtain ⟨va, vc, rfl⟩ := HO.out.shape
    have i0 : (0 : Int) ≤ (t : Int) := by omega
    have i2 : (t : Int) ≤ 64 := by have := HN.out; omega
    by_cases hlt : t < n
    · have i1 : (t : Int) < (n : Int) := by omega
      have HT := hid hlt
      have c0 := (HB.out.nxt HU.out).c0
      clear hlt ht
      have HR := hid (readH (HD.out.nxt HU.out) HT.out)
      obtain ⟨L, LL⟩ : ∃ L, Hid ((scn R t).length = L) := ⟨_, rfl⟩
      have HLL : Hid (L ≤ 64) := by show _ ≤ _; have := scn_length R t; have := HT.out; have := HN.out; rw [LL.out] at *; omega
      rw [LL.out] at HO ⊢
      go_wp2_with fail
      refine HR.out.mono ?_
      rintro e w2 ⟨ra, rc, rfl, g⟩
      have G := hid g
      clear g
      go_wp2_with fail
      refine (take_any ra 96 rc (R t) w2 G.out.sl G.out.cap).mono ?_
      unfold Took
      rintro e w3 (⟨a2, c2, h1, rfl, g2⟩ | ⟨h1, rfl, u⟩)
      · have HY := hid (scn_yes h1)
        have HU2 := hid ((HU.out.trans G.out.up).trans g2.up)
        have HO2 := hid ((HO.out.up G.out.up fun _ _ _ => id).up g2.up fun _ _ _ => id)
        have HDL : Hid ((FrM.datOf (R t)).length = (R t).getD 1 0) := g2.sl.len
        rw [HDL.out] at HY
        clear h1 g2 HDL c0
        generalize (R t).getD 1 0 = dl at HY ⊢
        generalize FrM.idOf (R t) = iz at HY ⊢
        have HCK : Hid (∀ (W : World) j u, (Ck.cells ⟨t, iz, dl⟩)[j]? = some u → (W.alloc (.cells #[.int .i64 (t : Nat), .int .i64 (iz : Nat), .int .i64 (dl : Nat)] 38)).cell? (Addr.add ⟨W.heap.size, 0, none⟩ j) = some u) := fun W j u hj => by
          rw [add_off, Nat.zero_add, World.cell?_alloc_new]
          simpa [Ck.cells] using hj
        go_wp2_with (first
          | (at_builtin; refine wpList_append_ck rfl (.tmp 34) (.tmp 40) rfl w.heap.size _ (scn R t) rfl (HO2.out.alloc _) ⟨w3.heap.size, 0, none⟩ 1 ⟨t, iz, dl⟩ rfl (HCK.out w3) (by rw [LL.out]; have := HLL.out; omega) (HU2.out.alloc _).size ?_; intro v4 w4 H4 K4)
          | fail)
        have H5 : Hid (OwnK w.heap.size w4 v4 (scn R (t + 1))) := by show OwnK _ _ _ _; rw [HY.out]; exact H4.out
        have U3 : Hid (Up Nul w w4) := (HU2.out.alloc _).grown K4.out fun q hq => HO2.out.base q hq
        clear HY H4 K4
        go_wp2_with fail
        go_roundw
        case rel => exact ⟨t + 1, HT.out, by go_num, H5.out, U3.out⟩
        case measure => have := HT.out; simp [intOf]; omega
      · have HY := hid (scn_no h1)
        have HU2 := hid ((HU.out.trans G.out.up).trans u)
        have HO2 : Hid (OwnK w.heap.size w3 (.slice va L vc) (scn R (t + 1))) := by show OwnK _ _ _ _; rw [HY.out]; exact (HO.out.up G.out.up fun _ _ _ => id).up u fun _ _ _ => id
        clear h1 u HY
        go_wp2_with fail
        go_roundw
        case rel => exact ⟨t + 1, HT.out, by go_num, HO2.out, HU2.out⟩
        case measure => have := HT.out; simp [intOf]; omega
    · obtain rfl : t = n := by omega
      go_wp2_with fail
      go_ret
      exact ⟨_, rfl, HO.out, HU.out⟩
theorem pscan_any {w0 : World} {fu k : Option Nat} {live : Bool} {R : Nat → List Nat} {ps : List (Nat × List Nat)} (h : PBs w q b n U F) (hd : H w0 w b n fu k live R ps) (hn : n ≤ 64) (h8 : ∀ s, s < n → ∀ v ∈ R s, v < 256) :
    Calls Try.prog 14 #[.pointer (some ⟨q, 0, none⟩)] w fun e w' => ∃ v, e = .returned v ∧ OwnK w.heap.size w' v (if live then scn R n else []) ∧ Up Nul w w' := by
  obtain ⟨ub, h1, _⟩ := h
  cases live with
  | false =>
    refine (pscan_gone h1 hd hn).mono ?_
    rintro e w' ⟨rfl, u⟩
    exact ⟨_, rfl, OwnK.nil _ _, u⟩
  | true => exact pscan_live h1 hd hn
end
end Go.Proofs.Ytfmgbmpdifjliaa
