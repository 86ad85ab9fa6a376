/- 'Stored'. -/
import Derived.Test.YtmaffnadmfphpaaGreatConvData
namespace Go.Proofs.YtmaffnadmfphpaaGreat
open Go.RowKit
set_option linter.unusedVariables false

set_option maxRecDepth 100000 in
theorem bclone_any (b o n cap : Nat) (z : List Nat) (w : World) (hr : Row w b o z) (hb : b < w.heap.size) (hz : z.length = n) (n1 : 1 ≤ n) (n64 : n ≤ 64) :
    Calls Tryz.prog 39 #[.slice (some ⟨b, o, none⟩) n cap] w fun e w' => ∃ g c, e = .returned (.slice (some ⟨g, 0, none⟩) n c) ∧ w.heap.size ≤ g ∧ Row w' g 0 z ∧ Typ 5 w' g ∧ Up Nul w w' := by
  have HA : Hid (OwnB w.heap.size (w.alloc (.cells #[] 5)) (.slice (some ⟨w.heap.size, 0, none⟩) 0 0) []) := ⟨World.ownsRow_made w #[] 0 (Nat.le_refl _) (by unfold maxLen; omega) rfl, fun _ h => by cases h⟩
  have UA := hid ((Up.refl Nul w).alloc (.cells #[] 5))
  have HR := hid (And.intro (hr.up UA.out hb id) hz)
  have heq : ∀ w : World, (binOp .eql 22 (.slice (some ⟨b, o, none⟩) n cap) (.slice none 0 0)).run Tryz.prog w = .ok (.bool false) w := fun _ => by kernel_rfl
  clear hr hz
  go_enter Tryz.func39, Tryz.ntmps39
  go_wp2_with (first
    | (at_builtin; refine wpList_append_bytes rfl (.tmp 5) (.tmp 6) rfl w.heap.size _ [] rfl HA.out b o n cap z rfl HR.out.1 HR.out.2 (by show 0 + n ≤ _; omega) UA.out.size ?_; intro v2 w2 H1 H2)
    | go_in)
  rw [List.nil_append] at H1
  have hne : v2 ≠ .slice none 0 0 := fun e => by
    subst e
    rcases H1.out.own.2 with ⟨_, e0⟩ | ⟨g, cc, cur, e, _⟩
    · have := HR.out.2
      omega
    · cases e
  obtain ⟨g, c, rfl, hg, hp⟩ := H1.out.pc hne
  have HP : Hid (w.heap.size ≤ g ∧ Row w2 g 0 z ∧ Typ 5 w2 g ∧ Up Nul w w2) := ⟨hg, hp.row, by obtain ⟨cur, h⟩ := hp.heap; exact ⟨_, _, h⟩, UA.out.grown H2.out fun q hq => HA.out.base q hq⟩
  rw [HR.out.2]
  clear H1 H2 hg hp hne
  go_wp2
  go_ret
  exact ⟨g, c, rfl, HP.out⟩
set_option maxRecDepth 100000 in
set_option maxHeartbeats 3200000 in
theorem cstoredL (FS : List Nat) (w0 w : World) (ga oa na ca gb ob nb cb L : Nat) (R : Nat → List Nat) (hs : LS w0 FS w) (ha : LL FS w ga oa na fun i => some (R i)) (hb : LL FS w gb ob nb fun i => some (R (na + i))) (lR : ∀ i, i < na + nb → (R i).length = L) (a1 : 1 ≤ na) (a2 : na ≤ 30) (b1 : 1 ≤ nb) (b2 : nb ≤ 30) (L1 : 1 ≤ L) (L64 : L ≤ 64) :
    Calls Tryz.prog 17 #[.slice (some ⟨ga, oa, none⟩) na ca, .slice (some ⟨gb, ob, none⟩) nb cb] w
      fun e w' => ∃ h c, e = .returned (.slice (some ⟨h, 0, none⟩) (na + nb) c) ∧ (LL FS w' h 0 (na + nb) fun i => some (R i)) ∧ Up Nul w w' := by
  have hra := ha.rowL fun j hj => lR j (by omega)
  have hrb := hb.rowL fun j hj => lR (na + j) (by omega)
  have HS := hid (And.intro hs (And.intro ha (And.intro hb lR)))
  have UC := hid ((Up.refl Nul w).alloc (.cells #[.slice (some ⟨ga, oa, none⟩) na ca, .slice (some ⟨gb, ob, none⟩) nb cb] 30))
  have HP := hid (And.intro (rowV_srow (c := ca) ha.lt hra).pt (rowV_srow (c := cb) hb.lt hrb).pt)
  have HFL : Hid ((flat (fun i => if i = 0 then rowV w ga oa na else rowV w gb ob nb) 2).length = na + nb) := by
    show _ = _
    rw [flat_two]
    show (rowV w ga oa na ++ rowV w gb ob nb).length = _
    rw [List.length_append, rowV_length, rowV_length]
  have HC := hid (cats_s w.heap.size 0 2 2 (fun i => if i = 0 then some ⟨ga, oa, none⟩ else some ⟨gb, ob, none⟩) (fun i => if i = 0 then na else nb) (fun i => if i = 0 then ca else cb) (fun i => if i = 0 then rowV w ga oa na else rowV w gb ob nb) (w.alloc (.cells #[.slice (some ⟨ga, oa, none⟩) na ca, .slice (some ⟨gb, ob, none⟩) nb cb] 30)) (by omega) (fun i hi => by
      match i, hi with
      | 0, _ => exact World.cell?_alloc_new w _ _ 0
      | 1, _ => exact World.cell?_alloc_new w _ _ 1) (fun i hi => by
      match i, hi with
      | 0, _ => exact HP.out.1.up UC.out
      | 1, _ => exact HP.out.2.up UC.out) (by rw [HFL.out]; omega) (by rw [HFL.out]; omega))
  obtain ⟨n, NN⟩ : ∃ n, Hid (na + nb = n) := ⟨_, rfl⟩
  rw [NN.out] at HFL ⊢
  have hn60 : n ≤ 60 := by have := NN.out; omega
  clear hs ha hb lR hra hrb
  go_enter Tryz.func17, Tryz.ntmps17
  go_wp2_with fail
  refine HC.out.mono ?_
  rintro e w1 ⟨v, rfl, ho, u1⟩
  obtain ⟨h, c, rfl, hb, hl, hc, hf, _⟩ := OwnV.row ho (by rw [HFL.out]; have := NN.out; omega)
  rw [HFL.out] at ho ⊢
  have HV : Hid (∀ i, i < n → ∃ b o cap, w1.cell? ⟨h, i, none⟩ = some (.slice (some ⟨b, o, none⟩) L cap) ∧ Row w1 b o (R i) ∧ b < w1.heap.size ∧ b ≠ h) := fun i hi => by
    have hx : ∀ v, (flat (fun i => if i = 0 then rowV w ga oa na else rowV w gb ob nb) 2)[i]? = some v → w1.cell? ⟨h, i, none⟩ = some v := fun v => hc i v
    rw [flat_two] at hx
    have U := UC.out.trans u1
    have hW : w.heap.size ≤ h := by have := UC.out.size; omega
    by_cases e : i < na
    · obtain ⟨b, o, cap, e1, r1⟩ := HS.out.2.1.at (i := i) e rfl
      rw [HS.out.2.2.2 i (by have := NN.out; omega)] at e1
      exact ⟨b, o, cap, hx _ (by show (rowV w ga oa na ++ rowV w gb ob nb)[i]? = _; rw [List.getElem?_append_left (by rw [rowV_length]; exact e)]; exact rowV_at e e1), r1.row.up U r1.lt id, Nat.lt_of_lt_of_le r1.lt U.size, by have := r1.lt; omega⟩
    · obtain ⟨d, rfl⟩ : ∃ d, i = na + d := ⟨i - na, by omega⟩
      obtain ⟨b, o, cap, e1, r1⟩ := HS.out.2.2.1.at (i := d) (by have := NN.out; omega) rfl
      rw [HS.out.2.2.2 (na + d) (by have := NN.out; omega)] at e1
      exact ⟨b, o, cap, hx _ (by show (rowV w ga oa na ++ rowV w gb ob nb)[na + d]? = _; rw [List.getElem?_append_right (by rw [rowV_length]; omega), rowV_length, Nat.add_sub_cancel_left]; exact rowV_at (by have := NN.out; omega) e1), r1.row.up U r1.lt id, Nat.lt_of_lt_of_le r1.lt U.size, by have := r1.lt; omega⟩
  have HH := hid (And.intro (show w.heap.size ≤ h by have := UC.out.size; omega) (And.intro hl hf))
  have HU := hid (UC.out.trans u1)
  have HW : Hid (w.heap.size ≤ w1.heap.size) := HU.out.size
  have HLR : Hid (∀ i, i < n → (R i).length = L) := fun i hi => HS.out.2.2.2 i (by have := NN.out; omega)
  clear ho hb hl hc hf u1 HC HFL HP
  go_wp2_with fail
  go_loopw [14] (fun i wr => ∃ k : Nat, k ≤ n ∧ i = .int .i64 k ∧ Up Nul w wr ∧ (Up (One h) w1 wr ∧ ∀ i, wr.frozen? ⟨h, i, none⟩ = false) ∧ (∀ i, i < k → ∃ q cq, wr.cell? ⟨h, i, none⟩ = some (.slice (some ⟨q, 0, none⟩) L cq) ∧ Row wr q 0 (R i) ∧ q < wr.heap.size ∧ w1.heap.size ≤ q) ∧ ∀ i, k ≤ i → wr.cell? ⟨h, i, none⟩ = w1.cell? ⟨h, i, none⟩) (fun i _ => n - (intOf i).toNat)
  case atStart => exact ⟨0, by omega, rfl, HU.out, ⟨Up.refl _ _, HH.out.2.2⟩, fun _ hh => absurd hh (Nat.not_lt_zero _), fun _ _ => rfl⟩
  case round =>
    clear HU
    obtain ⟨k, hk, rfl, hu, hu1, hd, hr⟩ := hrel
    have HI := hid (And.intro hu (And.intro hu1 (And.intro hd hr)))
    clear hu hu1 hd hr
    by_cases hlt : k < n
    · obtain ⟨b, o, cap, x0, r0, bl, bh⟩ := HV.out k hlt
      have x1 := (HI.out.2.2.2 k (Nat.le_refl _)).trans x0
      have HCL := hid (bclone_any b o L cap (R k) wr (r0.up HI.out.2.1.1 bl bh) (Nat.lt_of_lt_of_le bl HI.out.2.1.1.size) (HLR.out k hlt) L1 L64)
      have i1 : (0 : Int) ≤ (k : Int) := by omega
      have i2 : (k : Int) < (n : Int) := by omega
      clear x0 r0 bl bh
      go_wp2_with fail
      refine HCL.out.mono ?_
      rintro e w2 ⟨q, cq, rfl, hq, hqr, hqt, u2⟩
      have x2 := (u2.cell (p := ⟨h, k, none⟩) (lt_of_cell x1) id).trans x1
      have f2 : w2.frozen? ⟨h, k, none⟩ = false := (u2.froz (p := ⟨h, k, none⟩) (lt_of_cell x1) id).trans (HI.out.2.1.2 k)
      have hlw : h < wr.heap.size := lt_of_cell x1
      have HF2 : Hid (∀ i, w2.frozen? ⟨h, i, none⟩ = false) := fun i => (u2.froz (p := ⟨h, i, none⟩) hlw id).trans (HI.out.2.1.2 i)
      have HQ := hid (And.intro (And.intro hq hqr) (And.intro hqt (And.intro u2 hlw)))
      have HX2 := hid x2
      have HNE : Hid (∀ i, i ≠ k → (⟨h, k, none⟩ : Addr) ≠ ⟨h, i, none⟩ ∧ (⟨h, i, none⟩ : Addr) ≠ ⟨h, k, none⟩) := fun i hi => ⟨fun e => hi (by have := congrArg Addr.off e; exact this.symm), fun e => hi (by have := congrArg Addr.off e; exact this)⟩
      have HW1 : Hid (w1.heap.size ≤ wr.heap.size ∧ h < w1.heap.size) := ⟨HI.out.2.1.1.size, HH.out.2.1⟩
      clear hq hqr hqt u2 hlw x1
      go_wp2
      go_roundw
      case rel => exact ⟨k + 1, by omega, by go_num, (HI.out.1.trans HQ.out.2.2.1).setCell (p := ⟨h, k, none⟩) (.inl HH.out.1) _, ⟨(HI.out.2.1.1.trans HQ.out.2.2.1.nul).setCell (p := ⟨h, k, none⟩) (.inr (show One h h from rfl)) _, fun i => by rw [World.frozen?_setCell]; exact HF2.out i⟩, fun i hi => by
        have hs : Up (One h) w2 (w2.setCell ⟨h, k, none⟩ (.slice (some ⟨q, 0, none⟩) L cq)) := (Up.refl _ _).setCell (p := ⟨h, k, none⟩) (.inr (show One h h from rfl)) _
        by_cases e : i = k
        · subst e
          exact ⟨q, cq, World.cell?_setCell_same _ _ _ HX2.out, HQ.out.1.2.up hs HQ.out.2.1.lt (by have := HQ.out.1.1; have := HQ.out.2.2.2; unfold One; omega), Nat.lt_of_lt_of_le HQ.out.2.1.lt hs.size, Nat.le_trans HW1.out.1 HQ.out.1.1⟩
        · obtain ⟨q', c', e1, e2, e3, e4⟩ := HI.out.2.2.1 i (by omega)
          exact ⟨q', c', (World.cell?_setCell_other _ _ _ _ (by first | exact (HNE.out i e).1 | exact (HNE.out i e).2)).trans ((HQ.out.2.2.1.cell (p := ⟨h, i, none⟩) HQ.out.2.2.2 id).trans e1), (e2.up HQ.out.2.2.1 e3 id).up hs (Nat.lt_of_lt_of_le e3 HQ.out.2.2.1.size) (by have := HW1.out.2; unfold One; omega), Nat.lt_of_lt_of_le (Nat.lt_of_lt_of_le e3 HQ.out.2.2.1.size) hs.size, e4⟩, fun i hi => by
        exact (World.cell?_setCell_other _ _ _ _ (by first | exact (HNE.out i (by omega)).1 | exact (HNE.out i (by omega)).2)).trans ((HQ.out.2.2.1.cell (p := ⟨h, i, none⟩) HQ.out.2.2.2 id).trans (HI.out.2.2.2 i (by omega)))⟩
      case measure => simp [intOf]; omega
    · obtain rfl : n = k := by omega
      have HL : Hid (LL FS wr h 0 n fun i => some (R i)) := ⟨fun i hi => by
        obtain ⟨q', c', e1, e2, e3, e4⟩ := HI.out.2.2.1 i hi
        rw [Nat.zero_add]
        exact ⟨_, e1, q', 0, c', by rw [HLR.out i hi], e2, e3, HS.out.1.lt (by have := HW.out; omega)⟩, Nat.lt_of_lt_of_le HH.out.2.1 HI.out.2.1.1.size, HS.out.1.lt HH.out.1⟩
      go_wp2
      go_ret
      exact ⟨h, c, rfl, HL.out, HI.out.1⟩
end Go.Proofs.YtmaffnadmfphpaaGreat
