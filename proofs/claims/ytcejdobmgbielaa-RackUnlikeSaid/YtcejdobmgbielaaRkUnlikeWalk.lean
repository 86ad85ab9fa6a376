/- The law RackUnlike, walked, whatever the program's Rack is. -/
import Derived.Test.YtcejdobmgbielaaRkArg
import Derived.Deep.CutBlock
import Derived.Deep.DeepCutAuto
import Derived.Deep.QuietTactic
namespace Go.Proofs.Ytcejdobmgbielaa
open Go.RowKit
set_option linter.unusedVariables false

theorem getD_at {p : List Nat} {t : Nat} (h : t < p.length) : p.getD t 0 = p[t] := by simp [List.getD_eq_getElem?_getD, h]
theorem H18.new (w : World) (cs : Array Value) (h : cs = bls 18 fun _ => false) : H18 (w.alloc (.cells cs 44)) w.heap.size (fun _ => false) := ⟨by rw [← h]; exact heap_alloc_new _ _⟩
abbrev Z18 : Array Value := #[.bool false, .bool false, .bool false, .bool false, .bool false, .bool false, .bool false, .bool false, .bool false, .bool false, .bool false, .bool false, .bool false, .bool false, .bool false, .bool false, .bool false, .bool false]
/-- Which disks are live. -/
def LvG (D : Nat → DS) (G : Nat → Bool) : Prop := ∀ d, d < 18 → (D d).live = !(G d)
theorem LvG.take {m : Nat} {D D' : Nat → DS} {G : Nat → Bool} {p : List Nat} (hl : LvG D G) (h1 : ∀ d ∈ p, D' d = tkD m (D d)) (h2 : ∀ d, d ∉ p → D' d = D d) : LvG D' G := by
  intro d hd
  by_cases e : d ∈ p
  · rw [h1 d e]; exact hl d hd
  · rw [h2 d e]; exact hl d hd
/-- The disks that were seen so far. -/
def Seen (p : List Nat) (t : Nat) (V : Nat → Bool) : Prop := ∀ d, V d = true → ∃ i, i < t ∧ p[i]? = some d
theorem Seen.no {p : List Nat} {t : Nat} {V : Nat → Bool} (h : Seen p t V) (hd : p.Nodup) (ht : t < p.length) : V p[t] = false := by
  cases e : V p[t] with
  | false => rfl
  | true =>
    obtain ⟨i, hi, he⟩ := h _ e
    obtain ⟨hl, he⟩ := List.getElem?_eq_some_iff.1 he
    exact absurd he (nod_ne hd hl ht (by omega))
theorem Seen.more {p : List Nat} {t : Nat} {V : Nat → Bool} (h : Seen p t V) (ht : t < p.length) : Seen p (t + 1) (updB V p[t] true) := by
  intro d e
  unfold updB at e
  by_cases hd : d = p[t]
  · exact ⟨t, by omega, by rw [hd]; exact List.getElem?_eq_getElem ht⟩
  · rw [if_neg hd] at e
    obtain ⟨i, hi, he⟩ := h d e
    exact ⟨i, by omega, he⟩
set_option maxRecDepth 100000 in
set_option maxHeartbeats 3200000 in
theorem runlike_nat (O : RackOps) (a0 : Option Addr) (l0 c0 : Nat) (f : Nat → Int) (a1 : Option Addr) (l1 c1 : Nat) (F : Nat → KOp) (w : World) (hf : SlI w a0 l0 f) (hF : CameK w a1 l1 F) :
    Calls Try.prog 4 #[.slice a0 l0 c0, .slice a1 l1 c1] w fun e w' => e = .returned (.bool true) ∧ Below w.heap.size w w' := by
  have HF := hid hf
  have HK := hid hF
  have l2 : (l0 : Int) ≤ 9223372036854775807 := by have := hf.le; omega
  have l3 : (l1 : Int) ≤ 9223372036854775807 := by have := hF.2; omega
  clear hf hF
  go_enter Try.func4, Try.ntmps4
  go_wp2_with fail
  refine (rh_new (n := 18) (m := 5) (fu := none) (k := none) O (Up.refl Nul w) rfl (fun f e => by cases e) (by omega) (by omega) (by omega) (by omega)).mono ?_
  rintro e w1 ⟨r, D, rfl, h1, hD, _⟩
  have H1 := hid h1
  have HL1 : Hid (LvG D fun _ => false) := fun d hd => hD.live d hd
  clear h1 hD
  go_upto_block 0 with fail
  have HG1 : Hid (H18 (w1.alloc (.cells Z18 44)) w1.heap.size (fun _ => false)) := H18.new _ _ rfl
  have HR1 : Hid (RH O (fun x => x = w1.heap.size) w (w1.alloc (.cells Z18 44)) r 18 5 none none D 1) := H1.out.owns ((Up.refl _ _).alloc _) fun x hx => .inr ⟨by omega, by rw [hx]; simp⟩
  have HQ : Hid (w.heap.size ≤ w1.heap.size) := H1.out.up.size
  clear H1
  generalize w1.alloc (.cells Z18 44) = w2 at HG1 HR1 ⊢
  obtain ⟨gq, GQ⟩ : ∃ gq, w1.heap.size = gq := ⟨_, rfl⟩
  rw [GQ] at HG1 HR1 HQ ⊢
  clear GQ
  go_cut [] (fun wx => ∃ D G, RH O (fun x => x = gq) w wx r 18 5 none none D 1 ∧ H18 wx gq G ∧ LvG D G)
  case first =>
    as_aux_lemma =>
      go_wp2_with fail
      go_loopw [8] (fun i wr => ∃ j : Nat, j ≤ 10 ∧ j ≤ l0 ∧ i = .int .i64 (j : Nat) ∧ ∃ D G, RH O (fun x => x = gq) w wr r 18 5 none none D 1 ∧ H18 wr gq G ∧ LvG D G) (fun i _ => 10 - (intOf i).toNat)
      case atStart => exact ⟨0, by omega, by omega, rfl, D, _, HR1.out, HG1.out, HL1.out⟩
      case round =>
        obtain ⟨j, hj, hjl, rfl, D, G, hr, hg, hl⟩ := hrel
        have HR := hid hr
        have HG := hid hg
        have HL := hid hl
        clear hr hg hl HR1 HG1 HL1
        have j0 : (0 : Int) ≤ (j : Int) := by omega
        by_cases hlj : j < l0
        · have j1 : (j : Int) < (l0 : Int) := by omega
          by_cases h10 : j < 10
          · have j2 : (j : Int) < 10 := by omega
            have HJ := hid (And.intro h10 hlj)
            obtain ⟨lg, lo, rfl, hlg, hcl⟩ : ∃ g o, a0 = some ⟨g, o, none⟩ ∧ g < w.heap.size ∧ ∀ W, Up Nul w W → W.cell? ⟨g, o + j, none⟩ = some (.int .i64 (f j)) := by
              rcases HF.out.row with e | ⟨g, o, e, hg, hc⟩
              · omega
              · exact ⟨g, o, e, hg, fun W u => (u.cell (p := ⟨g, o + j, none⟩) hg (fun h => h)).trans (hc j hlj)⟩
            have HCL := hid hcl
            have y0 := hcl _ HR.out.up
            obtain ⟨mm, hm, _⟩ := FrL.mask8 (f j)
            obtain ⟨k, hk, hkn⟩ := FrL.rem_lit mm 18 (by omega)
            have hk : (mm : Int) % 18 = (k : Int) := hk
            have HKN := hid hkn
            have k0 : (0 : Int) ≤ (k : Int) := by omega
            have k1 : (k : Int) < 18 := by omega
            clear hcl hlg hj hjl h10 hlj hkn
            go_wp2_with fail
            refine (rh_bay HR.out HKN.out).mono ?_
            rintro e w3 ⟨rfl, h3, u3⟩
            have H3 := hid h3
            have HG3 := hid (HG.out.keep (u3.block gq HG.out.lt fun h => h))
            clear h3 u3
            go_wp2_with fail
            refine (rh_disk H3.out HKN.out).mono ?_
            rintro e w4 ⟨rfl, h4, u4⟩
            have H4 := hid h4
            have HG4 := hid (HG3.out.keep (u4.block gq HG3.out.lt fun h => h))
            clear h4 u4
            go_wp2_with fail
            refine (rh_disk H4.out HKN.out).mono ?_
            rintro e w5 ⟨rfl, h5, u5⟩
            have H5 := hid h5
            have HG5 := hid (HG4.out.keep (u5.block gq HG4.out.lt fun h => h))
            clear h5 u5
            go_wp2_with fail
            refine (rh_fail H5.out HKN.out).mono ?_
            rintro e w6 ⟨rfl, h6, sp6, sz6⟩
            have H6 := hid h6
            have HG6 := hid (HG5.out.keep (sp6 gq rfl))
            have y6 := HCL.out _ h6.up
            have v6 := HG6.out.cell HKN.out
            have f6 := HG6.out.froz k
            have HS := hid (HG6.out.set HKN.out true)
            have UP : Hid (Up (One gq) w6 (w6.setCell ⟨gq, k, none⟩ (.bool true))) := (Up.refl (One gq) w6).put rfl k (.bool true)
            have HR7 := hid (h6.mine UP.out (fun x hx => hx) fun x hx => by rw [show x = gq from hx]; exact HQ.out)
            clear h6 sp6 sz6 UP
            go_wp2_with fail
            go_roundw
            case rel =>
              refine ⟨j + 1, HJ.out.1, HJ.out.2, by go_num, _, _, HR7.out, HS.out, fun d hd => ?_⟩
              unfold updB
              by_cases e : d = k
              · subst e; rw [updD_same, if_pos rfl]; rfl
              · rw [updD_other _ _ e, if_neg e]; exact HL.out d hd
            case measure => have := HJ.out; simp [intOf]; omega
          · have j2 : ¬ (j : Int) < 10 := by omega
            clear h10 hj hjl hlj
            go_wp2_with fail
            go_meet
            case rel => exact ⟨D, G, HR.out, HG.out, HL.out⟩
        · have j1 : ¬ (j : Int) < (l0 : Int) := by omega
          clear hj hjl hlj
          go_wp2_with fail
          go_meet
          case rel => exact ⟨D, G, HR.out, HG.out, HL.out⟩
  case rest =>
    obtain ⟨D2, G, hr, hg, hl⟩ := hcut
    have HR2 := hid hr
    have HG2 := hid hg
    have HL2 := hid hl
    clear hr hg hl HR1 HG1 HL1
    go_wp2_with fail
    go_loopw [10, 11] (fun s10 i wr => ∃ j : Nat, j ≤ 30 ∧ j ≤ l1 ∧ i = .int .i64 (j : Nat) ∧ ∃ la : Nat, s10 = .int .i64 (la : Nat) ∧ ∃ D nx, RH O (fun x => x = gq) w wr r 18 5 none none D nx ∧ H18 wr gq G ∧ LvG D G ∧ la < nx ∧ nx ≤ 1 + 24 * j) (fun _ i _ => 30 - (intOf i).toNat)
    case atStart => exact ⟨0, by omega, by omega, rfl, 0, rfl, D2, 1, HR2.out, HG2.out, HL2.out, by omega, by omega⟩
    case round =>
      obtain ⟨j, hj, hjl, rfl, la, rfl, D3, nx, hr, hg, hl, hla, hnx⟩ := hrel
      have HR := hid hr
      have HG := hid hg
      have HL := hid hl
      have HLA := hid hla
      have HNX := hid hnx
      clear hr hg hl hla hnx HR2 HG2 HL2
      have j0 : (0 : Int) ≤ (j : Int) := by omega
      by_cases hlj : j < l1
      · have j1 : (j : Int) < (l1 : Int) := by omega
        by_cases h30 : j < 30
        · have j2 : (j : Int) < 30 := by omega
          have HJ := hid (And.intro h30 hlj)
          obtain ⟨ob, oo, rfl, hbl, hop⟩ : ∃ gb o, a1 = some ⟨gb, o, none⟩ ∧ gb < w.heap.size ∧ ∀ i, i < l1 → KAt w gb (o + i * 9) (F i) := by
            rcases HK.out.1 with e | e
            · omega
            · exact e
          have hop := hop j hlj
          generalize F j = v at hop
          obtain ⟨cs, vn, vc, va, vl, vcp, vz⟩ := v
          obtain ⟨g9, hcs, hon, e1, e2, e4, hwl⟩ := hop
          dsimp only at g9 hcs hon e1 e2 e4 hwl
          obtain ⟨ff, hff⟩ := SlI.of hwl
          have HFF := hid hff
          have HRG : Hid (wr.rangeAt ob (oo + j * 9) cs) := fun m u hm => (HR.out.up.cell (p := ⟨ob, oo + j * 9 + m, none⟩) hbl (fun h => h)).trans (hcs m u hm)
          have HB : Hid (KB (wr.alloc (.cells cs.toArray 49)) wr.heap.size cs) := ⟨heap_alloc_new _ _⟩
          obtain ⟨Z, hZ1, hZ2⟩ := zero_kop
          have HI : Hid ((Try.prog.info? 49).map (·.size) = some cs.length) := by show _ = _; rw [g9]; exact info_kop
          have HI2 : Hid ((Try.prog.info? 49).map (·.size) = some cs.toArray.size) := by show _ = _; rw [List.size_toArray, g9]; exact info_kop
          have HZS : Hid (Z.size = cs.toArray.size) := by show _ = _; rw [hZ1]; simp [g9]
          have HON : Hid (cs.toArray.all (·.oneCell') = true) := Array.all_eq_true_iff_forall_mem.2 fun x hx => hon x (by simpa using hx)
          have HE := hid (And.intro e1 (And.intro e2 e4))
          have y4 := HB.out.cell e4
          have HB1 : Hid (RH O (fun x => x = gq ∨ x = wr.heap.size) w (wr.alloc (.cells cs.toArray 49)) r 18 5 none none D3 nx) := HR.out.owns ((Up.refl _ _).alloc _) fun x hx => by
            rcases hx with hx | hx
            · exact .inl hx
            · exact .inr ⟨by omega, by rw [hx]; simp⟩
          have HG1 : Hid (H18 (wr.alloc (.cells cs.toArray 49)) gq G) := HG.out.keep (Below.heap_alloc _ _ _ HG.out.lt)
          clear hcs hon e1 e2 e4 hwl hff hZ1 hbl hj hjl h30 hlj g9
          by_cases hvl : 30 < vl
          · have i2 : (30 : Int) < (vl : Int) := by omega
            go_wp2_with (first
              | (refine wpList_load_mid rfl 49 (.tmp 79) rfl ob (oo + j * 9) rfl cs _ HRG.out Try.underlying49 rfl HI.out ?_)
              | (refine wpList_store_new rfl 49 (.tmp 12) (.tmp 80) rfl Z cs.toArray rfl rfl HI2.out HZS.out HON.out ?_))
            refine (kawake_any O _).mono ?_
            rintro e w7 ⟨rfl, k7⟩
            have H7 := hid (HB1.out.up.trans k7)
            clear k7
            go_wp2
            go_ret
            exact ⟨rfl, H7.out.below (Nat.le_refl _) fun _ _ h => h⟩
          · have i2 : ¬ (30 : Int) < (vl : Int) := by omega
            have HVL : Hid (vl ≤ 30) := by show _ ≤ _; omega
            clear hvl
            go_upto_region 20 with (first
              | (refine wpList_load_mid rfl 49 (.tmp 79) rfl ob (oo + j * 9) rfl cs _ HRG.out Try.underlying49 rfl HI.out ?_)
              | (refine wpList_store_new rfl 49 (.tmp 12) (.tmp 80) rfl Z cs.toArray rfl rfl HI2.out HZS.out HON.out ?_))
            clear HRG HI HI2 HZS HON hZ2 y4 HR HG
            generalize wr.alloc (.cells cs.toArray 49) = w3 at HB HB1 HG1 ⊢
            obtain ⟨oq, OQ⟩ : ∃ oq, wr.heap.size = oq := ⟨_, rfl⟩
            rw [OQ] at HB HB1 ⊢
            clear OQ
            obtain ⟨nn, hnn, nn8⟩ := FrL.mask3 vn
            obtain ⟨c3, hc3, c34⟩ := FrL.i64_mask 2 (by omega) vc
            have hc3 : bits .and .i64 vc 3 = (c3 : Int) := hc3
            have c34 : c3 < 4 := c34
            have HNN := hid nn8
            obtain ⟨cl, hcl, HCL⟩ : ∃ cl : Int, IntKind.i64.wrap ((c3 : Int) - 1) = cl ∧ Hid (cl = (c3 : Int) - 1) := ⟨_, IntWalk.i64_in _ (by omega), rfl⟩
            have hcl2 : (c3 : Int) - 1 = cl := HCL.out.symm
            have cl1 : (-1 : Int) ≤ cl := by omega
            have cl2 : cl ≤ 2 := by omega
            have y1 := HB.out.cell HE.out.1
            have y2 := HB.out.cell HE.out.2.1
            clear nn8
            go_quiet (fail)
            have UQ : Hid (Up Nul w3 (w3.drewN nq)) := (Up.refl _ _).drewN nq
            have HB4 : Hid (KB (w3.drewN nq) oq cs) := ⟨(UQ.out.block oq (Array.getElem?_eq_some_iff.1 HB.out.heap).1 fun h => h).trans HB.out.heap⟩
            have HR4 := hid (HB1.out.nxt UQ.out)
            have HG4 := hid (HG1.out.keep (UQ.out.block gq HG1.out.lt fun h => h))
            clear UQ HB HB1 HG1 y1 y2
            generalize w3.drewN nq = w4 at HB4 HR4 HG4 ⊢
            have y4 := HB4.out.cell HE.out.2.2
            clear hnn hc3 hcl hcl2
            go_wp2_with fail
            refine (rh_place HR4.out (nn : Nat) cl vcp (HFF.out.nxt HR4.out.up) (by have := HVL.out; omega) (by have := HNN.out; omega)).mono ?_
            rintro e w5 (⟨_, p, a, c, ht, rfl, hp, h5, u5⟩ | ⟨hno, ⟨b, c, rfl⟩, h5, u5⟩)
            · have HPC := hid ht.plc
              have HP24 := hid (ht.le (by omega))
              have H5 := hid h5
              have HP := hid hp
              have HB5 : Hid (KB w5 oq cs) := ⟨(u5.block oq (Array.getElem?_eq_some_iff.1 HB4.out.heap).1 fun h => h).trans HB4.out.heap⟩
              have HG5 := hid (HG4.out.keep (u5.block gq HG4.out.lt fun h => h))
              have HPN : Hid (p.length = nn) := by have := ht.plc.len; rw [Int.toNat_natCast] at this; exact this
              clear h5 ht hp u5 HR4 HG4 HB4 y4
              go_wp2_with fail
              refine (rh_take H5.out c HP.out HPC.out.nodup (fun d hd => ⟨(HPC.out.all d hd).1, (HPC.out.all d hd).2.2.1⟩) (by have := HNX.out; have := HJ.out; omega)).mono ?_
              rintro e w6 ⟨v, D6, rfl, hv, hy, hn, h6, sp6, sz6⟩
              obtain ⟨xa, xc, rfl⟩ := hv.shape
              have hpx : (locs 5 nx D3 p).length = nn := by rw [locs_length, HPN.out]
              have HND := hid HPC.out.nodup
              have HFT : Hid (∀ d ∈ p, d < 18 ∧ G d = false ∧ (∀ i, i < vl → ¬ ff i = (d : Int)) ∧ (cl < 0 ∨ ((d % 3 : Nat) : Int) = cl)) := fun d hd => by
                obtain ⟨q1, q2, _, q4, q5⟩ := HPC.out.all d hd
                have q3 := HL.out d q1
                rw [q2] at q3
                have q6 : G d = false := by
                  cases e : G d with
                  | false => rfl
                  | true => rw [e] at q3; cases q3
                exact ⟨q1, q6, fun i hi e => q4 ⟨i, hi, e⟩, q5⟩
              have HL6 : Hid (LvG D6 G) := HL.out.take hy hn
              have HB6 : Hid (KB w6 oq cs) := ⟨(sp6 oq (.inl (.inr rfl))).trans HB5.out.heap⟩
              have HG6 := hid (HG5.out.keep (sp6 gq (.inl (.inl rfl))))
              rw [HPN.out] at h6
              rw [hpx] at hv h6 ⊢
              have HV6 := hid hv
              have H6 : Hid (RH O (fun x => (x = gq ∨ x = oq) ∨ Value.ownBlock (.slice xa nn xc) = some x) w w6 r 18 5 none none D6 (nx + nn)) := h6.less fun x hx => by
                rcases hx with hx | hx
                · exact .inl (.inl hx)
                · exact .inr hx
              have nn7 : (nn : Int) ≤ 7 := by have := HNN.out; omega
              clear hy hn h6 sp6 sz6 hv hpx H5 HB5 HG5 HP HL
              go_upto_block 4 with fail
              have HS7 : Hid (H18 (w6.alloc (.cells Z18 44)) w6.heap.size (fun _ => false)) := H18.new _ _ rfl
              have H7 : Hid (RH O (fun x => ((x = gq ∨ x = oq) ∨ Value.ownBlock (.slice xa nn xc) = some x) ∨ x = w6.heap.size) w (w6.alloc (.cells Z18 44)) r 18 5 none none D6 (nx + nn)) := H6.out.owns ((Up.refl _ _).alloc _) fun x hx => by
                rcases hx with hx | hx
                · exact .inl hx
                · exact .inr ⟨by omega, by rw [hx]; simp⟩
              have U7 : Hid (Up Nul w6 (w6.alloc (.cells Z18 44))) := (Up.refl _ _).alloc _
              have HB7 : Hid (KB (w6.alloc (.cells Z18 44)) oq cs) := ⟨(U7.out.block oq (Array.getElem?_eq_some_iff.1 HB6.out.heap).1 fun h => h).trans HB6.out.heap⟩
              have HG7 := hid (HG6.out.keep (U7.out.block gq HG6.out.lt fun h => h))
              have HV7 := hid (HV6.out.nxt U7.out)
              have HSQ : Hid (w.heap.size ≤ w6.heap.size ∧ ¬ gq = w6.heap.size ∧ ¬ oq = w6.heap.size ∧ ∀ k, Value.ownBlock (.slice xa nn xc) = some k → ¬ k = w6.heap.size) := ⟨H6.out.up.size, fun e => by have := HG6.out.lt; omega, fun e => by have := (Array.getElem?_eq_some_iff.1 HB6.out.heap).1; omega, fun k hk e => by have := (HV6.out.lt k hk).2; omega⟩
              clear H6 HB6 HG6 HV6 U7
              generalize w6.alloc (.cells Z18 44) = w7 at HS7 H7 HB7 HG7 HV7 ⊢
              obtain ⟨sq, SQ⟩ : ∃ sq, w6.heap.size = sq := ⟨_, rfl⟩
              rw [SQ] at HS7 H7 HSQ ⊢
              clear SQ
              go_wp2_with fail
              go_loopw [10, 20] (fun s10 s20 wx => ∃ t : Nat, t ≤ nn ∧ s20 = .int .i64 (t : Nat) ∧ ∃ lb : Nat, s10 = .int .i64 (lb : Nat) ∧ lb < nx + t ∧ ∃ V, RH O (fun x => ((x = gq ∨ x = oq) ∨ Value.ownBlock (.slice xa nn xc) = some x) ∨ x = sq) w wx r 18 5 none none D6 (nx + nn) ∧ H18 wx gq G ∧ H18 wx sq V ∧ Seen p t V ∧ KB wx oq cs ∧ OwnL w5.heap.size wx (.slice xa nn xc) (locs 5 nx D3 p)) (fun _ i _ => nn - (intOf i).toNat)
              case atStart => exact ⟨0, by omega, rfl, la, rfl, HLA.out, _, H7.out, HG7.out, HS7.out, fun d hd => (by cases hd), HB7.out, HV7.out⟩
              case round =>
                obtain ⟨t, ht, rfl, lb, rfl, hlb, V, hr, hg, hs, hse, hkb, ho⟩ := hrel
                have HR := hid hr
                have HG := hid hg
                have HS := hid hs
                have HSE := hid hse
                have HKB := hid hkb
                have HO := hid ho
                have HLB := hid hlb
                clear hr hg hs hse hkb ho hlb H7 HG7 HS7 HB7 HV7 HLA
                have t0 : (0 : Int) ≤ (t : Int) := by omega
                by_cases hlt : t < nn
                · have t1 : (t : Int) < (nn : Int) := by omega
                  have HT := hid hlt
                  have hpt : t < p.length := by rw [HPN.out]; exact hlt
                  obtain ⟨d, DE⟩ : ∃ d, Hid (p[t] = d) := ⟨p[t], hid rfl⟩
                  obtain ⟨y, YE⟩ : ∃ y, Hid (nx + t = y) := ⟨_, rfl⟩
                  have HLt : (locs 5 nx D3 p)[t]? = some ⟨d, slo 5 (D3 d), y⟩ := by
                    rw [List.getElem?_eq_getElem (by rw [locs_length]; exact hpt), locs_at _ _ _ _ hpt, DE.out, YE.out]
                  obtain ⟨lg, rfl⟩ : ∃ lg, xa = some ⟨lg, 0, none⟩ := by
                    obtain ⟨g, cap, e, _⟩ := HO.out.at (s := t) (by rw [locs_length]; exact hpt)
                    injection e with e
                    exact ⟨g, e⟩
                  have HLT := hid HLt
                  obtain ⟨x0, _, x2⟩ := HO.out.rng HLt
                  dsimp only at x0 x2
                  obtain ⟨q1, q2, q3, q4⟩ := HFT.out d (by rw [← DE.out]; exact List.getElem_mem hpt)
                  have vs := HS.out.cell q1
                  have hvd : V d = false := by rw [← DE.out]; exact HSE.out.no HND.out hpt
                  rw [hvd] at vs
                  have vg := HG.out.cell q1
                  rw [q2] at vg
                  have fs := HS.out.froz d
                  have d0 : ¬ (d : Int) < 0 := by omega
                  have d1 : ¬ (17 : Int) < (d : Int) := by omega
                  have d2 : (d : Int) < 18 := by omega
                  have d3 : (0 : Int) ≤ (d : Int) := by omega
                  have y3 : ¬ (y : Int) ≤ (lb : Int) := by have := HLB.out; rw [YE.out] at this; omega
                  have y4 := HKB.out.cell HE.out.2.2
                  have HIN := hid (in_no va vl vcp ff d wr (by have := HVL.out; omega) (HFF.out.nxt HR.out.up) q3)
                  have HY : Hid (y < nx + (t + 1)) := by show _ < _; rw [← YE.out]; omega
                  have HD18 := hid q1
                  have HSE1 : Hid (Seen p (t + 1) (updB V d true)) := by
                    have := HSE.out.more hpt
                    rw [DE.out] at this
                    exact this
                  clear q1 q2 q3 DE hpt hvd ht hlt HLt
                  rcases q4 with q4 | q4
                  · have c1 : ¬ (0 : Int) ≤ cl := by omega
                    clear q4
                    go_wp2_with fail
                    refine HIN.out.mono ?_
                    rintro e w8 ⟨rfl, u8⟩
                    have HR8 := hid (HR.out.nxt u8)
                    have HG8 := hid (HG.out.keep (u8.block gq HG.out.lt fun h => h))
                    have HS8 := hid (HS.out.keep (u8.block sq HS.out.lt fun h => h))
                    have HKB8 : Hid (KB w8 oq cs) := ⟨(u8.block oq (Array.getElem?_eq_some_iff.1 HKB.out.heap).1 fun h => h).trans HKB.out.heap⟩
                    have HO8 := hid (HO.out.nxt u8)
                    obtain ⟨_, _, z2⟩ := HO8.out.rng HLT.out
                    dsimp only at z2
                    have vs8 := HS8.out.cell HD18.out
                    have fs8 := HS8.out.froz d
                    have UP9 : Hid (Up (One sq) w8 (w8.setCell ⟨sq, d, none⟩ (.bool true))) := (Up.refl (One sq) w8).put rfl d (.bool true)
                    have HR9 := hid (HR8.out.mine UP9.out (fun x hx => .inr hx) fun x hx => by rw [show x = sq from hx]; exact HSQ.out.1)
                    have HG9 := hid (HG8.out.keep (UP9.out.block gq HG8.out.lt HSQ.out.2.1))
                    have HS9 := hid (HS8.out.set HD18.out true)
                    have HKB9 : Hid (KB (w8.setCell ⟨sq, d, none⟩ (.bool true)) oq cs) := ⟨(UP9.out.block oq (Array.getElem?_eq_some_iff.1 HKB8.out.heap).1 HSQ.out.2.2.1).trans HKB8.out.heap⟩
                    have HO9 := hid (HO8.out.keep (w' := w8.setCell ⟨sq, d, none⟩ (.bool true)) fun k hk => UP9.out.block k (HO8.out.lt k hk).2 (HSQ.out.2.2.2 k hk))
                    obtain ⟨_, _, z9⟩ := HO9.out.rng HLT.out
                    dsimp only at z9
                    clear u8 UP9
                    go_wp2_with fail
                    go_roundw
                    case rel => exact ⟨t + 1, HT.out, by go_num, y, rfl, HY.out, _, HR9.out, HG9.out, HS9.out, HSE1.out, HKB9.out, HO9.out⟩
                    case measure => have := HT.out; simp [intOf]; omega
                  · by_cases c1 : (0 : Int) ≤ cl
                    · have c2 : (d : Int) % 3 = cl := by omega
                      clear q4
                      go_wp2_with fail
                      refine HIN.out.mono ?_
                      rintro e w8 ⟨rfl, u8⟩
                      have HR8 := hid (HR.out.nxt u8)
                      have HG8 := hid (HG.out.keep (u8.block gq HG.out.lt fun h => h))
                      have HS8 := hid (HS.out.keep (u8.block sq HS.out.lt fun h => h))
                      have HKB8 : Hid (KB w8 oq cs) := ⟨(u8.block oq (Array.getElem?_eq_some_iff.1 HKB.out.heap).1 fun h => h).trans HKB.out.heap⟩
                      have HO8 := hid (HO.out.nxt u8)
                      obtain ⟨_, _, z2⟩ := HO8.out.rng HLT.out
                      dsimp only at z2
                      have vs8 := HS8.out.cell HD18.out
                      have fs8 := HS8.out.froz d
                      have UP9 : Hid (Up (One sq) w8 (w8.setCell ⟨sq, d, none⟩ (.bool true))) := (Up.refl (One sq) w8).put rfl d (.bool true)
                      have HR9 := hid (HR8.out.mine UP9.out (fun x hx => .inr hx) fun x hx => by rw [show x = sq from hx]; exact HSQ.out.1)
                      have HG9 := hid (HG8.out.keep (UP9.out.block gq HG8.out.lt HSQ.out.2.1))
                      have HS9 := hid (HS8.out.set HD18.out true)
                      have HKB9 : Hid (KB (w8.setCell ⟨sq, d, none⟩ (.bool true)) oq cs) := ⟨(UP9.out.block oq (Array.getElem?_eq_some_iff.1 HKB8.out.heap).1 HSQ.out.2.2.1).trans HKB8.out.heap⟩
                      have HO9 := hid (HO8.out.keep (w' := w8.setCell ⟨sq, d, none⟩ (.bool true)) fun k hk => UP9.out.block k (HO8.out.lt k hk).2 (HSQ.out.2.2.2 k hk))
                      obtain ⟨_, _, z9⟩ := HO9.out.rng HLT.out
                      dsimp only at z9
                      clear u8 UP9
                      go_wp2_with fail
                      go_roundw
                      case rel => exact ⟨t + 1, HT.out, by go_num, y, rfl, HY.out, _, HR9.out, HG9.out, HS9.out, HSE1.out, HKB9.out, HO9.out⟩
                      case measure => have := HT.out; simp [intOf]; omega
                    · clear q4
                      go_wp2_with fail
                      refine HIN.out.mono ?_
                      rintro e w8 ⟨rfl, u8⟩
                      have HR8 := hid (HR.out.nxt u8)
                      have HG8 := hid (HG.out.keep (u8.block gq HG.out.lt fun h => h))
                      have HS8 := hid (HS.out.keep (u8.block sq HS.out.lt fun h => h))
                      have HKB8 : Hid (KB w8 oq cs) := ⟨(u8.block oq (Array.getElem?_eq_some_iff.1 HKB.out.heap).1 fun h => h).trans HKB.out.heap⟩
                      have HO8 := hid (HO.out.nxt u8)
                      obtain ⟨_, _, z2⟩ := HO8.out.rng HLT.out
                      dsimp only at z2
                      have vs8 := HS8.out.cell HD18.out
                      have fs8 := HS8.out.froz d
                      have UP9 : Hid (Up (One sq) w8 (w8.setCell ⟨sq, d, none⟩ (.bool true))) := (Up.refl (One sq) w8).put rfl d (.bool true)
                      have HR9 := hid (HR8.out.mine UP9.out (fun x hx => .inr hx) fun x hx => by rw [show x = sq from hx]; exact HSQ.out.1)
                      have HG9 := hid (HG8.out.keep (UP9.out.block gq HG8.out.lt HSQ.out.2.1))
                      have HS9 := hid (HS8.out.set HD18.out true)
                      have HKB9 : Hid (KB (w8.setCell ⟨sq, d, none⟩ (.bool true)) oq cs) := ⟨(UP9.out.block oq (Array.getElem?_eq_some_iff.1 HKB8.out.heap).1 HSQ.out.2.2.1).trans HKB8.out.heap⟩
                      have HO9 := hid (HO8.out.keep (w' := w8.setCell ⟨sq, d, none⟩ (.bool true)) fun k hk => UP9.out.block k (HO8.out.lt k hk).2 (HSQ.out.2.2.2 k hk))
                      obtain ⟨_, _, z9⟩ := HO9.out.rng HLT.out
                      dsimp only at z9
                      clear u8 UP9
                      go_wp2_with fail
                      go_roundw
                      case rel => exact ⟨t + 1, HT.out, by go_num, y, rfl, HY.out, _, HR9.out, HG9.out, HS9.out, HSE1.out, HKB9.out, HO9.out⟩
                      case measure => have := HT.out; simp [intOf]; omega
                · have t1 : ¬ (t : Int) < (nn : Int) := by omega
                  have hte : t = nn := by omega
                  rw [hte] at HLB
                  have HR9 := hid (HR.out.less (Q := fun x => x = gq) fun x hx => .inl (.inl (.inl hx)))
                  have HNX9 : Hid (nx + nn ≤ 1 + 24 * (j + 1)) := by show _ ≤ _; have := HNX.out; have := HNN.out; omega
                  clear hlt ht hte
                  go_wp2_with fail
                  go_roundw
                  case rel => exact ⟨j + 1, HJ.out.1, HJ.out.2, by go_num, lb, rfl, _, _, HR9.out, HG.out, HL6.out, HLB.out, HNX9.out⟩
                  case measure => have := HJ.out; simp [intOf]; omega
            · have H5 := hid (h5.less (Q := fun x => x = gq) fun x hx => .inl hx)
              have HG5 := hid (HG4.out.keep (u5.block gq HG4.out.lt fun h => h))
              clear h5 u5 hno HR4 HG4 HB4 y4
              go_wp2_with fail
              go_roundw
              case rel => exact ⟨j + 1, HJ.out.1, HJ.out.2, by go_num, la, rfl, _, _, H5.out, HG5.out, HL.out, HLA.out, by have := HNX.out; omega⟩
              case measure => have := HJ.out; simp [intOf]; omega
        · have j2 : ¬ (j : Int) < 30 := by omega
          have HU := hid HR.out.up
          clear h30 hj hjl hlj HR
          go_wp2_with fail
          refine (kawake_any O _).mono ?_
          rintro e w7 ⟨rfl, k7⟩
          have H7 := hid (HU.out.trans k7)
          clear k7
          go_wp2
          go_ret
          exact ⟨rfl, H7.out.below (Nat.le_refl _) fun _ _ h => h⟩
      · have j1 : ¬ (j : Int) < (l1 : Int) := by omega
        have HU := hid HR.out.up
        clear hj hjl hlj HR
        go_wp2_with fail
        refine (kawake_any O _).mono ?_
        rintro e w7 ⟨rfl, k7⟩
        have H7 := hid (HU.out.trans k7)
        clear k7
        go_wp2
        go_ret
        exact ⟨rfl, H7.out.below (Nat.le_refl _) fun _ _ h => h⟩
theorem runlike_walk (O : RackOps) (a0 : Option Addr) (l0 c0 : Nat) (z0 : List Int) (a1 : Option Addr) (l1 c1 : Nat) (F : Nat → KOp) (w : World) (w0 : CameI w a0 l0 c0 z0) (w1 : CameK w a1 l1 F) :
    Calls Try.prog 4 #[.slice a0 l0 c0, .slice a1 l1 c1] w fun e w' => e = .returned (.bool true) ∧ Below w.heap.size w w' := by
  obtain ⟨f, hf⟩ := SlI.of w0
  exact runlike_nat O a0 l0 c0 f a1 l1 c1 F w hf w1
end Go.Proofs.Ytcejdobmgbielaa
