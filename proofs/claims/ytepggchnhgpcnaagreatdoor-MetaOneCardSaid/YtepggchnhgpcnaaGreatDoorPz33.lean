/- The document's 'Apply', by Kinds. -/
import Derived.Test.YtepggchnhgpcnaaGreatDoorPkTidy
import Derived.Test.YtepggchnhgpcnaaGreatDoorPz32
namespace Go.Proofs.YtepggchnhgpcnaaGreatDoor
open Go.RowKit Go.Maps Go.Sort
set_option linter.unusedVariables false

section
variable {F S : Nat → Prop} {w w' : World} {q n : Nat} {Q : Int → Value} {M : MM} {ks : List ByteArray} {is : List Int} {kv bv iv sv : Value}
theorem keepLo {v : Value} {ls : List Lo} {c : Array Value} (ho : OwnLo 0 w v ls) (u : Up (fun k => k = q) w w') (hq : w.heap[q]? = some (.cells c 62 (0, 0))) : OwnLo 0 w' v ls := lo_up ho u fun g e e' => row_ne ho hq (by decide) (by rw [← e']; exact e)
set_option maxRecDepth 10000 in
set_option maxHeartbeats 3000000 in
theorem rapply_1 (h : RMx F w q n M) (hF : ∀ k, F k → k < w.heap.size) (hn : n ≤ 70000) (hI : M.Inv3) (r : Rc) (sa la : Option Addr) (sc lc : Nat) (hr : RH w r sa la) (hf : OkF r) (hk : r.kind = 1) (hv : OwnLo 0 w (.slice la r.locs.length lc) r.locs) (hvF : ∀ g, (Value.slice la r.locs.length lc).ownBlock = some g → F g)
  (hsq : r.sids ≠ [] → ∀ g o, sa = some ⟨g, o, none⟩ → ¬ F g) (hsc : r.sids.length ≤ sc ∧ (sc : Int) ≤ 9223372036854775807) :
  Calls Tryz.prog 10 #[.pointer (some ⟨q, 0, none⟩), rv r (.slice sa r.sids.length sc) (.slice la r.locs.length lc)] w fun e w' => ∃ x, e = .returned (.int .i64 x) ∧ RMx (Gr F w w') w' q (n + 7) (M.step r).2 ∧ Up F w w' := by
 obtain ⟨Q, ks, is, kv, bv, iv, sv, h⟩ := h
 obtain ⟨W1, hW1⟩ : ∃ W, W = w.alloc (.cells (rcellsL r (.slice sa r.sids.length sc) (.slice la r.locs.length lc)) 28) := ⟨_, rfl⟩
 have u1 : Up Nul w W1 := by rw [hW1]; exact (Up.refl Nul w).alloc _
 have b1 : RB W1 w.heap.size r (.slice sa r.sids.length sc) (.slice la r.locs.length lc) := by rw [hW1]; exact RB.new _ _ _ _
 have HU1 := hid u1
 have HM0 := hid h
 have HF := hid hF
 have HNN := hid hn
 have HII := hid hI
 have HRH := hid hr
 have HOK := hid hf
 have HVL := hid hv
 have HVF := hid hvF
 have HSQ := hid hsq
 have HSC := hid hsc
 have HKD := hid hk
 have HB1 := hid b1
 have HPR : Hid (¬ F w.heap.size) := fun e => by have := hF _ e; omega
 have hokr := rok_any r sa la sc lc W1 (hr.nxt u1) (by have := hf.keyl; omega)
 rw [okR_iff.2 hf] at hokr
 have HROK := hid hokr
 have HFR : Hid (∀ W, Up Nul W1 W → Calls Tryz.prog 24 #[.pointer (some ⟨q, 0, none⟩), rv r (.slice sa r.sids.length sc) (.slice la r.locs.length lc)] W fun e w' => e = .returned (.bool (rise M.last (newS r)).isSome) ∧ Up Nul W w') := fun W u =>
  rfresh_1 (h.nxt (u1.trans u)) hI.l r sa la sc lc (hr.nxt (u1.trans u)) hk (.inl (okf_put hf hk).2.2) (fun z hz => by rw [okf_nil hf hk (by decide)] at hz; cases hz)
 obtain ⟨R, HR⟩ : ∃ R, Hid ((M.step r).2 = R) := ⟨_, rfl⟩
 rw [HR.out]
 have kf1 : (r.kind == 1) = true := by rw [hk]; rfl
 have kf2 : (r.kind == 2) = false := by rw [hk]; rfl
 have kf3 : (r.kind == 3) = false := by rw [hk]; rfl
 have kf4 : (r.kind == 4) = false := by rw [hk]; rfl
 have kf5 : (r.kind == 5) = false := by rw [hk]; rfl
 have kf6 : (r.kind == 6) = false := by rw [hk]; rfl
 have kf7 : (r.kind == 7) = false := by rw [hk]; rfl
 obtain ⟨x0, x1, x2, x3, x4, x5, x6, x7, x8, x9, x10, x11, x12⟩ := b1.cells
 clear h hF hn hI hr hf hv hvF hsq hsc u1 b1 hokr hk
 cases hri : rise M.last (newS r) with
 | none =>
  have HE : Hid (R = M) := by show R = _; rw [← HR.out]; exact step_none HOK.out hri
  rw [hri] at HFR
  clear hri
  go_enter Tryz.func10, Tryz.ntmps10
  go_upto_region 1 with fail
  rw [← hW1]
  clear hW1
  go_wp2_with fail
  refine HROK.out.mono ?_
  rintro e w2 ⟨rfl, u2⟩
  have HU2 := hid u2
  have hb2 := HB1.out.nxt u2
  obtain ⟨x0, x1, x2, x3, x4, x5, x6, x7, x8, x9, x10, x11, x12⟩ := hb2.cells
  have HF2 := hid (HFR.out w2 u2)
  clear u2 hb2 HROK HFR
  go_wp2_with fail
  refine HF2.out.mono ?_
  rintro e w3 ⟨rfl, u3⟩
  have HU3 : Hid (Up Nul W1 w3) := HU2.out.trans u3
  clear u3
  go_wp2_with fail
  go_ret
  rw [HE.out]
  exact ⟨_, rfl, (RMx.wide ⟨_, _, _, _, _, _, _, HM0.out.nxt (HU1.out.trans HU3.out)⟩ fun k hk => .inl hk).mono (by omega), (HU1.out.trans HU3.out).nul⟩
 | some l =>
  have HRI := hid hri
  rw [hri] at HFR
  clear hri
  have HST : Hid (R = if (M.chg r).1 = 0 then { (M.chg r).2 with last := l } else (M.chg r).2) := by show R = _; rw [← HR.out]; exact step_some HOK.out HRI.out
  have HCH : Hid (M.chg r = M.put r) := by show _ = _; unfold MM.chg; rw [HKD.out]; rfl
  go_enter Tryz.func10, Tryz.ntmps10
  go_upto_region 1 with fail
  rw [← hW1]
  clear hW1
  go_wp2_with fail
  refine HROK.out.mono ?_
  rintro e w2 ⟨rfl, u2⟩
  have HU2 := hid u2
  have hb2 := HB1.out.nxt u2
  obtain ⟨x0, x1, x2, x3, x4, x5, x6, x7, x8, x9, x10, x11, x12⟩ := hb2.cells
  have HF2 := hid (HFR.out w2 u2)
  clear u2 hb2 HROK HFR
  go_wp2_with fail
  refine HF2.out.mono ?_
  rintro e w3 ⟨rfl, u3⟩
  have HU3 : Hid (Up Nul W1 w3) := HU2.out.trans u3
  have hb3 := HB1.out.nxt HU3.out
  obtain ⟨x0, x1, x2, x3, x4, x5, x6, x7, x8, x9, x10, x11, x12⟩ := hb3.cells
  clear u3 hb3 HU2
  go_upto_region 6 with fail
  obtain ⟨W4, hW4⟩ : ∃ W, W = w3.alloc (.cells #[.string r.key, .string ⟨#[]⟩, .string ⟨#[]⟩] 44) := ⟨_, rfl⟩
  have u4 : Up Nul w3 W4 := by rw [hW4]; exact (Up.refl Nul w3).alloc _
  have b4 : W4.heap[w3.heap.size]? = some (.cells #[.string r.key, .string ⟨#[]⟩, .string ⟨#[]⟩] 44 (0, 0)) := by rw [hW4]; exact heap_alloc_new _ _
  rw [← hW4]
  clear hW4
  have HU14 : Hid (Up Nul W1 W4) := HU3.out.trans u4
  have HU4 : Hid (Up Nul w W4) := HU1.out.trans HU14.out
  have HPK : Hid (¬ F w3.heap.size) := fun e => by have h1 := HF.out _ e; have h2 := HU1.out.size; have h3 := HU3.out.size; omega
  generalize w3.heap.size = pk at *
  have HRB4 := hid (HB1.out.nxt HU14.out)
  have HB4 := hid b4
  have HM4 := hid (HM0.out.nxt HU4.out)
  have HF4 : Hid (∀ k, F k → k < W4.heap.size) := fun k hk => Nat.lt_of_lt_of_le (HF.out k hk) HU4.out.size
  have HV4 : Hid (OwnLo 0 W4 (.slice la r.locs.length lc) r.locs) := lo_up HVL.out HU4.out fun _ _ => id
  have HRH4 := hid (HRH.out.nxt HU4.out)
  obtain ⟨x0, x1, x2, x3, x4, x5, x6, x7, x8, x9, x10, x11, x12⟩ := HRB4.out.cells
  obtain ⟨y0, y1, y2⟩ := cell3 b4
  clear u4 b4 HU3
  obtain ⟨hkey, hll, hs0⟩ := okf_put HOK.out HKD.out
  clear hll
  obtain ⟨hlt, rfl⟩ := rise_one (show rise M.last [r.sid] = some l from by have := HRI.out; unfold newS at this; rw [HKD.out] at this; exact this)
  have HLT := hid hlt
  have HS0 := hid hs0
  have HE : Hid (R = putM M r) := by
   show R = _
   rw [HST.out, HCH.out]
   exact put_eq HII.out r (size_pos_ne hkey.1)
  have HNQ : Hid (¬ w.heap.size = q) := fun e => HPR.out (by rw [e]; exact HM0.out.fq)
  have HNK : Hid (¬ pk = q) := fun e => HPK.out (by rw [e]; exact HM0.out.fq)
  have hbl := rblob_any HM4.out (by have := HNN.out; omega) r.key
  clear hkey hs0 hlt
  cases hb : M.b r.key with
  | none =>
   have hbz : M.bof r.key = ⟨0, 0, 0⟩ := by unfold MM.bof; rw [hb]; rfl
   rw [hbz, hb] at hbl
   have HBL := hid hbl
   have HDD : Hid ((M.drop r.key).2 = M) := by show _ = _; unfold MM.drop; rw [hb]
   clear hbz hb hbl
   go_wp2_with fail
   refine HBL.out.mono ?_
   rintro e w5 ⟨rfl, u5⟩
   have HU5 := hid u5
   clear u5 HBL
   go_upto_region 12 with fail
   obtain ⟨w7, hW7⟩ : ∃ W, W = w5.alloc (.cells #[.int .i64 0, .int .i64 0, .int .i64 0] 51) := ⟨_, rfl⟩
   have u7 : Up Nul W4 w7 := by rw [hW7]; exact HU5.out.alloc _
   rw [← hW7]
   clear hW7 x0 x1 x2 x3 x4 x5 x6 x7 x8 x9 x10 x11 x12 y0 y1 y2
   have HU7 : Hid (Up (fun k => k = q) w w7) := (HU4.out.trans u7).nul
   have H7 : Hid (RM (Gr F w w7) w7 q n Q (M.drop r.key).2 ks is kv bv iv sv) := by
    rw [HDD.out]; exact (HM4.out.nxt u7).wide fun k hk => .inl hk
   have HRB7 := hid (HRB4.out.nxt u7)
   have HB7 := hid (u7.keep HB4.out id)
   have HV7 : Hid (OwnLo 0 w7 (.slice la r.locs.length lc) r.locs) := lo_up HV4.out u7 fun _ _ => id
   clear u7 HU5
   have his : ∀ i ∈ is, i < r.sid := fun i hi => by
    have := (H7.out.rr.ri.mem i).1 hi
    obtain ⟨y, hy⟩ := Option.isSome_iff_exists.1 this
    obtain ⟨y', hy'⟩ := drop_s hy
    have := (HII.out.s i y' hy').1.2
    have := HLT.out
    omega
   have hcl := rlay_any H7.out (gr_lt HF.out HU7.out.size) (by have := HNN.out; omega) r.sid ⟨1, 0, r.key, noK, noK, r.locs⟩ (.slice la r.locs.length lc) his ⟨by have := HS0.out; omega, HS0.out.2⟩ HV7.out (fun g e => .inl (HVF.out g e))
   have HCL2 := hid hcl
   obtain ⟨_, _, _, x3, _, _, x6, _⟩ := HRB7.out.cells
   obtain ⟨y0, y1, y2⟩ := cell3 HB7.out
   clear his hcl
   go_wp2_with fail
   refine HCL2.out.mono ?_
   rintro e w8 ⟨rfl, ⟨is8, iv8, sv8, h8⟩, u8⟩
   have H8 : Hid (RM (Gr F w w8) w8 q (n + 1) _ _ ks is8 kv bv iv8 sv8) := h8.wide (gr_tr HU7.out.size u8.size)
   have HU8 : Hid (Up (fun k => k = q) w w8) := HU7.out.trans u8
   have hrb8 := HRB7.out.up u8 HNQ.out
   have hcl := rset_any H8.out (gr_lt HF.out HU8.out.size) (by have := HNN.out; omega) r.key ⟨r.n, r.sid, 0⟩
   have HCL3 := hid hcl
   obtain ⟨_, x1, x2, x3, _⟩ := hrb8.cells
   clear h8 u8 hrb8 hcl x6 y0 y1 y2
   go_wp2_with fail
   refine HCL3.out.mono ?_
   rintro e w9 ⟨rfl, ⟨ks9, kv9, bv9, h9⟩, u9⟩
   have H9 : Hid (RMx (Gr F w w9) w9 q (n + 2) (putM M r)) := ⟨_, _, _, _, _, _, _, h9.wide (gr_tr HU8.out.size u9.size)⟩
   have HU9 : Hid (Up F w w9) := gr_up (HU8.out.mono fun j _ e => by rw [e]; exact HM0.out.fq) (Up.refl Nul w8) (u9.mono fun j _ e => by
    rcases e with e | e
    ·rw [e]; exact H8.out.fq
    ·exact H8.out.rr.fb j e)
   clear h9 u9 x1 x2 x3
   go_wp2_with fail
   go_ret
   rw [HE.out]
   exact ⟨_, rfl, H9.out.mono (by omega), HU9.out⟩
  | some x =>
   obtain ⟨_, hx⟩ := HII.out.b _ x hb
   obtain ⟨tx, htx, hxp, s, hs, _⟩ := hx id
   obtain ⟨xn, xi, xp⟩ := x
   dsimp only at hxp hs
   rw [bof_some hb, hb] at hbl
   have HBL := hid hbl
   have HBB := hid hb
   have HSS := hid hs
   have HXP : Hid (xp = 0 ∨ xp = 1 ∨ xp = 2) := by show _ ∨ _ ∨ _; omega
   clear hb hbl hs hxp htx hx
   go_wp2_with fail
   refine HBL.out.mono ?_
   rintro e w5 ⟨rfl, u5⟩
   have HU5 := hid u5
   clear u5 HBL
   go_upto_region 11 with fail
   obtain ⟨W6, hW6⟩ : ∃ W, W = w5.alloc (.cells #[.int .i64 xn, .int .i64 xi, .int .i64 xp] 51) := ⟨_, rfl⟩
   have u6 : Up Nul W4 W6 := by rw [hW6]; exact HU5.out.alloc _
   rw [← hW6]
   clear hW6 x0 x1 x2 x3 x4 x5 x6 x7 x8 x9 x10 x11 x12 y0 y1 y2
   have HU6 := hid u6
   have HM6 := hid (HM4.out.nxt u6)
   have hcl := rdrop_any HM6.out (fun k hk => Nat.lt_of_lt_of_le (HF4.out k hk) u6.size) (by have := HNN.out; omega) r.key xn xi xp HBB.out HXP.out s HSS.out
   have HCL := hid hcl
   obtain ⟨_, x1, _⟩ := (HRB4.out.nxt u6).cells
   clear u6 hcl HU5
   go_wp2_with fail
   refine HCL.out.mono ?_
   rintro e w7 ⟨rfl, ⟨Q7, ks7, is7, kv7, bv7, iv7, sv7, h7⟩, u7⟩
   have HU7 : Hid (Up (fun k => k = q) w w7) := (HU4.out.trans HU6.out).nul.trans u7
   have H7 := hid (h7.wide (gr_low (Nat.le_trans HU4.out.size HU6.out.size)))
   have HRB7 := hid ((HRB4.out.nxt HU6.out).up u7 HNQ.out)
   have HB7 := hid (u7.keep (HU6.out.keep HB4.out id) HNK.out)
   have HV7 : Hid (OwnLo 0 w7 (.slice la r.locs.length lc) r.locs) := keepLo (lo_up HV4.out HU6.out fun _ _ => id) u7 HM6.out.hp
   clear h7 u7 x1
   have his : ∀ i ∈ is7, i < r.sid := fun i hi => by
    have := (H7.out.rr.ri.mem i).1 hi
    obtain ⟨y, hy⟩ := Option.isSome_iff_exists.1 this
    obtain ⟨y', hy'⟩ := drop_s hy
    have := (HII.out.s i y' hy').1.2
    have := HLT.out
    omega
   have hcl := rlay_any H7.out (gr_lt HF.out HU7.out.size) (by have := HNN.out; omega) r.sid ⟨1, 0, r.key, noK, noK, r.locs⟩ (.slice la r.locs.length lc) his ⟨by have := HS0.out; omega, HS0.out.2⟩ HV7.out (fun g e => .inl (HVF.out g e))
   have HCL2 := hid hcl
   obtain ⟨_, _, _, x3, _, _, x6, _⟩ := HRB7.out.cells
   obtain ⟨y0, y1, y2⟩ := cell3 HB7.out
   clear his hcl
   go_wp2_with fail
   refine HCL2.out.mono ?_
   rintro e w8 ⟨rfl, ⟨is8, iv8, sv8, h8⟩, u8⟩
   have H8 : Hid (RM (Gr F w w8) w8 q (n + 1) _ _ ks7 is8 kv7 bv7 iv8 sv8) := h8.wide (gr_tr HU7.out.size u8.size)
   have HU8 : Hid (Up (fun k => k = q) w w8) := HU7.out.trans u8
   have hrb8 := HRB7.out.up u8 HNQ.out
   have hcl := rset_any H8.out (gr_lt HF.out HU8.out.size) (by have := HNN.out; omega) r.key ⟨r.n, r.sid, 0⟩
   have HCL3 := hid hcl
   obtain ⟨_, x1, x2, x3, _⟩ := hrb8.cells
   clear h8 u8 hrb8 hcl x6 y0 y1 y2
   go_wp2_with fail
   refine HCL3.out.mono ?_
   rintro e w9 ⟨rfl, ⟨ks9, kv9, bv9, h9⟩, u9⟩
   have H9 : Hid (RMx (Gr F w w9) w9 q (n + 2) (putM M r)) := ⟨_, _, _, _, _, _, _, h9.wide (gr_tr HU8.out.size u9.size)⟩
   have HU9 : Hid (Up F w w9) := gr_up (HU8.out.mono fun j _ e => by rw [e]; exact HM0.out.fq) (Up.refl Nul w8) (u9.mono fun j _ e => by
    rcases e with e | e
    ·rw [e]; exact H8.out.fq
    ·exact H8.out.rr.fb j e)
   clear h9 u9 x1 x2 x3
   go_wp2_with fail
   go_ret
   rw [HE.out]
   exact ⟨_, rfl, H9.out.mono (by omega), HU9.out⟩
set_option maxRecDepth 10000 in
set_option maxHeartbeats 3000000 in
theorem rapply_2 (h : RMx F w q n M) (hF : ∀ k, F k → k < w.heap.size) (hn : n ≤ 70000) (hI : M.Inv3) (r : Rc) (sa la : Option Addr) (sc lc : Nat) (hr : RH w r sa la) (hf : OkF r) (hk : r.kind = 2) (hv : OwnLo 0 w (.slice la r.locs.length lc) r.locs) (hvF : ∀ g, (Value.slice la r.locs.length lc).ownBlock = some g → F g)
  (hsq : r.sids ≠ [] → ∀ g o, sa = some ⟨g, o, none⟩ → ¬ F g) (hsc : r.sids.length ≤ sc ∧ (sc : Int) ≤ 9223372036854775807) :
  Calls Tryz.prog 10 #[.pointer (some ⟨q, 0, none⟩), rv r (.slice sa r.sids.length sc) (.slice la r.locs.length lc)] w fun e w' => ∃ x, e = .returned (.int .i64 x) ∧ RMx (Gr F w w') w' q (n + 7) (M.step r).2 ∧ Up F w w' := by
 obtain ⟨Q, ks, is, kv, bv, iv, sv, h⟩ := h
 obtain ⟨W1, hW1⟩ : ∃ W, W = w.alloc (.cells (rcellsL r (.slice sa r.sids.length sc) (.slice la r.locs.length lc)) 28) := ⟨_, rfl⟩
 have u1 : Up Nul w W1 := by rw [hW1]; exact (Up.refl Nul w).alloc _
 have b1 : RB W1 w.heap.size r (.slice sa r.sids.length sc) (.slice la r.locs.length lc) := by rw [hW1]; exact RB.new _ _ _ _
 have HU1 := hid u1
 have HM0 := hid h
 have HF := hid hF
 have HNN := hid hn
 have HII := hid hI
 have HRH := hid hr
 have HOK := hid hf
 have HVL := hid hv
 have HVF := hid hvF
 have HSQ := hid hsq
 have HSC := hid hsc
 have HKD := hid hk
 have HB1 := hid b1
 have HPR : Hid (¬ F w.heap.size) := fun e => by have := hF _ e; omega
 have hokr := rok_any r sa la sc lc W1 (hr.nxt u1) (by have := hf.keyl; omega)
 rw [okR_iff.2 hf] at hokr
 have HROK := hid hokr
 have HFR : Hid (∀ W, Up Nul W1 W → Calls Tryz.prog 24 #[.pointer (some ⟨q, 0, none⟩), rv r (.slice sa r.sids.length sc) (.slice la r.locs.length lc)] W fun e w' => e = .returned (.bool (rise M.last (newS r)).isSome) ∧ Up Nul W w') := fun W u =>
  rfresh_2 (h.nxt (u1.trans u)) hI.l r sa la sc lc (hr.nxt (u1.trans u)) hk (.inr (.inl rfl)) (fun z hz => by rw [okf_nil hf hk (by decide)] at hz; cases hz)
 obtain ⟨R, HR⟩ : ∃ R, Hid ((M.step r).2 = R) := ⟨_, rfl⟩
 rw [HR.out]
 have kf1 : (r.kind == 1) = false := by rw [hk]; rfl
 have kf2 : (r.kind == 2) = true := by rw [hk]; rfl
 have kf3 : (r.kind == 3) = false := by rw [hk]; rfl
 have kf4 : (r.kind == 4) = false := by rw [hk]; rfl
 have kf5 : (r.kind == 5) = false := by rw [hk]; rfl
 have kf6 : (r.kind == 6) = false := by rw [hk]; rfl
 have kf7 : (r.kind == 7) = false := by rw [hk]; rfl
 obtain ⟨x0, x1, x2, x3, x4, x5, x6, x7, x8, x9, x10, x11, x12⟩ := b1.cells
 clear h hF hn hI hr hf hv hvF hsq hsc u1 b1 hokr hk
 cases hri : rise M.last (newS r) with
 | none =>
  have HE : Hid (R = M) := by show R = _; rw [← HR.out]; exact step_none HOK.out hri
  rw [hri] at HFR
  clear hri
  go_enter Tryz.func10, Tryz.ntmps10
  go_upto_region 1 with fail
  rw [← hW1]
  clear hW1
  go_wp2_with fail
  refine HROK.out.mono ?_
  rintro e w2 ⟨rfl, u2⟩
  have HU2 := hid u2
  have hb2 := HB1.out.nxt u2
  obtain ⟨x0, x1, x2, x3, x4, x5, x6, x7, x8, x9, x10, x11, x12⟩ := hb2.cells
  have HF2 := hid (HFR.out w2 u2)
  clear u2 hb2 HROK HFR
  go_wp2_with fail
  refine HF2.out.mono ?_
  rintro e w3 ⟨rfl, u3⟩
  have HU3 : Hid (Up Nul W1 w3) := HU2.out.trans u3
  clear u3
  go_wp2_with fail
  go_ret
  rw [HE.out]
  exact ⟨_, rfl, (RMx.wide ⟨_, _, _, _, _, _, _, HM0.out.nxt (HU1.out.trans HU3.out)⟩ fun k hk => .inl hk).mono (by omega), (HU1.out.trans HU3.out).nul⟩
 | some l =>
  have HRI := hid hri
  rw [hri] at HFR
  clear hri
  have HST : Hid (R = if (M.chg r).1 = 0 then { (M.chg r).2 with last := l } else (M.chg r).2) := by show R = _; rw [← HR.out]; exact step_some HOK.out HRI.out
  have HCH : Hid (M.chg r = M.drop r.key) := by show _ = _; unfold MM.chg; rw [HKD.out]; rfl
  go_enter Tryz.func10, Tryz.ntmps10
  go_upto_region 1 with fail
  rw [← hW1]
  clear hW1
  go_wp2_with fail
  refine HROK.out.mono ?_
  rintro e w2 ⟨rfl, u2⟩
  have HU2 := hid u2
  have hb2 := HB1.out.nxt u2
  obtain ⟨x0, x1, x2, x3, x4, x5, x6, x7, x8, x9, x10, x11, x12⟩ := hb2.cells
  have HF2 := hid (HFR.out w2 u2)
  clear u2 hb2 HROK HFR
  go_wp2_with fail
  refine HF2.out.mono ?_
  rintro e w3 ⟨rfl, u3⟩
  have HU3 : Hid (Up Nul W1 w3) := HU2.out.trans u3
  have hb3 := HB1.out.nxt HU3.out
  obtain ⟨x0, x1, x2, x3, x4, x5, x6, x7, x8, x9, x10, x11, x12⟩ := hb3.cells
  clear u3 hb3 HU2
  go_upto_region 6 with fail
  obtain ⟨W4, hW4⟩ : ∃ W, W = w3.alloc (.cells #[.string r.key, .string ⟨#[]⟩, .string ⟨#[]⟩] 44) := ⟨_, rfl⟩
  have u4 : Up Nul w3 W4 := by rw [hW4]; exact (Up.refl Nul w3).alloc _
  have b4 : W4.heap[w3.heap.size]? = some (.cells #[.string r.key, .string ⟨#[]⟩, .string ⟨#[]⟩] 44 (0, 0)) := by rw [hW4]; exact heap_alloc_new _ _
  rw [← hW4]
  clear hW4
  have HU14 : Hid (Up Nul W1 W4) := HU3.out.trans u4
  have HU4 : Hid (Up Nul w W4) := HU1.out.trans HU14.out
  have HPK : Hid (¬ F w3.heap.size) := fun e => by have h1 := HF.out _ e; have h2 := HU1.out.size; have h3 := HU3.out.size; omega
  generalize w3.heap.size = pk at *
  have HRB4 := hid (HB1.out.nxt HU14.out)
  have HB4 := hid b4
  have HM4 := hid (HM0.out.nxt HU4.out)
  have HF4 : Hid (∀ k, F k → k < W4.heap.size) := fun k hk => Nat.lt_of_lt_of_le (HF.out k hk) HU4.out.size
  have HV4 : Hid (OwnLo 0 W4 (.slice la r.locs.length lc) r.locs) := lo_up HVL.out HU4.out fun _ _ => id
  have HRH4 := hid (HRH.out.nxt HU4.out)
  obtain ⟨x0, x1, x2, x3, x4, x5, x6, x7, x8, x9, x10, x11, x12⟩ := HRB4.out.cells
  obtain ⟨y0, y1, y2⟩ := cell3 b4
  clear u4 b4 HU3
  have hkey := okf_del HOK.out HKD.out
  have hl : l = M.last := by have := HRI.out; unfold newS at this; rw [HKD.out] at this; have e : rise M.last [] = some l := this; unfold rise at e; injection e with e; exact e.symm
  have HE : Hid (R = (M.drop r.key).2) := by
   show R = _
   rw [HST.out, HCH.out, hl]
   split
   ·exact drop_last M r.key
   ·rfl
  have hbl := rblob_any HM4.out (by have := HNN.out; omega) r.key
  clear hkey hl
  cases hb : M.b r.key with
  | none =>
   have hbz : M.bof r.key = ⟨0, 0, 0⟩ := by unfold MM.bof; rw [hb]; rfl
   rw [hbz, hb] at hbl
   have HBL := hid hbl
   have HDD : Hid ((M.drop r.key).2 = M) := by show _ = _; unfold MM.drop; rw [hb]
   clear hbz hb hbl
   go_wp2_with fail
   refine HBL.out.mono ?_
   rintro e w5 ⟨rfl, u5⟩
   have HU5 := hid u5
   clear u5 HBL
   go_wp2_with fail
   go_ret
   rw [HE.out, HDD.out]
   exact ⟨_, rfl, (RMx.wide ⟨_, _, _, _, _, _, _, HM4.out.nxt (HU5.out.alloc _)⟩ fun k hk => .inl hk).mono (by omega), (HU4.out.trans (HU5.out.alloc _)).nul⟩
  | some x =>
   obtain ⟨_, hx⟩ := HII.out.b _ x hb
   obtain ⟨tx, htx, hxp, s, hs, _⟩ := hx id
   obtain ⟨xn, xi, xp⟩ := x
   dsimp only at hxp hs
   rw [bof_some hb, hb] at hbl
   have HBL := hid hbl
   have HBB := hid hb
   have HSS := hid hs
   have HXP : Hid (xp = 0 ∨ xp = 1 ∨ xp = 2) := by show _ ∨ _ ∨ _; omega
   clear hb hbl hs hxp htx hx
   go_wp2_with fail
   refine HBL.out.mono ?_
   rintro e w5 ⟨rfl, u5⟩
   have HU5 := hid u5
   clear u5 HBL
   go_upto_region 18 with fail
   obtain ⟨W6, hW6⟩ : ∃ W, W = w5.alloc (.cells #[.int .i64 xn, .int .i64 xi, .int .i64 xp] 51) := ⟨_, rfl⟩
   have u6 : Up Nul W4 W6 := by rw [hW6]; exact HU5.out.alloc _
   rw [← hW6]
   clear hW6 x0 x1 x2 x3 x4 x5 x6 x7 x8 x9 x10 x11 x12 y0 y1 y2
   have HU6 := hid u6
   have HM6 := hid (HM4.out.nxt u6)
   have hcl := rdrop_any HM6.out (fun k hk => Nat.lt_of_lt_of_le (HF4.out k hk) u6.size) (by have := HNN.out; omega) r.key xn xi xp HBB.out HXP.out s HSS.out
   have HCL := hid hcl
   obtain ⟨_, x1, _⟩ := (HRB4.out.nxt u6).cells
   clear u6 hcl HU5
   go_wp2_with fail
   refine HCL.out.mono ?_
   rintro e w7 ⟨rfl, ⟨Q7, ks7, is7, kv7, bv7, iv7, sv7, h7⟩, u7⟩
   have HU7 : Hid (Up F w w7) := (HU4.out.trans HU6.out).nul.trans (u7.mono fun j _ e => by rw [e]; exact HM0.out.fq)
   have H7 := hid (h7.wide (gr_low (Nat.le_trans HU4.out.size HU6.out.size)))
   clear h7 u7 x1
   go_wp2_with fail
   go_ret
   rw [HE.out]
   exact ⟨_, rfl, RMx.mono ⟨_, _, _, _, _, _, _, H7.out⟩ (by omega), HU7.out⟩
set_option maxRecDepth 10000 in
set_option maxHeartbeats 3000000 in
theorem rapply_3 (h : RMx F w q n M) (hF : ∀ k, F k → k < w.heap.size) (hn : n ≤ 70000) (hI : M.Inv3) (r : Rc) (sa la : Option Addr) (sc lc : Nat) (hr : RH w r sa la) (hf : OkF r) (hk : r.kind = 3) (hv : OwnLo 0 w (.slice la r.locs.length lc) r.locs) (hvF : ∀ g, (Value.slice la r.locs.length lc).ownBlock = some g → F g)
  (hsq : r.sids ≠ [] → ∀ g o, sa = some ⟨g, o, none⟩ → ¬ F g) (hsc : r.sids.length ≤ sc ∧ (sc : Int) ≤ 9223372036854775807) :
  Calls Tryz.prog 10 #[.pointer (some ⟨q, 0, none⟩), rv r (.slice sa r.sids.length sc) (.slice la r.locs.length lc)] w fun e w' => ∃ x, e = .returned (.int .i64 x) ∧ RMx (Gr F w w') w' q (n + 7) (M.step r).2 ∧ Up F w w' := by
 obtain ⟨Q, ks, is, kv, bv, iv, sv, h⟩ := h
 obtain ⟨W1, hW1⟩ : ∃ W, W = w.alloc (.cells (rcellsL r (.slice sa r.sids.length sc) (.slice la r.locs.length lc)) 28) := ⟨_, rfl⟩
 have u1 : Up Nul w W1 := by rw [hW1]; exact (Up.refl Nul w).alloc _
 have b1 : RB W1 w.heap.size r (.slice sa r.sids.length sc) (.slice la r.locs.length lc) := by rw [hW1]; exact RB.new _ _ _ _
 have HU1 := hid u1
 have HM0 := hid h
 have HF := hid hF
 have HNN := hid hn
 have HII := hid hI
 have HRH := hid hr
 have HOK := hid hf
 have HVL := hid hv
 have HVF := hid hvF
 have HSQ := hid hsq
 have HSC := hid hsc
 have HKD := hid hk
 have HB1 := hid b1
 have HPR : Hid (¬ F w.heap.size) := fun e => by have := hF _ e; omega
 have hokr := rok_any r sa la sc lc W1 (hr.nxt u1) (by have := hf.keyl; omega)
 rw [okR_iff.2 hf] at hokr
 have HROK := hid hokr
 have HFR : Hid (∀ W, Up Nul W1 W → Calls Tryz.prog 24 #[.pointer (some ⟨q, 0, none⟩), rv r (.slice sa r.sids.length sc) (.slice la r.locs.length lc)] W fun e w' => e = .returned (.bool (rise M.last (newS r)).isSome) ∧ Up Nul W w') := fun W u =>
  rfresh_3 (h.nxt (u1.trans u)) hI.l r sa la sc lc (hr.nxt (u1.trans u)) hk (.inl (okf_swap hf (.inl hk)).2.2.1) (fun z hz => by rw [okf_nil hf hk (by decide)] at hz; cases hz)
 obtain ⟨R, HR⟩ : ∃ R, Hid ((M.step r).2 = R) := ⟨_, rfl⟩
 rw [HR.out]
 have kf1 : (r.kind == 1) = false := by rw [hk]; rfl
 have kf2 : (r.kind == 2) = false := by rw [hk]; rfl
 have kf3 : (r.kind == 3) = true := by rw [hk]; rfl
 have kf4 : (r.kind == 4) = false := by rw [hk]; rfl
 have kf5 : (r.kind == 5) = false := by rw [hk]; rfl
 have kf6 : (r.kind == 6) = false := by rw [hk]; rfl
 have kf7 : (r.kind == 7) = false := by rw [hk]; rfl
 obtain ⟨x0, x1, x2, x3, x4, x5, x6, x7, x8, x9, x10, x11, x12⟩ := b1.cells
 clear h hF hn hI hr hf hv hvF hsq hsc u1 b1 hokr hk
 cases hri : rise M.last (newS r) with
 | none =>
  have HE : Hid (R = M) := by show R = _; rw [← HR.out]; exact step_none HOK.out hri
  rw [hri] at HFR
  clear hri
  go_enter Tryz.func10, Tryz.ntmps10
  go_upto_region 1 with fail
  rw [← hW1]
  clear hW1
  go_wp2_with fail
  refine HROK.out.mono ?_
  rintro e w2 ⟨rfl, u2⟩
  have HU2 := hid u2
  have hb2 := HB1.out.nxt u2
  obtain ⟨x0, x1, x2, x3, x4, x5, x6, x7, x8, x9, x10, x11, x12⟩ := hb2.cells
  have HF2 := hid (HFR.out w2 u2)
  clear u2 hb2 HROK HFR
  go_wp2_with fail
  refine HF2.out.mono ?_
  rintro e w3 ⟨rfl, u3⟩
  have HU3 : Hid (Up Nul W1 w3) := HU2.out.trans u3
  clear u3
  go_wp2_with fail
  go_ret
  rw [HE.out]
  exact ⟨_, rfl, (RMx.wide ⟨_, _, _, _, _, _, _, HM0.out.nxt (HU1.out.trans HU3.out)⟩ fun k hk => .inl hk).mono (by omega), (HU1.out.trans HU3.out).nul⟩
 | some l =>
  have HRI := hid hri
  rw [hri] at HFR
  clear hri
  have HST : Hid (R = if (M.chg r).1 = 0 then { (M.chg r).2 with last := l } else (M.chg r).2) := by show R = _; rw [← HR.out]; exact step_some HOK.out HRI.out
  have HCH : Hid (M.chg r = M.swap r 1 2) := by show _ = _; unfold MM.chg; rw [HKD.out]; rfl
  go_enter Tryz.func10, Tryz.ntmps10
  go_upto_region 1 with fail
  rw [← hW1]
  clear hW1
  go_wp2_with fail
  refine HROK.out.mono ?_
  rintro e w2 ⟨rfl, u2⟩
  have HU2 := hid u2
  have hb2 := HB1.out.nxt u2
  obtain ⟨x0, x1, x2, x3, x4, x5, x6, x7, x8, x9, x10, x11, x12⟩ := hb2.cells
  have HF2 := hid (HFR.out w2 u2)
  clear u2 hb2 HROK HFR
  go_wp2_with fail
  refine HF2.out.mono ?_
  rintro e w3 ⟨rfl, u3⟩
  have HU3 : Hid (Up Nul W1 w3) := HU2.out.trans u3
  have hb3 := HB1.out.nxt HU3.out
  obtain ⟨x0, x1, x2, x3, x4, x5, x6, x7, x8, x9, x10, x11, x12⟩ := hb3.cells
  clear u3 hb3 HU2
  go_upto_region 6 with fail
  obtain ⟨W4, hW4⟩ : ∃ W, W = w3.alloc (.cells #[.string r.key, .string ⟨#[]⟩, .string ⟨#[]⟩] 44) := ⟨_, rfl⟩
  have u4 : Up Nul w3 W4 := by rw [hW4]; exact (Up.refl Nul w3).alloc _
  have b4 : W4.heap[w3.heap.size]? = some (.cells #[.string r.key, .string ⟨#[]⟩, .string ⟨#[]⟩] 44 (0, 0)) := by rw [hW4]; exact heap_alloc_new _ _
  rw [← hW4]
  clear hW4
  have HU14 : Hid (Up Nul W1 W4) := HU3.out.trans u4
  have HU4 : Hid (Up Nul w W4) := HU1.out.trans HU14.out
  have HPK : Hid (¬ F w3.heap.size) := fun e => by have h1 := HF.out _ e; have h2 := HU1.out.size; have h3 := HU3.out.size; omega
  generalize w3.heap.size = pk at *
  have HRB4 := hid (HB1.out.nxt HU14.out)
  have HB4 := hid b4
  have HM4 := hid (HM0.out.nxt HU4.out)
  have HF4 : Hid (∀ k, F k → k < W4.heap.size) := fun k hk => Nat.lt_of_lt_of_le (HF.out k hk) HU4.out.size
  have HV4 : Hid (OwnLo 0 W4 (.slice la r.locs.length lc) r.locs) := lo_up HVL.out HU4.out fun _ _ => id
  have HRH4 := hid (HRH.out.nxt HU4.out)
  obtain ⟨x0, x1, x2, x3, x4, x5, x6, x7, x8, x9, x10, x11, x12⟩ := HRB4.out.cells
  obtain ⟨y0, y1, y2⟩ := cell3 b4
  clear u4 b4 HU3
  have hkey := okf_swap HOK.out (.inl HKD.out)
  have hs0 : 1 ≤ r.sid ∧ r.sid ≤ 2147483647 := (okf_swap HOK.out (.inl HKD.out)).2.2.1
  obtain ⟨hlt, rfl⟩ := rise_one (show rise M.last [r.sid] = some l from by have := HRI.out; unfold newS at this; rw [HKD.out] at this; exact this)
  have hcl := ragain_any (RMx.wide ⟨_, _, _, _, _, _, _, HM4.out⟩ fun k hk => hk) HF4.out (by have := HNN.out; omega) r sa la sc lc 1 ⟨2, r.colour, r.key, noK, noK, r.locs⟩ rfl (fun b hb => by
   obtain ⟨_, h2⟩ := HII.out.b _ b hb
   obtain ⟨t, _, _, s, hs, _⟩ := h2 id
   exact ⟨s, hs⟩) (fun i s hs => by have := (HII.out.s i s hs).1.2; omega) ⟨by omega, hs0.2⟩ HV4.out HVF.out
  have HE : Hid (R = (M.again r 1 ⟨2, r.colour, r.key, noK, noK, r.locs⟩).2) := by
   show R = _
   rw [HST.out, HCH.out]
   exact swap_again HII.out r 1 2 (size_pos_ne hkey.1.1)
  have HCL := hid hcl
  clear hcl hkey hs0 hlt
  go_wp2_with fail
  refine HCL.out.mono ?_
  rintro e w5 ⟨rfl, hx, u5⟩
  have HX := hid hx
  have HU5 := hid u5
  clear hx u5
  go_wp2_with fail
  go_ret
  rw [HE.out]
  exact ⟨_, rfl, (HX.out.wide (gr_low HU4.out.size)).mono (by omega), HU4.out.nul.trans HU5.out⟩
set_option maxRecDepth 10000 in
set_option maxHeartbeats 3000000 in
theorem rapply_4 (h : RMx F w q n M) (hF : ∀ k, F k → k < w.heap.size) (hn : n ≤ 70000) (hI : M.Inv3) (r : Rc) (sa la : Option Addr) (sc lc : Nat) (hr : RH w r sa la) (hf : OkF r) (hk : r.kind = 4) (hv : OwnLo 0 w (.slice la r.locs.length lc) r.locs) (hvF : ∀ g, (Value.slice la r.locs.length lc).ownBlock = some g → F g)
  (hsq : r.sids ≠ [] → ∀ g o, sa = some ⟨g, o, none⟩ → ¬ F g) (hsc : r.sids.length ≤ sc ∧ (sc : Int) ≤ 9223372036854775807) :
  Calls Tryz.prog 10 #[.pointer (some ⟨q, 0, none⟩), rv r (.slice sa r.sids.length sc) (.slice la r.locs.length lc)] w fun e w' => ∃ x, e = .returned (.int .i64 x) ∧ RMx (Gr F w w') w' q (n + 7) (M.step r).2 ∧ Up F w w' := by
 obtain ⟨Q, ks, is, kv, bv, iv, sv, h⟩ := h
 obtain ⟨W1, hW1⟩ : ∃ W, W = w.alloc (.cells (rcellsL r (.slice sa r.sids.length sc) (.slice la r.locs.length lc)) 28) := ⟨_, rfl⟩
 have u1 : Up Nul w W1 := by rw [hW1]; exact (Up.refl Nul w).alloc _
 have b1 : RB W1 w.heap.size r (.slice sa r.sids.length sc) (.slice la r.locs.length lc) := by rw [hW1]; exact RB.new _ _ _ _
 have HU1 := hid u1
 have HM0 := hid h
 have HF := hid hF
 have HNN := hid hn
 have HII := hid hI
 have HRH := hid hr
 have HOK := hid hf
 have HVL := hid hv
 have HVF := hid hvF
 have HSQ := hid hsq
 have HSC := hid hsc
 have HKD := hid hk
 have HB1 := hid b1
 have HPR : Hid (¬ F w.heap.size) := fun e => by have := hF _ e; omega
 have hokr := rok_any r sa la sc lc W1 (hr.nxt u1) (by have := hf.keyl; omega)
 rw [okR_iff.2 hf] at hokr
 have HROK := hid hokr
 have HFR : Hid (∀ W, Up Nul W1 W → Calls Tryz.prog 24 #[.pointer (some ⟨q, 0, none⟩), rv r (.slice sa r.sids.length sc) (.slice la r.locs.length lc)] W fun e w' => e = .returned (.bool (rise M.last (newS r)).isSome) ∧ Up Nul W w') := fun W u =>
  rfresh_4 (h.nxt (u1.trans u)) hI.l r sa la sc lc (hr.nxt (u1.trans u)) hk (.inl (okf_swap hf (.inr hk)).2.2.1) (fun z hz => by rw [okf_nil hf hk (by decide)] at hz; cases hz)
 obtain ⟨R, HR⟩ : ∃ R, Hid ((M.step r).2 = R) := ⟨_, rfl⟩
 rw [HR.out]
 have kf1 : (r.kind == 1) = false := by rw [hk]; rfl
 have kf2 : (r.kind == 2) = false := by rw [hk]; rfl
 have kf3 : (r.kind == 3) = false := by rw [hk]; rfl
 have kf4 : (r.kind == 4) = true := by rw [hk]; rfl
 have kf5 : (r.kind == 5) = false := by rw [hk]; rfl
 have kf6 : (r.kind == 6) = false := by rw [hk]; rfl
 have kf7 : (r.kind == 7) = false := by rw [hk]; rfl
 obtain ⟨x0, x1, x2, x3, x4, x5, x6, x7, x8, x9, x10, x11, x12⟩ := b1.cells
 clear h hF hn hI hr hf hv hvF hsq hsc u1 b1 hokr hk
 cases hri : rise M.last (newS r) with
 | none =>
  have HE : Hid (R = M) := by show R = _; rw [← HR.out]; exact step_none HOK.out hri
  rw [hri] at HFR
  clear hri
  go_enter Tryz.func10, Tryz.ntmps10
  go_upto_region 1 with fail
  rw [← hW1]
  clear hW1
  go_wp2_with fail
  refine HROK.out.mono ?_
  rintro e w2 ⟨rfl, u2⟩
  have HU2 := hid u2
  have hb2 := HB1.out.nxt u2
  obtain ⟨x0, x1, x2, x3, x4, x5, x6, x7, x8, x9, x10, x11, x12⟩ := hb2.cells
  have HF2 := hid (HFR.out w2 u2)
  clear u2 hb2 HROK HFR
  go_wp2_with fail
  refine HF2.out.mono ?_
  rintro e w3 ⟨rfl, u3⟩
  have HU3 : Hid (Up Nul W1 w3) := HU2.out.trans u3
  clear u3
  go_wp2_with fail
  go_ret
  rw [HE.out]
  exact ⟨_, rfl, (RMx.wide ⟨_, _, _, _, _, _, _, HM0.out.nxt (HU1.out.trans HU3.out)⟩ fun k hk => .inl hk).mono (by omega), (HU1.out.trans HU3.out).nul⟩
 | some l =>
  have HRI := hid hri
  rw [hri] at HFR
  clear hri
  have HST : Hid (R = if (M.chg r).1 = 0 then { (M.chg r).2 with last := l } else (M.chg r).2) := by show R = _; rw [← HR.out]; exact step_some HOK.out HRI.out
  have HCH : Hid (M.chg r = M.swap r 2 1) := by show _ = _; unfold MM.chg; rw [HKD.out]; rfl
  go_enter Tryz.func10, Tryz.ntmps10
  go_upto_region 1 with fail
  rw [← hW1]
  clear hW1
  go_wp2_with fail
  refine HROK.out.mono ?_
  rintro e w2 ⟨rfl, u2⟩
  have HU2 := hid u2
  have hb2 := HB1.out.nxt u2
  obtain ⟨x0, x1, x2, x3, x4, x5, x6, x7, x8, x9, x10, x11, x12⟩ := hb2.cells
  have HF2 := hid (HFR.out w2 u2)
  clear u2 hb2 HROK HFR
  go_wp2_with fail
  refine HF2.out.mono ?_
  rintro e w3 ⟨rfl, u3⟩
  have HU3 : Hid (Up Nul W1 w3) := HU2.out.trans u3
  have hb3 := HB1.out.nxt HU3.out
  obtain ⟨x0, x1, x2, x3, x4, x5, x6, x7, x8, x9, x10, x11, x12⟩ := hb3.cells
  clear u3 hb3 HU2
  go_upto_region 6 with fail
  obtain ⟨W4, hW4⟩ : ∃ W, W = w3.alloc (.cells #[.string r.key, .string ⟨#[]⟩, .string ⟨#[]⟩] 44) := ⟨_, rfl⟩
  have u4 : Up Nul w3 W4 := by rw [hW4]; exact (Up.refl Nul w3).alloc _
  have b4 : W4.heap[w3.heap.size]? = some (.cells #[.string r.key, .string ⟨#[]⟩, .string ⟨#[]⟩] 44 (0, 0)) := by rw [hW4]; exact heap_alloc_new _ _
  rw [← hW4]
  clear hW4
  have HU14 : Hid (Up Nul W1 W4) := HU3.out.trans u4
  have HU4 : Hid (Up Nul w W4) := HU1.out.trans HU14.out
  have HPK : Hid (¬ F w3.heap.size) := fun e => by have h1 := HF.out _ e; have h2 := HU1.out.size; have h3 := HU3.out.size; omega
  generalize w3.heap.size = pk at *
  have HRB4 := hid (HB1.out.nxt HU14.out)
  have HB4 := hid b4
  have HM4 := hid (HM0.out.nxt HU4.out)
  have HF4 : Hid (∀ k, F k → k < W4.heap.size) := fun k hk => Nat.lt_of_lt_of_le (HF.out k hk) HU4.out.size
  have HV4 : Hid (OwnLo 0 W4 (.slice la r.locs.length lc) r.locs) := lo_up HVL.out HU4.out fun _ _ => id
  have HRH4 := hid (HRH.out.nxt HU4.out)
  obtain ⟨x0, x1, x2, x3, x4, x5, x6, x7, x8, x9, x10, x11, x12⟩ := HRB4.out.cells
  obtain ⟨y0, y1, y2⟩ := cell3 b4
  clear u4 b4 HU3
  have hkey := okf_swap HOK.out (.inr HKD.out)
  have hs0 : 1 ≤ r.sid ∧ r.sid ≤ 2147483647 := (okf_swap HOK.out (.inr HKD.out)).2.2.1
  obtain ⟨hlt, rfl⟩ := rise_one (show rise M.last [r.sid] = some l from by have := HRI.out; unfold newS at this; rw [HKD.out] at this; exact this)
  have hcl := ragain_any (RMx.wide ⟨_, _, _, _, _, _, _, HM4.out⟩ fun k hk => hk) HF4.out (by have := HNN.out; omega) r sa la sc lc 2 ⟨1, 0, r.key, noK, noK, r.locs⟩ rfl (fun b hb => by
   obtain ⟨_, h2⟩ := HII.out.b _ b hb
   obtain ⟨t, _, _, s, hs, _⟩ := h2 id
   exact ⟨s, hs⟩) (fun i s hs => by have := (HII.out.s i s hs).1.2; omega) ⟨by omega, hs0.2⟩ HV4.out HVF.out
  have HE : Hid (R = (M.again r 2 ⟨1, 0, r.key, noK, noK, r.locs⟩).2) := by
   show R = _
   rw [HST.out, HCH.out]
   have hc : r.colour = 0 := okf_col HOK.out HKD.out
   have := swap_again HII.out r 2 1 (size_pos_ne hkey.1.1)
   rw [hc] at this
   exact this
  have HCL := hid hcl
  clear hcl hkey hs0 hlt
  go_wp2_with fail
  refine HCL.out.mono ?_
  rintro e w5 ⟨rfl, hx, u5⟩
  have HX := hid hx
  have HU5 := hid u5
  clear hx u5
  go_wp2_with fail
  go_ret
  rw [HE.out]
  exact ⟨_, rfl, (HX.out.wide (gr_low HU4.out.size)).mono (by omega), HU4.out.nul.trans HU5.out⟩
set_option maxRecDepth 10000 in
set_option maxHeartbeats 3000000 in
theorem rapply_5 (h : RMx F w q n M) (hF : ∀ k, F k → k < w.heap.size) (hn : n ≤ 70000) (hI : M.Inv3) (r : Rc) (sa la : Option Addr) (sc lc : Nat) (hr : RH w r sa la) (hf : OkF r) (hk : r.kind = 5) (hv : OwnLo 0 w (.slice la r.locs.length lc) r.locs) (hvF : ∀ g, (Value.slice la r.locs.length lc).ownBlock = some g → F g)
  (hsq : r.sids ≠ [] → ∀ g o, sa = some ⟨g, o, none⟩ → ¬ F g) (hsc : r.sids.length ≤ sc ∧ (sc : Int) ≤ 9223372036854775807) :
  Calls Tryz.prog 10 #[.pointer (some ⟨q, 0, none⟩), rv r (.slice sa r.sids.length sc) (.slice la r.locs.length lc)] w fun e w' => ∃ x, e = .returned (.int .i64 x) ∧ RMx (Gr F w w') w' q (n + 7) (M.step r).2 ∧ Up F w w' := by
 obtain ⟨Q, ks, is, kv, bv, iv, sv, h⟩ := h
 obtain ⟨W1, hW1⟩ : ∃ W, W = w.alloc (.cells (rcellsL r (.slice sa r.sids.length sc) (.slice la r.locs.length lc)) 28) := ⟨_, rfl⟩
 have u1 : Up Nul w W1 := by rw [hW1]; exact (Up.refl Nul w).alloc _
 have b1 : RB W1 w.heap.size r (.slice sa r.sids.length sc) (.slice la r.locs.length lc) := by rw [hW1]; exact RB.new _ _ _ _
 have HU1 := hid u1
 have HM0 := hid h
 have HF := hid hF
 have HNN := hid hn
 have HII := hid hI
 have HRH := hid hr
 have HOK := hid hf
 have HVL := hid hv
 have HVF := hid hvF
 have HSQ := hid hsq
 have HSC := hid hsc
 have HKD := hid hk
 have HB1 := hid b1
 have HPR : Hid (¬ F w.heap.size) := fun e => by have := hF _ e; omega
 have hokr := rok_any r sa la sc lc W1 (hr.nxt u1) (by have := hf.keyl; omega)
 rw [okR_iff.2 hf] at hokr
 have HROK := hid hokr
 have HFR : Hid (∀ W, Up Nul W1 W → Calls Tryz.prog 24 #[.pointer (some ⟨q, 0, none⟩), rv r (.slice sa r.sids.length sc) (.slice la r.locs.length lc)] W fun e w' => e = .returned (.bool (rise M.last (newS r)).isSome) ∧ Up Nul W w') := fun W u =>
  rfresh_5 (h.nxt (u1.trans u)) hI.l r sa la sc lc (hr.nxt (u1.trans u)) hk (.inl (okf_merge hf hk).2.2.1) (okf_merge hf hk |>.2.2.2)
 obtain ⟨R, HR⟩ : ∃ R, Hid ((M.step r).2 = R) := ⟨_, rfl⟩
 rw [HR.out]
 have kf1 : (r.kind == 1) = false := by rw [hk]; rfl
 have kf2 : (r.kind == 2) = false := by rw [hk]; rfl
 have kf3 : (r.kind == 3) = false := by rw [hk]; rfl
 have kf4 : (r.kind == 4) = false := by rw [hk]; rfl
 have kf5 : (r.kind == 5) = true := by rw [hk]; rfl
 have kf6 : (r.kind == 6) = false := by rw [hk]; rfl
 have kf7 : (r.kind == 7) = false := by rw [hk]; rfl
 obtain ⟨x0, x1, x2, x3, x4, x5, x6, x7, x8, x9, x10, x11, x12⟩ := b1.cells
 clear h hF hn hI hr hf hv hvF hsq hsc u1 b1 hokr hk
 cases hri : rise M.last (newS r) with
 | none =>
  have HE : Hid (R = M) := by show R = _; rw [← HR.out]; exact step_none HOK.out hri
  rw [hri] at HFR
  clear hri
  go_enter Tryz.func10, Tryz.ntmps10
  go_upto_region 1 with fail
  rw [← hW1]
  clear hW1
  go_wp2_with fail
  refine HROK.out.mono ?_
  rintro e w2 ⟨rfl, u2⟩
  have HU2 := hid u2
  have hb2 := HB1.out.nxt u2
  obtain ⟨x0, x1, x2, x3, x4, x5, x6, x7, x8, x9, x10, x11, x12⟩ := hb2.cells
  have HF2 := hid (HFR.out w2 u2)
  clear u2 hb2 HROK HFR
  go_wp2_with fail
  refine HF2.out.mono ?_
  rintro e w3 ⟨rfl, u3⟩
  have HU3 : Hid (Up Nul W1 w3) := HU2.out.trans u3
  clear u3
  go_wp2_with fail
  go_ret
  rw [HE.out]
  exact ⟨_, rfl, (RMx.wide ⟨_, _, _, _, _, _, _, HM0.out.nxt (HU1.out.trans HU3.out)⟩ fun k hk => .inl hk).mono (by omega), (HU1.out.trans HU3.out).nul⟩
 | some l =>
  have HRI := hid hri
  rw [hri] at HFR
  clear hri
  have HST : Hid (R = if (M.chg r).1 = 0 then { (M.chg r).2 with last := l } else (M.chg r).2) := by show R = _; rw [← HR.out]; exact step_some HOK.out HRI.out
  have HCH : Hid (M.chg r = M.merge r) := by show _ = _; unfold MM.chg; rw [HKD.out]; rfl
  go_enter Tryz.func10, Tryz.ntmps10
  go_upto_region 1 with fail
  rw [← hW1]
  clear hW1
  go_wp2_with fail
  refine HROK.out.mono ?_
  rintro e w2 ⟨rfl, u2⟩
  have HU2 := hid u2
  have hb2 := HB1.out.nxt u2
  obtain ⟨x0, x1, x2, x3, x4, x5, x6, x7, x8, x9, x10, x11, x12⟩ := hb2.cells
  have HF2 := hid (HFR.out w2 u2)
  clear u2 hb2 HROK HFR
  go_wp2_with fail
  refine HF2.out.mono ?_
  rintro e w3 ⟨rfl, u3⟩
  have HU3 : Hid (Up Nul W1 w3) := HU2.out.trans u3
  have hb3 := HB1.out.nxt HU3.out
  obtain ⟨x0, x1, x2, x3, x4, x5, x6, x7, x8, x9, x10, x11, x12⟩ := hb3.cells
  clear u3 hb3 HU2
  go_upto_region 6 with fail
  obtain ⟨W4, hW4⟩ : ∃ W, W = w3.alloc (.cells #[.string r.key, .string ⟨#[]⟩, .string ⟨#[]⟩] 44) := ⟨_, rfl⟩
  have u4 : Up Nul w3 W4 := by rw [hW4]; exact (Up.refl Nul w3).alloc _
  have b4 : W4.heap[w3.heap.size]? = some (.cells #[.string r.key, .string ⟨#[]⟩, .string ⟨#[]⟩] 44 (0, 0)) := by rw [hW4]; exact heap_alloc_new _ _
  rw [← hW4]
  clear hW4
  have HU14 : Hid (Up Nul W1 W4) := HU3.out.trans u4
  have HU4 : Hid (Up Nul w W4) := HU1.out.trans HU14.out
  have HPK : Hid (¬ F w3.heap.size) := fun e => by have h1 := HF.out _ e; have h2 := HU1.out.size; have h3 := HU3.out.size; omega
  generalize w3.heap.size = pk at *
  have HRB4 := hid (HB1.out.nxt HU14.out)
  have HB4 := hid b4
  have HM4 := hid (HM0.out.nxt HU4.out)
  have HF4 : Hid (∀ k, F k → k < W4.heap.size) := fun k hk => Nat.lt_of_lt_of_le (HF.out k hk) HU4.out.size
  have HV4 : Hid (OwnLo 0 W4 (.slice la r.locs.length lc) r.locs) := lo_up HVL.out HU4.out fun _ _ => id
  have HRH4 := hid (HRH.out.nxt HU4.out)
  obtain ⟨x0, x1, x2, x3, x4, x5, x6, x7, x8, x9, x10, x11, x12⟩ := HRB4.out.cells
  obtain ⟨y0, y1, y2⟩ := cell3 b4
  clear u4 b4 HU3
  obtain ⟨hsl, hll, hs0, hzz⟩ := okf_merge HOK.out HKD.out
  obtain ⟨z0, z1, z2, hz⟩ : ∃ a b c, r.sids = [a, b, c] := by
   match hh : r.sids, hsl with
   | [a, b, c], _ => exact ⟨a, b, c, rfl⟩
  have hsc3 : 3 ≤ sc ∧ (sc : Int) ≤ 9223372036854775807 := by have := HSC.out; omega
  obtain ⟨hlt, rfl⟩ := rise_one (show rise M.last [r.sid] = some l from by have := HRI.out; unfold newS at this; rw [HKD.out] at this; exact this)
  have hcl := rmerge_any (RMx.wide ⟨_, _, _, _, _, _, _, HM4.out⟩ fun k hk => hk) HF4.out (by have := HNN.out; omega) HII.out r sa la sc lc z0 z1 z2 hz HRH4.out.s (fun g o e e2 => HSQ.out (by rw [hz]; exact List.cons_ne_nil _ _) g o e (by rw [e2]; exact HM0.out.fq)) hsc3 hll hlt ⟨by omega, hs0.2⟩ HV4.out HVF.out
  have HE : Hid (R = if (M.merge r).1 = 0 then { (M.merge r).2 with last := r.sid } else M) := by
   show R = _
   rw [HST.out, HCH.out]
   by_cases h0 : (M.merge r).1 = 0
   ·rw [if_pos h0, if_pos h0]
   ·rw [if_neg h0, if_neg h0]; exact merge_same h0
  clear hlt
  have HCL := hid hcl
  clear hcl hsl hll hs0 hzz hz hsc3
  go_wp2_with fail
  refine HCL.out.mono ?_
  rintro e w5 ⟨x, rfl, hx, u5⟩
  have HX := hid hx
  have HU5 := hid u5
  clear hx u5
  go_wp2_with fail
  go_ret
  rw [HE.out]
  exact ⟨_, rfl, (HX.out.wide (gr_low HU4.out.size)).mono (by omega), HU4.out.nul.trans HU5.out⟩
set_option maxRecDepth 10000 in
set_option maxHeartbeats 3000000 in
theorem rapply_6 (h : RMx F w q n M) (hF : ∀ k, F k → k < w.heap.size) (hn : n ≤ 70000) (hI : M.Inv3) (r : Rc) (sa la : Option Addr) (sc lc : Nat) (hr : RH w r sa la) (hf : OkF r) (hk : r.kind = 6) (hv : OwnLo 0 w (.slice la r.locs.length lc) r.locs) (hvF : ∀ g, (Value.slice la r.locs.length lc).ownBlock = some g → F g)
  (hsq : r.sids ≠ [] → ∀ g o, sa = some ⟨g, o, none⟩ → ¬ F g) (hsc : r.sids.length ≤ sc ∧ (sc : Int) ≤ 9223372036854775807) :
  Calls Tryz.prog 10 #[.pointer (some ⟨q, 0, none⟩), rv r (.slice sa r.sids.length sc) (.slice la r.locs.length lc)] w fun e w' => ∃ x, e = .returned (.int .i64 x) ∧ RMx (Gr F w w') w' q (n + 7) (M.step r).2 ∧ Up F w w' := by
 obtain ⟨Q, ks, is, kv, bv, iv, sv, h⟩ := h
 obtain ⟨W1, hW1⟩ : ∃ W, W = w.alloc (.cells (rcellsL r (.slice sa r.sids.length sc) (.slice la r.locs.length lc)) 28) := ⟨_, rfl⟩
 have u1 : Up Nul w W1 := by rw [hW1]; exact (Up.refl Nul w).alloc _
 have b1 : RB W1 w.heap.size r (.slice sa r.sids.length sc) (.slice la r.locs.length lc) := by rw [hW1]; exact RB.new _ _ _ _
 have HU1 := hid u1
 have HM0 := hid h
 have HF := hid hF
 have HNN := hid hn
 have HII := hid hI
 have HRH := hid hr
 have HOK := hid hf
 have HVL := hid hv
 have HVF := hid hvF
 have HSQ := hid hsq
 have HSC := hid hsc
 have HKD := hid hk
 have HB1 := hid b1
 have HPR : Hid (¬ F w.heap.size) := fun e => by have := hF _ e; omega
 have hokr := rok_any r sa la sc lc W1 (hr.nxt u1) (by have := hf.keyl; omega)
 rw [okR_iff.2 hf] at hokr
 have HROK := hid hokr
 have HFR : Hid (∀ W, Up Nul W1 W → Calls Tryz.prog 24 #[.pointer (some ⟨q, 0, none⟩), rv r (.slice sa r.sids.length sc) (.slice la r.locs.length lc)] W fun e w' => e = .returned (.bool (rise M.last (newS r)).isSome) ∧ Up Nul W w') := fun W u =>
  rfresh_6 (h.nxt (u1.trans u)) hI.l r sa la sc lc (hr.nxt (u1.trans u)) hk (.inl (okf_split hf hk).2.2.1) (okf_split hf hk |>.2.2.2)
 obtain ⟨R, HR⟩ : ∃ R, Hid ((M.step r).2 = R) := ⟨_, rfl⟩
 rw [HR.out]
 have kf1 : (r.kind == 1) = false := by rw [hk]; rfl
 have kf2 : (r.kind == 2) = false := by rw [hk]; rfl
 have kf3 : (r.kind == 3) = false := by rw [hk]; rfl
 have kf4 : (r.kind == 4) = false := by rw [hk]; rfl
 have kf5 : (r.kind == 5) = false := by rw [hk]; rfl
 have kf6 : (r.kind == 6) = true := by rw [hk]; rfl
 have kf7 : (r.kind == 7) = false := by rw [hk]; rfl
 obtain ⟨x0, x1, x2, x3, x4, x5, x6, x7, x8, x9, x10, x11, x12⟩ := b1.cells
 clear h hF hn hI hr hf hv hvF hsq hsc u1 b1 hokr hk
 cases hri : rise M.last (newS r) with
 | none =>
  have HE : Hid (R = M) := by show R = _; rw [← HR.out]; exact step_none HOK.out hri
  rw [hri] at HFR
  clear hri
  go_enter Tryz.func10, Tryz.ntmps10
  go_upto_region 1 with fail
  rw [← hW1]
  clear hW1
  go_wp2_with fail
  refine HROK.out.mono ?_
  rintro e w2 ⟨rfl, u2⟩
  have HU2 := hid u2
  have hb2 := HB1.out.nxt u2
  obtain ⟨x0, x1, x2, x3, x4, x5, x6, x7, x8, x9, x10, x11, x12⟩ := hb2.cells
  have HF2 := hid (HFR.out w2 u2)
  clear u2 hb2 HROK HFR
  go_wp2_with fail
  refine HF2.out.mono ?_
  rintro e w3 ⟨rfl, u3⟩
  have HU3 : Hid (Up Nul W1 w3) := HU2.out.trans u3
  clear u3
  go_wp2_with fail
  go_ret
  rw [HE.out]
  exact ⟨_, rfl, (RMx.wide ⟨_, _, _, _, _, _, _, HM0.out.nxt (HU1.out.trans HU3.out)⟩ fun k hk => .inl hk).mono (by omega), (HU1.out.trans HU3.out).nul⟩
 | some l =>
  have HRI := hid hri
  rw [hri] at HFR
  clear hri
  have HST : Hid (R = if (M.chg r).1 = 0 then { (M.chg r).2 with last := l } else (M.chg r).2) := by show R = _; rw [← HR.out]; exact step_some HOK.out HRI.out
  have HCH : Hid (M.chg r = M.split r) := by show _ = _; unfold MM.chg; rw [HKD.out]; rfl
  go_enter Tryz.func10, Tryz.ntmps10
  go_upto_region 1 with fail
  rw [← hW1]
  clear hW1
  go_wp2_with fail
  refine HROK.out.mono ?_
  rintro e w2 ⟨rfl, u2⟩
  have HU2 := hid u2
  have hb2 := HB1.out.nxt u2
  obtain ⟨x0, x1, x2, x3, x4, x5, x6, x7, x8, x9, x10, x11, x12⟩ := hb2.cells
  have HF2 := hid (HFR.out w2 u2)
  clear u2 hb2 HROK HFR
  go_wp2_with fail
  refine HF2.out.mono ?_
  rintro e w3 ⟨rfl, u3⟩
  have HU3 : Hid (Up Nul W1 w3) := HU2.out.trans u3
  have hb3 := HB1.out.nxt HU3.out
  obtain ⟨x0, x1, x2, x3, x4, x5, x6, x7, x8, x9, x10, x11, x12⟩ := hb3.cells
  clear u3 hb3 HU2
  go_upto_region 6 with fail
  obtain ⟨W4, hW4⟩ : ∃ W, W = w3.alloc (.cells #[.string r.key, .string ⟨#[]⟩, .string ⟨#[]⟩] 44) := ⟨_, rfl⟩
  have u4 : Up Nul w3 W4 := by rw [hW4]; exact (Up.refl Nul w3).alloc _
  have b4 : W4.heap[w3.heap.size]? = some (.cells #[.string r.key, .string ⟨#[]⟩, .string ⟨#[]⟩] 44 (0, 0)) := by rw [hW4]; exact heap_alloc_new _ _
  rw [← hW4]
  clear hW4
  have HU14 : Hid (Up Nul W1 W4) := HU3.out.trans u4
  have HU4 : Hid (Up Nul w W4) := HU1.out.trans HU14.out
  have HPK : Hid (¬ F w3.heap.size) := fun e => by have h1 := HF.out _ e; have h2 := HU1.out.size; have h3 := HU3.out.size; omega
  generalize w3.heap.size = pk at *
  have HRB4 := hid (HB1.out.nxt HU14.out)
  have HB4 := hid b4
  have HM4 := hid (HM0.out.nxt HU4.out)
  have HF4 : Hid (∀ k, F k → k < W4.heap.size) := fun k hk => Nat.lt_of_lt_of_le (HF.out k hk) HU4.out.size
  have HV4 : Hid (OwnLo 0 W4 (.slice la r.locs.length lc) r.locs) := lo_up HVL.out HU4.out fun _ _ => id
  have HRH4 := hid (HRH.out.nxt HU4.out)
  obtain ⟨x0, x1, x2, x3, x4, x5, x6, x7, x8, x9, x10, x11, x12⟩ := HRB4.out.cells
  obtain ⟨y0, y1, y2⟩ := cell3 b4
  clear u4 b4 HU3
  obtain ⟨hsl, hll, hs0, hzz⟩ := okf_split HOK.out HKD.out
  obtain ⟨z0, z1, z2, hz⟩ : ∃ a b c, r.sids = [a, b, c] := by
   match hh : r.sids, hsl with
   | [a, b, c], _ => exact ⟨a, b, c, rfl⟩
  have hsc3 : 3 ≤ sc ∧ (sc : Int) ≤ 9223372036854775807 := by have := HSC.out; omega
  have hcl := rsplit_any (RMx.wide ⟨_, _, _, _, _, _, _, HM4.out⟩ fun k hk => hk) HF4.out (by have := HNN.out; omega) HII.out r sa la sc lc z0 z1 z2 hz HRH4.out.s (HSQ.out (by rw [hz]; exact List.cons_ne_nil _ _)) hsc3 hll l (by have := HRI.out; unfold newS at this; rw [HKD.out] at this; exact this) hzz ⟨by omega, hs0.2⟩ HV4.out
  have HE : Hid (R = if (M.split r).1 = 0 then { (M.split r).2 with last := l } else M) := by
   show R = _
   rw [HST.out, HCH.out]
   by_cases h0 : (M.split r).1 = 0
   ·rw [if_pos h0, if_pos h0]
   ·rw [if_neg h0, if_neg h0]; exact split_same h0
  have HCL := hid hcl
  clear hcl hsl hll hs0 hzz hz hsc3
  go_wp2_with fail
  refine HCL.out.mono ?_
  rintro e w5 ⟨x, rfl, hx, u5⟩
  have HX := hid hx
  have HU5 := hid u5
  clear hx u5
  go_wp2_with fail
  go_ret
  rw [HE.out]
  exact ⟨_, rfl, (HX.out.wide (gr_low HU4.out.size)).mono (by omega), HU4.out.nul.trans HU5.out⟩
set_option maxRecDepth 10000 in
set_option maxHeartbeats 3000000 in
theorem rapply_7 (h : RMx F w q n M) (hF : ∀ k, F k → k < w.heap.size) (hn : n ≤ 70000) (hI : M.Inv3) (r : Rc) (sa la : Option Addr) (sc lc : Nat) (hr : RH w r sa la) (hf : OkF r) (hk : r.kind = 7) (hv : OwnLo 0 w (.slice la r.locs.length lc) r.locs) (hvF : ∀ g, (Value.slice la r.locs.length lc).ownBlock = some g → F g)
  (hsq : r.sids ≠ [] → ∀ g o, sa = some ⟨g, o, none⟩ → ¬ F g) (hsc : r.sids.length ≤ sc ∧ (sc : Int) ≤ 9223372036854775807) :
  Calls Tryz.prog 10 #[.pointer (some ⟨q, 0, none⟩), rv r (.slice sa r.sids.length sc) (.slice la r.locs.length lc)] w fun e w' => ∃ x, e = .returned (.int .i64 x) ∧ RMx (Gr F w w') w' q (n + 7) (M.step r).2 ∧ Up F w w' := by
 obtain ⟨Q, ks, is, kv, bv, iv, sv, h⟩ := h
 obtain ⟨W1, hW1⟩ : ∃ W, W = w.alloc (.cells (rcellsL r (.slice sa r.sids.length sc) (.slice la r.locs.length lc)) 28) := ⟨_, rfl⟩
 have u1 : Up Nul w W1 := by rw [hW1]; exact (Up.refl Nul w).alloc _
 have b1 : RB W1 w.heap.size r (.slice sa r.sids.length sc) (.slice la r.locs.length lc) := by rw [hW1]; exact RB.new _ _ _ _
 have HU1 := hid u1
 have HM0 := hid h
 have HF := hid hF
 have HNN := hid hn
 have HII := hid hI
 have HRH := hid hr
 have HOK := hid hf
 have HVL := hid hv
 have HVF := hid hvF
 have HSQ := hid hsq
 have HSC := hid hsc
 have HKD := hid hk
 have HB1 := hid b1
 have HPR : Hid (¬ F w.heap.size) := fun e => by have := hF _ e; omega
 have hokr := rok_any r sa la sc lc W1 (hr.nxt u1) (by have := hf.keyl; omega)
 rw [okR_iff.2 hf] at hokr
 have HROK := hid hokr
 have HFR : Hid (∀ W, Up Nul W1 W → Calls Tryz.prog 24 #[.pointer (some ⟨q, 0, none⟩), rv r (.slice sa r.sids.length sc) (.slice la r.locs.length lc)] W fun e w' => e = .returned (.bool (rise M.last (newS r)).isSome) ∧ Up Nul W w') := fun W u =>
  rfresh_7 (h.nxt (u1.trans u)) hI.l r sa la sc lc (hr.nxt (u1.trans u)) hk (.inl (okf_move hf hk).1) (fun z hz => by rw [okf_nil hf hk (by decide)] at hz; cases hz)
 obtain ⟨R, HR⟩ : ∃ R, Hid ((M.step r).2 = R) := ⟨_, rfl⟩
 rw [HR.out]
 have kf1 : (r.kind == 1) = false := by rw [hk]; rfl
 have kf2 : (r.kind == 2) = false := by rw [hk]; rfl
 have kf3 : (r.kind == 3) = false := by rw [hk]; rfl
 have kf4 : (r.kind == 4) = false := by rw [hk]; rfl
 have kf5 : (r.kind == 5) = false := by rw [hk]; rfl
 have kf6 : (r.kind == 6) = false := by rw [hk]; rfl
 have kf7 : (r.kind == 7) = true := by rw [hk]; rfl
 obtain ⟨x0, x1, x2, x3, x4, x5, x6, x7, x8, x9, x10, x11, x12⟩ := b1.cells
 clear h hF hn hI hr hf hv hvF hsq hsc u1 b1 hokr hk
 cases hri : rise M.last (newS r) with
 | none =>
  have HE : Hid (R = M) := by show R = _; rw [← HR.out]; exact step_none HOK.out hri
  rw [hri] at HFR
  clear hri
  go_enter Tryz.func10, Tryz.ntmps10
  go_upto_region 1 with fail
  rw [← hW1]
  clear hW1
  go_wp2_with fail
  refine HROK.out.mono ?_
  rintro e w2 ⟨rfl, u2⟩
  have HU2 := hid u2
  have hb2 := HB1.out.nxt u2
  obtain ⟨x0, x1, x2, x3, x4, x5, x6, x7, x8, x9, x10, x11, x12⟩ := hb2.cells
  have HF2 := hid (HFR.out w2 u2)
  clear u2 hb2 HROK HFR
  go_wp2_with fail
  refine HF2.out.mono ?_
  rintro e w3 ⟨rfl, u3⟩
  have HU3 : Hid (Up Nul W1 w3) := HU2.out.trans u3
  clear u3
  go_wp2_with fail
  go_ret
  rw [HE.out]
  exact ⟨_, rfl, (RMx.wide ⟨_, _, _, _, _, _, _, HM0.out.nxt (HU1.out.trans HU3.out)⟩ fun k hk => .inl hk).mono (by omega), (HU1.out.trans HU3.out).nul⟩
 | some l =>
  have HRI := hid hri
  rw [hri] at HFR
  clear hri
  have HST : Hid (R = if (M.chg r).1 = 0 then { (M.chg r).2 with last := l } else (M.chg r).2) := by show R = _; rw [← HR.out]; exact step_some HOK.out HRI.out
  have HCH : Hid (M.chg r = M.move r) := by show _ = _; unfold MM.chg; rw [HKD.out]; rfl
  go_enter Tryz.func10, Tryz.ntmps10
  go_upto_region 1 with fail
  rw [← hW1]
  clear hW1
  go_wp2_with fail
  refine HROK.out.mono ?_
  rintro e w2 ⟨rfl, u2⟩
  have HU2 := hid u2
  have hb2 := HB1.out.nxt u2
  obtain ⟨x0, x1, x2, x3, x4, x5, x6, x7, x8, x9, x10, x11, x12⟩ := hb2.cells
  have HF2 := hid (HFR.out w2 u2)
  clear u2 hb2 HROK HFR
  go_wp2_with fail
  refine HF2.out.mono ?_
  rintro e w3 ⟨rfl, u3⟩
  have HU3 : Hid (Up Nul W1 w3) := HU2.out.trans u3
  have hb3 := HB1.out.nxt HU3.out
  obtain ⟨x0, x1, x2, x3, x4, x5, x6, x7, x8, x9, x10, x11, x12⟩ := hb3.cells
  clear u3 hb3 HU2
  go_upto_region 6 with fail
  obtain ⟨W4, hW4⟩ : ∃ W, W = w3.alloc (.cells #[.string r.key, .string ⟨#[]⟩, .string ⟨#[]⟩] 44) := ⟨_, rfl⟩
  have u4 : Up Nul w3 W4 := by rw [hW4]; exact (Up.refl Nul w3).alloc _
  have b4 : W4.heap[w3.heap.size]? = some (.cells #[.string r.key, .string ⟨#[]⟩, .string ⟨#[]⟩] 44 (0, 0)) := by rw [hW4]; exact heap_alloc_new _ _
  rw [← hW4]
  clear hW4
  have HU14 : Hid (Up Nul W1 W4) := HU3.out.trans u4
  have HU4 : Hid (Up Nul w W4) := HU1.out.trans HU14.out
  have HPK : Hid (¬ F w3.heap.size) := fun e => by have h1 := HF.out _ e; have h2 := HU1.out.size; have h3 := HU3.out.size; omega
  generalize w3.heap.size = pk at *
  have HRB4 := hid (HB1.out.nxt HU14.out)
  have HB4 := hid b4
  have HM4 := hid (HM0.out.nxt HU4.out)
  have HF4 : Hid (∀ k, F k → k < W4.heap.size) := fun k hk => Nat.lt_of_lt_of_le (HF.out k hk) HU4.out.size
  have HV4 : Hid (OwnLo 0 W4 (.slice la r.locs.length lc) r.locs) := lo_up HVL.out HU4.out fun _ _ => id
  have HRH4 := hid (HRH.out.nxt HU4.out)
  obtain ⟨x0, x1, x2, x3, x4, x5, x6, x7, x8, x9, x10, x11, x12⟩ := HRB4.out.cells
  obtain ⟨y0, y1, y2⟩ := cell3 b4
  clear u4 b4 HU3
  obtain ⟨hs0, hll, hnb⟩ := okf_move HOK.out HKD.out
  have hl : l = M.last := by have := HRI.out; unfold newS at this; rw [HKD.out] at this; have e : rise M.last [] = some l := this; unfold rise at e; injection e with e; exact e.symm
  obtain ⟨lo, hlo⟩ : ∃ lo, r.locs = [lo] := by
   match hh : r.locs, hll with
   | [a], _ => exact ⟨a, rfl⟩
  obtain ⟨kn, hkn⟩ : ∃ kn : Nat, r.n = (kn : Int) := ⟨r.n.toNat, by omega⟩
  cases hs : M.s r.sid with
  | none =>
   have HST9 := hid (rstripe_no HM4.out (by have := HNN.out; omega) r.sid hs)
   have HE : Hid (R = M) := by
    show R = _
    rw [HST.out, HCH.out]
    have e : M.move r = (11, M) := by unfold MM.move; rw [hs]
    rw [e]; rfl
   clear hs0 hll hnb hl hlo hkn hs
   go_wp2_with fail
   refine HST9.out.mono ?_
   rintro e w5 ⟨rfl, u5⟩
   have HU5 := hid u5
   clear u5
   go_wp2_with fail
   go_ret
   rw [HE.out]
   exact ⟨_, rfl, (RMx.wide ⟨_, _, _, _, _, _, _, HM4.out.nxt (HU5.out.alloc _)⟩ fun k hk => .inl hk).mono (by omega), (HU4.out.trans (HU5.out.alloc _)).nul⟩
  | some s =>
   obtain ⟨qa, qc, hqv⟩ := (HM4.out.rr.lo r.sid s hs).1.shape
   have HQV := hid hqv
   have hst := rstripe_yes HM4.out (by have := HNN.out; omega) r.sid s hs
   rw [hqv] at hst
   obtain ⟨sl, SL⟩ : ∃ x, Hid (s.locs.length = x) := ⟨_, rfl⟩
   rw [SL.out] at hst HQV
   have HST9 := hid hst
   have HSS := hid hs
   have HS0 := hid hs0
   have HLO := hid hlo
   have HKN := hid hkn
   have HLE := hid hl
   have HN15 : Hid (sl ≤ 16) := by
    have := (HII.out.s _ _ hs).2.1
    have h1 := this.kind
    have h2 := this.locs
    unfold locsOfKind at h2
    show sl ≤ 16
    rw [← SL.out]
    rcases h1 with e | e | e <;> rw [e] at h2 <;> simp at h2 <;> omega
   clear hs0 hll hnb hl hlo hkn hs hst hqv
   go_wp2_with fail
   refine HST9.out.mono ?_
   rintro e w5 ⟨rfl, u5⟩
   have HU5 := hid u5
   clear u5 HST9
   go_upto_region 31 with fail
   obtain ⟨W6, hW6⟩ : ∃ W, W = w5.alloc (.cells #[.int .i64 s.kind, .int .i64 s.colour, .string s.k0, .string s.k1, .string s.k2, .slice qa sl qc] 46) := ⟨_, rfl⟩
   have u6 : Up Nul w5 W6 := by rw [hW6]; exact (Up.refl Nul w5).alloc _
   have b6 : W6.heap[w5.heap.size]? = some (.cells #[.int .i64 s.kind, .int .i64 s.colour, .string s.k0, .string s.k1, .string s.k2, .slice qa sl qc] 46 (0, 0)) := by rw [hW6]; exact heap_alloc_new _ _
   rw [← hW6]
   clear hW6
   have HU46 : Hid (Up Nul W4 W6) := HU5.out.trans u6
   have HPX : Hid (¬ F w5.heap.size) := fun e => by have h1 := HF.out _ e; have h2 := HU4.out.size; have h3 := HU5.out.size; omega
   have HPXW : Hid (w.heap.size ≤ w5.heap.size) := Nat.le_trans HU4.out.size HU5.out.size
   generalize w5.heap.size = px at *
   have HB6 := hid b6
   have HRB6 := hid (HRB4.out.nxt HU46.out)
   obtain ⟨_, _, x2, x3, _, _, x6, _⟩ := HRB6.out.cells
   obtain ⟨_, _, _, _, _, z5⟩ := cell6 b6
   rw [HKN.out] at x2
   clear u6 HU5 x0 x1 x4 x5 x7 x8 x9 x10 x11 x12 y0 y1 y2
   by_cases hge : (sl : Int) ≤ (kn : Int)
   ·have HE : Hid (R = M) := by
     show R = _
     rw [HST.out, HCH.out]
     have e : M.move r = (1, M) := by unfold MM.move; rw [HSS.out]; dsimp only; rw [if_pos (by rw [SL.out, HKN.out]; exact hge)]
     rw [e]; rfl
    go_wp2_with fail
    go_ret
    rw [HE.out]
    exact ⟨_, rfl, (RMx.wide ⟨_, _, _, _, _, _, _, HM4.out.nxt HU46.out⟩ fun k hk => .inl hk).mono (by omega), (HU4.out.trans HU46.out).nul⟩
   ·have HE : Hid (R = { M with s := upd M.s r.sid (some { s with locs := s.locs.set kn lo }) }) := by
     show R = _
     rw [HST.out, HCH.out, HLE.out]
     have e : M.move r = (0, { M with s := upd M.s r.sid (some { s with locs := s.locs.set kn lo }) }) := by
      unfold MM.move
      rw [HSS.out]
      dsimp only
      rw [if_neg (by rw [SL.out, HKN.out]; exact hge), HKN.out, HLO.out]; rfl
     rw [e]; rfl
    have hlt : kn < sl := by omega
    have hlt2 : (kn : Int) < (sl : Int) := by omega
    have HLT := hid hlt
    -- the copy
    have hqo := (HM4.out.rr.lo r.sid s HSS.out).1
    rw [HQV.out] at hqo
    have hqo6 := lo_up hqo HU46.out fun _ _ => id
    unfold OwnLo at hqo6
    rw [SL.out] at hqo6
    obtain ⟨ra, rc, hrv, hnc, hr1, hnone, _⟩ := ownsRow.rd hqo6 (loV_one _)
    have hra : qa = ra ∧ qc = rc := by injection hrv with e1 _ e3; exact ⟨e1, e3⟩
    obtain ⟨rfl, rfl⟩ := hra
    have HA0 := ApS.start (T := 64) (s := 3) (Up.refl Nul W6)
    obtain ⟨a7, cc7, W7, hr7, HA7⟩ := HA0.app Tryz.underlying24 inf_loc (by omega) (by omega) hr1 (c2 := qc) hnone (by have := HN15.out; omega) 24
    rw [Nat.zero_add] at hr7 HA7
    obtain ⟨g7, rfl⟩ := HA7.nn
    have hg7 := HA7.lt g7 0 rfl
    have hpx6 := lt_of_heap b6
    have z50 := (HA0.up.cell (p := ⟨px, 5, none⟩) hpx6 id).trans z5
    have b7 := HA7.up.keep b6 id
    have hrb7 := HRB6.out.nxt HA7.up
    have z57 : W7.cell? ⟨px, 5, none⟩ = some (.slice qa sl qc) := by simp [World.cell?, b7]
    have f57 : W7.frozen? ⟨px, 5, none⟩ = false := by simp [World.frozen?, b7]
    obtain ⟨W8, hW8⟩ : ∃ W, W = W7.setCell ⟨px, 5, none⟩ (.slice (some ⟨g7, 0, none⟩) sl cc7) := ⟨_, rfl⟩
    have u8 : Up (One px) W7 W8 := by rw [hW8]; exact (Up.refl (One px) W7).put rfl 5 _
    have b8 : W8.heap[px]? = some (.cells #[.int .i64 s.kind, .int .i64 s.colour, .string s.k0, .string s.k1, .string s.k2, .slice (some ⟨g7, 0, none⟩) sl cc7] 46 (0, 0)) := by rw [hW8]; exact heap_set_same b7 5 _
    have hgp : g7 ≠ px := by omega
    have o8 := ownsRow.up HA7.own u8 fun g e e' => by
     have e : g7 = g := by injection e
     have e' : g = px := e'
     omega
    rw [List.nil_append] at o8
    have HO8 := hid o8
    have hprx : ¬ w.heap.size = px := fun e => by
     have h1 : px < W6.heap.size := hpx6
     have h2 := HRB6.out
     unfold RB at h2
     rw [e, HB6.out] at h2
     injection h2 with h2
     injection h2 with _ h2
     exact absurd h2 (by decide)
    have hrb8 := hrb7.up u8 hprx
    have HB8 := hid b8
    have HRB8 := hid hrb8
    -- the row of the record
    obtain ⟨rl, rlc, hrlv, hrow⟩ := HV4.out.row
    have hrl : la = rl := by injection hrlv
    subst hrl
    have hrow6 := hrow.nxt HU46.out
    rw [HLO.out] at hrow6
    obtain ⟨gl, ol, rfl, hgl, hcl⟩ := hrow6.resolve_left (by simp)
    have hglF : F gl := HVF.out gl rfl
    have hglx : gl ≠ px := fun e => HPX.out (by rw [← e]; exact hglF)
    have k0 := hcl 0 lo rfl 0 _ rfl
    have k1 := hcl 0 lo rfl 1 _ rfl
    have k2 := hcl 0 lo rfl 2 _ rfl
    rw [show ol + 0 * 3 + 0 = ol from by omega] at k0
    rw [show ol + 0 * 3 + 1 = ol + 1 from by omega] at k1
    rw [show ol + 0 * 3 + 2 = ol + 2 from by omega] at k2
    have kk : ∀ o v, W6.cell? ⟨gl, o, none⟩ = some v → W8.cell? ⟨gl, o, none⟩ = some v := fun o v h => (u8.cell (p := ⟨gl, o, none⟩) (Nat.lt_of_lt_of_le hgl HA7.up.size) (fun e => hglx e)).trans ((HA7.up.cell (p := ⟨gl, o, none⟩) hgl id).trans h)
    have k0 := kk _ _ k0
    have k1 := kk _ _ k1
    have k2 := kk _ _ k2
    obtain ⟨_, _, x28, x38, _, _, x68, _⟩ := hrb8.cells
    rw [HKN.out] at x28
    rw [show r.locs.length = 1 from by rw [HLO.out]; rfl] at x68
    obtain ⟨_, _, _, _, _, z58⟩ := cell6 b8
    have hcs : ∃ cur, W8.heap[g7]? = some (.cells cur 64 (0, 0)) ∧ kn * 3 + 3 ≤ cur.size := by
     rcases o8.2 with ⟨e, _⟩ | ⟨g', cap, cur, e, h2, h3, h4, h5, h6, h7⟩
     ·exact absurd e (by intro e; injection e with e1; cases e1)
     ·have e1 : g7 = g' := by injection e with e1; injection e1 with e1; injection e1
      subst e1
      exact ⟨cur, h3, by rw [h6]; omega⟩
    obtain ⟨cur, hcur, hcs⟩ := hcs
    have yy : ∀ j, j < 3 → ∃ v, W8.cell? ⟨g7, kn * 3 + j, none⟩ = some v := fun j hj => by
     refine Option.isSome_iff_exists.1 ?_
     simp only [World.cell?, hcur]
     rw [Array.getElem?_eq_getElem (by omega)]; rfl
    obtain ⟨v0, v0'⟩ := yy 0 (by omega)
    obtain ⟨v1, v1'⟩ := yy 1 (by omega)
    obtain ⟨v2, v2'⟩ := yy 2 (by omega)
    rw [Nat.add_zero] at v0'
    have ff : ∀ o, W8.frozen? ⟨g7, o, none⟩ = false := fun o => by simp [World.frozen?, hcur]
    have f0 := ff (kn * 3)
    have f1 := ff (kn * 3 + 1)
    have f2 := ff (kn * 3 + 2)
    have HU68 : Hid (Up Nul w W8) := ((HU4.out.trans HU46.out).trans HA7.up).thn u8 (fun j e => .inr (by have e : j = px := e; have := HPXW.out; omega))
    have HG7 : Hid (w.heap.size ≤ g7 ∧ g7 < W8.heap.size) := ⟨Nat.le_trans (Nat.le_trans HU4.out.size HU46.out.size) hg7.1, Nat.lt_of_lt_of_le hg7.2 u8.size⟩
    have HGP := hid hgp
    have HW8 := hid hW8
    have HR7 := hid hr7
    have x2a := x2
    clear hge hlt hqo hqo6 hrv hnc hr1 hnone HA0 HA7 hg7 hpx6 b7 hrb7 u8 b8 o8 hrb8 hrlv hrow hrow6 hgl hcl hglF hglx kk hcur hcs yy ff hprx hr7 hW8 b6
    go_wp2_with (first
     | (at_builtin; refine wpList_append_eqv rfl (.tmp 122) (.tmp 124) 24 rfl _ _ _ rfl rfl HR7.out ?_)
     | go_in)
    rw [← HW8.out]
    clear x2 x3 x6 z5 z50 z57 f57 x2a
    have i0 : (0 : Int) ≤ (kn : Int) := by omega
    go_still_tail 9, (by kernel_rfl)
    go_upto_region 35 with fail
    have h9r := row_set3 (i := kn * 3) HO8.out (.int .i64 lo.d) (.int .i64 lo.s) (.int .i64 lo.i)
    rw [← loV_set s.locs kn (by rw [SL.out]; exact HLT.out) lo] at h9r
    have u89 : Up (One g7) W8 (((W8.setCell ⟨g7, kn * 3, none⟩ (.int .i64 lo.d)).setCell ⟨g7, kn * 3 + 1, none⟩ (.int .i64 lo.s)).setCell ⟨g7, kn * 3 + 2, none⟩ (.int .i64 lo.i)) :=
     (((Up.refl (One g7) W8).put rfl _ _).put rfl _ _).put rfl _ _
    obtain ⟨W9, hW9⟩ : ∃ W, W = (((W8.setCell ⟨g7, kn * 3, none⟩ (.int .i64 lo.d)).setCell ⟨g7, kn * 3 + 1, none⟩ (.int .i64 lo.s)).setCell ⟨g7, kn * 3 + 2, none⟩ (.int .i64 lo.i)) := ⟨_, rfl⟩
    rw [← hW9] at h9r u89 ⊢
    clear hW9
    have u8d : Up (One g7) W8 W9.drew := u89.drew
    have h9d : OwnLo 0 W9.drew (.slice (some ⟨g7, 0, none⟩) sl cc7) (s.locs.set kn lo) := by
     have h := ownsRow.up h9r ((Up.refl Nul W9).drew) fun _ _ => id
     unfold OwnLo
     rw [List.length_set, SL.out]
     exact ownsRow.lower h (Nat.zero_le _)
    generalize W9.drew = W at u8d h9d ⊢
    clear h9r u89
    have hu9 : Up Nul w W := HU68.out.thn u8d fun j e => .inr (by have e : j = g7 := e; have := HG7.out.1; omega)
    have hb9 := u8d.keep HB8.out (fun e => HGP.out (by have e : px = g7 := e; exact e.symm))
    have hnr : ¬ One g7 w.heap.size := fun e => by
     have e : w.heap.size = g7 := e
     have h2 := HRB8.out
     unfold RB at h2
     have h3 := HO8.out
     rcases h3.2 with ⟨e3, _⟩ | ⟨g', cap, cur, e3, _, h5, _⟩
     ·exact absurd e3 (by intro e3; injection e3 with e1; cases e1)
     ·have e1 : g7 = g' := by injection e3 with e1; injection e1 with e1; injection e1
      rw [e, e1, h5] at h2
      injection h2 with h2
      injection h2 with _ h2
      exact absurd h2 (by decide)
    have hrb9 := HRB8.out.up u8d hnr
    obtain ⟨_, _, _, x39, _⟩ := hrb9.cells
    obtain ⟨t0, t1, t2, t3, t4, t5⟩ := cell6 hb9
    have HU9 := hid hu9
    have hwf : Nat := 0
    have hcl := rturn_any ((HM0.out.nxt hu9).wide fun k hk => .inl hk) (gr_lt HF.out hu9.size) (by have := HNN.out; omega) r.sid { s with locs := s.locs.set kn lo } (.slice (some ⟨g7, 0, none⟩) sl cc7) (by rw [HSS.out]; rfl) h9d (fun g e => by
     have e : g7 = g := by injection e
     subst e
     exact .inr ⟨HG7.out.1, Nat.lt_of_lt_of_le HG7.out.2 u8d.size⟩)
    have HCL := hid hcl
    clear hcl hwf hu9 hb9 hnr hrb9 h9d u8d x28 x38 x68 z58 k0 k1 k2 v0' v1' v2' f0 f1 f2 i0
    go_wp2_with fail
    refine HCL.out.mono ?_
    rintro e w10 ⟨rfl, ⟨sv10, h10⟩, u10⟩
    have H10 := hid (h10.wide (gr_tr HU9.out.size u10.size))
    have HU10 : Hid (Up F w w10) := HU9.out.nul.trans (u10.mono fun j _ e => by rw [e]; exact HM0.out.fq)
    clear h10 u10
    go_wp2_with fail
    go_ret
    rw [HE.out]
    exact ⟨_, rfl, RMx.mono ⟨_, _, _, _, _, _, _, H10.out⟩ (by omega), HU10.out⟩
set_option maxRecDepth 10000 in
set_option maxHeartbeats 3000000 in
theorem rapply_8 (h : RMx F w q n M) (hF : ∀ k, F k → k < w.heap.size) (hn : n ≤ 70000) (hI : M.Inv3) (r : Rc) (sa la : Option Addr) (sc lc : Nat) (hr : RH w r sa la) (hf : OkF r) (hk : r.kind = 8) (hv : OwnLo 0 w (.slice la r.locs.length lc) r.locs) (hvF : ∀ g, (Value.slice la r.locs.length lc).ownBlock = some g → F g)
  (hsq : r.sids ≠ [] → ∀ g o, sa = some ⟨g, o, none⟩ → ¬ F g) (hsc : r.sids.length ≤ sc ∧ (sc : Int) ≤ 9223372036854775807) :
  Calls Tryz.prog 10 #[.pointer (some ⟨q, 0, none⟩), rv r (.slice sa r.sids.length sc) (.slice la r.locs.length lc)] w fun e w' => ∃ x, e = .returned (.int .i64 x) ∧ RMx (Gr F w w') w' q (n + 7) (M.step r).2 ∧ Up F w w' := by
 obtain ⟨Q, ks, is, kv, bv, iv, sv, h⟩ := h
 obtain ⟨W1, hW1⟩ : ∃ W, W = w.alloc (.cells (rcellsL r (.slice sa r.sids.length sc) (.slice la r.locs.length lc)) 28) := ⟨_, rfl⟩
 have u1 : Up Nul w W1 := by rw [hW1]; exact (Up.refl Nul w).alloc _
 have b1 : RB W1 w.heap.size r (.slice sa r.sids.length sc) (.slice la r.locs.length lc) := by rw [hW1]; exact RB.new _ _ _ _
 have HU1 := hid u1
 have HM0 := hid h
 have HF := hid hF
 have HNN := hid hn
 have HII := hid hI
 have HRH := hid hr
 have HOK := hid hf
 have HVL := hid hv
 have HVF := hid hvF
 have HSQ := hid hsq
 have HSC := hid hsc
 have HKD := hid hk
 have HB1 := hid b1
 have HPR : Hid (¬ F w.heap.size) := fun e => by have := hF _ e; omega
 have hokr := rok_any r sa la sc lc W1 (hr.nxt u1) (by have := hf.keyl; omega)
 rw [okR_iff.2 hf] at hokr
 have HROK := hid hokr
 have HFR : Hid (∀ W, Up Nul W1 W → Calls Tryz.prog 24 #[.pointer (some ⟨q, 0, none⟩), rv r (.slice sa r.sids.length sc) (.slice la r.locs.length lc)] W fun e w' => e = .returned (.bool (rise M.last (newS r)).isSome) ∧ Up Nul W w') := fun W u =>
  rfresh_8 (h.nxt (u1.trans u)) hI.l r sa la sc lc (hr.nxt (u1.trans u)) hk (.inr (.inr rfl)) (fun z hz => by rw [okf_nil hf hk (by decide)] at hz; cases hz)
 obtain ⟨R, HR⟩ : ∃ R, Hid ((M.step r).2 = R) := ⟨_, rfl⟩
 rw [HR.out]
 have kf1 : (r.kind == 1) = false := by rw [hk]; rfl
 have kf2 : (r.kind == 2) = false := by rw [hk]; rfl
 have kf3 : (r.kind == 3) = false := by rw [hk]; rfl
 have kf4 : (r.kind == 4) = false := by rw [hk]; rfl
 have kf5 : (r.kind == 5) = false := by rw [hk]; rfl
 have kf6 : (r.kind == 6) = false := by rw [hk]; rfl
 have kf7 : (r.kind == 7) = false := by rw [hk]; rfl
 obtain ⟨x0, x1, x2, x3, x4, x5, x6, x7, x8, x9, x10, x11, x12⟩ := b1.cells
 clear h hF hn hI hr hf hv hvF hsq hsc u1 b1 hokr hk
 cases hri : rise M.last (newS r) with
 | none =>
  have HE : Hid (R = M) := by show R = _; rw [← HR.out]; exact step_none HOK.out hri
  rw [hri] at HFR
  clear hri
  go_enter Tryz.func10, Tryz.ntmps10
  go_upto_region 1 with fail
  rw [← hW1]
  clear hW1
  go_wp2_with fail
  refine HROK.out.mono ?_
  rintro e w2 ⟨rfl, u2⟩
  have HU2 := hid u2
  have hb2 := HB1.out.nxt u2
  obtain ⟨x0, x1, x2, x3, x4, x5, x6, x7, x8, x9, x10, x11, x12⟩ := hb2.cells
  have HF2 := hid (HFR.out w2 u2)
  clear u2 hb2 HROK HFR
  go_wp2_with fail
  refine HF2.out.mono ?_
  rintro e w3 ⟨rfl, u3⟩
  have HU3 : Hid (Up Nul W1 w3) := HU2.out.trans u3
  clear u3
  go_wp2_with fail
  go_ret
  rw [HE.out]
  exact ⟨_, rfl, (RMx.wide ⟨_, _, _, _, _, _, _, HM0.out.nxt (HU1.out.trans HU3.out)⟩ fun k hk => .inl hk).mono (by omega), (HU1.out.trans HU3.out).nul⟩
 | some l =>
  have HRI := hid hri
  rw [hri] at HFR
  clear hri
  have HST : Hid (R = if (M.chg r).1 = 0 then { (M.chg r).2 with last := l } else (M.chg r).2) := by show R = _; rw [← HR.out]; exact step_some HOK.out HRI.out
  have HCH : Hid (M.chg r = (0, { M with t := r.t })) := by show _ = _; unfold MM.chg; rw [HKD.out]; rfl
  go_enter Tryz.func10, Tryz.ntmps10
  go_upto_region 1 with fail
  rw [← hW1]
  clear hW1
  go_wp2_with fail
  refine HROK.out.mono ?_
  rintro e w2 ⟨rfl, u2⟩
  have HU2 := hid u2
  have hb2 := HB1.out.nxt u2
  obtain ⟨x0, x1, x2, x3, x4, x5, x6, x7, x8, x9, x10, x11, x12⟩ := hb2.cells
  have HF2 := hid (HFR.out w2 u2)
  clear u2 hb2 HROK HFR
  go_wp2_with fail
  refine HF2.out.mono ?_
  rintro e w3 ⟨rfl, u3⟩
  have HU3 : Hid (Up Nul W1 w3) := HU2.out.trans u3
  have hb3 := HB1.out.nxt HU3.out
  obtain ⟨x0, x1, x2, x3, x4, x5, x6, x7, x8, x9, x10, x11, x12⟩ := hb3.cells
  clear u3 hb3 HU2
  go_upto_region 6 with fail
  obtain ⟨W4, hW4⟩ : ∃ W, W = w3.alloc (.cells #[.string r.key, .string ⟨#[]⟩, .string ⟨#[]⟩] 44) := ⟨_, rfl⟩
  have u4 : Up Nul w3 W4 := by rw [hW4]; exact (Up.refl Nul w3).alloc _
  have b4 : W4.heap[w3.heap.size]? = some (.cells #[.string r.key, .string ⟨#[]⟩, .string ⟨#[]⟩] 44 (0, 0)) := by rw [hW4]; exact heap_alloc_new _ _
  rw [← hW4]
  clear hW4
  have HU14 : Hid (Up Nul W1 W4) := HU3.out.trans u4
  have HU4 : Hid (Up Nul w W4) := HU1.out.trans HU14.out
  have HPK : Hid (¬ F w3.heap.size) := fun e => by have h1 := HF.out _ e; have h2 := HU1.out.size; have h3 := HU3.out.size; omega
  generalize w3.heap.size = pk at *
  have HRB4 := hid (HB1.out.nxt HU14.out)
  have HB4 := hid b4
  have HM4 := hid (HM0.out.nxt HU4.out)
  have HF4 : Hid (∀ k, F k → k < W4.heap.size) := fun k hk => Nat.lt_of_lt_of_le (HF.out k hk) HU4.out.size
  have HV4 : Hid (OwnLo 0 W4 (.slice la r.locs.length lc) r.locs) := lo_up HVL.out HU4.out fun _ _ => id
  have HRH4 := hid (HRH.out.nxt HU4.out)
  obtain ⟨x0, x1, x2, x3, x4, x5, x6, x7, x8, x9, x10, x11, x12⟩ := HRB4.out.cells
  obtain ⟨y0, y1, y2⟩ := cell3 b4
  clear u4 b4 HU3
  have hM := HM4.out
  have HE : Hid (R = { M with t := r.t }) := by
   show R = _
   have h1 : l = M.last := by have := HRI.out; unfold newS at this; rw [HKD.out] at this; have e : rise M.last [] = some l := this; unfold rise at e; injection e with e; exact e.symm
   rw [HST.out, HCH.out, h1, if_pos rfl]
  have q5 : W4.cell? ⟨q, 5, none⟩ = some (.int .i64 M.t.hot) := by simp [World.cell?, hM.hp]
  have q6 : W4.cell? ⟨q, 6, none⟩ = some (.int .i64 M.t.warm) := by simp [World.cell?, hM.hp]
  have q7 : W4.cell? ⟨q, 7, none⟩ = some (.int .i64 M.t.gap) := by simp [World.cell?, hM.hp]
  have q8 : W4.cell? ⟨q, 8, none⟩ = some (.int .i64 M.t.add) := by simp [World.cell?, hM.hp]
  have q9 : W4.cell? ⟨q, 9, none⟩ = some (.int .i64 M.t.top) := by simp [World.cell?, hM.hp]
  have q10 : W4.cell? ⟨q, 10, none⟩ = some (.int .i64 M.t.half) := by simp [World.cell?, hM.hp]
  have f5 := hM.froz 5
  have f6 := hM.froz 6
  have f7 := hM.froz 7
  have f8 := hM.froz 8
  have f9 := hM.froz 9
  have f10 := hM.froz 10
  clear hM
  go_upto_region 36 with fail
  obtain ⟨w9, hw9⟩ : ∃ W, W = (((((W4.setCell ⟨q, 5, none⟩ (.int .i64 r.t.hot)).setCell ⟨q, 6, none⟩ (.int .i64 r.t.warm)).setCell ⟨q, 7, none⟩ (.int .i64 r.t.gap)).setCell ⟨q, 8, none⟩ (.int .i64 r.t.add)).setCell ⟨q, 9, none⟩ (.int .i64 r.t.top)).setCell ⟨q, 10, none⟩ (.int .i64 r.t.half) := ⟨_, rfl⟩
  rw [← hw9]
  have hh : w9.heap[q]? = some (.cells (rhead kv bv iv sv (M.last + 1) r.t) 62 (0, 0)) := by
   rw [hw9]
   exact heap_set_same (heap_set_same (heap_set_same (heap_set_same (heap_set_same (heap_set_same HM4.out.hp 5 (.int .i64 r.t.hot)) 6 (.int .i64 r.t.warm)) 7 (.int .i64 r.t.gap)) 8 (.int .i64 r.t.add)) 9 (.int .i64 r.t.top)) 10 (.int .i64 r.t.half)
  have hu : Up (fun k => k = q) W4 w9 := by
   rw [hw9]
   exact ((((((Up.refl (fun k => k = q) W4).put rfl 5 (.int .i64 r.t.hot)).put rfl 6 (.int .i64 r.t.warm)).put rfl 7 (.int .i64 r.t.gap)).put rfl 8 (.int .i64 r.t.add)).put rfl 9 (.int .i64 r.t.top)).put rfl 10 (.int .i64 r.t.half)
  have hrr := HM4.out.rr.head HM4.out.hp hu
  have HX : Hid (RM F w9 q n Q { M with t := r.t } ks is kv bv iv sv) := ⟨hh, ⟨hrr.ko, hrr.bo, hrr.io, hrr.so, hrr.lo, hrr.fk, hrr.fb, hrr.fi, hrr.fs, ⟨hrr.rk.up, hrr.rk.mem⟩, ⟨hrr.ri.up, hrr.ri.mem⟩⟩, HM4.out.fq, HM4.out.nk, HM4.out.ni⟩
  have HU := hid hu
  clear hw9 hh hu hrr q5 q6 q7 q8 q9 q10 f5 f6 f7 f8 f9 f10
  go_wp2_with fail
  go_ret
  rw [HE.out]
  exact ⟨_, rfl, (RMx.wide ⟨_, _, _, _, _, _, _, HX.out⟩ fun k hk => .inl hk).mono (by omega), HU4.out.nul.trans (HU.out.mono fun j _ e => by rw [e]; exact HM0.out.fq)⟩
end
end Go.Proofs.YtepggchnhgpcnaaGreatDoor
