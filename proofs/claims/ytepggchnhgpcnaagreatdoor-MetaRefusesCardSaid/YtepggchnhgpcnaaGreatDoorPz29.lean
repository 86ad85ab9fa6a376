/- The document's 'again'. -/
import Derived.Test.YtepggchnhgpcnaaGreatDoorPkTidy
import Derived.Test.YtepggchnhgpcnaaGreatDoorPz28
namespace Go.Proofs.YtepggchnhgpcnaaGreatDoor
open Go.RowKit Go.Maps Go.Sort
set_option linter.unusedVariables false

theorem Up.keep {S : Nat → Prop} {w w' : World} {p : Nat} {o : Obj} (u : Up S w w') (h : w.heap[p]? = some o) (hs : ¬ S p) : w'.heap[p]? = some o := (u.block p (Array.getElem?_eq_some_iff.1 h).1 hs).trans h
theorem lt_of_heap {w : World} {p : Nat} {o : Obj} (h : w.heap[p]? = some o) : p < w.heap.size := (Array.getElem?_eq_some_iff.1 h).1
theorem not_gr {F : Nat → Prop} {w w' : World} {p : Nat} (h1 : ¬ F p) (h2 : p < w.heap.size) : ¬ Gr F w w' p := fun h => by
 rcases h with h | h
 ·exact h1 h
 ·exact absurd h.1 (by omega)
theorem cell6 {w : World} {p : Nat} {T : TypeId} {a b c d e f : Value} (h : w.heap[p]? = some (.cells #[a, b, c, d, e, f] T (0, 0))) : w.cell? ⟨p, 0, none⟩ = some a ∧ w.cell? ⟨p, 1, none⟩ = some b ∧ w.cell? ⟨p, 2, none⟩ = some c ∧ w.cell? ⟨p, 3, none⟩ = some d ∧ w.cell? ⟨p, 4, none⟩ = some e ∧ w.cell? ⟨p, 5, none⟩ = some f := by simp [World.cell?, h]
theorem cell3 {w : World} {p : Nat} {T : TypeId} {a b c : Value} (h : w.heap[p]? = some (.cells #[a, b, c] T (0, 0))) : w.cell? ⟨p, 0, none⟩ = some a ∧ w.cell? ⟨p, 1, none⟩ = some b ∧ w.cell? ⟨p, 2, none⟩ = some c := by simp [World.cell?, h]
theorem gr_low {F : Nat → Prop} {w v w' : World} (h : w.heap.size ≤ v.heap.size) : ∀ k, Gr F v w' k → Gr F w w' k := fun k e => by
 rcases e with e | e
 ·exact .inl e
 ·exact .inr ⟨Nat.le_trans h e.1, e.2⟩
def MM.again (M : MM) (r : Rc) (fr : Int) (x : St) : Int × MM :=
 match M.b r.key with
 | none => (9, M)
 | some b => match M.s b.sid with
  | none => (12, M)
  | some s => if s.kind ≠ fr then (12, M) else (0, { M with b := upd M.b r.key (some ⟨b.n, r.sid, 0⟩), s := upd (upd M.s b.sid none) r.sid (some x), last := r.sid })
section
variable {F S : Nat → Prop} {w w' : World} {q n : Nat} {Q : Int → Value} {M : MM} {ks : List ByteArray} {is : List Int} {kv bv iv sv : Value}
def RMx (F : Nat → Prop) (w : World) (q n : Nat) (M : MM) : Prop := ∃ Q ks is kv bv iv sv, RM F w q n Q M ks is kv bv iv sv
theorem RMx.nxt {F : Nat → Prop} {w w' : World} {q n : Nat} {M : MM} (h : RMx F w q n M) (u : Up Nul w w') : RMx F w' q n M := by
 obtain ⟨Q, ks, is, kv, bv, iv, sv, h⟩ := h
 exact ⟨Q, ks, is, kv, bv, iv, sv, h.nxt u⟩
theorem RMx.wide {F G : Nat → Prop} {w : World} {q n : Nat} {M : MM} (h : RMx F w q n M) (hg : ∀ k, F k → G k) : RMx G w q n M := by
 obtain ⟨Q, ks, is, kv, bv, iv, sv, h⟩ := h
 exact ⟨Q, ks, is, kv, bv, iv, sv, h.wide hg⟩
theorem RMx.mono {F : Nat → Prop} {w : World} {q n m : Nat} {M : MM} (h : RMx F w q n M) (hm : n ≤ m) : RMx F w q m M := by
 obtain ⟨Q, ks, is, kv, bv, iv, sv, h⟩ := h
 exact ⟨Q, ks, is, kv, bv, iv, sv, h.mono hm⟩
theorem RMx.up {F S : Nat → Prop} {w w' : World} {q n : Nat} {M : MM} (h : RMx F w q n M) (u : Up S w w') (hs : ∀ k, F k → ¬ S k) : RMx F w' q n M := by
 obtain ⟨Q, ks, is, kv, bv, iv, sv, h⟩ := h
 exact ⟨Q, ks, is, kv, bv, iv, sv, h.up u hs⟩
set_option maxRecDepth 10000 in
set_option maxHeartbeats 4000000 in
theorem ragain_any (h : RMx F w q n M) (hF : ∀ k, F k → k < w.heap.size) (hn : n ≤ 80000) (r : Rc) (sa la : Option Addr) (sc lc : Nat) (fr : Int) (x : St) (hx : x.locs = r.locs)
  (hb : ∀ b, M.b r.key = some b → ∃ s, M.s b.sid = some s) (hlast : ∀ i s, M.s i = some s → i < r.sid) (hs0 : 0 ≤ r.sid ∧ r.sid ≤ 2147483647) (hv : OwnLo 0 w (.slice la r.locs.length lc) r.locs) (hvF : ∀ g, (Value.slice la r.locs.length lc).ownBlock = some g → F g) :
  Calls Tryz.prog 29 #[.pointer (some ⟨q, 0, none⟩), rv r (.slice sa r.sids.length sc) (.slice la r.locs.length lc), .int .i64 fr, stv x (.slice la r.locs.length lc)] w fun e w' => e = .returned (.int .i64 (M.again r fr x).1) ∧ RMx (Gr F w w') w' q (n + 2) (M.again r fr x).2 ∧ Up F w w' := by
 obtain ⟨W0, hW0⟩ : ∃ W, W = w.alloc (.cells (rcellsL r (.slice sa r.sids.length sc) (.slice la r.locs.length lc)) 28) := ⟨_, rfl⟩
 have u0 : Up Nul w W0 := by rw [hW0]; exact (Up.refl Nul w).alloc _
 have b0 : RB W0 w.heap.size r (.slice sa r.sids.length sc) (.slice la r.locs.length lc) := by rw [hW0]; exact RB.new _ _ _ _
 obtain ⟨xk, xc, k0, k1, k2, xl⟩ := x
 dsimp only at hx
 subst hx
 obtain ⟨L, LL⟩ : ∃ L, Hid (r.locs.length = L) := ⟨_, rfl⟩
 rw [LL.out] at b0 hW0 hv hvF ⊢
 obtain ⟨W1, hW1⟩ : ∃ W, W = W0.alloc (.cells #[.int .i64 xk, .int .i64 xc, .string k0, .string k1, .string k2, .slice la L lc] 46) := ⟨_, rfl⟩
 have u1 : Up Nul W0 W1 := by rw [hW1]; exact (Up.refl Nul W0).alloc _
 have hsz : W0.heap.size = w.heap.size + 1 := by rw [hW0]; exact World.size_alloc _ _
 have bx : W1.heap[w.heap.size + 1]? = some (.cells #[.int .i64 xk, .int .i64 xc, .string k0, .string k1, .string k2, .slice la L lc] 46 (0, 0)) := by rw [← hsz, hW1]; exact heap_alloc_new _ _
 have br := b0.nxt u1
 have U1 : Up Nul w W1 := u0.trans u1
 have hpr : w.heap.size < W1.heap.size := lt_of_heap br
 have hM := h.nxt U1
 have HPR : Hid (¬ F w.heap.size) := fun e => by have := hF _ e; omega
 have HPX : Hid (¬ F (w.heap.size + 1)) := fun e => by have := hF _ e; omega
 have HVL := hid hv
 have HVF := hid hvF
 have HHB := hid hb
 have HLA := hid hlast
 have HF := hid hF
 obtain ⟨x0, x1, x2, x3, x4, _⟩ := br.cells
 have HBR := hid br
 have HBX := hid bx
 have HU1 := hid U1
 have HS0 := hid hs0
 obtain ⟨Q, ks, is, kv, bv, iv, sv, hM⟩ := hM
 have HM := hid hM
 have HK := hid (rblob_any hM (by omega) r.key)
 obtain ⟨RES, hRES⟩ : ∃ R, R = M.again r fr ⟨xk, xc, k0, k1, k2, r.locs⟩ := ⟨_, rfl⟩
 rw [← hRES]
 have HRES := hid hRES
 clear h hF hb hlast hs0 hv hvF u0 u1 b0 br bx U1 hM x0 x2 x4 hRES hpr hsz
 go_enter Tryz.func29, Tryz.ntmps29
 go_upto_region 1 with fail
 rw [← hW0, ← hW1]
 clear hW0 hW1
 cases hbk : M.b r.key with
 | none =>
  have hbz : M.bof r.key = ⟨0, 0, 0⟩ := by unfold MM.bof; rw [hbk]; rfl
  rw [hbz, hbk] at HK
  have HE : Hid (RES = (9, M)) := by show _ = _; rw [HRES.out]; unfold MM.again; rw [hbk]
  clear hbz hbk x3
  go_wp2_with fail
  refine HK.out.mono ?_
  rintro e w2 ⟨rfl, u2⟩
  have HU2 := hid u2
  clear u2
  go_wp2_with fail
  go_ret
  exact ⟨by rw [HE.out]; rfl, by
   rw [HE.out]
   exact ((RMx.nxt ⟨Q, ks, is, kv, bv, iv, sv, HM.out⟩ (HU2.out.alloc _)).wide fun k hk => .inl hk).mono (by omega : n ≤ n + 2), (HU1.out.trans (HU2.out.alloc _)).nul⟩
 | some b =>
  obtain ⟨s, hs⟩ := HHB.out b hbk
  obtain ⟨bn, bi, bp⟩ := b
  dsimp only at hs
  rw [bof_some hbk, hbk] at HK
  have HBK := hid hbk
  have HS := hid hs
  clear hbk hs
  go_wp2_with fail
  refine HK.out.mono ?_
  rintro e w2 ⟨rfl, u2⟩
  have HU2 := hid u2
  clear u2
  go_upto_region 4 with fail
  obtain ⟨W3, hW3⟩ : ∃ W, W = w2.alloc (.cells #[.int .i64 bn, .int .i64 bi, .int .i64 bp] 51) := ⟨_, rfl⟩
  have u3 : Up Nul w2 W3 := by rw [hW3]; exact (Up.refl Nul w2).alloc _
  have b3 : W3.heap[w2.heap.size]? = some (.cells #[.int .i64 bn, .int .i64 bi, .int .i64 bp] 51 (0, 0)) := by rw [hW3]; exact heap_alloc_new _ _
  rw [← hW3]
  clear hW3
  have HU3 : Hid (Up Nul w W3) := HU1.out.trans (HU2.out.trans u3)
  have HM3 := hid (HM.out.nxt (HU2.out.trans u3))
  have HBR3 := hid (HBR.out.nxt (HU2.out.trans u3))
  have HBX3 := hid ((HU2.out.trans u3).keep HBX.out id)
  have HPB : Hid (¬ F w2.heap.size) := fun e => by have := HF.out _ e; have := HU1.out.size; have := HU2.out.size; omega
  generalize w2.heap.size = pb at HPB b3 ⊢
  have HB3 := hid b3
  obtain ⟨z0, z1, z2⟩ := cell3 b3
  obtain ⟨qa, qc, hqv⟩ := (HM3.out.rr.lo bi s HS.out).1.shape
  have hst := rstripe_yes HM3.out (by omega) bi s HS.out
  rw [hqv] at hst
  generalize s.locs.length = sl at hst
  have HST := hid hst
  clear hst hqv u3 b3 HU2 HBR HBX HM HK
  go_wp2_with fail
  refine HST.out.mono ?_
  rintro e w4 ⟨rfl, u4⟩
  have HU4 := hid u4
  clear u4 HST
  go_upto_region 5 with fail
  obtain ⟨W5, hW5⟩ : ∃ W, W = w4.alloc (.cells #[.int .i64 s.kind, .int .i64 s.colour, .string s.k0, .string s.k1, .string s.k2, .slice qa sl qc] 46) := ⟨_, rfl⟩
  have u5 : Up Nul w4 W5 := by rw [hW5]; exact (Up.refl Nul w4).alloc _
  have b5 : W5.heap[w4.heap.size]? = some (.cells #[.int .i64 s.kind, .int .i64 s.colour, .string s.k0, .string s.k1, .string s.k2, .slice qa sl qc] 46 (0, 0)) := by rw [hW5]; exact heap_alloc_new _ _
  rw [← hW5]
  clear hW5 z0 z1 z2 x1 x3
  have U35 : Up Nul W3 W5 := HU4.out.trans u5
  have HU5 : Hid (Up Nul w W5) := HU3.out.trans U35
  have HM5 := hid (HM3.out.nxt U35)
  have HBR5 := hid (HBR3.out.nxt U35)
  have HBX5 := hid (U35.keep HBX3.out id)
  have HB5 := hid (U35.keep HB3.out id)
  obtain ⟨y0, _⟩ := cell6 b5
  generalize w4.heap.size = ps at b5 y0 ⊢
  clear U35 HU4 u5 b5 HU3 HM3 HBR3 HBX3 HB3
  by_cases hkf : s.kind = fr
  ·have hk1 : (s.kind == fr) = true := by simpa using hkf
   have hk2 : (s.kind != fr) = false := by simp [bne, hk1]
   have HE : Hid (RES = (0, { M with b := upd M.b r.key (some ⟨bn, r.sid, 0⟩), s := upd (upd M.s bi none) r.sid (some ⟨xk, xc, k0, k1, k2, r.locs⟩), last := r.sid })) := by
    show _ = _
    rw [HRES.out]; unfold MM.again; rw [HBK.out]; dsimp only; rw [HS.out]; dsimp only; rw [if_neg (by simpa using hkf)]
   clear hkf
   have HFW5 : Hid (∀ k, F k → k < W5.heap.size) := fun k hk => Nat.lt_of_lt_of_le (HF.out k hk) HU5.out.size
   have hcl := rlift_any HM5.out HFW5.out (by omega) bi (by rw [HS.out]; rfl)
   have HCL := hid hcl
   obtain ⟨x1, _⟩ := cell3 HB5.out
   obtain ⟨_, z1, _⟩ := cell3 HB5.out
   clear hcl x1
   go_wp2_with fail
   refine HCL.out.mono ?_
   rintro e w6 ⟨rfl, ⟨is6, iv6, sv6, h6⟩, u6⟩
   have hnq : ∀ p, ¬ F p → ¬ p = q := fun p hp e => hp (by rw [e]; exact HM5.out.fq)
   have hbr6 := HBR5.out.up u6 (hnq _ HPR.out)
   have hbx6 := u6.keep HBX5.out (hnq _ HPX.out)
   have hb6 := u6.keep HB5.out (hnq _ HPB.out)
   have HBR6 := hid hbr6
   have HBX6 := hid hbx6
   have HB6 := hid hb6
   have H6 := hid h6
   have HU6 : Hid (Up (fun k => k = q) w w6) := HU5.out.nul.trans u6
   have HV6 : Hid (OwnLo 0 w6 (.slice la L lc) r.locs) := lo_up (lo_up HVL.out HU5.out fun _ _ => id) u6 fun g e e' => row_ne (lo_up HVL.out HU5.out fun _ _ => id) HM5.out.hp (by decide) (by rw [← e']; exact e)
   have HH6 : Hid (W5.heap.size ≤ w6.heap.size) := u6.size
   have HFW6 : Hid (∀ k, Gr F W5 w6 k → k < w6.heap.size) := gr_lt HFW5.out u6.size
   have his : ∀ i ∈ is6, i < r.sid := fun i hi => by
    have := (H6.out.rr.ri.mem i).1 hi
    obtain ⟨y, hy⟩ := Option.isSome_iff_exists.1 this
    have hy : upd M.s bi none i = some y := hy
    by_cases e : i = bi
    ·rw [e, upd_same] at hy; cases hy
    ·rw [upd_ne _ _ e] at hy; exact HLA.out i y hy
   have hcl := rlay_any H6.out HFW6.out (by omega) r.sid ⟨xk, xc, k0, k1, k2, r.locs⟩ (.slice la L lc) his HS0.out HV6.out (fun g e => .inl (HVF.out g e))
   have HCL := hid hcl
   obtain ⟨_, _, _, x3, _⟩ := hbr6.cells
   obtain ⟨v0, v1, v2, v3, v4, v5⟩ := cell6 hbx6
   clear hcl h6 u6 hbr6 hbx6 hb6 his z1 y0 hnq
   go_wp2_with fail
   refine HCL.out.mono ?_
   rintro e w7 ⟨rfl, ⟨is7, iv7, sv7, h7⟩, u7⟩
   have hnq : ∀ p, ¬ F p → ¬ p = q := fun p hp e => hp (by rw [e]; exact HM5.out.fq)
   have hbr7 := HBR6.out.up u7 (hnq _ HPR.out)
   have hb7 := u7.keep HB6.out (hnq _ HPB.out)
   have h8 := (h7.wide (gr_tr (v := w6) HH6.out u7.size)).wide (gr_low HU5.out.size)
   have H8 := hid h8
   have HU7 : Hid (Up (fun k => k = q) w w7) := HU6.out.trans u7
   have HFW7 : Hid (∀ k, Gr F w w7 k → k < w7.heap.size) := gr_lt HF.out HU7.out.size
   have hcl := rset_any h8 HFW7.out (by omega) r.key ⟨bn, r.sid, 0⟩
   have HCL := hid hcl
   obtain ⟨_, x1, _, x3, _⟩ := hbr7.cells
   obtain ⟨z0, _⟩ := cell3 hb7
   clear hcl h7 u7 hbr7 hb7 h8 v0 v1 v2 v3 v4 v5 hnq
   go_wp2_with fail
   refine HCL.out.mono ?_
   rintro e w8 ⟨rfl, ⟨ks8, kv8, bv8, h9⟩, u8⟩
   have H9 := hid h9
   have hu8 : Up (Gr F w w7) w7 w8 := u8.mono fun k _ e => by
    rcases e with e | e
    ·rw [e]; exact H8.out.fq
    ·exact H8.out.rr.fb k e
   have HUE : Hid (Up F w w8) := (HU7.out.mono fun k _ e => by rw [e]; exact HM5.out.fq).thn hu8 fun j e => by
    rcases e with e | e
    ·exact .inl e
    ·exact .inr e.1
   have HGE : Hid (∀ k, Gr (Gr F w w7) w7 w8 k → Gr F w w8 k) := gr_tr HU7.out.size u8.size
   clear h9 u8 hu8 x1 x3 z0
   go_wp2_with fail
   go_ret
   exact ⟨by rw [HE.out]; rfl, by rw [HE.out]; exact ⟨_, _, _, _, _, _, _, H9.out.wide HGE.out⟩, HUE.out⟩
  ·have hk1 : (s.kind == fr) = false := by simpa using hkf
   have hk2 : (s.kind != fr) = true := by simp [bne, hk1]
   have HE : Hid (RES = (12, M)) := by
    show _ = _
    rw [HRES.out]; unfold MM.again; rw [HBK.out]; dsimp only; rw [HS.out]; dsimp only; rw [if_pos (by simpa using hkf)]
   clear hkf
   go_wp2_with fail
   go_ret
   exact ⟨by rw [HE.out]; rfl, by rw [HE.out]; exact (RMx.wide ⟨_, _, _, _, _, _, _, HM5.out⟩ fun k hk => .inl hk).mono (by omega : n ≤ n + 2), HU5.out.nul⟩
end
set_option maxRecDepth 10000 in
theorem rin_any (a : Option Addr) (c : Nat) (zs : List Int) (x : Int) (w : World) (hl : zs.length ≤ 1000) (h : RowI w a zs) :
  Calls Tryz.prog 73 #[.slice a zs.length c, .int .i64 x] w fun e w' => e = .returned (.bool (decide (x ∈ zs))) ∧ w' = w := by
 have HC : Hid (∀ i z, zs[i]? = some z → ∃ g o, a = some ⟨g, o, none⟩ ∧ w.cell? ⟨g, o + i, none⟩ = some (.int .i64 z)) := fun i z hz => by
  rcases h with e | ⟨g, o, e, _, hc⟩
  ·rw [e] at hz; cases hz
  ·exact ⟨g, o, e, hc i z hz⟩
 obtain ⟨N, NN⟩ : ∃ N, Hid (zs.length = N) := ⟨_, rfl⟩
 rw [NN.out] at hl ⊢
 have HN := hid hl
 obtain ⟨R, hR⟩ : ∃ R, R = decide (x ∈ zs) := ⟨_, rfl⟩
 rw [← hR]
 have HR := hid hR
 clear hl h hR
 go_enter Tryz.func73, Tryz.ntmps73
 go_wp2_with fail
 go_loopw [5] (fun i wr => ∃ t : Nat, i = .int .i64 t ∧ t ≤ N ∧ wr = w ∧ Hid (x ∉ zs.take t)) (fun i _ => N - (intOf i).toNat)
 case atStart => exact ⟨0, rfl, Nat.zero_le _, by first | rfl | trivial, by show _ ∉ _; simp⟩
 case round =>
  obtain ⟨t, rfl, ht, hwr, hni⟩ := hrel
  have hww := hwr.symm
  subst hww
  by_cases hlt : t < N
  ·obtain ⟨z, hz⟩ : ∃ z, zs[t]? = some z := ⟨zs[t]'(by rw [NN.out]; exact hlt), List.getElem?_eq_getElem _⟩
   obtain ⟨g, o, rfl, hc⟩ := HC.out t z hz
   have HZ := hid hz
   obtain ⟨t1, T1⟩ : ∃ t1, Hid (t + 1 = t1) := ⟨_, rfl⟩
   have e1 : (t : Int) + 1 = (t1 : Int) := by have := T1.out; omega
   have e2 : IntKind.i64.wrap (t1 : Int) = (t1 : Int) := IntWalk.i64_in _ (by have := HN.out; have := T1.out; omega)
   by_cases hzx : z = x
   ·have hb : (z == x) = true := by simpa using hzx
    have HE : Hid (R = true) := by show R = _; rw [HR.out]; exact decide_eq_true (by rw [← hzx]; exact List.mem_of_getElem? hz)
    clear hz hzx hni
    go_wp2_with fail
    go_ret
    exact ⟨by rw [HE.out]; rfl, rfl⟩
   ·have hb : (z == x) = false := by simpa using hzx
    have HS : Hid (x ∉ zs.take t1) := by
     show _ ∉ _
     rw [← T1.out, List.take_add_one, HZ.out]
     simp only [Option.toList_some, List.mem_append, List.mem_singleton]
     rintro (e | e)
     ·exact hni.out e
     ·exact hzx e.symm
    clear hz hzx hni
    go_wp2_with fail
    go_roundw
    case rel => exact ⟨t1, rfl, by have := T1.out; omega, by first | rfl | trivial, HS⟩
    case measure => (have := T1.out; simp [intOf]; omega)
  ·obtain rfl : t = N := by omega
   have HE : Hid (R = false) := by
    show R = _
    rw [HR.out]
    refine decide_eq_false fun e => hni.out ?_
    rw [List.take_of_length_le (by rw [NN.out]; exact Nat.le_refl _)]; exact e
   clear hni
   go_wp2_with fail
   go_ret
   exact ⟨by rw [HE.out]; rfl, rfl⟩
structure MgC (M : MM) (zs : List Int) (t : Nat) : Prop where
 ok : ∀ u, u < t → ∃ z s, zs[u]? = some z ∧ M.s z = some s ∧ s.kind = 2 ∧ s.colour = (u : Int) ∧ z ∉ zs.take u
theorem mchk_not {M : MM} {all : List Int} {p : Nat} {i : Int} {l : List Int} {s : St} (hs : M.s i = some s) (hc : ¬ 1 < all.count i) (hk : s.kind = 2) (hp : s.colour = (p : Int)) : M.mchk all p (i :: l) = M.mchk all (p + 1) l := by
 unfold MM.mchk
 rw [hs]
 dsimp only
 rw [if_neg hc, if_neg (by rintro (e | e); exact e hk; exact e hp)]
 cases l <;> rfl
theorem mchk_ne {M : MM} {all : List Int} : ∀ (l : List Int) (p : Nat) (e : Int), M.mchk all p l = some e → e ≠ 0
 | [], p, e, h => by unfold MM.mchk at h; cases h
 | i :: l, p, e, h => by
  unfold MM.mchk at h
  split at h
  ·injection h with h; omega
  ·split at h
   ·injection h with h; omega
   ·split at h
    ·injection h with h; omega
    ·exact mchk_ne l (p + 1) e h
theorem merge_bad {M : MM} {r : Rc} {a b c : Int} (hz : r.sids = [a, b, c]) (t : Nat) (ht : t < 3) (z : Int) (hzt : [a, b, c][t]? = some z) (hb : M.s z = none ∨ z ∈ [a, b, c].take t ∨ ∃ s, M.s z = some s ∧ ¬ (s.kind = 2 ∧ s.colour = (t : Int))) : (M.merge r).1 ≠ 0 := by
 unfold MM.merge
 rw [hz]
 cases hm : M.mchk [a, b, c] 0 [a, b, c] with
 | some e => exact mchk_ne _ _ _ hm
 | none =>
  exfalso
  obtain ⟨sa, ha, ca, ka, pa, hm⟩ := mchk_cons hm
  obtain ⟨sb, hb', cb, kb, pb, hm⟩ := mchk_cons hm
  obtain ⟨sc, hc, cc, kc, pc, hm⟩ := mchk_cons hm
  match t, ht, hzt, hb with
  | 0, _, hzt, hb =>
   have e : a = z := by simpa using hzt
   subst e
   rcases hb with e | e | ⟨s, e, h⟩
   ·rw [ha] at e; cases e
   ·simp at e
   ·rw [ha] at e; cases e; exact h ⟨ka, pa⟩
  | 1, _, hzt, hb =>
   have e : b = z := by simpa using hzt
   subst e
   rcases hb with e | e | ⟨s, e, h⟩
   ·rw [hb'] at e; cases e
   ·have e : b = a := by simpa using e
    subst e
    exact cb (by simp only [List.count_cons_self]; omega)
   ·rw [hb'] at e; cases e; exact h ⟨kb, pb⟩
  | 2, _, hzt, hb =>
   have e : c = z := by simpa using hzt
   subst e
   rcases hb with e | e | ⟨s, e, h⟩
   ·rw [hc] at e; cases e
   ·have e : c = a ∨ c = b := by simpa using e
    rcases e with e | e
    ·subst e
     refine ca ?_
     rw [List.count_cons_self]
     have : 0 < List.count c [b, c] := List.count_pos_iff.2 (by simp)
     omega
    ·subst e
     refine cb ?_
     have h1 : 2 ≤ List.count c [c, c] := by simp
     have h2 : List.count c [c, c] ≤ List.count c [a, c, c] := List.Sublist.count_le _ (List.sublist_cons_self _ _)
     omega
   ·rw [hc] at e; cases e; exact h ⟨kc, pc⟩
theorem merge_good {M : MM} {a b c : Int} (h : MgC M [a, b, c] 3) : M.mchk [a, b, c] 0 [a, b, c] = none := by
 obtain ⟨za, sa, e1, ha, ka, pa, na⟩ := h.ok 0 (by omega)
 obtain ⟨zb, sb, e2, hb, kb, pb, nb⟩ := h.ok 1 (by omega)
 obtain ⟨zc, sc, e3, hc, kc, pc, nc⟩ := h.ok 2 (by omega)
 have e1 : a = za := by simpa using e1
 have e2 : b = zb := by simpa using e2
 have e3 : c = zc := by simpa using e3
 subst e1 e2 e3
 have hab : b ≠ a := by simpa using nb
 have hac : c ≠ a ∧ c ≠ b := by simpa using nc
 have c0 : ¬ 1 < [a, b, c].count a := by
  have x1 : a ≠ b := fun e => hab e.symm
  have x2 : a ≠ c := fun e => hac.1 e.symm
  simp [x1.symm, x2.symm]
 have c1 : ¬ 1 < [a, b, c].count b := by
  have x1 : a ≠ b := fun e => hab e.symm
  simp [x1, hac.2]
 have c2 : ¬ 1 < [a, b, c].count c := by
  have x2 : a ≠ c := fun e => hac.1 e.symm
  have x3 : b ≠ c := fun e => hac.2 e.symm
  simp [x2, x3]
 rw [mchk_not ha c0 ka pa, mchk_not hb c1 kb pb, mchk_not hc c2 kc pc]
 rfl
theorem fold_not {f : Int → Option St} {i : Int} : ∀ (l : List Int), i ∉ l → (l.foldl (fun f i => upd f i none) f) i = f i := by
 intro l
 induction l generalizing f with
 | nil => intro _; rfl
 | cons z l ih =>
  intro h
  rw [List.foldl_cons, ih (fun e => h (List.mem_cons_of_mem _ e)), upd_ne _ _ fun e => h (by rw [e]; exact List.mem_cons_self)]
theorem fold_some {f : Int → Option St} {i : Int} {x : St} : ∀ (l : List Int), (l.foldl (fun f i => upd f i none) f) i = some x → f i = some x := by
 intro l
 induction l generalizing f with
 | nil => intro h; exact h
 | cons z l ih =>
  intro h
  rw [List.foldl_cons] at h
  have := ih h
  by_cases e : i = z
  ·rw [e, upd_same] at this; cases this
  ·rw [upd_ne _ _ e] at this; exact this
theorem lay1_some {b : ByteArray → Option Bl} {k k' : ByteArray} {sid p : Int} (h : (b k').isSome = true) : (lay1 b k sid p k').isSome = true := by
 unfold lay1
 cases hb : b k with
 | none => exact h
 | some x =>
  dsimp only
  by_cases e : k' = k
  ·subst e; rw [upd_same]; rfl
  ·rw [upd_ne _ _ e]; exact h
theorem lay1_upd {b : ByteArray → Option Bl} {k : ByteArray} {sid p : Int} {x : Bl} (h : b k = some x) : lay1 b k sid p = upd b k (some ⟨x.n, sid, p⟩) := by
 unfold lay1; rw [h]
end Go.Proofs.YtepggchnhgpcnaaGreatDoor
