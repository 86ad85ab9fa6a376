/- The document's 'split'. -/
import Derived.Test.YtepggchnhgpcnaaGreatDoorPkTidy
import Derived.Test.YtepggchnhgpcnaaGreatDoorPz30
namespace Go.Proofs.YtepggchnhgpcnaaGreatDoor
open Go.RowKit Go.Maps Go.Sort
set_option linter.unusedVariables false

theorem cut_mid {t T : TypeId} {base s n : Nat} {w : World} {a : Option Addr} {c : Nat} {xs : List Value} (h : w.ownsRow base T s (.slice a n c) n xs) (h1 : ∀ u ∈ xs, u.oneCell' = true) (ht : Tryz.prog.underlying t = some (.slice (Tryz.prog.elem t))) (hz : ∀ W, (sizeOf (Tryz.prog.elem t)).run Tryz.prog W = .ok s W) (l m : Nat) (hlm : l + m ≤ n) :
  ∃ rb, (∀ W, (Instr.slice t (.slice a n c) (some (.int .i64 (l : Nat))) (some (.int .i64 ((l + m : Nat) : Nat))) none).run Tryz.prog W = .ok (.slice rb m (c - l)) W) ∧
   RdR s w rb m ((xs.drop (l * s)).take (m * s)) ∧ (rb = none → m = 0 ∧ c - l = 0) := by
 obtain ⟨ra, rc, e, hnc, hr, hnone, _⟩ := ownsRow.rd h h1
 have ea : a = ra := by injection e
 have ec : c = rc := by injection e
 subst ea ec
 refine ⟨if c = l then a else a.map (·.add (l * s)), fun W => ?_, (hr.drop (by omega) hnc).take (by omega), fun e => ?_⟩
 ·rw [run_slice_lh (P := Tryz.prog) (w := W) t a n c ht .i64 .i64 l ((l + m : Nat) : Int) (by omega) (by omega) (by omega), hz]
  have : l + m - l = m := by omega
  simp only [Result.andThen, sliced, Int.toNat_natCast, this]
 ·have e2 : a = none := by
   split at e
   ·exact e
   ·simpa using e
  have := hnone e2; omega
theorem loV_sub (ls : List Lo) (l m : Nat) : ((loV ls).drop (l * 3)).take (m * 3) = loV ((ls.drop l).take m) := by
 unfold loV
 rw [flat_drop (f := Lo.cells) (fun _ => rfl), flat_take (f := Lo.cells) (fun _ => rfl)]
def splM (s : St) (zs : List Int) (M0 : MM) (ls : List Lo) (L : Int) (t : Nat) : MM := { (spl s zs M0 ls t).1 with last := lst s zs L t }
section
variable {F S : Nat → Prop} {w w' : World} {q n : Nat} {Q : Int → Value} {M : MM} {ks : List ByteArray} {is : List Int} {kv bv iv sv : Value}
theorem own_heap {T : TypeId} {base s m k : Nat} {v : Value} {xs : List Value} (h : w.ownsRow base T s v m xs) (e : v.ownBlock = some k) : ∃ c, w.heap[k]? = some (.cells c T (0, 0)) := by
 rcases h.2 with ⟨rfl, _⟩ | ⟨g', cap, cur, rfl, _, h3, _⟩
 ·cases e
 ·have e : g' = k := by injection e
  subst e; exact ⟨cur, h3⟩
theorem gr_mono {F : Nat → Prop} {w w' w2 : World} (h : w'.heap.size ≤ w2.heap.size) : ∀ k, Gr F w w' k → Gr F w w2 k := fun k e => by
 rcases e with e | e
 ·exact .inl e
 ·exact .inr ⟨e.1, Nat.lt_of_lt_of_le e.2 h⟩
structure SpL (w0 w : World) (pr pv : Nat) (r : Rc) (s : St) (sa la qa : Option Addr) (sc nl lc sl qc gz oz : Nat) (z0 z1 z2 : Int) : Prop where
 rb : RB w pr r (.slice sa 3 sc) (.slice la nl lc)
 pb : w.heap[pv]? = some (.cells #[.int .i64 s.kind, .int .i64 s.colour, .string s.k0, .string s.k1, .string s.k2, .slice qa sl qc] 46 (0, 0))
 o1 : OwnLo 0 w (.slice la nl lc) r.locs
 o2 : OwnLo 0 w (.slice qa sl qc) s.locs
 glt : gz < w.heap.size
 c0 : w.cell? ⟨gz, oz, none⟩ = some (.int .i64 z0)
 c1 : w.cell? ⟨gz, oz + 1, none⟩ = some (.int .i64 z1)
 c2 : w.cell? ⟨gz, oz + 2, none⟩ = some (.int .i64 z2)
theorem SpL.keep {w0 : World} {pr pv : Nat} {r : Rc} {s : St} {sa la qa : Option Addr} {sc nl lc sl qc gz oz : Nat} {z0 z1 z2 : Int} (h : SpL w0 w pr pv r s sa la qa sc nl lc sl qc gz oz z0 z1 z2) {S : Nat → Prop} (u : Up S w w') (hS : ∀ k, S k → (∃ c, w.heap[k]? = some (.cells c 62 (0, 0))) ∨ ∃ c, w.heap[k]? = some (.cells c 51 (0, 0))) (hg : ¬ S gz) : SpL w0 w' pr pv r s sa la qa sc nl lc sl qc gz oz z0 z1 z2 := by
 have ty : ∀ {k : Nat} {c : Array Value} {T : TypeId}, w.heap[k]? = some (.cells c T (0, 0)) → T ≠ 62 → T ≠ 51 → ¬ S k := fun hk h1 h2 hs => by
  rcases hS _ hs with ⟨c', e⟩ | ⟨c', e⟩
  ·rw [hk] at e; injection e with e; injection e with _ e; exact h1 e
  ·rw [hk] at e; injection e with e; injection e with _ e; exact h2 e
 have lo : ∀ {v : Value} {ls : List Lo}, OwnLo 0 w v ls → OwnLo 0 w' v ls := fun ho => lo_up ho u fun g e => by
  obtain ⟨c, hc⟩ := own_heap ho e
  exact ty hc (by decide) (by decide)
 exact ⟨h.rb.up u (ty h.rb (by decide) (by decide)), u.keep h.pb (ty h.pb (by decide) (by decide)), lo h.o1, lo h.o2, Nat.lt_of_lt_of_le h.glt u.size, (u.cell (p := ⟨gz, oz, none⟩) h.glt hg).trans h.c0, (u.cell (p := ⟨gz, oz + 1, none⟩) h.glt hg).trans h.c1, (u.cell (p := ⟨gz, oz + 2, none⟩) h.glt hg).trans h.c2⟩
theorem SpL.nxt {w0 : World} {pr pv : Nat} {r : Rc} {s : St} {sa la qa : Option Addr} {sc nl lc sl qc gz oz : Nat} {z0 z1 z2 : Int} (h : SpL w0 w pr pv r s sa la qa sc nl lc sl qc gz oz z0 z1 z2) (u : Up Nul w w') : SpL w0 w' pr pv r s sa la qa sc nl lc sl qc gz oz z0 z1 z2 := h.keep u (fun k e => e.elim) id
theorem splM_live {s : St} {zs : List Int} {M0 : MM} {ls : List Lo} {L : Int} {t : Nat} (h : s.key t ≠ noK) {x : Bl} (hb : (spl s zs M0 ls t).1.b (s.key t) = some x) (hn : (spl s zs M0 ls t).1.b noK = none) :
  splM s zs M0 ls L (t + 1) = { splM s zs M0 ls L t with b := upd (spl s zs M0 ls t).1.b (s.key t) (some ⟨x.n, zs.getD t 0, 0⟩), s := upd (spl s zs M0 ls t).1.s (zs.getD t 0) (some ⟨2, (t : Int), s.key t, noK, noK, (s.locs.drop (4 * t)).take 4 ++ (spl s zs M0 ls t).2.take 2⟩), last := zs.getD t 0 } := by
 have e1 : lst s zs L (t + 1) = zs.getD t 0 := if_neg h
 unfold splM
 rw [spl_live h, e1]
 unfold MM.lay
 have hn2 : upd (spl s zs M0 ls t).1.b (s.key t) (some ⟨x.n, zs.getD t 0, 0⟩) noK = none := by rw [upd_ne _ _ fun e => h e.symm]; exact hn
 have l0 : lay1 (spl s zs M0 ls t).1.b (s.key t) (zs.getD t 0) 0 = upd (spl s zs M0 ls t).1.b (s.key t) (some ⟨x.n, zs.getD t 0, 0⟩) := lay1_upd hb
 have l1 : ∀ p, lay1 (upd (spl s zs M0 ls t).1.b (s.key t) (some ⟨x.n, zs.getD t 0, 0⟩)) noK (zs.getD t 0) p = upd (spl s zs M0 ls t).1.b (s.key t) (some ⟨x.n, zs.getD t 0, 0⟩) := fun p => by unfold lay1; rw [hn2]
 dsimp only
 rw [l0, l1, l1]
theorem splM_dead {s : St} {zs : List Int} {M0 : MM} {ls : List Lo} {L : Int} {t : Nat} (h : s.key t = noK) : splM s zs M0 ls L (t + 1) = splM s zs M0 ls L t := by
 unfold splM
 rw [spl_dead h, show lst s zs L (t + 1) = lst s zs L t from if_pos h]
set_option maxRecDepth 10000 in
set_option maxHeartbeats 8000000 in
theorem rsplit_any (h : RMx F w q n M) (hF : ∀ k, F k → k < w.heap.size) (hn : n ≤ 80000) (hI : M.Inv3) (r : Rc) (sa la : Option Addr) (sc lc : Nat) (z0 z1 z2 : Int) (hz : r.sids = [z0, z1, z2]) (hrs : RowI w sa r.sids) (hsq : ∀ g o, sa = some ⟨g, o, none⟩ → ¬ F g) (hsc : 3 ≤ sc ∧ (sc : Int) ≤ 9223372036854775807)
  (hll : r.locs.length = 2 * nz r.sids) (l : Int) (hri : rise M.last (r.sids.filter fun x => decide (x ≠ 0)) = some l) (hzb : ∀ z ∈ r.sids, 0 ≤ z ∧ z ≤ 2147483647) (hs0 : 0 ≤ r.sid ∧ r.sid ≤ 2147483647) (hv : OwnLo 0 w (.slice la r.locs.length lc) r.locs) :
  Calls Tryz.prog 31 #[.pointer (some ⟨q, 0, none⟩), rv r (.slice sa r.sids.length sc) (.slice la r.locs.length lc)] w fun e w' => ∃ x, e = .returned (.int .i64 x) ∧ RMx (Gr F w w') w' q (n + 7) (if (M.split r).1 = 0 then { (M.split r).2 with last := l } else M) ∧ Up F w w' := by
 obtain ⟨Q, ks, is, kv, bv, iv, sv, h⟩ := h
 obtain ⟨W1, hW1⟩ : ∃ W, W = w.alloc (.cells (rcellsL r (.slice sa r.sids.length sc) (.slice la r.locs.length lc)) 28) := ⟨_, rfl⟩
 have u1 : Up Nul w W1 := by rw [hW1]; exact (Up.refl Nul w).alloc _
 have b1 : RB W1 w.heap.size r (.slice sa r.sids.length sc) (.slice la r.locs.length lc) := by rw [hW1]; exact RB.new _ _ _ _
 have HU1 := hid u1
 have HM0 := hid h
 have HM1 := hid (h.nxt u1)
 have HF := hid hF
 have HRS := hid hrs
 have HSQ := hid hsq
 have HVL := hid hv
 have HRI := hid hri
 have HS0 := hid hs0
 have HLL := hid hll
 have HSC := hid hsc
 have HII := hid hI
 have HZB := hid hzb
 have HZZ := hid hz
 obtain ⟨zs, ZS⟩ : ∃ x, Hid (r.sids = x) := ⟨_, rfl⟩
 have HZL : Hid (zs.length = 3) := by show zs.length = 3; rw [← ZS.out, HZZ.out]; rfl
 obtain ⟨R, HR⟩ : ∃ R, Hid ((if (M.split r).1 = 0 then { (M.split r).2 with last := l } else M) = R) := ⟨_, rfl⟩
 rw [HR.out]
 rw [ZS.out] at hW1 b1 HRS HZZ HLL HRI HZB ⊢
 rw [HZL.out] at hW1 b1 ⊢
 obtain ⟨nl, NL⟩ : ∃ x, Hid (r.locs.length = x) := ⟨_, rfl⟩
 rw [NL.out] at hW1 b1 HVL ⊢
 have HB1 := hid b1
 have HPR : Hid (¬ F w.heap.size) := fun e => by have := HF.out _ e; omega
 have HNN := hid hn
 obtain ⟨_, _, _, x3, _⟩ := b1.cells
 clear h hF hrs hsq hz hv hri hs0 hll hsc hI hzb u1 b1
 go_enter Tryz.func31, Tryz.ntmps31
 go_upto_region 1 with fail
 rw [← hW1]
 clear hW1
 cases hsz : M.s r.sid with
 | none =>
  have HST := hid (rstripe_no HM1.out (by omega) r.sid hsz)
  have HE : Hid (R = M) := by
   show R = _
   rw [← HR.out]
   have : M.split r = (11, M) := by unfold MM.split; rw [hsz]
   rw [this]; rfl
  clear hsz
  go_wp2_with fail
  refine HST.out.mono ?_
  rintro e w3 ⟨rfl, u3⟩
  have HU3 := hid u3
  clear u3
  go_wp2_with fail
  go_ret
  rw [HE.out]
  exact ⟨_, rfl, (RMx.wide ⟨_, _, _, _, _, _, _, HM1.out.nxt (HU3.out.alloc _)⟩ fun k hk => .inl hk).mono (by omega), (HU1.out.trans (HU3.out.alloc _)).nul⟩
 | some s =>
  obtain ⟨qa, qc, hqv⟩ := (HM1.out.rr.lo r.sid s hsz).1.shape
  have HQV := hid hqv
  have hst := rstripe_yes HM1.out (by omega) r.sid s hsz
  rw [hqv] at hst
  obtain ⟨sl, SL⟩ : ∃ x, Hid (s.locs.length = x) := ⟨_, rfl⟩
  rw [SL.out] at hst HQV
  have HST := hid hst
  have HSZ := hid hsz
  clear hst hqv hsz
  go_wp2_with fail
  refine HST.out.mono ?_
  rintro e w3 ⟨rfl, u3⟩
  have HU3 := hid u3
  clear u3 HST x3
  go_upto_region 4 with fail
  obtain ⟨W4, hW4⟩ : ∃ W, W = w3.alloc (.cells #[.int .i64 s.kind, .int .i64 s.colour, .string s.k0, .string s.k1, .string s.k2, .slice qa sl qc] 46) := ⟨_, rfl⟩
  have u4 : Up Nul w3 W4 := by rw [hW4]; exact (Up.refl Nul w3).alloc _
  have b4 : W4.heap[w3.heap.size]? = some (.cells #[.int .i64 s.kind, .int .i64 s.colour, .string s.k0, .string s.k1, .string s.k2, .slice qa sl qc] 46 (0, 0)) := by rw [hW4]; exact heap_alloc_new _ _
  rw [← hW4]
  clear hW4
  have HU14 : Hid (Up Nul W1 W4) := HU3.out.trans u4
  have HU4 : Hid (Up Nul w W4) := HU1.out.trans HU14.out
  have HPV : Hid (w.heap.size < w3.heap.size) := by
   have h1 := lt_of_heap HB1.out; have h2 := HU3.out.size
   show _ < _
   omega
  have HPVF : Hid (¬ F w3.heap.size) := fun e => by have := HF.out _ e; have := HPV.out; omega
  generalize w3.heap.size = pv at *
  have HB4 := hid b4
  have HRB4 := hid (HB1.out.nxt HU14.out)
  have HM4 := hid (HM1.out.nxt HU14.out)
  obtain ⟨s0, _, s2, s3, s4, _⟩ := cell6 b4
  obtain ⟨_, _, _, _, x4, _⟩ := HRB4.out.cells
  clear u4 b4 HU3
  by_cases hk3 : s.kind = 3
  ·have k1 : (s.kind != 3) = false := by simp [hk3]
   have HK3 := hid hk3
   clear hk3
   go_wp2_with fail
   obtain ⟨gz, oz, rfl, hgz, hcz⟩ := HRS.out.resolve_left (fun e => by have := HZL.out; rw [e] at this; cases this)
   have HCZ : Hid (∀ V, Up Nul w V → V.cell? ⟨gz, oz, none⟩ = some (.int .i64 z0) ∧ V.cell? ⟨gz, oz + 1, none⟩ = some (.int .i64 z1) ∧ V.cell? ⟨gz, oz + 2, none⟩ = some (.int .i64 z2)) := fun V u => by
    have e := HZZ.out
    refine ⟨(u.cell (p := ⟨gz, oz, none⟩) hgz id).trans (hcz 0 z0 (by rw [e]; rfl)), (u.cell (p := ⟨gz, oz + 1, none⟩) hgz id).trans (hcz 1 z1 (by rw [e]; rfl)), (u.cell (p := ⟨gz, oz + 2, none⟩) hgz id).trans (hcz 2 z2 (by rw [e]; rfl))⟩
   have HGZ : Hid (gz < w.heap.size ∧ ¬ F gz) := ⟨hgz, HSQ.out gz oz rfl⟩
   obtain ⟨v0, v1, v2⟩ := HCZ.out W4 HU4.out
   have i3 : (3 : Int) ≤ (sc : Int) := by have := HSC.out.1; omega
   clear hcz hgz s0 k1
   go_loopw [7] (fun i wr => ∃ t : Nat, t ≤ 3 ∧ i = .int .i64 (t : Nat) ∧ Hid (wr.heap = W4.heap ∧ Up Nul W4 wr) ∧ Hid (∀ j, j < t → badP s zs j = false)) (fun i _ => 3 - (intOf i).toNat)
   case atStart => exact ⟨0, by omega, rfl, hid ⟨rfl, Up.refl _ _⟩, fun j hj => by omega⟩
   case round =>
    obtain ⟨t, ht, rfl, hww, HJ⟩ := hrel
    have hcell : ∀ a, wr.cell? a = W4.cell? a := fun a => by simp only [World.cell?, hww.out.1]
    have s2 := (hcell _).trans s2
    have s3 := (hcell _).trans s3
    have s4 := (hcell _).trans s4
    have v0 := (hcell _).trans v0
    have v1 := (hcell _).trans v1
    have v2 := (hcell _).trans v2
    have x4 := (hcell _).trans x4
    have HWR : Hid (Up Nul W4 wr) := hww.out.2
    have HNW : Hid (∀ m, Hid ((wr.drewN m).heap = W4.heap ∧ Up Nul W4 (wr.drewN m))) := fun m => ⟨hww.out.1, hww.out.2.drewN m⟩
    clear hww hcell
    obtain rfl | rfl | rfl | rfl : t = 0 ∨ t = 1 ∨ t = 2 ∨ t = 3 := by omega
    ·-- part 0
     by_cases hx : s.k0 = noK
     ·have ex : s.k0.toList.isEmpty = true := by rw [hx]; exact nok_e
      by_cases hzx : z0 = 0
      ·have ez : (z0 == 0) = true := by simp [hzx]
       have HOK : Hid (badP s zs 0 = false) := by show (decide (s.k0 = noK) != decide (zs.getD 0 0 = 0)) = false; rw [HZZ.out]; show (decide (s.k0 = noK) != decide (z0 = 0)) = _; rw [decide_eq_true hx, decide_eq_true hzx]; rfl
       clear hx hzx
       go_wp2_with fail
       go_quiet (fail)
       go_wp2_with fail
       go_roundw
       case rel => exact ⟨1, by omega, by go_num, HNW.out _, fun j hj => by
        by_cases e : j = 0
        ·rw [e]; exact HOK.out
        ·exact HJ.out j (by omega)⟩
       case measure => simp [intOf]
      ·have ez : (z0 == 0) = false := by simp [hzx]
       have HE : Hid (R = M) := by
        show R = _
        rw [← HR.out, split_bad ZS.out HSZ.out HK3.out (t := 0) (by omega) (by show (decide (s.k0 = noK) != decide (zs.getD 0 0 = 0)) = true; rw [HZZ.out]; show (decide (s.k0 = noK) != decide (z0 = 0)) = _; rw [decide_eq_true hx, decide_eq_false hzx]; rfl)]; rfl
       clear hx hzx
       go_wp2_with fail
       go_quiet (fail)
       go_wp2_with fail
       go_ret
       rw [HE.out]
       exact ⟨_, rfl, (RMx.wide ⟨_, _, _, _, _, _, _, HM4.out.nxt (HWR.out.drewN _)⟩ fun k hk => .inl hk).mono (by omega), (HU4.out.trans (HWR.out.drewN _)).nul⟩
     ·have ex : s.k0.toList.isEmpty = false := str_ne hx
      by_cases hzx : z0 = 0
      ·have ez : (z0 == 0) = true := by simp [hzx]
       have HE : Hid (R = M) := by
        show R = _
        rw [← HR.out, split_bad ZS.out HSZ.out HK3.out (t := 0) (by omega) (by show (decide (s.k0 = noK) != decide (zs.getD 0 0 = 0)) = true; rw [HZZ.out]; show (decide (s.k0 = noK) != decide (z0 = 0)) = _; rw [decide_eq_false hx, decide_eq_true hzx]; rfl)]; rfl
       clear hx hzx
       go_wp2_with fail
       go_quiet (fail)
       go_wp2_with fail
       go_ret
       rw [HE.out]
       exact ⟨_, rfl, (RMx.wide ⟨_, _, _, _, _, _, _, HM4.out.nxt (HWR.out.drewN _)⟩ fun k hk => .inl hk).mono (by omega), (HU4.out.trans (HWR.out.drewN _)).nul⟩
      ·have ez : (z0 == 0) = false := by simp [hzx]
       have HOK : Hid (badP s zs 0 = false) := by show (decide (s.k0 = noK) != decide (zs.getD 0 0 = 0)) = false; rw [HZZ.out]; show (decide (s.k0 = noK) != decide (z0 = 0)) = _; rw [decide_eq_false hx, decide_eq_false hzx]; rfl
       clear hx hzx
       go_wp2_with fail
       go_quiet (fail)
       go_wp2_with fail
       go_roundw
       case rel => exact ⟨1, by omega, by go_num, HNW.out _, fun j hj => by
        by_cases e : j = 0
        ·rw [e]; exact HOK.out
        ·exact HJ.out j (by omega)⟩
       case measure => simp [intOf]
    ·-- part 1
     by_cases hx : s.k1 = noK
     ·have ex : s.k1.toList.isEmpty = true := by rw [hx]; exact nok_e
      by_cases hzx : z1 = 0
      ·have ez : (z1 == 0) = true := by simp [hzx]
       have HOK : Hid (badP s zs 1 = false) := by show (decide (s.k1 = noK) != decide (zs.getD 1 0 = 0)) = false; rw [HZZ.out]; show (decide (s.k1 = noK) != decide (z1 = 0)) = _; rw [decide_eq_true hx, decide_eq_true hzx]; rfl
       clear hx hzx
       go_wp2_with fail
       go_quiet (fail)
       go_wp2_with fail
       go_roundw
       case rel => exact ⟨2, by omega, by go_num, HNW.out _, fun j hj => by
        by_cases e : j = 1
        ·rw [e]; exact HOK.out
        ·exact HJ.out j (by omega)⟩
       case measure => simp [intOf]
      ·have ez : (z1 == 0) = false := by simp [hzx]
       have HE : Hid (R = M) := by
        show R = _
        rw [← HR.out, split_bad ZS.out HSZ.out HK3.out (t := 1) (by omega) (by show (decide (s.k1 = noK) != decide (zs.getD 1 0 = 0)) = true; rw [HZZ.out]; show (decide (s.k1 = noK) != decide (z1 = 0)) = _; rw [decide_eq_true hx, decide_eq_false hzx]; rfl)]; rfl
       clear hx hzx
       go_wp2_with fail
       go_quiet (fail)
       go_wp2_with fail
       go_ret
       rw [HE.out]
       exact ⟨_, rfl, (RMx.wide ⟨_, _, _, _, _, _, _, HM4.out.nxt (HWR.out.drewN _)⟩ fun k hk => .inl hk).mono (by omega), (HU4.out.trans (HWR.out.drewN _)).nul⟩
     ·have ex : s.k1.toList.isEmpty = false := str_ne hx
      by_cases hzx : z1 = 0
      ·have ez : (z1 == 0) = true := by simp [hzx]
       have HE : Hid (R = M) := by
        show R = _
        rw [← HR.out, split_bad ZS.out HSZ.out HK3.out (t := 1) (by omega) (by show (decide (s.k1 = noK) != decide (zs.getD 1 0 = 0)) = true; rw [HZZ.out]; show (decide (s.k1 = noK) != decide (z1 = 0)) = _; rw [decide_eq_false hx, decide_eq_true hzx]; rfl)]; rfl
       clear hx hzx
       go_wp2_with fail
       go_quiet (fail)
       go_wp2_with fail
       go_ret
       rw [HE.out]
       exact ⟨_, rfl, (RMx.wide ⟨_, _, _, _, _, _, _, HM4.out.nxt (HWR.out.drewN _)⟩ fun k hk => .inl hk).mono (by omega), (HU4.out.trans (HWR.out.drewN _)).nul⟩
      ·have ez : (z1 == 0) = false := by simp [hzx]
       have HOK : Hid (badP s zs 1 = false) := by show (decide (s.k1 = noK) != decide (zs.getD 1 0 = 0)) = false; rw [HZZ.out]; show (decide (s.k1 = noK) != decide (z1 = 0)) = _; rw [decide_eq_false hx, decide_eq_false hzx]; rfl
       clear hx hzx
       go_wp2_with fail
       go_quiet (fail)
       go_wp2_with fail
       go_roundw
       case rel => exact ⟨2, by omega, by go_num, HNW.out _, fun j hj => by
        by_cases e : j = 1
        ·rw [e]; exact HOK.out
        ·exact HJ.out j (by omega)⟩
       case measure => simp [intOf]
    ·-- part 2
     by_cases hx : s.k2 = noK
     ·have ex : s.k2.toList.isEmpty = true := by rw [hx]; exact nok_e
      by_cases hzx : z2 = 0
      ·have ez : (z2 == 0) = true := by simp [hzx]
       have HOK : Hid (badP s zs 2 = false) := by show (decide (s.k2 = noK) != decide (zs.getD 2 0 = 0)) = false; rw [HZZ.out]; show (decide (s.k2 = noK) != decide (z2 = 0)) = _; rw [decide_eq_true hx, decide_eq_true hzx]; rfl
       clear hx hzx
       go_wp2_with fail
       go_quiet (fail)
       go_wp2_with fail
       go_roundw
       case rel => exact ⟨3, by omega, by go_num, HNW.out _, fun j hj => by
        by_cases e : j = 2
        ·rw [e]; exact HOK.out
        ·exact HJ.out j (by omega)⟩
       case measure => simp [intOf]
      ·have ez : (z2 == 0) = false := by simp [hzx]
       have HE : Hid (R = M) := by
        show R = _
        rw [← HR.out, split_bad ZS.out HSZ.out HK3.out (t := 2) (by omega) (by show (decide (s.k2 = noK) != decide (zs.getD 2 0 = 0)) = true; rw [HZZ.out]; show (decide (s.k2 = noK) != decide (z2 = 0)) = _; rw [decide_eq_true hx, decide_eq_false hzx]; rfl)]; rfl
       clear hx hzx
       go_wp2_with fail
       go_quiet (fail)
       go_wp2_with fail
       go_ret
       rw [HE.out]
       exact ⟨_, rfl, (RMx.wide ⟨_, _, _, _, _, _, _, HM4.out.nxt (HWR.out.drewN _)⟩ fun k hk => .inl hk).mono (by omega), (HU4.out.trans (HWR.out.drewN _)).nul⟩
     ·have ex : s.k2.toList.isEmpty = false := str_ne hx
      by_cases hzx : z2 = 0
      ·have ez : (z2 == 0) = true := by simp [hzx]
       have HE : Hid (R = M) := by
        show R = _
        rw [← HR.out, split_bad ZS.out HSZ.out HK3.out (t := 2) (by omega) (by show (decide (s.k2 = noK) != decide (zs.getD 2 0 = 0)) = true; rw [HZZ.out]; show (decide (s.k2 = noK) != decide (z2 = 0)) = _; rw [decide_eq_false hx, decide_eq_true hzx]; rfl)]; rfl
       clear hx hzx
       go_wp2_with fail
       go_quiet (fail)
       go_wp2_with fail
       go_ret
       rw [HE.out]
       exact ⟨_, rfl, (RMx.wide ⟨_, _, _, _, _, _, _, HM4.out.nxt (HWR.out.drewN _)⟩ fun k hk => .inl hk).mono (by omega), (HU4.out.trans (HWR.out.drewN _)).nul⟩
      ·have ez : (z2 == 0) = false := by simp [hzx]
       have HOK : Hid (badP s zs 2 = false) := by show (decide (s.k2 = noK) != decide (zs.getD 2 0 = 0)) = false; rw [HZZ.out]; show (decide (s.k2 = noK) != decide (z2 = 0)) = _; rw [decide_eq_false hx, decide_eq_false hzx]; rfl
       clear hx hzx
       go_wp2_with fail
       go_quiet (fail)
       go_wp2_with fail
       go_roundw
       case rel => exact ⟨3, by omega, by go_num, HNW.out _, fun j hj => by
        by_cases e : j = 2
        ·rw [e]; exact HOK.out
        ·exact HJ.out j (by omega)⟩
       case measure => simp [intOf]
    ·have hM0 : M.split r = (0, (spl s zs { M with s := upd M.s r.sid none } r.locs 3).1) := split_ok ZS.out HSZ.out HK3.out HJ.out
     have hrl := HRI.out
     have hbad := HJ.out
     rw [HZZ.out] at hrl hbad
     obtain ⟨rl1, rl2⟩ := rise_lst hbad hrl
     have h16 : s.locs.length = 16 := by
      have := (HII.out.s _ _ HSZ.out).2.1.locs
      rw [HK3.out] at this
      exact this
     have hnz : r.locs.length = 2 * liv s 0 := by rw [HLL.out, HZZ.out, nz_liv hbad]
     have HN6 : Hid (nl ≤ 6) := by
      show nl ≤ 6
      have h3 : liv s 0 ≤ 3 := by
       show (if s.key 0 = noK then 0 else 1) + ((if s.key 1 = noK then 0 else 1) + (if s.key 2 = noK then 0 else 1)) ≤ 3
       split <;> split <;> split <;> omega
      rw [← NL.out, hnz]; omega
     have HIV : Hid (∀ t, t ≤ 3 → InvX (spl s zs { M with s := upd M.s r.sid none } r.locs t).1 (fun k => ∃ u, t ≤ u ∧ u < 3 ∧ s.key u = k ∧ k ≠ noK) (lst s zs M.last t) ∧ (spl s zs { M with s := upd M.s r.sid none } r.locs t).2.length = 2 * liv s t) := by
      show ∀ t, _
      refine inv_spl h16 ((inv_rm HII.out HSZ.out).less fun k => ⟨fun e => by
       rcases e with e | ⟨t, t1, t2, t3⟩
       ·exact e.elim
       ·exact ⟨t, Nat.zero_le _, t1, t2, t3⟩, fun ⟨t, _, t1, t2, t3⟩ => .inr ⟨t, t1, t2, t3⟩⟩) (fun t u ht hu hne hn => key_part HII.out HSZ.out ht hu hne hn) hnz (by rw [HZZ.out]; exact rl2) (fun t ht => ?_)
      have hzb := HZB.out
      rw [HZZ.out] at hzb ⊢
      rcases three ht with rfl | rfl | rfl
      ·exact (hzb z0 (by simp)).2
      ·exact (hzb z1 (by simp)).2
      ·exact (hzb z2 (by simp)).2
     have HRL : Hid (∀ t, t < 3 → s.key t ≠ noK → lst s zs M.last t < zs.getD t 0) := by show ∀ t, _; rw [HZZ.out]; exact rl2
     obtain ⟨M0, MM0⟩ : ∃ M0, M0 = ({ M with s := upd M.s r.sid none } : MM) := ⟨_, rfl⟩
     have HRE : Hid (R = splM s zs M0 r.locs M.last 3) := by
      show R = _
      rw [← HR.out, hM0, if_pos rfl, MM0]
      unfold splM
      rw [HZZ.out] at *
      rw [← rl1]
     rw [← MM0] at HIV
     have H16 : Hid (s.locs.length = 16) := h16
     have HNZ := hid hnz
     have HBP : Hid (∀ j, j < 3 → badP s zs j = false) := HJ.out
     have HMW := hid (HM4.out.nxt HWR.out)
     have HFW : Hid (∀ k, F k → k < wr.heap.size) := fun k hk => Nat.lt_of_lt_of_le (HF.out k hk) (Nat.le_trans HU4.out.size HWR.out.size)
     have hcl := rlift_any HMW.out HFW.out (by have := HNN.out; omega) r.sid (by rw [HSZ.out]; rfl)
     have HCL := hid hcl
     have x3 := (HRB4.out.nxt HWR.out).cells.2.2.2.1
     have HL0 : Hid (SpL w wr w.heap.size pv r s (some ⟨gz, oz, none⟩) la qa sc nl lc sl qc gz oz z0 z1 z2) :=
      ⟨HRB4.out.nxt HWR.out, HWR.out.keep HB4.out id, lo_up HVL.out (HU4.out.trans HWR.out) fun _ _ => id, by
       have := (HM1.out.rr.lo r.sid s HSZ.out).1
       rw [HQV.out] at this
       exact lo_up this (HU14.out.trans HWR.out) fun _ _ => id, Nat.lt_of_lt_of_le HGZ.out.1 (Nat.le_trans HU4.out.size HWR.out.size), v0, v1, v2⟩
     clear hM0 hrl hbad rl1 rl2 h16 hnz hcl s2 s3 s4 v0 v1 v2 x4 ht
     go_wp2_with fail
     refine HCL.out.mono ?_
     rintro e w5 ⟨rfl, ⟨is5, iv5, sv5, h5⟩, u5⟩
     have HUW : Hid (Up Nul w wr) := HU4.out.trans HWR.out
     have HM5 : Hid (RMx (Gr F w w5) w5 q n (splM s zs M0 r.locs M.last 0)) := by
      have : splM s zs M0 r.locs M.last 0 = { M with s := upd M.s r.sid none } := by rw [MM0]; rfl
      rw [this]
      exact ⟨_, _, _, _, _, _, _, h5.wide (gr_low HUW.out.size)⟩
     have HU5 : Hid (Up F w w5) := HUW.out.nul.trans (u5.mono fun j _ e => by rw [e]; exact HM0.out.fq)
     have HL5 := hid (HL0.out.keep u5 (fun k e => .inl (by have e : k = q := e; subst e; exact ⟨_, HMW.out.hp⟩)) (fun e => HGZ.out.2 (by rw [e]; exact HM0.out.fq)))
     clear h5 u5 x3
     go_wp2_with fail
     go_loopw [9, 8] (fun i y wr => ∃ t a : Nat, t ≤ 3 ∧ i = .int .i64 (t : Nat) ∧ y = .int .i64 (a : Nat) ∧ RMx (Gr F w wr) wr q (n + 2 * t) (splM s zs M0 r.locs M.last t) ∧ Hid ((spl s zs M0 r.locs t).2 = r.locs.drop a ∧ a + 2 * liv s t = nl) ∧ Up F w wr ∧ SpL w wr w.heap.size pv r s (some ⟨gz, oz, none⟩) la qa sc nl lc sl qc gz oz z0 z1 z2) (fun i _ _ => 3 - (intOf i).toNat)
     case atStart => exact ⟨0, 0, by omega, rfl, rfl, HM5.out, ⟨rfl, by rw [← NL.out, HNZ.out, Nat.zero_add]⟩, HU5.out, HL5.out⟩
     case round =>
      obtain ⟨t, a, ht, rfl, rfl, ⟨Q', ks', is', kv', bv', iv', sv', hm⟩, ha, hu, hl⟩ := hrel
      by_cases hlt : t < 3
      ·obtain rfl | rfl | rfl : t = 0 ∨ t = 1 ∨ t = 2 := by omega
       ·-- part 0
        have HM := hid hm
        have HAA := hid ha
        have HUU := hid hu
        have HLL := hid hl
        have hrbc := hl.rb.cells
        obtain ⟨_, _, _, _, x4, _, x6, _⟩ := hrbc
        obtain ⟨_, _, s2, s3, s4, s5⟩ := cell6 hl.pb
        have v0 := hl.c0
        have v1 := hl.c1
        have v2 := hl.c2
        have hzk : zs.getD 0 0 = z0 := by rw [HZZ.out]; rfl
        have hbp := HBP.out 0 (by omega)
        have i3 : (3 : Int) ≤ (sc : Int) := by have := HSC.out.1; omega
        by_cases hx : s.k0 = noK
        ·have hz0 : z0 = 0 := by
          have h1 : (decide (s.k0 = noK) != decide (zs.getD 0 0 = 0)) = false := hbp
          rw [hzk, decide_eq_true hx] at h1
          simpa using h1
         have ez : (z0 == 0) = true := by simp [hz0]
         have HNX : Hid (splM s zs M0 r.locs M.last 1 = splM s zs M0 r.locs M.last 0 ∧ (spl s zs M0 r.locs 1).2 = r.locs.drop a ∧ a + 2 * liv s 1 = nl) := by
          refine ⟨splM_dead (t := 0) hx, ?_, ?_⟩
          ·rw [spl_dead (t := 0) hx]; exact HAA.out.1
          ·rw [← liv_dead (t := 0) (by omega) hx]; exact HAA.out.2
         clear hm ha hu hl hx hz0 hzk hbp s2 s3 s4 s5
         go_wp2_with fail
         go_roundw
         case rel => exact ⟨1, a, by omega, by go_num, rfl, by rw [HNX.out.1]; exact RMx.mono ⟨_, _, _, _, _, _, _, HM.out⟩ (by omega), HNX.out.2, HUU.out, HLL.out⟩
         case measure => simp [intOf]
        ·have hz0 : ¬ z0 = 0 := by
          have h1 : (decide (s.k0 = noK) != decide (zs.getD 0 0 = 0)) = false := hbp
          rw [hzk, decide_eq_false hx] at h1
          simpa using h1
         have ez : (z0 == 0) = false := by simp [hz0]
         have HX : Hid (s.key 0 ≠ noK) := hx
         have HZ0 : Hid (z0 ≠ 0 ∧ 0 ≤ z0 ∧ z0 ≤ 2147483647) := by
          have := HZB.out z0 (by rw [HZZ.out]; simp)
          exact ⟨hz0, this⟩
         have HZK := hid hzk
         have hlv : liv s 0 = 1 + liv s 1 := liv_live (t := 0) (by omega) hx
         have ha2 : a + 2 ≤ nl := by have := HAA.out.2; omega
         have hnl9 := HN6.out
         obtain ⟨rb1, hs1, r1, n1⟩ := cut_mid (t := 24) (show wr.ownsRow 0 64 3 (.slice qa sl qc) sl (loV s.locs) from by have := hl.o2; unfold OwnLo at this; rw [SL.out] at this; exact this) (loV_one _) (by kernel_rfl) (fun W => by kernel_rfl) 0 4 (by have := H16.out; have := SL.out; omega)
         obtain ⟨rb2, hs2, r2, n2⟩ := cut_mid (t := 24) (show wr.ownsRow 0 64 3 (.slice la nl lc) nl (loV r.locs) from by have := hl.o1; unfold OwnLo at this; rw [NL.out] at this; exact this) (loV_one _) (by kernel_rfl) (fun W => by kernel_rfl) a 2 ha2
         rw [loV_sub] at r1 r2
         have R1 := hid r1
         have R2 := hid r2
         have NR1 := hid n1
         have NR2 := hid n2
         obtain ⟨a2, A2⟩ : ∃ x, Hid (a + 2 = x) := ⟨_, rfl⟩
         rw [A2.out] at hs2
         have e1 : IntKind.i64.wrap ((a : Int) + 2) = (a2 : Int) := by rw [← A2.out]; exact IntWalk.i64_in _ (by omega)
         have hs1 : ∀ W : World, (Instr.slice 24 (.slice qa sl qc) (some (.int .i64 0)) (some (.int .i64 4)) none).run Tryz.prog W = .ok (.slice rb1 4 (qc - 0)) W := hs1
         obtain ⟨C1, CC1⟩ : ∃ x, Hid (qc - 0 = x) := ⟨_, rfl⟩
         obtain ⟨C2, CC2⟩ : ∃ x, Hid (lc - a = x) := ⟨_, rfl⟩
         rw [CC1.out] at hs1 NR1
         rw [CC2.out] at hs2 NR2
         have ew0 : IntKind.i64.wrap (0 : Int) = 0 := by decide
         have ew4 : IntKind.i64.wrap (4 : Int) = 4 := by decide
         have HV : Hid (Up Nul wr wr.drew) := (Up.refl Nul wr).drew
         have hpvl := lt_of_cell s5
         have hprl := lt_of_cell x6
         have HQ : Hid (∀ V, Up Nul wr V → V.cell? ⟨pv, 5, none⟩ = some (.slice qa sl qc) ∧ V.cell? ⟨w.heap.size, 6, none⟩ = some (.slice la nl lc)) := fun V u => ⟨(u.cell (p := ⟨pv, 5, none⟩) hpvl id).trans s5, (u.cell (p := ⟨w.heap.size, 6, none⟩) hprl id).trans x6⟩
         clear hm ha hu hl hx hz0 hzk hbp r1 r2 n1 n2 ha2 hlv
         go_upto_region 17 with fail
         clear s2 s3 s4 s5 x4 x6 hpvl hprl v0 v1 v2
         refine wp_region_held_drew (S := (fun V => V.cell? ⟨pv, 5, none⟩ = some (.slice qa sl qc) ∧ V.cell? ⟨w.heap.size, 6, none⟩ = some (.slice la nl lc))) (by kernel_rfl) (by exact HQ.out _ HV.out) (fun hHeld => ?_)
         refine tkv 1 (some 56) rfl ?_
         refine tkv 2 (some 57) rfl ?_
         refine tkv 3 (some 58) rfl ?_
         refine tkv 4 (some 59) rfl ?_
         refine tkv 5 (some 60) rfl ?_
         refine tkv 6 (some 61) rfl ?_
         refine tkv 7 (some 62) rfl ?_
         refine tkv 8 (some 63) rfl ?_
         refine tkv 10 (some 65) rfl ?_
         refine tkv 11 (some 66) rfl ?_
         refine tkv 12 (some 67) rfl ?_
         refine tkv 13 (some 68) rfl ?_
         refine tkv 14 (some 69) rfl ?_
         refine tkv 15 (some 70) rfl ?_
         refine one 0 (some 55) rfl (fun K hK => ?_)
         go_simp
         have HA0 := hid (ApS.start (T := 64) (s := 3) HV.out)
         refine hK.out _ _ (HQ.out _ HA0.out.up) (fun hHeld => ?_)
         clear hK K
         try simp only [tdy]
         refine one 9 (some 64) rfl (fun K hK => ?_)
         obtain ⟨aa1, cc1, ww1, hr1, HA1⟩ := HA0.out.app Tryz.underlying24 inf_loc (by omega) (by omega) R1.out NR1.out (by omega) 24; (try rw [Nat.zero_add] at hr1 HA1); (try simp only [Nat.reduceAdd] at hr1 HA1); refine wp_append_eqv (.tmp 55) (.tmp 63) 24 (by rfl) _ _ _ (by rfl) (by rfl) hr1 ?_; have HA1 := hid HA1; clear hr1
         refine hK.out _ _ (HQ.out _ HA1.out.up) (fun hHeld => ?_)
         clear hK K
         try simp only [tdy]
         refine one 16 (some 71) rfl (fun K hK => ?_)
         obtain ⟨aa2, cc2, ww2, hr2, HA2⟩ := HA1.out.app Tryz.underlying24 inf_loc (by omega) (by omega) R2.out NR2.out (by omega) 24; (try rw [Nat.zero_add] at hr2 HA2); (try simp only [Nat.reduceAdd] at hr2 HA2); refine wp_append_eqv (.tmp 64) (.tmp 70) 24 (by rfl) _ _ _ (by rfl) (by rfl) hr2 ?_; have HA2 := hid HA2; clear hr2
         refine hK.out _ _ (HQ.out _ HA2.out.up) (fun hHeld => ?_)
         clear hK K
         try simp only [tdy]
         refine tkv 17 (some 10) rfl ?_
         refine wpAnyH_done (by kernel_rfl) ?_ _
         obtain ⟨DL, hDL⟩ : ∃ DL, DL = (s.locs.drop (4 * 0)).take 4 ++ (spl s zs M0 r.locs 0).2.take 2 := ⟨_, rfl⟩
         have hlen : DL.length = 6 := by
          have h1 := H16.out
          have h2 := HAA.out.1
          have h3 := HAA.out.2
          have h4 : liv s 0 = 1 + liv s 1 := liv_live (t := 0) (by omega) HX.out
          have h5 := NL.out
          rw [hDL, h2, List.length_append, List.length_take, List.length_drop, List.length_take, List.length_drop]
          omega
         have ho : OwnLo 0 ww2 (.slice aa2 6 cc2) DL := by
          unfold OwnLo
          rw [hlen, hDL, HAA.out.1, loV_app]
          have := HA2.out.own
          rw [List.nil_append] at this
          exact ownsRow.lower this (Nat.zero_le _)
         have HOF : Hid (∀ g, (Value.slice aa2 6 cc2).ownBlock = some g → Gr F w ww2 g) := fun g e => by
          have h1 := ownsRow.lt HA2.out.own g e
          exact .inr ⟨Nat.le_trans HUU.out.size h1.1, h1.2⟩
         have HU2 : Hid (Up Nul wr ww2.drew) := HA2.out.up.drew
         have HL2 := hid (HLL.out.nxt HU2.out)
         have HM2 : Hid (RM (Gr F w ww2) ww2.drew q (n + 2 * 0) Q' (splM s zs M0 r.locs M.last 0) ks' is' kv' bv' iv' sv') := (HM.out.nxt HU2.out).wide (gr_mono HA2.out.up.size)
         have hF2 : ∀ j, Gr F w ww2 j → j < ww2.drew.heap.size := gr_lt HF.out (Nat.le_trans HUU.out.size HA2.out.up.size)
         have hivk := HIV.out 0 (by omega)
         have hrlk := HRL.out 0 (by omega) HX.out
         rw [HZK.out] at hrlk
         have his : ∀ i ∈ is', i < z0 := fun i hi => by
          have := (HM2.out.rr.ri.mem i).1 hi
          obtain ⟨y, hy⟩ := Option.isSome_iff_exists.1 this
          have := (hivk.1.s i y hy).1.2
          omega
         have hcl := rlay_any HM2.out hF2 (by have := HNN.out; omega) z0 ⟨2, 0, s.k0, noK, noK, DL⟩ (.slice aa2 6 cc2) his HZ0.out.2 ho HOF.out
         have HCL := hid hcl
         have HDL := hid hDL
         obtain ⟨bx, hbx⟩ := hivk.1.e (s.key 0) ⟨0, Nat.le_refl _, by omega, rfl, HX.out⟩
         have HBX := hid hbx
         have HNK : Hid ((spl s zs M0 r.locs 0).1.b noK = none) := by
          show _ = _
          cases hc : (spl s zs M0 r.locs 0).1.b noK with
          | none => rfl
          | some y => exact absurd rfl (hivk.1.b noK y hc).1.1
         have hl2 : SpL w ww2 w.heap.size pv r s (some ⟨gz, oz, none⟩) la qa sc nl lc sl qc gz oz z0 z1 z2 := HLL.out.nxt HA2.out.up
         obtain ⟨_, _, _, _, x4, _⟩ := hl2.rb.cells
         obtain ⟨_, _, s2, s3, s4, _⟩ := cell6 hl2.pb
         have v0 := hl2.c0
         have v1 := hl2.c1
         have v2 := hl2.c2
         clear hlen ho hF2 hivk hrlk his hcl hDL hbx hl2 R1 R2 NR1 NR2 hs1 hs2
         go_upto_region 19 with fail
         go_still_tail 14, (by kernel_rfl)
         go_wp2_with fail
         refine HCL.out.mono ?_
         rintro e w6 ⟨rfl, ⟨is6, iv6, sv6, h6⟩, u6⟩
         have hM6 : RM (Gr F w w6) w6 q (n + 2 * 0 + 1) (upd Q' z0 (.slice aa2 6 cc2)) { splM s zs M0 r.locs M.last 0 with s := upd (splM s zs M0 r.locs M.last 0).s z0 (some ⟨2, 0, s.k0, noK, noK, DL⟩), last := z0 } ks' is6 kv' bv' iv6 sv6 := h6.wide (gr_tr (Nat.le_trans HUU.out.size HU2.out.size) u6.size)
         have HM6 := hid hM6
         have hbo : MM.bof { splM s zs M0 r.locs M.last 0 with s := upd (splM s zs M0 r.locs M.last 0).s z0 (some ⟨2, 0, s.k0, noK, noK, DL⟩), last := z0 } s.k0 = bx := bof_some HBX.out
         have hbl := rblob_any hM6 (by have := HNN.out; omega) s.k0
         rw [hbo] at hbl
         have hgq : ¬ gz = q := fun e => HGZ.out.2 (by rw [e]; exact HM0.out.fq)
         have HL6 := hid (HL2.out.keep u6 (fun k e => .inl (by have e : k = q := e; subst e; exact ⟨_, HM2.out.hp⟩)) hgq)
         have HU6 : Hid (Up F w w6) := gr_up HUU.out HU2.out (u6.mono fun j _ e => by rw [e]; exact HM.out.fq)
         obtain ⟨xn, xi, xp⟩ := bx
         have HBL := hid hbl
         obtain ⟨_, _, s2, s3, s4, _⟩ := cell6 HL6.out.pb
         clear hM6 h6 u6 hbo hbl hgq x4 v0 v1 v2
         go_wp2_with fail
         refine HBL.out.mono ?_
         rintro e w7 ⟨rfl, u7⟩
         have HU7 := hid u7
         clear u7 HBL
         go_upto_region 21 with fail
         obtain ⟨W8, hW8⟩ : ∃ W, W = w7.alloc (.cells #[.int .i64 xn, .int .i64 xi, .int .i64 xp] 51) := ⟨_, rfl⟩
         have u8 : Up Nul w7 W8 := by rw [hW8]; exact (Up.refl Nul w7).alloc _
         have b8 : W8.heap[w7.heap.size]? = some (.cells #[.int .i64 xn, .int .i64 xi, .int .i64 xp] 51 (0, 0)) := by rw [hW8]; exact heap_alloc_new _ _
         rw [← hW8]
         clear hW8 s2 s3 s4
         have HU8 : Hid (Up Nul w6 W8.drew) := (HU7.out.trans u8).drew
         have HL8 : Hid (SpL w W8 w.heap.size pv r s (some ⟨gz, oz, none⟩) la qa sc nl lc sl qc gz oz z0 z1 z2) := HL6.out.nxt (HU7.out.trans u8)
         have HM8 := hid (HM6.out.nxt HU8.out)
         have hF8 : ∀ j, Gr F w w6 j → j < W8.drew.heap.size := fun j hj => Nat.lt_of_lt_of_le (gr_lt HF.out HU6.out.size j hj) HU8.out.size
         have hset := rset_any HM8.out hF8 (by have := HNN.out; omega) s.k0 ⟨xn, z0, 0⟩
         have HSET := hid hset
         obtain ⟨y0, _, _⟩ := cell3 b8
         obtain ⟨_, _, _, _, x4, _⟩ := HL8.out.rb.cells
         obtain ⟨_, _, s2, s3, s4, _⟩ := cell6 HL8.out.pb
         have v0 := HL8.out.c0
         have v1 := HL8.out.c1
         have v2 := HL8.out.c2
         clear u8 b8 hF8 hset
         go_still_tail 13, (by kernel_rfl)
         go_wp2_with fail
         refine HSET.out.mono ?_
         rintro e w9 ⟨rfl, ⟨ks9, kv9, bv9, h9⟩, u9⟩
         have hu9 : Up (Gr F w w6) W8.drew w9 := u9.mono fun j _ e => by
          rcases e with e | e
          ·rw [e]; exact HM6.out.fq
          ·exact HM6.out.rr.fb j e
         have hlm : splM s zs M0 r.locs M.last 1 = { splM s zs M0 r.locs M.last 0 with b := upd (splM s zs M0 r.locs M.last 0).b s.k0 (some ⟨xn, z0, 0⟩), s := upd (splM s zs M0 r.locs M.last 0).s z0 (some ⟨2, 0, s.k0, noK, noK, DL⟩), last := z0 } := by
          rw [splM_live (t := 0) HX.out HBX.out HNK.out, HZK.out, HDL.out]
          rfl
         have HM9 : Hid (RMx (Gr F w w9) w9 q (n + 2 * 1) (splM s zs M0 r.locs M.last 1)) := by
          rw [hlm]
          exact ⟨_, _, _, _, _, _, _, (h9.wide (gr_tr (Nat.le_trans HU6.out.size HU8.out.size) (Nat.le_trans HU8.out.size u9.size))).mono (by omega)⟩
         have HU9 : Hid (Up F w w9) := gr_up HU6.out HU8.out hu9
         have HL9 : Hid (SpL w w9 w.heap.size pv r s (some ⟨gz, oz, none⟩) la qa sc nl lc sl qc gz oz z0 z1 z2) := by
          refine (HL6.out.nxt HU8.out).keep u9 (fun k e => ?_) (fun e => ?_)
          ·rcases e with e | e
           ·subst e; exact .inl ⟨_, HM8.out.hp⟩
           ·exact .inr (own_heap HM8.out.rr.bo e)
          ·rcases e with e | e
           ·exact HGZ.out.2 (by rw [e]; exact HM0.out.fq)
           ·exact not_gr (w := w) (w' := w6) HGZ.out.2 HGZ.out.1 (HM6.out.rr.fb gz e)
         have HAT : Hid ((spl s zs M0 r.locs 1).2 = r.locs.drop a2 ∧ a2 + 2 * liv s 1 = nl) := by
          have h1 := HAA.out.2
          have h4 : liv s 0 = 1 + liv s 1 := liv_live (t := 0) (by omega) HX.out
          refine ⟨?_, by have := A2.out; omega⟩
          rw [spl_live (t := 0) HX.out]
          show List.drop 2 (spl s zs M0 r.locs 0).2 = _
          rw [HAA.out.1, List.drop_drop, ← A2.out]
         clear h9 u9 hu9 hlm y0 x4 s2 s3 s4 v0 v1 v2
         go_wp2_with fail
         go_roundw
         case rel => exact ⟨1, a2, by omega, by go_num, rfl, HM9.out, HAT, HU9.out, HL9.out⟩
         case measure => simp [intOf]
       ·-- part 1
        have HM := hid hm
        have HAA := hid ha
        have HUU := hid hu
        have HLL := hid hl
        have hrbc := hl.rb.cells
        obtain ⟨_, _, _, _, x4, _, x6, _⟩ := hrbc
        obtain ⟨_, _, s2, s3, s4, s5⟩ := cell6 hl.pb
        have v0 := hl.c0
        have v1 := hl.c1
        have v2 := hl.c2
        have hzk : zs.getD 1 0 = z1 := by rw [HZZ.out]; rfl
        have hbp := HBP.out 1 (by omega)
        have i3 : (3 : Int) ≤ (sc : Int) := by have := HSC.out.1; omega
        by_cases hx : s.k1 = noK
        ·have hz0 : z1 = 0 := by
          have h1 : (decide (s.k1 = noK) != decide (zs.getD 1 0 = 0)) = false := hbp
          rw [hzk, decide_eq_true hx] at h1
          simpa using h1
         have ez : (z1 == 0) = true := by simp [hz0]
         have HNX : Hid (splM s zs M0 r.locs M.last 2 = splM s zs M0 r.locs M.last 1 ∧ (spl s zs M0 r.locs 2).2 = r.locs.drop a ∧ a + 2 * liv s 2 = nl) := by
          refine ⟨splM_dead (t := 1) hx, ?_, ?_⟩
          ·rw [spl_dead (t := 1) hx]; exact HAA.out.1
          ·rw [← liv_dead (t := 1) (by omega) hx]; exact HAA.out.2
         clear hm ha hu hl hx hz0 hzk hbp s2 s3 s4 s5
         go_wp2_with fail
         go_roundw
         case rel => exact ⟨2, a, by omega, by go_num, rfl, by rw [HNX.out.1]; exact RMx.mono ⟨_, _, _, _, _, _, _, HM.out⟩ (by omega), HNX.out.2, HUU.out, HLL.out⟩
         case measure => simp [intOf]
        ·have hz0 : ¬ z1 = 0 := by
          have h1 : (decide (s.k1 = noK) != decide (zs.getD 1 0 = 0)) = false := hbp
          rw [hzk, decide_eq_false hx] at h1
          simpa using h1
         have ez : (z1 == 0) = false := by simp [hz0]
         have HX : Hid (s.key 1 ≠ noK) := hx
         have HZ0 : Hid (z1 ≠ 0 ∧ 0 ≤ z1 ∧ z1 ≤ 2147483647) := by
          have := HZB.out z1 (by rw [HZZ.out]; simp)
          exact ⟨hz0, this⟩
         have HZK := hid hzk
         have hlv : liv s 1 = 1 + liv s 2 := liv_live (t := 1) (by omega) hx
         have ha2 : a + 2 ≤ nl := by have := HAA.out.2; omega
         have hnl9 := HN6.out
         obtain ⟨rb1, hs1, r1, n1⟩ := cut_mid (t := 24) (show wr.ownsRow 0 64 3 (.slice qa sl qc) sl (loV s.locs) from by have := hl.o2; unfold OwnLo at this; rw [SL.out] at this; exact this) (loV_one _) (by kernel_rfl) (fun W => by kernel_rfl) 4 4 (by have := H16.out; have := SL.out; omega)
         obtain ⟨rb2, hs2, r2, n2⟩ := cut_mid (t := 24) (show wr.ownsRow 0 64 3 (.slice la nl lc) nl (loV r.locs) from by have := hl.o1; unfold OwnLo at this; rw [NL.out] at this; exact this) (loV_one _) (by kernel_rfl) (fun W => by kernel_rfl) a 2 ha2
         rw [loV_sub] at r1 r2
         have R1 := hid r1
         have R2 := hid r2
         have NR1 := hid n1
         have NR2 := hid n2
         obtain ⟨a2, A2⟩ : ∃ x, Hid (a + 2 = x) := ⟨_, rfl⟩
         rw [A2.out] at hs2
         have e1 : IntKind.i64.wrap ((a : Int) + 2) = (a2 : Int) := by rw [← A2.out]; exact IntWalk.i64_in _ (by omega)
         have hs1 : ∀ W : World, (Instr.slice 24 (.slice qa sl qc) (some (.int .i64 4)) (some (.int .i64 8)) none).run Tryz.prog W = .ok (.slice rb1 4 (qc - 4)) W := hs1
         obtain ⟨C1, CC1⟩ : ∃ x, Hid (qc - 4 = x) := ⟨_, rfl⟩
         obtain ⟨C2, CC2⟩ : ∃ x, Hid (lc - a = x) := ⟨_, rfl⟩
         rw [CC1.out] at hs1 NR1
         rw [CC2.out] at hs2 NR2
         have ew0 : IntKind.i64.wrap (4 : Int) = 4 := by decide
         have ew4 : IntKind.i64.wrap (8 : Int) = 8 := by decide
         have HV : Hid (Up Nul wr wr.drew) := (Up.refl Nul wr).drew
         have hpvl := lt_of_cell s5
         have hprl := lt_of_cell x6
         have HQ : Hid (∀ V, Up Nul wr V → V.cell? ⟨pv, 5, none⟩ = some (.slice qa sl qc) ∧ V.cell? ⟨w.heap.size, 6, none⟩ = some (.slice la nl lc)) := fun V u => ⟨(u.cell (p := ⟨pv, 5, none⟩) hpvl id).trans s5, (u.cell (p := ⟨w.heap.size, 6, none⟩) hprl id).trans x6⟩
         clear hm ha hu hl hx hz0 hzk hbp r1 r2 n1 n2 ha2 hlv
         go_upto_region 17 with fail
         clear s2 s3 s4 s5 x4 x6 hpvl hprl v0 v1 v2
         refine wp_region_held_drew (S := (fun V => V.cell? ⟨pv, 5, none⟩ = some (.slice qa sl qc) ∧ V.cell? ⟨w.heap.size, 6, none⟩ = some (.slice la nl lc))) (by kernel_rfl) (by exact HQ.out _ HV.out) (fun hHeld => ?_)
         refine tkv 1 (some 56) rfl ?_
         refine tkv 2 (some 57) rfl ?_
         refine tkv 3 (some 58) rfl ?_
         refine tkv 4 (some 59) rfl ?_
         refine tkv 5 (some 60) rfl ?_
         refine tkv 6 (some 61) rfl ?_
         refine tkv 7 (some 62) rfl ?_
         refine tkv 8 (some 63) rfl ?_
         refine tkv 10 (some 65) rfl ?_
         refine tkv 11 (some 66) rfl ?_
         refine tkv 12 (some 67) rfl ?_
         refine tkv 13 (some 68) rfl ?_
         refine tkv 14 (some 69) rfl ?_
         refine tkv 15 (some 70) rfl ?_
         refine one 0 (some 55) rfl (fun K hK => ?_)
         go_simp
         have HA0 := hid (ApS.start (T := 64) (s := 3) HV.out)
         refine hK.out _ _ (HQ.out _ HA0.out.up) (fun hHeld => ?_)
         clear hK K
         try simp only [tdy]
         refine one 9 (some 64) rfl (fun K hK => ?_)
         obtain ⟨aa1, cc1, ww1, hr1, HA1⟩ := HA0.out.app Tryz.underlying24 inf_loc (by omega) (by omega) R1.out NR1.out (by omega) 24; (try rw [Nat.zero_add] at hr1 HA1); (try simp only [Nat.reduceAdd] at hr1 HA1); refine wp_append_eqv (.tmp 55) (.tmp 63) 24 (by rfl) _ _ _ (by rfl) (by rfl) hr1 ?_; have HA1 := hid HA1; clear hr1
         refine hK.out _ _ (HQ.out _ HA1.out.up) (fun hHeld => ?_)
         clear hK K
         try simp only [tdy]
         refine one 16 (some 71) rfl (fun K hK => ?_)
         obtain ⟨aa2, cc2, ww2, hr2, HA2⟩ := HA1.out.app Tryz.underlying24 inf_loc (by omega) (by omega) R2.out NR2.out (by omega) 24; (try rw [Nat.zero_add] at hr2 HA2); (try simp only [Nat.reduceAdd] at hr2 HA2); refine wp_append_eqv (.tmp 64) (.tmp 70) 24 (by rfl) _ _ _ (by rfl) (by rfl) hr2 ?_; have HA2 := hid HA2; clear hr2
         refine hK.out _ _ (HQ.out _ HA2.out.up) (fun hHeld => ?_)
         clear hK K
         try simp only [tdy]
         refine tkv 17 (some 10) rfl ?_
         refine wpAnyH_done (by kernel_rfl) ?_ _
         obtain ⟨DL, hDL⟩ : ∃ DL, DL = (s.locs.drop (4 * 1)).take 4 ++ (spl s zs M0 r.locs 1).2.take 2 := ⟨_, rfl⟩
         have hlen : DL.length = 6 := by
          have h1 := H16.out
          have h2 := HAA.out.1
          have h3 := HAA.out.2
          have h4 : liv s 1 = 1 + liv s 2 := liv_live (t := 1) (by omega) HX.out
          have h5 := NL.out
          rw [hDL, h2, List.length_append, List.length_take, List.length_drop, List.length_take, List.length_drop]
          omega
         have ho : OwnLo 0 ww2 (.slice aa2 6 cc2) DL := by
          unfold OwnLo
          rw [hlen, hDL, HAA.out.1, loV_app]
          have := HA2.out.own
          rw [List.nil_append] at this
          exact ownsRow.lower this (Nat.zero_le _)
         have HOF : Hid (∀ g, (Value.slice aa2 6 cc2).ownBlock = some g → Gr F w ww2 g) := fun g e => by
          have h1 := ownsRow.lt HA2.out.own g e
          exact .inr ⟨Nat.le_trans HUU.out.size h1.1, h1.2⟩
         have HU2 : Hid (Up Nul wr ww2.drew) := HA2.out.up.drew
         have HL2 := hid (HLL.out.nxt HU2.out)
         have HM2 : Hid (RM (Gr F w ww2) ww2.drew q (n + 2 * 1) Q' (splM s zs M0 r.locs M.last 1) ks' is' kv' bv' iv' sv') := (HM.out.nxt HU2.out).wide (gr_mono HA2.out.up.size)
         have hF2 : ∀ j, Gr F w ww2 j → j < ww2.drew.heap.size := gr_lt HF.out (Nat.le_trans HUU.out.size HA2.out.up.size)
         have hivk := HIV.out 1 (by omega)
         have hrlk := HRL.out 1 (by omega) HX.out
         rw [HZK.out] at hrlk
         have his : ∀ i ∈ is', i < z1 := fun i hi => by
          have := (HM2.out.rr.ri.mem i).1 hi
          obtain ⟨y, hy⟩ := Option.isSome_iff_exists.1 this
          have := (hivk.1.s i y hy).1.2
          omega
         have hcl := rlay_any HM2.out hF2 (by have := HNN.out; omega) z1 ⟨2, 1, s.k1, noK, noK, DL⟩ (.slice aa2 6 cc2) his HZ0.out.2 ho HOF.out
         have HCL := hid hcl
         have HDL := hid hDL
         obtain ⟨bx, hbx⟩ := hivk.1.e (s.key 1) ⟨1, Nat.le_refl _, by omega, rfl, HX.out⟩
         have HBX := hid hbx
         have HNK : Hid ((spl s zs M0 r.locs 1).1.b noK = none) := by
          show _ = _
          cases hc : (spl s zs M0 r.locs 1).1.b noK with
          | none => rfl
          | some y => exact absurd rfl (hivk.1.b noK y hc).1.1
         have hl2 : SpL w ww2 w.heap.size pv r s (some ⟨gz, oz, none⟩) la qa sc nl lc sl qc gz oz z0 z1 z2 := HLL.out.nxt HA2.out.up
         obtain ⟨_, _, _, _, x4, _⟩ := hl2.rb.cells
         obtain ⟨_, _, s2, s3, s4, _⟩ := cell6 hl2.pb
         have v0 := hl2.c0
         have v1 := hl2.c1
         have v2 := hl2.c2
         clear hlen ho hF2 hivk hrlk his hcl hDL hbx hl2 R1 R2 NR1 NR2 hs1 hs2
         go_upto_region 19 with fail
         go_still_tail 14, (by kernel_rfl)
         go_wp2_with fail
         refine HCL.out.mono ?_
         rintro e w6 ⟨rfl, ⟨is6, iv6, sv6, h6⟩, u6⟩
         have hM6 : RM (Gr F w w6) w6 q (n + 2 * 1 + 1) (upd Q' z1 (.slice aa2 6 cc2)) { splM s zs M0 r.locs M.last 1 with s := upd (splM s zs M0 r.locs M.last 1).s z1 (some ⟨2, 1, s.k1, noK, noK, DL⟩), last := z1 } ks' is6 kv' bv' iv6 sv6 := h6.wide (gr_tr (Nat.le_trans HUU.out.size HU2.out.size) u6.size)
         have HM6 := hid hM6
         have hbo : MM.bof { splM s zs M0 r.locs M.last 1 with s := upd (splM s zs M0 r.locs M.last 1).s z1 (some ⟨2, 1, s.k1, noK, noK, DL⟩), last := z1 } s.k1 = bx := bof_some HBX.out
         have hbl := rblob_any hM6 (by have := HNN.out; omega) s.k1
         rw [hbo] at hbl
         have hgq : ¬ gz = q := fun e => HGZ.out.2 (by rw [e]; exact HM0.out.fq)
         have HL6 := hid (HL2.out.keep u6 (fun k e => .inl (by have e : k = q := e; subst e; exact ⟨_, HM2.out.hp⟩)) hgq)
         have HU6 : Hid (Up F w w6) := gr_up HUU.out HU2.out (u6.mono fun j _ e => by rw [e]; exact HM.out.fq)
         obtain ⟨xn, xi, xp⟩ := bx
         have HBL := hid hbl
         obtain ⟨_, _, s2, s3, s4, _⟩ := cell6 HL6.out.pb
         clear hM6 h6 u6 hbo hbl hgq x4 v0 v1 v2
         go_wp2_with fail
         refine HBL.out.mono ?_
         rintro e w7 ⟨rfl, u7⟩
         have HU7 := hid u7
         clear u7 HBL
         go_upto_region 21 with fail
         obtain ⟨W8, hW8⟩ : ∃ W, W = w7.alloc (.cells #[.int .i64 xn, .int .i64 xi, .int .i64 xp] 51) := ⟨_, rfl⟩
         have u8 : Up Nul w7 W8 := by rw [hW8]; exact (Up.refl Nul w7).alloc _
         have b8 : W8.heap[w7.heap.size]? = some (.cells #[.int .i64 xn, .int .i64 xi, .int .i64 xp] 51 (0, 0)) := by rw [hW8]; exact heap_alloc_new _ _
         rw [← hW8]
         clear hW8 s2 s3 s4
         have HU8 : Hid (Up Nul w6 W8.drew) := (HU7.out.trans u8).drew
         have HL8 : Hid (SpL w W8 w.heap.size pv r s (some ⟨gz, oz, none⟩) la qa sc nl lc sl qc gz oz z0 z1 z2) := HL6.out.nxt (HU7.out.trans u8)
         have HM8 := hid (HM6.out.nxt HU8.out)
         have hF8 : ∀ j, Gr F w w6 j → j < W8.drew.heap.size := fun j hj => Nat.lt_of_lt_of_le (gr_lt HF.out HU6.out.size j hj) HU8.out.size
         have hset := rset_any HM8.out hF8 (by have := HNN.out; omega) s.k1 ⟨xn, z1, 0⟩
         have HSET := hid hset
         obtain ⟨y0, _, _⟩ := cell3 b8
         obtain ⟨_, _, _, _, x4, _⟩ := HL8.out.rb.cells
         obtain ⟨_, _, s2, s3, s4, _⟩ := cell6 HL8.out.pb
         have v0 := HL8.out.c0
         have v1 := HL8.out.c1
         have v2 := HL8.out.c2
         clear u8 b8 hF8 hset
         go_still_tail 13, (by kernel_rfl)
         go_wp2_with fail
         refine HSET.out.mono ?_
         rintro e w9 ⟨rfl, ⟨ks9, kv9, bv9, h9⟩, u9⟩
         have hu9 : Up (Gr F w w6) W8.drew w9 := u9.mono fun j _ e => by
          rcases e with e | e
          ·rw [e]; exact HM6.out.fq
          ·exact HM6.out.rr.fb j e
         have hlm : splM s zs M0 r.locs M.last 2 = { splM s zs M0 r.locs M.last 1 with b := upd (splM s zs M0 r.locs M.last 1).b s.k1 (some ⟨xn, z1, 0⟩), s := upd (splM s zs M0 r.locs M.last 1).s z1 (some ⟨2, 1, s.k1, noK, noK, DL⟩), last := z1 } := by
          rw [splM_live (t := 1) HX.out HBX.out HNK.out, HZK.out, HDL.out]
          rfl
         have HM9 : Hid (RMx (Gr F w w9) w9 q (n + 2 * 2) (splM s zs M0 r.locs M.last 2)) := by
          rw [hlm]
          exact ⟨_, _, _, _, _, _, _, (h9.wide (gr_tr (Nat.le_trans HU6.out.size HU8.out.size) (Nat.le_trans HU8.out.size u9.size))).mono (by omega)⟩
         have HU9 : Hid (Up F w w9) := gr_up HU6.out HU8.out hu9
         have HL9 : Hid (SpL w w9 w.heap.size pv r s (some ⟨gz, oz, none⟩) la qa sc nl lc sl qc gz oz z0 z1 z2) := by
          refine (HL6.out.nxt HU8.out).keep u9 (fun k e => ?_) (fun e => ?_)
          ·rcases e with e | e
           ·subst e; exact .inl ⟨_, HM8.out.hp⟩
           ·exact .inr (own_heap HM8.out.rr.bo e)
          ·rcases e with e | e
           ·exact HGZ.out.2 (by rw [e]; exact HM0.out.fq)
           ·exact not_gr (w := w) (w' := w6) HGZ.out.2 HGZ.out.1 (HM6.out.rr.fb gz e)
         have HAT : Hid ((spl s zs M0 r.locs 2).2 = r.locs.drop a2 ∧ a2 + 2 * liv s 2 = nl) := by
          have h1 := HAA.out.2
          have h4 : liv s 1 = 1 + liv s 2 := liv_live (t := 1) (by omega) HX.out
          refine ⟨?_, by have := A2.out; omega⟩
          rw [spl_live (t := 1) HX.out]
          show List.drop 2 (spl s zs M0 r.locs 1).2 = _
          rw [HAA.out.1, List.drop_drop, ← A2.out]
         clear h9 u9 hu9 hlm y0 x4 s2 s3 s4 v0 v1 v2
         go_wp2_with fail
         go_roundw
         case rel => exact ⟨2, a2, by omega, by go_num, rfl, HM9.out, HAT, HU9.out, HL9.out⟩
         case measure => simp [intOf]
       ·-- part 2
        have HM := hid hm
        have HAA := hid ha
        have HUU := hid hu
        have HLL := hid hl
        have hrbc := hl.rb.cells
        obtain ⟨_, _, _, _, x4, _, x6, _⟩ := hrbc
        obtain ⟨_, _, s2, s3, s4, s5⟩ := cell6 hl.pb
        have v0 := hl.c0
        have v1 := hl.c1
        have v2 := hl.c2
        have hzk : zs.getD 2 0 = z2 := by rw [HZZ.out]; rfl
        have hbp := HBP.out 2 (by omega)
        have i3 : (3 : Int) ≤ (sc : Int) := by have := HSC.out.1; omega
        by_cases hx : s.k2 = noK
        ·have hz0 : z2 = 0 := by
          have h1 : (decide (s.k2 = noK) != decide (zs.getD 2 0 = 0)) = false := hbp
          rw [hzk, decide_eq_true hx] at h1
          simpa using h1
         have ez : (z2 == 0) = true := by simp [hz0]
         have HNX : Hid (splM s zs M0 r.locs M.last 3 = splM s zs M0 r.locs M.last 2 ∧ (spl s zs M0 r.locs 3).2 = r.locs.drop a ∧ a + 2 * liv s 3 = nl) := by
          refine ⟨splM_dead (t := 2) hx, ?_, ?_⟩
          ·rw [spl_dead (t := 2) hx]; exact HAA.out.1
          ·rw [← liv_dead (t := 2) (by omega) hx]; exact HAA.out.2
         clear hm ha hu hl hx hz0 hzk hbp s2 s3 s4 s5
         go_wp2_with fail
         go_roundw
         case rel => exact ⟨3, a, by omega, by go_num, rfl, by rw [HNX.out.1]; exact RMx.mono ⟨_, _, _, _, _, _, _, HM.out⟩ (by omega), HNX.out.2, HUU.out, HLL.out⟩
         case measure => simp [intOf]
        ·have hz0 : ¬ z2 = 0 := by
          have h1 : (decide (s.k2 = noK) != decide (zs.getD 2 0 = 0)) = false := hbp
          rw [hzk, decide_eq_false hx] at h1
          simpa using h1
         have ez : (z2 == 0) = false := by simp [hz0]
         have HX : Hid (s.key 2 ≠ noK) := hx
         have HZ0 : Hid (z2 ≠ 0 ∧ 0 ≤ z2 ∧ z2 ≤ 2147483647) := by
          have := HZB.out z2 (by rw [HZZ.out]; simp)
          exact ⟨hz0, this⟩
         have HZK := hid hzk
         have hlv : liv s 2 = 1 + liv s 3 := liv_live (t := 2) (by omega) hx
         have ha2 : a + 2 ≤ nl := by have := HAA.out.2; omega
         have hnl9 := HN6.out
         obtain ⟨rb1, hs1, r1, n1⟩ := cut_mid (t := 24) (show wr.ownsRow 0 64 3 (.slice qa sl qc) sl (loV s.locs) from by have := hl.o2; unfold OwnLo at this; rw [SL.out] at this; exact this) (loV_one _) (by kernel_rfl) (fun W => by kernel_rfl) 8 4 (by have := H16.out; have := SL.out; omega)
         obtain ⟨rb2, hs2, r2, n2⟩ := cut_mid (t := 24) (show wr.ownsRow 0 64 3 (.slice la nl lc) nl (loV r.locs) from by have := hl.o1; unfold OwnLo at this; rw [NL.out] at this; exact this) (loV_one _) (by kernel_rfl) (fun W => by kernel_rfl) a 2 ha2
         rw [loV_sub] at r1 r2
         have R1 := hid r1
         have R2 := hid r2
         have NR1 := hid n1
         have NR2 := hid n2
         obtain ⟨a2, A2⟩ : ∃ x, Hid (a + 2 = x) := ⟨_, rfl⟩
         rw [A2.out] at hs2
         have e1 : IntKind.i64.wrap ((a : Int) + 2) = (a2 : Int) := by rw [← A2.out]; exact IntWalk.i64_in _ (by omega)
         have hs1 : ∀ W : World, (Instr.slice 24 (.slice qa sl qc) (some (.int .i64 8)) (some (.int .i64 12)) none).run Tryz.prog W = .ok (.slice rb1 4 (qc - 8)) W := hs1
         obtain ⟨C1, CC1⟩ : ∃ x, Hid (qc - 8 = x) := ⟨_, rfl⟩
         obtain ⟨C2, CC2⟩ : ∃ x, Hid (lc - a = x) := ⟨_, rfl⟩
         rw [CC1.out] at hs1 NR1
         rw [CC2.out] at hs2 NR2
         have ew0 : IntKind.i64.wrap (8 : Int) = 8 := by decide
         have ew4 : IntKind.i64.wrap (12 : Int) = 12 := by decide
         have HV : Hid (Up Nul wr wr.drew) := (Up.refl Nul wr).drew
         have hpvl := lt_of_cell s5
         have hprl := lt_of_cell x6
         have HQ : Hid (∀ V, Up Nul wr V → V.cell? ⟨pv, 5, none⟩ = some (.slice qa sl qc) ∧ V.cell? ⟨w.heap.size, 6, none⟩ = some (.slice la nl lc)) := fun V u => ⟨(u.cell (p := ⟨pv, 5, none⟩) hpvl id).trans s5, (u.cell (p := ⟨w.heap.size, 6, none⟩) hprl id).trans x6⟩
         clear hm ha hu hl hx hz0 hzk hbp r1 r2 n1 n2 ha2 hlv
         go_upto_region 17 with fail
         clear s2 s3 s4 s5 x4 x6 hpvl hprl v0 v1 v2
         refine wp_region_held_drew (S := (fun V => V.cell? ⟨pv, 5, none⟩ = some (.slice qa sl qc) ∧ V.cell? ⟨w.heap.size, 6, none⟩ = some (.slice la nl lc))) (by kernel_rfl) (by exact HQ.out _ HV.out) (fun hHeld => ?_)
         refine tkv 1 (some 56) rfl ?_
         refine tkv 2 (some 57) rfl ?_
         refine tkv 3 (some 58) rfl ?_
         refine tkv 4 (some 59) rfl ?_
         refine tkv 5 (some 60) rfl ?_
         refine tkv 6 (some 61) rfl ?_
         refine tkv 7 (some 62) rfl ?_
         refine tkv 8 (some 63) rfl ?_
         refine tkv 10 (some 65) rfl ?_
         refine tkv 11 (some 66) rfl ?_
         refine tkv 12 (some 67) rfl ?_
         refine tkv 13 (some 68) rfl ?_
         refine tkv 14 (some 69) rfl ?_
         refine tkv 15 (some 70) rfl ?_
         refine one 0 (some 55) rfl (fun K hK => ?_)
         go_simp
         have HA0 := hid (ApS.start (T := 64) (s := 3) HV.out)
         refine hK.out _ _ (HQ.out _ HA0.out.up) (fun hHeld => ?_)
         clear hK K
         try simp only [tdy]
         refine one 9 (some 64) rfl (fun K hK => ?_)
         obtain ⟨aa1, cc1, ww1, hr1, HA1⟩ := HA0.out.app Tryz.underlying24 inf_loc (by omega) (by omega) R1.out NR1.out (by omega) 24; (try rw [Nat.zero_add] at hr1 HA1); (try simp only [Nat.reduceAdd] at hr1 HA1); refine wp_append_eqv (.tmp 55) (.tmp 63) 24 (by rfl) _ _ _ (by rfl) (by rfl) hr1 ?_; have HA1 := hid HA1; clear hr1
         refine hK.out _ _ (HQ.out _ HA1.out.up) (fun hHeld => ?_)
         clear hK K
         try simp only [tdy]
         refine one 16 (some 71) rfl (fun K hK => ?_)
         obtain ⟨aa2, cc2, ww2, hr2, HA2⟩ := HA1.out.app Tryz.underlying24 inf_loc (by omega) (by omega) R2.out NR2.out (by omega) 24; (try rw [Nat.zero_add] at hr2 HA2); (try simp only [Nat.reduceAdd] at hr2 HA2); refine wp_append_eqv (.tmp 64) (.tmp 70) 24 (by rfl) _ _ _ (by rfl) (by rfl) hr2 ?_; have HA2 := hid HA2; clear hr2
         refine hK.out _ _ (HQ.out _ HA2.out.up) (fun hHeld => ?_)
         clear hK K
         try simp only [tdy]
         refine tkv 17 (some 10) rfl ?_
         refine wpAnyH_done (by kernel_rfl) ?_ _
         obtain ⟨DL, hDL⟩ : ∃ DL, DL = (s.locs.drop (4 * 2)).take 4 ++ (spl s zs M0 r.locs 2).2.take 2 := ⟨_, rfl⟩
         have hlen : DL.length = 6 := by
          have h1 := H16.out
          have h2 := HAA.out.1
          have h3 := HAA.out.2
          have h4 : liv s 2 = 1 + liv s 3 := liv_live (t := 2) (by omega) HX.out
          have h5 := NL.out
          rw [hDL, h2, List.length_append, List.length_take, List.length_drop, List.length_take, List.length_drop]
          omega
         have ho : OwnLo 0 ww2 (.slice aa2 6 cc2) DL := by
          unfold OwnLo
          rw [hlen, hDL, HAA.out.1, loV_app]
          have := HA2.out.own
          rw [List.nil_append] at this
          exact ownsRow.lower this (Nat.zero_le _)
         have HOF : Hid (∀ g, (Value.slice aa2 6 cc2).ownBlock = some g → Gr F w ww2 g) := fun g e => by
          have h1 := ownsRow.lt HA2.out.own g e
          exact .inr ⟨Nat.le_trans HUU.out.size h1.1, h1.2⟩
         have HU2 : Hid (Up Nul wr ww2.drew) := HA2.out.up.drew
         have HL2 := hid (HLL.out.nxt HU2.out)
         have HM2 : Hid (RM (Gr F w ww2) ww2.drew q (n + 2 * 2) Q' (splM s zs M0 r.locs M.last 2) ks' is' kv' bv' iv' sv') := (HM.out.nxt HU2.out).wide (gr_mono HA2.out.up.size)
         have hF2 : ∀ j, Gr F w ww2 j → j < ww2.drew.heap.size := gr_lt HF.out (Nat.le_trans HUU.out.size HA2.out.up.size)
         have hivk := HIV.out 2 (by omega)
         have hrlk := HRL.out 2 (by omega) HX.out
         rw [HZK.out] at hrlk
         have his : ∀ i ∈ is', i < z2 := fun i hi => by
          have := (HM2.out.rr.ri.mem i).1 hi
          obtain ⟨y, hy⟩ := Option.isSome_iff_exists.1 this
          have := (hivk.1.s i y hy).1.2
          omega
         have hcl := rlay_any HM2.out hF2 (by have := HNN.out; omega) z2 ⟨2, 2, s.k2, noK, noK, DL⟩ (.slice aa2 6 cc2) his HZ0.out.2 ho HOF.out
         have HCL := hid hcl
         have HDL := hid hDL
         obtain ⟨bx, hbx⟩ := hivk.1.e (s.key 2) ⟨2, Nat.le_refl _, by omega, rfl, HX.out⟩
         have HBX := hid hbx
         have HNK : Hid ((spl s zs M0 r.locs 2).1.b noK = none) := by
          show _ = _
          cases hc : (spl s zs M0 r.locs 2).1.b noK with
          | none => rfl
          | some y => exact absurd rfl (hivk.1.b noK y hc).1.1
         have hl2 : SpL w ww2 w.heap.size pv r s (some ⟨gz, oz, none⟩) la qa sc nl lc sl qc gz oz z0 z1 z2 := HLL.out.nxt HA2.out.up
         obtain ⟨_, _, _, _, x4, _⟩ := hl2.rb.cells
         obtain ⟨_, _, s2, s3, s4, _⟩ := cell6 hl2.pb
         have v0 := hl2.c0
         have v1 := hl2.c1
         have v2 := hl2.c2
         clear hlen ho hF2 hivk hrlk his hcl hDL hbx hl2 R1 R2 NR1 NR2 hs1 hs2
         go_upto_region 19 with fail
         go_still_tail 14, (by kernel_rfl)
         go_wp2_with fail
         refine HCL.out.mono ?_
         rintro e w6 ⟨rfl, ⟨is6, iv6, sv6, h6⟩, u6⟩
         have hM6 : RM (Gr F w w6) w6 q (n + 2 * 2 + 1) (upd Q' z2 (.slice aa2 6 cc2)) { splM s zs M0 r.locs M.last 2 with s := upd (splM s zs M0 r.locs M.last 2).s z2 (some ⟨2, 2, s.k2, noK, noK, DL⟩), last := z2 } ks' is6 kv' bv' iv6 sv6 := h6.wide (gr_tr (Nat.le_trans HUU.out.size HU2.out.size) u6.size)
         have HM6 := hid hM6
         have hbo : MM.bof { splM s zs M0 r.locs M.last 2 with s := upd (splM s zs M0 r.locs M.last 2).s z2 (some ⟨2, 2, s.k2, noK, noK, DL⟩), last := z2 } s.k2 = bx := bof_some HBX.out
         have hbl := rblob_any hM6 (by have := HNN.out; omega) s.k2
         rw [hbo] at hbl
         have hgq : ¬ gz = q := fun e => HGZ.out.2 (by rw [e]; exact HM0.out.fq)
         have HL6 := hid (HL2.out.keep u6 (fun k e => .inl (by have e : k = q := e; subst e; exact ⟨_, HM2.out.hp⟩)) hgq)
         have HU6 : Hid (Up F w w6) := gr_up HUU.out HU2.out (u6.mono fun j _ e => by rw [e]; exact HM.out.fq)
         obtain ⟨xn, xi, xp⟩ := bx
         have HBL := hid hbl
         obtain ⟨_, _, s2, s3, s4, _⟩ := cell6 HL6.out.pb
         clear hM6 h6 u6 hbo hbl hgq x4 v0 v1 v2
         go_wp2_with fail
         refine HBL.out.mono ?_
         rintro e w7 ⟨rfl, u7⟩
         have HU7 := hid u7
         clear u7 HBL
         go_upto_region 21 with fail
         obtain ⟨W8, hW8⟩ : ∃ W, W = w7.alloc (.cells #[.int .i64 xn, .int .i64 xi, .int .i64 xp] 51) := ⟨_, rfl⟩
         have u8 : Up Nul w7 W8 := by rw [hW8]; exact (Up.refl Nul w7).alloc _
         have b8 : W8.heap[w7.heap.size]? = some (.cells #[.int .i64 xn, .int .i64 xi, .int .i64 xp] 51 (0, 0)) := by rw [hW8]; exact heap_alloc_new _ _
         rw [← hW8]
         clear hW8 s2 s3 s4
         have HU8 : Hid (Up Nul w6 W8.drew) := (HU7.out.trans u8).drew
         have HL8 : Hid (SpL w W8 w.heap.size pv r s (some ⟨gz, oz, none⟩) la qa sc nl lc sl qc gz oz z0 z1 z2) := HL6.out.nxt (HU7.out.trans u8)
         have HM8 := hid (HM6.out.nxt HU8.out)
         have hF8 : ∀ j, Gr F w w6 j → j < W8.drew.heap.size := fun j hj => Nat.lt_of_lt_of_le (gr_lt HF.out HU6.out.size j hj) HU8.out.size
         have hset := rset_any HM8.out hF8 (by have := HNN.out; omega) s.k2 ⟨xn, z2, 0⟩
         have HSET := hid hset
         obtain ⟨y0, _, _⟩ := cell3 b8
         obtain ⟨_, _, _, _, x4, _⟩ := HL8.out.rb.cells
         obtain ⟨_, _, s2, s3, s4, _⟩ := cell6 HL8.out.pb
         have v0 := HL8.out.c0
         have v1 := HL8.out.c1
         have v2 := HL8.out.c2
         clear u8 b8 hF8 hset
         go_still_tail 13, (by kernel_rfl)
         go_wp2_with fail
         refine HSET.out.mono ?_
         rintro e w9 ⟨rfl, ⟨ks9, kv9, bv9, h9⟩, u9⟩
         have hu9 : Up (Gr F w w6) W8.drew w9 := u9.mono fun j _ e => by
          rcases e with e | e
          ·rw [e]; exact HM6.out.fq
          ·exact HM6.out.rr.fb j e
         have hlm : splM s zs M0 r.locs M.last 3 = { splM s zs M0 r.locs M.last 2 with b := upd (splM s zs M0 r.locs M.last 2).b s.k2 (some ⟨xn, z2, 0⟩), s := upd (splM s zs M0 r.locs M.last 2).s z2 (some ⟨2, 2, s.k2, noK, noK, DL⟩), last := z2 } := by
          rw [splM_live (t := 2) HX.out HBX.out HNK.out, HZK.out, HDL.out]
          rfl
         have HM9 : Hid (RMx (Gr F w w9) w9 q (n + 2 * 3) (splM s zs M0 r.locs M.last 3)) := by
          rw [hlm]
          exact ⟨_, _, _, _, _, _, _, (h9.wide (gr_tr (Nat.le_trans HU6.out.size HU8.out.size) (Nat.le_trans HU8.out.size u9.size))).mono (by omega)⟩
         have HU9 : Hid (Up F w w9) := gr_up HU6.out HU8.out hu9
         have HL9 : Hid (SpL w w9 w.heap.size pv r s (some ⟨gz, oz, none⟩) la qa sc nl lc sl qc gz oz z0 z1 z2) := by
          refine (HL6.out.nxt HU8.out).keep u9 (fun k e => ?_) (fun e => ?_)
          ·rcases e with e | e
           ·subst e; exact .inl ⟨_, HM8.out.hp⟩
           ·exact .inr (own_heap HM8.out.rr.bo e)
          ·rcases e with e | e
           ·exact HGZ.out.2 (by rw [e]; exact HM0.out.fq)
           ·exact not_gr (w := w) (w' := w6) HGZ.out.2 HGZ.out.1 (HM6.out.rr.fb gz e)
         have HAT : Hid ((spl s zs M0 r.locs 3).2 = r.locs.drop a2 ∧ a2 + 2 * liv s 3 = nl) := by
          have h1 := HAA.out.2
          have h4 : liv s 2 = 1 + liv s 3 := liv_live (t := 2) (by omega) HX.out
          refine ⟨?_, by have := A2.out; omega⟩
          rw [spl_live (t := 2) HX.out]
          show List.drop 2 (spl s zs M0 r.locs 2).2 = _
          rw [HAA.out.1, List.drop_drop, ← A2.out]
         clear h9 u9 hu9 hlm y0 x4 s2 s3 s4 v0 v1 v2
         go_wp2_with fail
         go_roundw
         case rel => exact ⟨3, a2, by omega, by go_num, rfl, HM9.out, HAT, HU9.out, HL9.out⟩
         case measure => simp [intOf]
      ·obtain rfl : t = 3 := by omega
       have HM := hid hm
       have HUF := hid hu
       clear hm hu hl
       go_wp2_with fail
       go_ret
       rw [HRE.out]
       exact ⟨_, rfl, RMx.mono ⟨_, _, _, _, _, _, _, HM.out⟩ (by omega), HUF.out⟩
  ·have k1 : (s.kind != 3) = true := by simp [hk3]
   have HE : Hid (R = M) := by
    show R = _
    rw [← HR.out]
    have : M.split r = (12, M) := by unfold MM.split; rw [HSZ.out]; dsimp only; rw [if_pos hk3]
    rw [this]; rfl
   clear hk3
   go_wp2_with fail
   go_ret
   rw [HE.out]
   exact ⟨_, rfl, (RMx.wide ⟨_, _, _, _, _, _, _, HM4.out⟩ fun k hk => .inl hk).mono (by omega), HU4.out.nul⟩
end
end Go.Proofs.YtepggchnhgpcnaaGreatDoor
