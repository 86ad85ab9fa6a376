/- The law's 'Fit'. -/
import Derived.Test.YtepggchnhgpcnaaGreatDoorPkTidy
import Derived.Test.YtepggchnhgpcnaaGreatDoorPz34
import Derived.Test.YtepggchnhgpcnaaGreatDoorPz16
import Derived.Deep.DeepCutAuto
import Derived.Great.BuildSlice
namespace Go.Proofs.YtepggchnhgpcnaaGreatDoor
open Go.RowKit Go.Maps Go.Sort
set_option linter.unusedVariables false

theorem FS.wpapp {w0 W : World} {p ll : Nat} {K : Int} {r : Rc} {sa la : Option Addr} {sc lc : Nat} (h : FS w0 W p K r sa sc la lc) (hll : r.locs.length = ll) (hl : ll ≤ 1000) {ops : Array Oper} {rest : List Oper} {o : Oper} {act : Act} {Q : Exit → Act → World → Prop} {a b c d e f : Int} (hgd : o.guard = none) (s x : Operand)
  (ho : o.op = .call { callee := .builtin .append, args := #[s, x], argTypes := #[24, 24] }) (hty : o.type = 24) (hs : act.eval s = .slice la ll lc) (hx : act.eval x = .slice (some ⟨W.heap.size, 0, none⟩) 2 2)
  (hk : ∀ a' c' W2, Hid (W2.cell? ⟨p, 6, none⟩ = some (.slice la ll lc)) → Hid (W2.frozen? ⟨p, 6, none⟩ = false) → Hid (∀ (T : TypeId) (b : Nat) (c : Array Value) (f : Nat × Nat), W.heap[b]? = some (.cells c T f) → T ≠ 64 → W2.heap[b]? = some (.cells c T f)) →
   Hid (∃ xs, FS w0 (W2.setCell ⟨p, 6, none⟩ (.slice a' (ll + 2) c')) p K { r with locs := xs } sa sc a' c' ∧ xs.length = ll + 2) → wpList Tryz.prog ops Q rest (act.put o.dst (.slice a' (ll + 2) c')) W2) :
  wpList Tryz.prog ops Q (o :: rest) act (W.alloc (.cells #[.int .i64 a, .int .i64 b, .int .i64 c, .int .i64 d, .int .i64 e, .int .i64 f] 64)) := by
 obtain ⟨a', c', W2, hrun, hc6, hf6, hkp, hfs⟩ := h.app ((Up.refl Nul W).alloc (.cells #[.int .i64 a, .int .i64 b, .int .i64 c, .int .i64 d, .int .i64 e, .int .i64 f] 64)) (some ⟨W.heap.size, 0, none⟩) 2 [⟨a, b, c⟩, ⟨d, e, f⟩] (two_locs W a b c d e f) (by simp) (by omega) (by simp)
 simp only [List.length_cons, List.length_nil, Nat.reduceAdd] at hrun hfs
 rw [hll] at hrun hc6 hfs
 refine wpList_append_eqv hgd s x 24 ho _ _ _ hs hx (by rw [hty]; exact hrun) (hk a' c' W2 hc6 hf6 (fun T b c f hb hT => hkp T b c f (((Up.refl Nul W).alloc _).keep hb id) hT) ⟨_, hfs, by rw [List.length_append, hll]; rfl⟩)
theorem FS.wpcp {w0 W : World} {p : Nat} {K : Int} {r : Rc} {sa la : Option Addr} {sc lc : Nat} (h : FS w0 W p K r sa sc la lc) {ops : Array Oper} {o u : Oper} {act : Act} {Q : Exit → Act → World → Prop}
  (hgo : o.guard = none) (hgu : u.guard = none) (s d t : Operand) (ho : o.op = .load 28 s) (hu : u.op = .store 28 d t) (hs : act.eval s = .pointer (some ⟨p, 0, none⟩))
  (hd : ∀ v, (act.put o.dst v).eval d = .pointer (some ⟨w0.heap.size, 0, none⟩)) (ht : ∀ v, (act.put o.dst v).eval t = v)
  (hk : ∀ v W', Hid (W'.heap[w0.heap.size]? = some (.cells (rcellsL r (.slice sa r.sids.length sc) (.slice la r.locs.length lc)) 28 (0, 0))) → Hid (Up (One w0.heap.size) W W') → Q .normal ((act.put o.dst v).put u.dst undef) W') :
  wpList Tryz.prog ops Q [o, u] act W := by
 refine wpList_load_row hgo 28 s ho p hs 28 _ (0, 0) _ h.rb Tryz.underlying28 rfl info_rec13 ?_
 refine wpList_store_row hgu 28 d t hu w0.heap.size _ (hd _) (ht _) 28 zrec h.res info_rec13 rfl (by simp [Value.oneCell']) ?_
 exact wpList_nil (hk _ _ (hid (setRow_heap W _ _ _ _ _ h.res)) (hid ⟨rfl, rfl, rfl, by simp [World.setRow], fun k hk hs => setRow_other W _ k _ fun e => hs e⟩))
theorem wp_two_locs {ops : Array Oper} {rest : List Oper} {o : Oper} {act : Act} {W : World} {Q : Exit → Act → World → Prop} (a b c d e f : Int) (hg : o.guard = none) (s x : Operand) (ho : o.op = .buildSlice 24 2 #[(0, s), (1, x)])
  (hs : act.eval s = .agg #[.int .i64 a, .int .i64 b, .int .i64 c]) (hx : act.eval x = .agg #[.int .i64 d, .int .i64 e, .int .i64 f])
  (hk : wpList Tryz.prog ops Q rest (act.put o.dst (.slice (some ⟨W.heap.size, 0, none⟩) 2 2)) (W.alloc (.cells #[.int .i64 a, .int .i64 b, .int .i64 c, .int .i64 d, .int .i64 e, .int .i64 f] 64))) :
  wpList Tryz.prog ops Q (o :: rest) act W := by
 have h1 : (Tryz.prog.info? 64).map (fun i => (i.size, i.zero)) = some (3, some (.agg #[.int .i64 0, .int .i64 0, .int .i64 0])) := by kernel_rfl
 cases hq : Tryz.prog.info? 64 with
 | none => rw [hq] at h1; cases h1
 | some ie =>
  rw [hq] at h1
  have h4 := Option.some.inj (show some (ie.size, ie.zero) = some (3, some (.agg #[.int .i64 0, .int .i64 0, .int .i64 0])) from h1)
  have h2 : ie.size = 3 := congrArg Prod.fst h4
  have h3 : ie.zero = some (.agg #[.int .i64 0, .int .i64 0, .int .i64 0]) := congrArg Prod.snd h4
  refine wpList_buildSlice hg 24 64 2 _ ho _ ie _ Tryz.underlying24 hq h3 (by rw [h2]; decide) (by rw [h2]; decide) ?_ hk
  rw [h2]
  have e1 : (#[(0, s), (1, x)] : Array (Nat × Operand)).map (fun (i, x) => (i, act.eval x)) = #[(0, act.eval s), (1, act.eval x)] := by simp
  rw [e1, hs, hx]
  have e2 : (Array.range (2 * 3)).map ((Value.agg #[.int .i64 0, .int .i64 0, .int .i64 0]).cells[· % (Value.agg #[.int .i64 0, .int .i64 0, .int .i64 0]).cells.size]!) = #[.int .i64 0, .int .i64 0, .int .i64 0, .int .i64 0, .int .i64 0, .int .i64 0] := by kernel_rfl
  rw [e2]
  simp [Instr.fill, Value.cells]
section
variable {F : Nat → Prop} {w : World} {q n : Nat} {Q : Int → Value} {M : MM} {ks : List ByteArray} {is : List Int} {kv bv iv sv : Value}
set_option maxRecDepth 200000 in
set_option maxHeartbeats 40000000 in
theorem fit_any (h : RM F w q n Q M ks is kv bv iv sv) (hF : ∀ k, F k → k < w.heap.size) (hn : n ≤ 10000) (hI : M.Inv3) (a : Option Addr) (len cap : Nat) (z0 : List Int) (hc : CameI w a len cap z0) :
  Calls Tryz.prog 8 #[.pointer (some ⟨q, 0, none⟩), .slice a len cap] w fun e w' => ∃ (r : Rc) (sa : Option Addr) (sc : Nat) (la : Option Addr) (lc : Nat), e = .returned (rv r (.slice sa r.sids.length sc) (.slice la r.locs.length lc)) ∧ RO w.heap.size w' r sa la lc ∧ r.key.size ≤ 16 ∧ (sc = r.sids.length ∧ r.sids.length ≤ 3) ∧ r.locs.length ≤ 100000 ∧ Up Nul w w' := by
 obtain ⟨f, hf⟩ := SlI.of hc
 obtain ⟨ka, kc, rfl, -, hkr, -⟩ := ownsRow.rd h.rr.ko (kcells_one ks)
 obtain ⟨ia, ic, rfl, -, hir, -⟩ := ownsRow.rd h.rr.io (intV_one is)
 obtain ⟨va, vc, rfl, -, hvr, -⟩ := ownsRow.rd h.rr.so (scells_one M Q is h.rr.qone)
 obtain ⟨nk, NK⟩ : ∃ x, Hid (ks.length = x) := ⟨_, rfl⟩
 obtain ⟨ni, NI⟩ : ∃ x, Hid (is.length = x) := ⟨_, rfl⟩
 rw [NK.out] at hkr
 rw [NI.out] at hir hvr
 have HKR := hid hkr
 have HIR := hid hir
 have HVR := hid hvr
 clear hkr hir hvr
 have HM := hid h
 have HF := hid hF
 have HN := hid hn
 have HI := hid hI
 have HC := hid hc
 have HSL := hid hf
 clear h hF hn hI hc hf
 go_enter Tryz.func8, Tryz.ntmps8
 go_upto_region 1 with fail
 obtain ⟨w1, hw1⟩ : ∃ W, W = w.alloc (.cells #[.int .i64 0, .string ⟨#[]⟩, .int .i64 0, .int .i64 0, .slice none 0 0, .int .i64 0, .slice none 0 0, .int .i64 0, .int .i64 0, .int .i64 0, .int .i64 0, .int .i64 0, .int .i64 0] 28) := ⟨_, rfl⟩
 rw [← hw1]
 have u1 : Up Nul w w1 := by rw [hw1]; exact (Up.refl _ _).alloc _
 have b1 : w1.heap[w.heap.size]? = some (.cells #[.int .i64 0, .string ⟨#[]⟩, .int .i64 0, .int .i64 0, .slice none 0 0, .int .i64 0, .slice none 0 0, .int .i64 0, .int .i64 0, .int .i64 0, .int .i64 0, .int .i64 0, .int .i64 0] 28 (0, 0)) := by rw [hw1]; exact heap_alloc_new _ _
 have HU1 := hid u1
 have HB1 := hid b1
 have HR := hid (rec_ownc w1 a len cap z0 (came_nx HC.out u1))
 clear hw1 u1 b1
 go_wp2_with fail
 refine HR.out.mono ?_
 rintro e w2 ⟨r, sa, sc, la, lc, rfl, hok, hrh, hro, u2, rfl⟩
 have hp0 : w1.heap.size ≤ w2.heap.size := u2.size
 have hfs : FS w (w2.alloc (.cells (rcellsL r (.slice sa r.sids.length r.sids.length) (.slice la r.locs.length lc)) 28)) w2.heap.size r.kind r sa r.sids.length la lc :=
  ⟨RB.new _ _ _ _, ⟨(hro.nxt ((Up.refl _ _).alloc _)).s.imp id fun ⟨g, e, hb, hg⟩ => ⟨g, e, Nat.le_trans HU1.out.size hb, hg⟩, OwnLo.weak (hro.nxt ((Up.refl _ _).alloc _)).l HU1.out.size⟩, HU1.out.trans (u2.alloc _), Nat.le_trans HU1.out.size hp0, by have := hok.keyl; omega, fun e => (okf_merge hok e).1, ⟨rfl, by have := hok.sidl; omega⟩, by have := hrh.nl; omega, rfl, (u2.alloc _).keep HB1.out id, fun e => by have := lt_of_heap HB1.out; omega⟩
 obtain ⟨p, hp⟩ : ∃ p, p = w2.heap.size := ⟨_, rfl⟩
 obtain ⟨w3, hw3⟩ : ∃ W, W = w2.alloc (.cells (rcellsL r (.slice sa r.sids.length r.sids.length) (.slice la r.locs.length lc)) 28) := ⟨_, rfl⟩
 rw [← hw3, ← hp] at hfs
 have hw4 : w3 = w2.alloc (.cells #[.int .i64 r.kind, .string r.key, .int .i64 r.n, .int .i64 r.sid, .slice sa r.sids.length r.sids.length, .int .i64 r.colour, .slice la r.locs.length lc, .int .i64 r.t.hot, .int .i64 r.t.warm, .int .i64 r.t.gap, .int .i64 r.t.add, .int .i64 r.t.top, .int .i64 r.t.half] 28) := hw3
 have HFS := hid hfs
 clear hfs hok hrh hro u2 hp0 HR hw3
 go_upto_region 2 with fail
 rw [← hw4, ← hp]
 clear hw4 hp
 have HSL3 := hid (HSL.out.nxt HFS.out.up)
 go_upto_if 19 with fail
 go_cut [6] from 20 to 23 (fun s6 wx => ∃ X : Nat, s6 = .int .i64 (X : Int) ∧ X < 16777216 ∧ wx = w3)
 case first =>
  as_aux_lemma =>
   by_cases h1 : 1 < len
   ·obtain ⟨g, o, rfl, -, hcell⟩ := HSL3.out.row.resolve_left (by omega)
    have x1 := hcell 1 h1
    generalize f 1 = z at x1
    obtain ⟨X, hX, hX2⟩ := RcL.mask24 z
    have HX2 := hid hX2
    have i2 : (1 : Int) < (len : Int) := by omega
    clear hcell h1 hX2
    go_wp2_with fail
    go_meet
    exact ⟨X, rfl, HX2.out, rfl⟩
   ·have i2 : ¬ (1 : Int) < (len : Int) := by omega
    clear h1
    go_wp2_with fail
    go_meet
    exact ⟨0, rfl, by omega, rfl⟩
 case rest =>
  obtain ⟨X, rfl, hX, rfl⟩ := hcut
  have HX := hid hX
  clear hX
  obtain ⟨x9, m1, m2⟩ : ∃ t : Nat, (X : Int).tmod 9 = (t : Int) ∧ (X : Int) % 9 = (t : Int) := ⟨X % 9, by rw [Int.tmod_eq_emod_of_nonneg (by omega)]; simp, by simp⟩
  by_cases h9 : x9 = 8
  ·subst h9
   have hb9 : (((8 : Nat) : Int) == 8) = true := rfl
   go_upto_region 6 with fail
   refine wp_region_lit ?_
   refine HFS.out.wpcp rfl rfl (.tmp 5) (.tmp 4) (.tmp 27) rfl rfl (by kernel_rfl) (fun v => by kernel_rfl) (fun v => by kernel_rfl) (fun v wz HH HU => ?_)
   go_wp2_with fail
   refine bodyPost_ret (results_cell_row (P := Tryz.prog) (ty := 28) rfl _ _ w.heap.size _ _ _ _ (by kernel_rfl) HH.out Tryz.underlying28 rfl info_rec13) rfl ?_
   have hf := HFS.out.fin HU.out
   exact ⟨r, sa, r.sids.length, la, lc, rfl, hf⟩
  ·have hb9 : ((x9 : Int) == 8) = false := by rw [beq_eq_false_iff_ne]; omega
   clear h9
   obtain ⟨x0, -, -, x3, -⟩ := HFS.out.rb.cells
   go_upto_region 7 with fail
   go_cut [40] from 28 to 40 (fun s40 wx => ∃ b : Bool, s40 = .bool b ∧ wx = wc)
   case first =>
    as_aux_lemma =>
     by_cases hs : r.sid = 0
     ·have b1 : (r.sid != 0) = false := by rw [hs]; rfl
      clear hs
      go_wp2_with fail
      go_meet
      exact ⟨_, rfl, rfl⟩
     ·have b1 : (r.sid != 0) = true := by simpa using hs
      clear hs
      by_cases h7 : r.kind = 7
      ·have b2 : (r.kind != 7) = false := by rw [h7]; rfl
       clear h7
       go_wp2_with fail
       go_meet
       exact ⟨_, rfl, rfl⟩
      ·have b2 : (r.kind != 7) = true := by simpa using h7
       clear h7
       go_wp2_with fail
       go_meet
       exact ⟨_, rfl, rfl⟩
   case rest =>
    obtain ⟨b, rfl, rfl⟩ := hcut
    obtain ⟨K, HK⟩ : ∃ K, Hid (r.kind = K) := ⟨_, rfl⟩
    rw [HK.out] at HFS x0
    clear x3
    go_upto_if 40 with fail
    go_cut [] from 41 to 45 (fun wx => ∃ r sa sc la lc, FS w wx p K r sa sc la lc)
    case first =>
     as_aux_lemma =>
      cases b with
      | false =>
       go_wp2_with fail
       go_meet
       exact ⟨_, _, _, _, _, HFS.out⟩
      | true =>
       have hq4 := (HM.out.nxt HFS.out.up).c4
       obtain ⟨-, -, -, x3, -⟩ := HFS.out.rb.cells
       have f3 : wc.frozen? ⟨p, 3, none⟩ = false := HFS.out.rb.froz 3
       go_wp2_with fail
       go_meet
       exact ⟨_, _, _, _, _, HFS.out.sid _⟩
    case rest =>
     obtain ⟨r2, sa2, sc2, la2, lc2, hs2⟩ := hcut
     have HFS2 := hid hs2
     clear HFS x0 hs2
     obtain ⟨x0, -⟩ := HFS2.out.rb.cells
     rw [HFS2.out.kk] at x0
     have hq0 := (HM.out.nxt HFS2.out.up).c0
     rw [NK.out] at hq0
     go_upto_region 9 with fail
     go_cut [66] from 46 to 66 (fun s66 wx => ∃ b : Bool, s66 = .bool b ∧ (b = true → 0 < nk) ∧ wx = wc)
     case first =>
      as_aux_lemma =>
       by_cases h234 : K = 3 ∨ K = 4 ∨ K = 2
       ·rcases h234 with h3 | h4 | h2
        ·have b3 : (K == 3) = true := by rw [h3]; rfl
         clear h3
         go_wp2_with fail
         go_meet
         exact ⟨decide (0 < nk), rfl, (fun e => by simpa using e), rfl⟩
        ·have b3 : (K == 3) = false := by rw [h4]; rfl
         have b4 : (K == 4) = true := by rw [h4]; rfl
         clear h4
         go_wp2_with fail
         go_meet
         exact ⟨decide (0 < nk), rfl, (fun e => by simpa using e), rfl⟩
        ·have b3 : (K == 3) = false := by rw [h2]; rfl
         have b4 : (K == 4) = false := by rw [h2]; rfl
         have b2 : (K == 2) = true := by rw [h2]; rfl
         clear h2
         go_wp2_with fail
         go_meet
         exact ⟨decide (0 < nk), rfl, (fun e => by simpa using e), rfl⟩
       ·have b3 : (K == 3) = false := by rw [beq_eq_false_iff_ne]; omega
        have b4 : (K == 4) = false := by rw [beq_eq_false_iff_ne]; omega
        have b2 : (K == 2) = false := by rw [beq_eq_false_iff_ne]; omega
        clear h234
        go_wp2_with fail
        go_meet
        exact ⟨false, rfl, (fun e => by cases e), rfl⟩
     case rest =>
      obtain ⟨b, rfl, hb, rfl⟩ := hcut
      have HB := hid hb
      clear hb
      go_upto_if 66 with fail
      go_cut [] from 67 to 80 (fun wx => ∃ r sa sc la lc, FS w wx p K r sa sc la lc)
      case first =>
       as_aux_lemma =>
        cases b with
        | false =>
         go_wp2_with fail
         go_meet
         exact ⟨_, _, _, _, _, HFS2.out⟩
        | true =>
         have hkl : 0 < nk := HB.out rfl
         obtain ⟨tt, t1, t2, t3, t4⟩ : ∃ tt : Nat, (X : Int).tmod (nk : Int) = (tt : Int) ∧ (X : Int) % (nk : Int) = (tt : Int) ∧ ((nk : Int) == 0) = false ∧ tt < nk :=
          ⟨X % nk, by rw [Int.tmod_eq_emod_of_nonneg (by omega)]; simp, by simp, by rw [beq_eq_false_iff_ne]; omega, Nat.mod_lt _ (by omega)⟩
         obtain ⟨g, o, hka, -, hcell⟩ := HKR.out.row hkl
         obtain ⟨k, hk⟩ : ∃ k, ks[tt]? = some k := ⟨_, List.getElem?_eq_getElem (by rw [NK.out]; exact t4)⟩
         have hks : k.size ≤ 16 := by
          have := (HM.out.rr.rk.mem k).1 (List.mem_of_getElem? hk)
          obtain ⟨y, hy⟩ := Option.isSome_iff_exists.1 this
          exact (HI.out.b k y hy).1.2
         have HKS := hid hks
         have hcc := hcell tt (.string k) (by unfold kcells; rw [List.getElem?_map, hk]; rfl)
         have hc2 := (HFS2.out.up.cell (p := ⟨g, o + tt, none⟩) (lt_of_cell hcc) id).trans hcc
         rw [hka] at hq0
         obtain ⟨-, x1, -⟩ := HFS2.out.rb.cells
         have f1 : wc.frozen? ⟨p, 1, none⟩ = false := HFS2.out.rb.froz 1
         have t7 : ¬ nk = 0 := by omega
         have t5 : (0 : Int) ≤ (tt : Int) := by omega
         have t6 : (tt : Int) < (nk : Int) := by omega
         clear hkl hcell hk hks hcc hka
         go_upto_region 10 with fail
         go_still_tail 14, (by kernel_rfl)
         go_wp2_with fail
         go_meet
         exact ⟨_, _, _, _, _, (HFS2.out.key1 k HKS.out).nxt (by first | exact Up.refl _ _ | exact (Up.refl _ _).drew)⟩
      case rest =>
       obtain ⟨r3, sa3, sc3, la3, lc3, hs3⟩ := hcut
       have HFS3 := hid hs3
       clear HFS2 x0 hs3 hq0
       obtain ⟨x0, -⟩ := HFS3.out.rb.cells
       rw [HFS3.out.kk] at x0
       have hq2 := (HM.out.nxt HFS3.out.up).c2
       rw [NI.out] at hq2
       go_upto_region 11 with fail
       go_cut [91] from 81 to 91 (fun s91 wx => ∃ b : Bool, s91 = .bool b ∧ (b = true → 0 < ni) ∧ wx = wc)
       case first =>
        as_aux_lemma =>
         by_cases h7 : K = 7
         ·have b7 : (K == 7) = true := by rw [h7]; rfl
          clear h7
          go_wp2_with fail
          go_meet
          exact ⟨decide (0 < ni), rfl, (fun e => by simpa using e), rfl⟩
         ·have b7 : (K == 7) = false := by rw [beq_eq_false_iff_ne]; omega
          clear h7
          go_wp2_with fail
          go_meet
          exact ⟨false, rfl, (fun e => by cases e), rfl⟩
       case rest =>
        obtain ⟨b, rfl, hb, rfl⟩ := hcut
        have HB := hid hb
        clear hb
        go_upto_if 91 with fail
        go_cut [] from 92 to 105 (fun wx => ∃ r sa sc la lc, FS w wx p K r sa sc la lc)
        case first =>
         as_aux_lemma =>
          cases b with
          | false =>
           go_wp2_with fail
           go_meet
           exact ⟨_, _, _, _, _, HFS3.out⟩
          | true =>
           have hkl : 0 < ni := HB.out rfl
           obtain ⟨tt, t1, t2, t3, t4⟩ : ∃ tt : Nat, (X : Int).tmod (ni : Int) = (tt : Int) ∧ (X : Int) % (ni : Int) = (tt : Int) ∧ ((ni : Int) == 0) = false ∧ tt < ni :=
            ⟨X % ni, by rw [Int.tmod_eq_emod_of_nonneg (by omega)]; simp, by simp, by rw [beq_eq_false_iff_ne]; omega, Nat.mod_lt _ (by omega)⟩
           obtain ⟨g, o, hia, -, hcell⟩ := HIR.out.row hkl
           obtain ⟨k, hk⟩ : ∃ k, is[tt]? = some k := ⟨_, List.getElem?_eq_getElem (by rw [NI.out]; exact t4)⟩
           have hcc := hcell tt (.int .i64 k) (by unfold intV; rw [List.getElem?_map, hk]; rfl)
           have hc2 := (HFS3.out.up.cell (p := ⟨g, o + tt, none⟩) (lt_of_cell hcc) id).trans hcc
           rw [hia] at hq2
           obtain ⟨-, -, -, x3, -⟩ := HFS3.out.rb.cells
           have f3 : wc.frozen? ⟨p, 3, none⟩ = false := HFS3.out.rb.froz 3
           have t7 : ¬ ni = 0 := by omega
           have t5 : (0 : Int) ≤ (tt : Int) := by omega
           have t6 : (tt : Int) < (ni : Int) := by omega
           clear hkl hcell hk hcc hia
           go_upto_region 12 with fail
           go_still_tail 14, (by kernel_rfl)
           go_wp2_with fail
           go_meet
           exact ⟨_, _, _, _, _, (HFS3.out.sid k).nxt (by first | exact Up.refl _ _ | exact (Up.refl _ _).drew)⟩
        case rest =>
         obtain ⟨r4, sa4, sc4, la4, lc4, hs4⟩ := hcut
         have HFS4 := hid hs4
         clear HFS3 x0 hs4 hq2 HB
         go_upto_region 14 with fail
         have ho := OfS.new wc
         obtain ⟨wo, hwo⟩ : ∃ W, W = wc.alloc (.cells #[.slice none 0 0, .slice none 0 0, .slice none 0 0] 66) := ⟨_, rfl⟩
         rw [← hwo] at ho ⊢
         obtain ⟨po, hpo⟩ : ∃ x, x = wc.heap.size := ⟨_, rfl⟩
         rw [← hpo] at ho ⊢
         have HO := hid ho
         clear hwo hpo ho
         go_wp2_with fail
         go_loopw [8, 9] (fun wd i wr => ∃ (t : Nat) (V : Int) (c : Nat → Value) (z : Nat → List Int), t ≤ ni ∧ i = .int .i64 (t : Nat) ∧ wd = .int .i64 V ∧ OfS wc wr po c z t) (fun _ i _ => ni - (intOf i).toNat)
         case atStart => exact ⟨0, 0, _, _, by omega, rfl, rfl, HO.out⟩
         case round =>
          obtain ⟨t, V, c, z, ht, rfl, rfl, hof⟩ := hrel
          have HT := hid ht
          have HOF := hid hof
          have hmr := HM.out.nxt (HFS4.out.up.trans hof.up)
          have q2 := hmr.c2
          have q3 := hmr.c3
          rw [NI.out] at q2 q3
          have i0 : (0 : Int) ≤ (t : Int) := by omega
          have HNN : Hid (ni ≤ 10000) := by have h1 := HM.out.ni; have h2 := HN.out; have h3 := NI.out; show ni ≤ 10000; omega
          have i9 : (t : Int) ≤ 10000 := by have := HNN.out; omega
          clear ht hof hmr
          by_cases hlt : t < ni
          ·as_aux_lemma =>
            have i2 : (t : Int) < (ni : Int) := by omega
            obtain ⟨g, o, hia, -, hcell⟩ := HIR.out.row (by omega)
            obtain ⟨gv, ov, hva, -, hcv⟩ := HVR.out.row (by omega)
            obtain ⟨k, hk⟩ : ∃ k, is[t]? = some k := ⟨_, List.getElem?_eq_getElem (by rw [NI.out]; exact hlt)⟩
            have hcc := hcell t (.int .i64 k) (by unfold intV; rw [List.getElem?_map, hk]; rfl)
            have hc2 := ((HFS4.out.up.trans HOF.out.up).cell (p := ⟨g, o + t, none⟩) (lt_of_cell hcc) id).trans hcc
            have hkd := hcv (t * 6 + 0) (.int .i64 (M.sof k).kind) ((flat_at (f := fun i => scl (M.sof i) (Q i)) (s := 6) (fun _ => rfl) is t k hk 0 (by omega)).trans rfl)
            have hk2 := ((HFS4.out.up.trans HOF.out.up).cell (p := ⟨gv, ov + (t * 6 + 0), none⟩) (lt_of_cell hkd) id).trans hkd
            have hcd := hcv (t * 6 + 1) (.int .i64 (M.sof k).colour) ((flat_at (f := fun i => scl (M.sof i) (Q i)) (s := 6) (fun _ => rfl) is t k hk 1 (by omega)).trans rfl)
            have hd2 := ((HFS4.out.up.trans HOF.out.up).cell (p := ⟨gv, ov + (t * 6 + 1), none⟩) (lt_of_cell hcd) id).trans hcd
            have HIA := hid hia
            have HVA := hid hva
            have HCW := hid ((HFS4.out.up.cell (p := ⟨g, o + t, none⟩) (lt_of_cell hcc) id).trans hcc)
            have hdw := (HFS4.out.up.cell (p := ⟨gv, ov + (t * 6 + 1), none⟩) (lt_of_cell hcd) id).trans hcd
            rw [hia] at q2
            rw [hva] at q3
            have hsok : Hid (0 ≤ (M.sof k).colour ∧ (M.sof k).colour ≤ 2) := by
             show _ ∧ _
             unfold MM.sof
             cases hs : M.s k with
             | none => exact ⟨by show (0 : Int) ≤ 0; omega, by show (0 : Int) ≤ 2; omega⟩
             | some s => exact (HI.out.s k s hs).2.1.co
            rw [Nat.add_zero] at hk2
            rw [← Nat.add_assoc] at hd2
            obtain ⟨kd, KD⟩ : ∃ x, Hid ((M.sof k).kind = x) := ⟨_, rfl⟩
            obtain ⟨cd, CD⟩ : ∃ x, Hid ((M.sof k).colour = x) := ⟨_, rfl⟩
            rw [KD.out] at hk2
            rw [← Nat.add_assoc] at hdw
            rw [CD.out] at hd2 hsok hdw
            have HLT := hid hlt
            have HDW0 := hid hdw
            clear hcell hcv hcc hkd hcd hia hva hlt hk hdw
            by_cases h2 : kd = 2
            ·have b2 : (kd == 2) = true := by rw [h2]; rfl
             clear h2
             obtain ⟨cn, hcn, hc3⟩ : ∃ cn : Nat, cd = (cn : Int) ∧ cn < 3 := ⟨cd.toNat, by have := hsok.out; omega, by have := hsok.out; omega⟩
             subst hcn
             have HDW := HDW0
             clear HDW0
             obtain ⟨ra, rk, hrs, -⟩ := HOF.out.shape cn hc3
             have hpc := HOF.out.cell cn hc3
             rw [hrs] at hpc
             obtain ⟨sl, SL⟩ : ∃ x, Hid ((z cn).length = x) := ⟨_, rfl⟩
             rw [SL.out] at hrs hpc
             have HRS := hid hrs
             have HC3 := hid hc3
             have j0 : (0 : Int) ≤ (cn : Int) := by omega
             have j3 : (cn : Int) < 3 := by omega
             have HPC := hid hpc
             have hmw := HM.out.nxt HFS4.out.up
             have q2w := hmw.c2
             have q3w := hmw.c3
             rw [NI.out] at q2w q3w
             rw [HIA.out] at q2w
             rw [HVA.out] at q3w
             have HQ : Hid (∀ V, Up Nul wc V → V.cell? ⟨po, cn, none⟩ = some (.slice ra sl rk) → (V.cell? ⟨q, 3, none⟩ = some (.slice (some ⟨gv, ov, none⟩) ni vc) ∧ V.cell? ⟨q, 2, none⟩ = some (.slice (some ⟨g, o, none⟩) ni ic) ∧ V.cell? ⟨gv, ov + t * 6 + 1, none⟩ = some (.int .i64 (cn : Int)) ∧ V.cell? ⟨g, o + t, none⟩ = some (.int .i64 k) ∧ V.cell? ⟨po, cn, none⟩ = some (.slice ra sl rk))) := fun V uV hp => ⟨(uV.cell (p := ⟨q, 3, none⟩) (lt_of_cell q3w) id).trans q3w, (uV.cell (p := ⟨q, 2, none⟩) (lt_of_cell q2w) id).trans q2w, (uV.cell (p := ⟨gv, ov + t * 6 + 1, none⟩) (lt_of_cell HDW.out) id).trans HDW.out, (uV.cell (p := ⟨g, o + t, none⟩) (lt_of_cell HCW.out) id).trans HCW.out, hp⟩
             have HQ0 : Hid (wr.drew.cell? ⟨q, 3, none⟩ = some (.slice (some ⟨gv, ov, none⟩) ni vc) ∧ wr.drew.cell? ⟨q, 2, none⟩ = some (.slice (some ⟨g, o, none⟩) ni ic) ∧ wr.drew.cell? ⟨gv, ov + t * 6 + 1, none⟩ = some (.int .i64 (cn : Int)) ∧ wr.drew.cell? ⟨g, o + t, none⟩ = some (.int .i64 k) ∧ wr.drew.cell? ⟨po, cn, none⟩ = some (.slice ra sl rk)) := ⟨q3, q2, hd2, hc2, hpc⟩
             clear hmw q2w q3w
             clear hrs hpc hc3
             go_upto_region 20 with fail
             clear q2 q3 hc2 hk2 hd2
             skip
             refine wp_region_F (S := (fun V => V.cell? ⟨q, 3, none⟩ = some (.slice (some ⟨gv, ov, none⟩) ni vc) ∧ V.cell? ⟨q, 2, none⟩ = some (.slice (some ⟨g, o, none⟩) ni ic) ∧ V.cell? ⟨gv, ov + t * 6 + 1, none⟩ = some (.int .i64 (cn : Int)) ∧ V.cell? ⟨g, o + t, none⟩ = some (.int .i64 k) ∧ V.cell? ⟨po, cn, none⟩ = some (.slice ra sl rk))) 28 (by kernel_rfl) (by exact HQ0.out) (fun hHeld => ?_)
             refine tkf 0 (some 125) rfl ?_
             refine tkf 1 (some 126) rfl ?_
             refine tkf 2 (some 127) rfl ?_
             refine tkf 3 (some 128) rfl ?_
             refine tkf 4 (some 129) rfl ?_
             refine tkf 5 (some 130) rfl ?_
             refine tkf 6 (some 131) rfl ?_
             refine tkf 7 (some 132) rfl ?_
             refine tkf 8 (some 133) rfl ?_
             refine tkf 9 (some 134) rfl ?_
             refine tkf 10 (some 135) rfl ?_
             refine tkf 11 (some 136) rfl ?_
             refine tkf 12 (some 137) rfl ?_
             refine tkf 13 (some 138) rfl ?_
             refine tkf 14 (some 139) rfl ?_
             refine tkf 15 (some 140) rfl ?_
             refine tkf 16 (some 141) rfl ?_
             refine tkf 17 (some 142) rfl ?_
             refine tkf 18 (some 143) rfl ?_
             refine tkf 19 (some 144) rfl ?_
             refine tkf 20 (some 145) rfl ?_
             refine tkf 21 (some 146) rfl ?_
             refine tkf 22 (some 147) rfl ?_
             refine tkf 23 (some 148) rfl ?_
             refine tkf 24 (some 149) rfl ?_
             refine onf 25 (some 150) rfl (fun K hK => ?_)
             go_simp
             have HI := hid (ApI.new (s := 1) (Up.refl Nul wr.drew) 3 [.int .i64 k] rfl (by intro u hu; simp at hu; subst hu; rfl))
             refine hK.out _ _ (HQ.out _ (((HOF.out.up).drew).trans HI.out.up) ((HI.out.up.cell (p := ⟨po, cn, none⟩) (lt_of_cell HPC.out) id).trans HPC.out)) (fun hHeld => ?_)
             clear hK K
             try simp only [tdy]
             refine onf 26 (some 151) rfl (fun K hK => ?_)
             obtain ⟨aa, kk, ww, hrun, hcl, hfz, huw, hfin⟩ := HOF.out.app cn HC3.out k (by have := HT.out; have := HNN.out; omega) _ (((Up.refl Nul wr).drew).trans HI.out.up) HI.out.one (k2 := 1) 23; rw [HRS.out] at hrun; rw [SL.out] at hrun hfin; have HFN := hid hfin; have HCL := hid (hcl.trans (congrArg some HRS.out)); have HUW := hid huw; have HFZ := hid hfz; refine Eq.mpr (if_pos (by rfl)) ?_; refine wp_append_eqv (.tmp 142) (.tmp 150) 23 (by rfl) (.slice ra sl rk) (.slice (some ⟨wr.drew.heap.size, 0, none⟩) 1 1) (.slice aa (sl + 1) kk) (by kernel_rfl) (by kernel_rfl) hrun ?_; clear hrun hfin hcl hfz huw
             refine hK.out _ _ (HQ.out _ HUW.out HCL.out) (fun hHeld => ?_)
             clear hK K
             try simp only [tdy]
             refine tkf 27 (some 152) rfl ?_
             have hfz := HFZ.out
             refine wpAnyF_ready (rs := [28]) (by kernel_rfl) (by simp) ?_
             refine AllReadyF.last (o := ⟨none, _, _, _, _, _⟩) rfl (fun K hK => ?_)
             go_simp
             skip
             refine hK.out _ _ (trivial) (fun hHeld => ?_)
             clear hK K
             try simp only [tdy]
             refine wpAnyF_done (by kernel_rfl) ?_ _
             go_wp2_with fail
             go_roundw
             case rel => exact ⟨t + 1, V, _, _, by have := HLT.out; omega, by go_num, rfl, HFN.out _ (Up.refl _ _)⟩
             case measure => simp [intOf]; omega
            ·have b2 : (kd == 2) = false := by rw [beq_eq_false_iff_ne]; omega
             clear h2
             by_cases h3 : kd = 3
             ·have b3 : (kd == 3) = true := by rw [h3]; rfl
              clear h3
              go_wp2_with fail
              go_roundw
              case rel => exact ⟨t + 1, k, c, z, by have := HLT.out; omega, by go_num, rfl, HOF.out.mono (by omega)⟩
              case measure => simp [intOf]; omega
             ·have b3 : (kd == 3) = false := by rw [beq_eq_false_iff_ne]; omega
              clear h3
              go_wp2_with fail
              go_roundw
              case rel => exact ⟨t + 1, V, c, z, by have := HLT.out; omega, by go_num, rfl, HOF.out.mono (by omega)⟩
              case measure => simp [intOf]; omega
          ·as_aux_lemma =>
            have i2 : ¬ (t : Int) < (ni : Int) := by omega
            clear hlt
            have HFS5 := hid (HFS4.out.nxt HOF.out.up)
            have HOV := hid (fun (g : Nat) (hg : g < wc.heap.size) => OfV.of HOF.out hg)
            have HWS := hid HFS4.out
            obtain ⟨x0, -⟩ := HFS5.out.rb.cells
            rw [HFS5.out.kk] at x0
            go_upto_region 23 with fail
            clear q2 q3
            go_upto_if 164 with fail
            go_cut [10] from 164 to 188 (fun s10 wx => ∃ r sa sc la lc, FS w wx p K r sa sc la lc)
            case first =>
             as_aux_lemma =>
              by_cases h5 : K = 5
              ·have b5 : (K == 5) = true := by rw [h5]; rfl
               have hk5 := HFS5.out.s3 (HFS5.out.kk.trans h5)
               obtain ⟨g, hsa, hgB, hgc⟩ := HWS.out.ro.s.resolve_left (by intro e; rw [e] at hk5; cases hk5)
               have hgl : g < wc.heap.size := lt_of_heap hgc
               subst hsa
               have HOG := hid (HOV.out g hgl)
               have HK3 := hid hk5
               clear h5 hk5 hgB hgc hgl HOV HOF HWS
               go_wp2_with fail
               go_loopw [10] (fun i wr => ∃ (j : Nat) (r : Rc), j ≤ 3 ∧ i = .int .i64 (j : Nat) ∧ FS w wr p K r (some ⟨g, 0, none⟩) sc4 la4 lc4 ∧ r.sids.length = 3 ∧ OfV wr po g z) (fun i _ => 3 - (intOf i).toNat)
               case atStart => exact ⟨0, _, by omega, rfl, HFS5.out, HK3.out, HOG.out⟩
               case round =>
                obtain ⟨j, rj, hj, rfl, hfj, h3, hov⟩ := hrel
                have HFJ := hid hfj
                have HOJ := hid hov
                have HJ3 := hid h3
                clear hfj hov h3
                by_cases hlt : j < 3
                ·have i0 : (0 : Int) ≤ (j : Int) := by omega
                 have i2 : (j : Int) < 3 := by omega
                 have i9 : (j : Int) ≤ 10000 := by omega
                 obtain ⟨a, k, hpc, hrd, hne⟩ := HOJ.out.at_ j hlt
                 obtain ⟨ln, LN⟩ : ∃ x, Hid ((z j).length = x) := ⟨_, rfl⟩
                 rw [LN.out] at hpc hrd
                 have HLT := hid hlt
                 by_cases h0 : 0 < ln
                 ·obtain ⟨tt, t1, t2, t3, t4⟩ : ∃ tt : Nat, (X : Int).tmod (ln : Int) = (tt : Int) ∧ (X : Int) % (ln : Int) = (tt : Int) ∧ ((ln : Int) == 0) = false ∧ tt < ln :=
                   ⟨X % ln, by rw [Int.tmod_eq_emod_of_nonneg (by omega)]; simp, by simp, by rw [beq_eq_false_iff_ne]; omega, Nat.mod_lt _ (by omega)⟩
                  obtain ⟨ga, oa, hia, -, hcell⟩ := hrd.row h0
                  obtain ⟨kz, hk⟩ : ∃ k, (z j)[tt]? = some k := ⟨_, List.getElem?_eq_getElem (by rw [LN.out]; exact t4)⟩
                  have hcc := hcell tt (.int .i64 kz) (by unfold intV; rw [List.getElem?_map, hk]; rfl)
                  rw [hia] at hpc
                  obtain ⟨-, -, -, -, x4, -⟩ := HFJ.out.rb.cells
                  rw [HJ3.out] at x4
                  have hgj := (HFJ.out.gat (by intro e; have := HJ3.out; rw [e] at this; cases this)).1
                  have f3 : wr.frozen? ⟨g, j, none⟩ = false := by simp [World.frozen?, hgj]
                  have hyo : ∃ y, wr.cell? ⟨g, j, none⟩ = some (.int .i64 y) := by
                   obtain ⟨y, hy⟩ : ∃ y, rj.sids[j]? = some y := ⟨_, List.getElem?_eq_getElem (by rw [HJ3.out]; exact hlt)⟩
                   exact ⟨y, by simp [World.cell?, hgj, intV, hy]⟩
                  obtain ⟨yo, hyo⟩ := hyo
                  have t7 : ¬ ln = 0 := by omega
                  have t5 : (0 : Int) ≤ (tt : Int) := by omega
                  have t6 : (tt : Int) < (ln : Int) := by omega
                  have t8 : (0 : Int) < (ln : Int) := by omega
                  have HNX := hid (HFJ.out.set (by intro e; have := HJ3.out; rw [e] at this; cases this) j kz)
                  clear hrd hne hcell hk hia hgj hlt
                  go_upto_region 28 with fail
                  go_still_tail 15, (by kernel_rfl)
                  go_wp2_with fail
                  go_roundw
                  case rel => exact ⟨j + 1, { rj with sids := rj.sids.set j kz }, by have := HLT.out; omega, by go_num, HNX.out.nxt (by first | exact Up.refl _ _ | exact (Up.refl _ _).drew), by show (rj.sids.set j kz).length = 3; rw [List.length_set]; exact HJ3.out, (HOJ.out.put j (.int .i64 kz)).nxt (by first | exact Up.refl _ _ | exact (Up.refl _ _).drew)⟩
                  case measure => have := HLT.out; simp [intOf]; omega
                 ·have t8 : ¬ (0 : Int) < (ln : Int) := by omega
                  clear hrd hne hlt
                  go_wp2_with fail
                  go_roundw
                  case rel => exact ⟨j + 1, rj, by have := HLT.out; omega, by go_num, HFJ.out, HJ3.out, HOJ.out⟩
                  case measure => have := HLT.out; simp [intOf]; omega
                ·have i2 : ¬ (j : Int) < 3 := by omega
                 clear hlt
                 go_wp2_with fail
                 go_meet
                 exact ⟨_, _, _, _, _, HFJ.out⟩
              ·have b5 : (K == 5) = false := by rw [beq_eq_false_iff_ne]; omega
               clear h5
               go_wp2_with fail
               go_meet
               exact ⟨_, _, _, _, _, HFS5.out⟩
            case rest =>
             obtain ⟨r6, sa6, sc6, la6, lc6, hs6⟩ := hcut
             have HFS6 := hid hs6
             clear HFS5 HOF HOV HWS x0 hs6
             obtain ⟨x0, -⟩ := HFS6.out.rb.cells
             rw [HFS6.out.kk] at x0
             go_upto_region 29 with fail
             go_cut [195] from 189 to 195 (fun s195 wx => ∃ b : Bool, s195 = .bool b ∧ wx = wc)
             case first =>
              as_aux_lemma =>
               by_cases h6 : K = 6
               ·have b6 : (K == 6) = true := by rw [h6]; rfl
                clear h6
                go_wp2_with fail
                go_meet
                exact ⟨_, rfl, rfl⟩
               ·have b6 : (K == 6) = false := by rw [beq_eq_false_iff_ne]; omega
                clear h6
                go_wp2_with fail
                go_meet
                exact ⟨_, rfl, rfl⟩
             case rest =>
              obtain ⟨b, rfl, rfl⟩ := hcut
              clear x0
              go_upto_if 195 with fail
              go_cut [11, 12, 13, 14] from 196 to 245 (fun s11 s12 s13 s14 wx => ∃ r sa sc la lc, FS w wx p K r sa sc la lc)
              case first =>
               as_aux_lemma =>
                cases b with
                | false =>
                 go_wp2_with fail
                 go_meet
                 exact ⟨_, _, _, _, _, HFS6.out⟩
                | true =>
                 have HST := hid (rstripe_x (HM.out.nxt HFS6.out.up) (by have := HN.out; omega) V)
                 go_upto_region 30 with fail
                 go_wp2_with fail
                 refine HST.out.mono ?_
                 rintro e w7 ⟨kd, co, k0, k1, k2, sta, stl, stc, ok, rfl, u7⟩
                 have HU7 := hid u7
                 clear u7
                 go_upto_region 31 with fail
                 obtain ⟨w8, hw8⟩ : ∃ W, W = w7.alloc (.cells #[.int .i64 kd, .int .i64 co, .string k0, .string k1, .string k2, .slice sta stl stc] 46) := ⟨_, rfl⟩
                 rw [← hw8]
                 obtain ⟨ps, PS⟩ : ∃ x, Hid (w7.heap.size = x) := ⟨_, rfl⟩
                 have hps : w8.heap[ps]? = some (.cells #[.int .i64 kd, .int .i64 co, .string k0, .string k1, .string k2, .slice sta stl stc] 46 (0, 0)) := by rw [hw8, ← PS.out]; exact heap_alloc_new _ _
                 have u8 : Up Nul wc w8 := by rw [hw8]; exact HU7.out.trans ((Up.refl _ _).alloc _)
                 rw [PS.out]
                 have HPS := hid hps
                 have HU8 := hid u8
                 have HFS8 := hid (HFS6.out.nxt u8)
                 clear hw8 hps u8 HST
                 obtain ⟨w9, hw9⟩ : ∃ W, W = w8.alloc (.cells #[.int .i64 0, .int .i64 0, .int .i64 0] 3) := ⟨_, rfl⟩
                 obtain ⟨g, G⟩ : ∃ x, Hid (w8.heap.size = x) := ⟨_, rfl⟩
                 have hg9 : w9.heap[g]? = some (.cells #[.int .i64 0, .int .i64 0, .int .i64 0] 3 (0, 0)) := by rw [hw9, ← G.out]; exact heap_alloc_new _ _
                 have u9 : Up Nul w8 w9 := by rw [hw9]; exact (Up.refl _ _).alloc _
                 have hr9 : RB w9 p r6 (.slice sa6 r6.sids.length sc6) (.slice la6 r6.locs.length lc6) := HFS8.out.rb.nxt u9
                 obtain ⟨-, -, -, x3, x4, -, x6, -⟩ := hr9.cells
                 have f3 : w9.frozen? ⟨p, 3, none⟩ = false := hr9.froz 3
                 have f4 : w9.frozen? ⟨p, 4, none⟩ = false := hr9.froz 4
                 have f6 : w9.frozen? ⟨p, 6, none⟩ = false := hr9.froz 6
                 have HNS := hid (HFS8.out.split u9 hg9 (by have := G.out; omega) V)
                 have hpsp : ps ≠ p := blk_ne HPS.out HFS8.out.rb (by decide)
                 have HP9 : Hid ((((w9.setCell ⟨p, 3, none⟩ (.int .i64 V)).setCell ⟨p, 4, none⟩ (.slice (some ⟨g, 0, none⟩) 3 3)).setCell ⟨p, 6, none⟩ (.slice none 0 0)).heap[ps]? = some (.cells #[.int .i64 kd, .int .i64 co, .string k0, .string k1, .string k2, .slice sta stl stc] 46 (0, 0))) :=
                  ((((Up.refl (One p) w9).put rfl 3 _).put rfl 4 _).put rfl 6 _).keep (u9.keep HPS.out id) fun e => hpsp e
                 have HW9 := hid hw9
                 have hwa : w8.alloc (.cells #[.int .i64 0, .int .i64 0, .int .i64 0] 3) = w9 := hw9.symm
                 clear hw9 hg9 u9 hr9 hpsp
                 go_upto_region 32 with fail
                 rw [G.out]
                 obtain ⟨wx, hwx⟩ : ∃ W, W = ((w9.setCell ⟨p, 3, none⟩ (.int .i64 V)).setCell ⟨p, 4, none⟩ (.slice (some ⟨g, 0, none⟩) 3 3)).setCell ⟨p, 6, none⟩ (.slice none 0 0) := ⟨_, rfl⟩
                 have hns := HNS.out
                 have hp9 := HP9.out
                 rw [← hwx] at hns hp9
                 rw [← hwx]
                 have HFS10 := hid hns
                 have HP10 := hid hp9
                 clear hwx hns hp9 hwa x3 x4 x6 f3 f4 f6 HNS HP9 HW9 HFS8 HPS HU8
                 obtain ⟨L, HL⟩ : ∃ L : Nat, Hid (M.last + 1 = (L : Int) ∧ L ≤ 2147483648) := ⟨(M.last + 1).toNat, by have := HI.out.l; show _ ∧ _; omega⟩
                 have q4 := (HM.out.nxt HFS10.out.up).c4
                 rw [HL.out.1] at q4
                 go_wp2_with fail
                 go_loopw [13, 14] (fun nn i wr => ∃ (j N : Nat) (r : Rc) (la : Option Addr) (lc : Nat), j ≤ 3 ∧ i = .int .i64 (j : Nat) ∧ nn = .int .i64 (N : Nat) ∧ N ≤ 2147483648 + j ∧ FS w wr p K r (some ⟨g, 0, none⟩) 3 la lc ∧ r.sids.length = 3 ∧ r.locs.length ≤ 2 * j ∧ wr.heap[ps]? = some (.cells #[.int .i64 kd, .int .i64 co, .string k0, .string k1, .string k2, .slice sta stl stc] 46 (0, 0))) (fun _ i _ => 3 - (intOf i).toNat)
                 case atStart => exact ⟨0, L, _, _, _, by omega, rfl, rfl, by have := HL.out.2; omega, HFS10.out, rfl, Nat.le_refl _, HP10.out⟩
                 case round =>
                  obtain ⟨j, N, rj, laj, lcj, hj, rfl, rfl, hN, hfj, h3, hll, hpj⟩ := hrel
                  have HFJ := hid hfj
                  have HJ3 := hid h3
                  have HLL := hid hll
                  have HPJ := hid hpj
                  have HNN2 := hid hN
                  clear hfj h3 hll hN q4
                  by_cases hlt : j < 3
                  ·have i0 : (0 : Int) ≤ (j : Int) := by omega
                   have i2 : (j : Int) < 3 := by omega
                   have i9 : (j : Int) ≤ 10000 := by omega
                   obtain ⟨kj, hkj⟩ : ∃ kj, wr.cell? ⟨ps, 2 + j, none⟩ = some (.string kj) := by
                    have h3 : j = 0 ∨ j = 1 ∨ j = 2 := by omega
                    rcases h3 with rfl | rfl | rfl <;> exact ⟨_, by simp only [World.cell?, hpj]; rfl⟩
                   have HLT := hid hlt
                   clear hpj hlt
                   cases hz : kj.toList.isEmpty with
                   | true =>
                    as_aux_lemma =>
                     go_wp2_with fail
                     go_roundw
                     case rel => exact ⟨j + 1, N, rj, laj, lcj, by have := HLT.out; omega, by go_num, rfl, by have := HNN2.out; omega, HFJ.out, HJ3.out, by have := HLL.out; omega, HPJ.out⟩
                     case measure => have := HLT.out; simp [intOf]; omega
                   | false =>
                    as_aux_lemma =>
                     have hne : rj.sids ≠ [] := by intro e; have := HJ3.out; rw [e] at this; cases this
                     obtain ⟨-, -, -, -, x4, -⟩ := HFJ.out.rb.cells
                     rw [HJ3.out] at x4
                     have hgj := (HFJ.out.gat hne).1
                     have f3 : wr.frozen? ⟨g, j, none⟩ = false := by simp [World.frozen?, hgj]
                     have hyo : ∃ y, wr.cell? ⟨g, j, none⟩ = some (.int .i64 y) := by
                      obtain ⟨y, hy⟩ : ∃ y, rj.sids[j]? = some y := ⟨_, List.getElem?_eq_getElem (by rw [HJ3.out]; exact HLT.out)⟩
                      exact ⟨y, by simp [World.cell?, hgj, intV, hy]⟩
                     obtain ⟨yo, hyo⟩ := hyo
                     have HGNE : Hid (ps ≠ g) := blk_ne HPJ.out hgj (by decide)
                     have HNX := hid (HFJ.out.set hne j (N : Int))
                     have HPS2 : Hid ((wr.setCell ⟨g, j, none⟩ (.int .i64 (N : Int))).heap[ps]? = some (.cells #[.int .i64 kd, .int .i64 co, .string k0, .string k1, .string k2, .slice sta stl stc] 46 (0, 0))) := ((Up.refl (One g) wr).put rfl j _).keep HPJ.out fun e => HGNE.out e
                     clear hne hgj
                     go_upto_region 38 with fail
                     obtain ⟨wy, hwy⟩ : ∃ W, W = wr.setCell ⟨g, j, none⟩ (.int .i64 (N : Int)) := ⟨_, rfl⟩
                     have hnx := HNX.out
                     have hps2 := HPS2.out
                     rw [← hwy] at hnx hps2
                     rw [← hwy]
                     have HFY := hid hnx
                     have HPY := hid hps2
                     clear hwy hnx hps2 HNX HPS2 f3 hyo hkj x4
                     obtain ⟨-, -, -, -, -, -, x6, -⟩ := HFY.out.rb.cells
                     have x6 : wy.cell? ⟨p, 6, none⟩ = some (.slice laj rj.locs.length lcj) := x6
                     have i5 : (N : Int) + 1 ≤ 9223372036854775807 := by have := HNN2.out; omega
                     have i6 : (0 : Int) ≤ (N : Int) := by omega
                     have HPP : Hid (ps ≠ p) := blk_ne HPY.out HFY.out.rb (by decide)
                     refine wp_region_lit ?_
                     iterate 48 (first | go_big_move | go_big_op | (refine wpList_plain rfl (fun K hK => ?_)) | (refine hK _ _ ?_; clear hK))
                     refine wp_two_locs ((N : Int) % 24) ((X : Int) % 64) (N : Int) (((N : Int) + 1) % 24) ((X : Int) % 64) ((N : Int) + 1) rfl (.tmp 232) (.tmp 240) rfl (by kernel_rfl) (by kernel_rfl) ?_
                     refine HFY.out.wpapp (ll := rj.locs.length) rfl (by have := HLL.out; have := HLT.out; omega) rfl (.tmp 226) (.tmp 241) rfl rfl (by kernel_rfl) (by kernel_rfl) ?_
                     intro a' c' W2 HC6 HF6 HKP HFX
                     have hc6 := HC6.out
                     have hf6 := HF6.out
                     simp only [Act.put, List.setIfInBounds_toArray, List.set_cons_zero, List.set_cons_succ]
                     go_wp2_with fail
                     obtain ⟨xs, hfx, hxl⟩ := HFX.out
                     have HFX2 := hid hfx
                     have HPZ := hid (((Up.refl (One p) W2).put rfl 6 (.slice a' (rj.locs.length + 2) c')).keep (HKP.out _ _ _ _ HPY.out (by decide)) fun e => HPP.out e)
                     clear hfx
                     go_roundw
                     case rel => exact ⟨j + 1, N + 1, _, a', c', by have := HLT.out; omega, by go_num, by go_num, by have := HNN2.out; omega, HFX2.out, by show (rj.sids.set j (N : Int)).length = 3; rw [List.length_set]; exact HJ3.out, by show xs.length ≤ _; have := HLL.out; omega, HPZ.out⟩
                     case measure => have := HLT.out; simp [intOf]; omega
                  ·as_aux_lemma =>
                    have i2 : ¬ (j : Int) < 3 := by omega
                    clear hpj hlt
                    go_wp2_with fail
                    go_meet
                    exact ⟨_, _, _, _, _, HFJ.out⟩
              case rest =>
               obtain ⟨r9, sa9, sc9, la9, lc9, hs9⟩ := hcut
               have HFS := hid hs9
               clear HFS6 hs9
               go_upto_region 40 with fail
               refine wp_region_lit ?_
               refine HFS.out.wpcp rfl rfl (.tmp 5) (.tmp 4) (.tmp 246) rfl rfl (by kernel_rfl) (fun v => by kernel_rfl) (fun v => by kernel_rfl) (fun v wz HH HU => ?_)
               go_wp2_with fail
               refine bodyPost_ret (results_cell_row (P := Tryz.prog) (ty := 28) rfl _ _ w.heap.size _ _ _ _ (by kernel_rfl) HH.out Tryz.underlying28 rfl info_rec13) rfl ?_
               have hf := HFS.out.fin HU.out
               exact ⟨r9, sa9, sc9, la9, lc9, rfl, hf⟩
end
theorem fit_all : FitC := fun h hF hn hI a len cap z0 hc => fit_any h hF hn hI a len cap z0 hc
end Go.Proofs.YtepggchnhgpcnaaGreatDoor
