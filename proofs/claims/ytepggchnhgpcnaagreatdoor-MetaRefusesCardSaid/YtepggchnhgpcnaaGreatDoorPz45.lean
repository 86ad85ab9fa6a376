/- The statement 'MetaRefuses' holds: for every input the law answers true and leaves its arguments as they were. No condition. -/
import Derived.Test.YtepggchnhgpcnaaGreatDoorPkTidy
import Derived.Test.YtepggchnhgpcnaaGreatDoorRows
import Derived.Test.YtepggchnhgpcnaaGreatDoorCards
import Derived.Test.YtepggchnhgpcnaaGreatDoorTie
import Derived.Test.YtepggchnhgpcnaaGreatDoorPz1
import Derived.Test.YtepggchnhgpcnaaGreatDoorPz39
import Derived.Test.YtepggchnhgpcnaaGreatDoorPz44
import Derived.Test.YtepggchnhgpcnaaGreatDoorPz37
import Derived.WalkKit
import Derived.Below
import Derived.ProofKit
import Derived.OpenShut
import Derived.ShutString
import Derived.ChangeOld
import Derived.Deep.Matrix
import Derived.SevenTiedAt
namespace Go.Proofs.YtepggchnhgpcnaaGreatDoor.metaRefuses
open Go.ChangeShapes Go.WideShapes Go.ChangeAt Go.RowKit
open Go.ChangeMaps (open_string shut_string)
set_option linter.unusedVariables false

theorem own : ownKnob Tryz.prog.godebug = none := by kernel_rfl
theorem laidOut : laidOutB Tryz.prog = true := by kernel_rfl
theorem cellsR : Tryz.prog.cellsOf 23 = 1 := by kernel_rfl
theorem cellsE : Tryz.prog.cellsOf 3 = 1 := by kernel_rfl
set_option maxRecDepth 100000 in
theorem open_recv {H : Type} {enc : TypeId × Value → H} {W : World} {b : Nat} {held : Bool} {v : Value} {d : DataW H} {ps : List MemPlace} {x : Reach} (hv : Value.okWide Tryz.prog W x b 28 v) (h : DataW.Trod enc Tryz.prog W 0 (fun _ => true) held 28 v d ps) :
  ∃ (r : Rc) (sa la : Option Addr) (sc lc : Nat), v = rv r (.slice sa r.sids.length sc) (.slice la r.locs.length lc) ∧ RowI W sa r.sids ∧ RowL W la r.locs ∧ r.sids.length ≤ sc ∧ sc ≤ maxLen ∧ r.locs.length ≤ lc ∧ lc ≤ maxLen ∧ r.key.size ≤ maxLen := by
 unfold Value.okWide at hv
 rw [Tryz.underlying28] at hv
 obtain ⟨cs, rfl, hn, _⟩ := hv
 obtain ⟨fuel, hf⟩ := h
 obtain ⟨r, sa, la, sc, lc, e, hr⟩ := open_rec hf
 refine ⟨r, sa, la, sc, lc, ?_, hr⟩
 have e2 : cs.toList = (rcellsL r (.slice sa r.sids.length sc) (.slice la r.locs.length lc)).toList := by simpa [Value.cells] using e
 rw [Array.toList_inj.1 e2]

theorem walk (a0 : Option Addr) (l0 c0 : Nat) (r1 : Rc) (sa1 la1 : Option Addr) (sc1 lc1 : Nat) (w : World) (hS : Shp w) (w0 : CamR w a0 l0 c0) (s1 : RowI w sa1 r1.sids) (t1 : RowL w la1 r1.locs) (u1 : RawCaps r1 sc1 lc1) :
  Calls Tryz.prog 3 #[.slice a0 l0 c0, rv r1 (.slice sa1 r1.sids.length sc1) (.slice la1 r1.locs.length lc1)] w fun e w' => e = .returned (.bool true) ∧ Below w.heap.size w w' := by
 exact refuses_walk @fit_all a0 l0 c0 r1 sa1 la1 sc1 lc1 w hS w0 s1 t1 u1

set_option maxRecDepth 100000 in
set_option maxHeartbeats 2000000 in
theorem lifted (os : Os) (started : os.Started) (H : Type) (enc : TypeId × Value → H) :
  ReturnsInHanded {} Tryz.checked os 3 .any (fun w args => (Rows.metaRefusesSpec.pre enc Tryz.prog Tryz.f3 [] false w args ∧ laidMetH Tryz.prog Rows.metaRefusesRow.laid w) ∧ sizedMet enc Tryz.prog Tryz.f3 (OpenSpec.ofChange Rows.metaRefusesSpec) false w args) (Rows.metaRefusesSpec.post enc Tryz.prog Tryz.f3 false true false false) := by
 refine returnsInHanded_of_change_and (C := Tryz.checked) (X := fun w _ => laidMetH Tryz.prog Rows.metaRefusesRow.laid w) (fun _ _ _ hh h => h.of_heap hh) own started (by kernel_rfl) Tryz.func3
  (ChangeSpec.witness_shaped (enc := enc) (C := Tryz.checked) (os := os) (X := fun w _ => laidMetH Tryz.prog Rows.metaRefusesRow.laid w) false (World.doorLaid Tryz.prog 400 os) #[.slice none 0 0, .agg #[.int .i64 0, .string ⟨#[]⟩, .int .i64 0, .int .i64 0, .slice none 0 0, .int .i64 0, .slice none 0 0, .int .i64 0, .int .i64 0, .int .i64 0, .int .i64 0, .int .i64 0, .int .i64 0]] 8 rfl (World.shaped_of_RefB (by kernel_rfl) (by kernel_rfl)) (by kernel_rfl) (by kernel_rfl) (by kernel_rfl) (door_met os _)) ?_
 intro W base args ds gs before hval0 hW _ _ hL _
 have hS : Shp W := shp_of_laid hL
 have hval : ∀ (j : Nat) t v, Tryz.f3.params[j]? = some t → args[j]? = some v → Value.okWide Tryz.prog W .any base t v := hval0
 have hW' := hW
 obtain ⟨p, q, hA0, hV, rfl, hfz, hnd⟩ := hW
 have hA : DataW.TrodAll enc Tryz.prog W 0 (fun _ => true) true Tryz.f3.params.toList args.toList ds p := hA0
 rw [Tryz.params3] at hA hval
 obtain ⟨v0, vs0, d0, ds0, p0, q0, hargs, rfl, rfl, h0, rr0⟩ := trodAll_cons hA
 obtain ⟨v1, vs1, d1, ds1, p1, q1, rfl, rfl, rfl, h1, rr1⟩ := trodAll_cons rr0
 obtain ⟨rfl, rfl, rfl⟩ := trodAll_nil rr1
 obtain rfl : args = #[v0, v1] := by cases args; simp_all
 obtain ⟨rfl, rfl⟩ := trodVars_none hV
 have k0 := h0
 have lt0 : ∀ x ∈ p0, x.block < W.heap.size := by obtain ⟨m, hm⟩ := k0; exact DataW.trod_lt m _ _ _ hm
 obtain ⟨a0, l0, c0, rfl⟩ := okWide_slice Tryz.underlying22 (hval 0 22 v0 rfl rfl)
 have w0 : CamR W a0 l0 c0 := by
  obtain ⟨fuel, hf⟩ := h0
  rcases Go.Deep.open_int_rows Tryz.underlying22 Tryz.underlying23 Tryz.underlying3 cellsR cellsE hf with ⟨hcs, _⟩ | ⟨x, l, c, A, L, C, Z, hcs, _, hl, hm, _, hr⟩
  ·simp [Value.cells] at hcs
   obtain ⟨rfl, rfl, rfl⟩ := hcs
   exact Or.inl ⟨rfl, rfl, rfl⟩
  ·simp [Value.cells] at hcs
   obtain ⟨rfl, rfl, rfl⟩ := hcs
   refine Or.inr (Exists.intro _ (And.intro rfl ⟨A, L, C, Z, hl, hm, fun r hr' => ?_⟩))
   obtain ⟨h1, h2, h3, h4, h5, h6, h7⟩ := hr r hr'
   refine ⟨h1, ?_⟩
   cases e : A r with
   | none =>
    have e0 := h6 e
    exact .inl ⟨rfl, by omega, e0, List.eq_nil_of_length_eq_zero (by rw [h4]; exact e0)⟩
   | some y => exact .inr ⟨y, rfl, h2, h3, h4, fun i hi => (h7 y e).2 i (by rw [← h4]; exact hi), h5⟩
 have k1 := h1
 have lt1 : ∀ x ∈ p1, x.block < W.heap.size := by obtain ⟨m, hm⟩ := k1; exact DataW.trod_lt m _ _ _ hm
 obtain ⟨r1, sa1, la1, sc1, lc1, rfl, s1, t1, ua1, ub1, uc1, ud1, _⟩ := open_recv (hval 1 28 v1 rfl rfl) h1
 clear hA0 hval0
 refine (walk a0 l0 c0 r1 sa1 la1 sc1 lc1 W hS w0 s1 t1 ⟨ua1, ub1, uc1, ud1⟩).mono fun e W' ⟨he, bel⟩ => ?_
 subst he
 exact ⟨_, rfl, _, _, _, [], _, [], hW', trodAll_mk1 (shut_bool Tryz.underlying4 _), (trodAll_cons_mk (Below.trod laidOut (by kernel_rfl) (of_decide_eq_true (by kernel_rfl)) k0 bel lt0) (trodAll_cons_mk (Below.trod laidOut (by kernel_rfl) (of_decide_eq_true (by kernel_rfl)) k1 bel lt1) trodAll_mk0)), rfl, bel.frame _, fun h => by cases h⟩

theorem over : Rows.metaRefusesRow.holds Tryz.pinned (OpenSpec.ofChange Rows.metaRefusesSpec) :=
 OpenClaim.holds_of_wide 3 Tryz.f3 rfl rfl rfl rfl rfl rfl rfl ⟨rfl, rfl, rfl, rfl, rfl⟩ rfl rfl rfl rfl rfl (by kernel_rfl) Tryz.func3 (by kernel_rfl)
  (of_decide_eq_true (by kernel_rfl)) (by unfold Func.isWrapper; first | (rw [if_pos (by decide +kernel)]; kernel_rfl) | (rw [if_neg (by decide +kernel)]; exact ⟨rfl, rfl⟩))
  (fun os started H enc _ => lifted os started H enc)

theorem proved : Rows.MetaRefusesCardSaid :=
 Claim7.holds_tied_plain_at .later [] [.data] true Rows.metaRefusesCard.stood.harness Rows.metaRefusesCard.stood.looks
  over (fun _ h => by cases h) (by kernel_rfl) (fun _ h => by cases h) metaRefuses_row_tie rfl ⟨rfl, rfl⟩ (by kernel_rfl) rfl
  (fun f fn hf hfn => by
   obtain rfl : f = 3 := Option.some.inj ((show Tryz.prog.funcNamed "hypocaust/hypocaustlaw14.MetaRefuses" = some 3 by kernel_rfl).symm.trans hf) |>.symm
   obtain rfl : fn = Tryz.f3 := (Option.some.inj (Tryz.func3.symm.trans hfn)).symm
   exact ⟨by kernel_rfl, fun j t ht => by
    rw [Tryz.params3] at ht
    have hm : t ∈ [22, 28] := by simpa using Array.mem_of_getElem? ht
    have hall : ([22, 28].all fun u => !Tryz.prog.wantsStandIn u) = true := by kernel_rfl
    exact (show Tryz.prog.wantsStandIn t = false by simpa using List.all_eq_true.1 hall t hm)⟩)
  (by kernel_rfl)
#print axioms proved
end Go.Proofs.YtepggchnhgpcnaaGreatDoor.metaRefuses
