/- The statements' own 'Shards', walked. -/
import Derived.Test.YtcmcejgjajfkbaaCodeShards
namespace Go.Proofs.Ytcmcejgjajfkbaa
open Go.RowKit
set_option linter.unusedVariables false

set_option maxRecDepth 100000 in
set_option maxHeartbeats 3200000 in
theorem shards_any (FS : List Nat) (w0 w : World) (g o n cap : Nat) (x : Int) (X : Nat → Bool) (R : Nat → List Nat) (hs : LS w0 FS w) (hR : LL FS w g o n fun i => some (R i)) (hl : ∀ i, (R i).length ≤ 64) (hn : n ≤ 60) (hX : ∀ t, t < n → (bits .and .u64 (x / 2 ^ t) 1 == 1) = X t) :
    Calls Try.prog 24 #[.slice (some ⟨g, o, none⟩) n cap, .int .u64 x] w
      fun e w' => ∃ v1 v2 xs, e = .returned (.tuple #[v1, v2]) ∧ Mds w X n R v1 v2 xs w' := by
  have HS := hid (And.intro hs (And.intro hR (And.intro hl hX)))
  clear hs hR hl hX
  go_enter Try.func24, Try.ntmps24
  go_wp2_with fail
  go_loopw [6, 7, 8] (fun v1 v2 i wr => ∃ t : Nat, t ≤ n ∧ i = .int .i64 t ∧ ∃ xs, Mds w X t R v1 v2 xs wr) (fun _ _ i _ => n - (intOf i).toNat)
  case atStart => exact ⟨0, by omega, rfl, _, Mds.start _ _ _⟩
  case round =>
    obtain ⟨t, ht, rfl, xs, hm⟩ := hrel
    have HM := hid hm
    clear hm
    by_cases hlt : t < n
    · have hxl : xs.length + 1 ≤ 1000000 := by rw [HM.out.len]; omega
      have hwz : w.heap.size ≤ wr.heap.size := HM.out.up.size
      have M0 : Hid (Mid 0 w.heap.size t wr u6 u7 u6 u7 xs (shC X R t) wr) := ⟨HM.out.own, HM.out.two, Up.refl _ _, hwz⟩
      cases hb : X t with
      | true =>
        have hb' : (bits .and .u64 (x / 2 ^ t) 1 == 1) = true := by rw [HS.out.2.2.2 t hlt, hb]
        go_wp2_with (first
          | (at_builtin; refine wpList_append_vals Try.underlying33 info_sl rfl (by omega) rfl (.tmp 21) (.tmp 22) rfl w.heap.size u6 xs rfl (OwnV.alloc HM.out.own _) ⟨wr.heap.size, 0, none⟩ 1 1 [.slice none 0 0] rfl (fun j u hj => by
              match j, hj with
              | 0, hj => cases hj; exact World.cell?_alloc_new wr _ _ 0) (fun u hu => by cases hu with | head => rfl | tail _ h => cases h) rfl hxl (M0.out.alloc _).lt ?_; intro v2 w2 G1 G2; have MA := hid ((M0.out.alloc _).growA G1.out G2.out))
          | (at_builtin; refine wpList_append_shard rfl (.tmp 24) (.tmp 26) rfl w.heap.size t u7 _ rfl (MA.out.alloc _).b w2.heap.size 1 (.string ByteArray.empty) (.bool false) rfl (World.cell?_alloc_new w2 _ _ 0) (World.cell?_alloc_new w2 _ _ 1) rfl rfl (by omega) (MA.out.alloc _).lt ?_; intro v3 w3 G3 G4; have MB := hid ((MA.out.alloc _).growB G3.out G4.out))
          | go_in)
        go_roundw
        case rel => exact ⟨t + 1, by omega, by go_num, _, HM.out.next MB.out.up MB.out.a MB.out.b (by unfold outS; rw [if_pos hb]; exact rfl) (by rw [if_pos hb])⟩
        case measure => simp [intOf]; omega
      | false =>
        have hb' : (bits .and .u64 (x / 2 ^ t) 1 == 1) = false := by rw [HS.out.2.2.2 t hlt, hb]
        obtain ⟨b, so, cp, x1, r1⟩ := HS.out.2.1.at hlt rfl
        replace x1 := (HM.out.up.cell (p := ⟨g, o + t, none⟩) HS.out.2.1.lt id).trans x1
        have HR1 := hid r1
        obtain ⟨lr, LR⟩ : ∃ q, Hid (R t = q) := ⟨_, rfl⟩
        have hlr : lr.length ≤ 64 := by rw [← LR.out]; exact HS.out.2.2.1 t
        rw [LR.out] at x1 HR1
        obtain ⟨l, LL⟩ : ∃ q, Hid (lr.length = q) := ⟨_, rfl⟩
        rw [LL.out] at x1 hlr
        have HXB : Hid (g < w.heap.size ∧ b < w.heap.size) := ⟨HS.out.2.1.lt, HR1.out.lt⟩
        have HRW : Hid (Row w b so lr) := HR1.out.row
        have hmk := fun w => make_cap w l (by omega)
        have i1 : (0 : Int) ≤ (t : Int) := by omega
        have i2 : (t : Int) < (n : Int) := by omega
        have i3 : IntKind.i64.wrap ((l : Int) + 1) = (l : Int) + 1 := IntWalk.i64_in _ (by omega)
        have q1 : wr.drew.cell? ⟨g, o + t, none⟩ = some (.slice (some ⟨b, so, none⟩) l cp) := x1
        have q0 : (wr.alloc (.cells (bys (zer (l + 1))) 5)).drew.cell? ⟨g, o + t, none⟩ = some (.slice (some ⟨b, so, none⟩) l cp) := (((Up.refl Nul wr).alloc _).cell (p := ⟨g, o + t, none⟩) (Nat.lt_of_lt_of_le HXB.out.1 hwz) id).trans x1
        have UD : Hid (Up Nul wr (wr.alloc (.cells (bys (zer (l + 1))) 5)).drew) := ((Up.refl _ _).alloc _).drew
        clear r1 x1
        go_wp2_with fail
        go_region_held3 (fun w' => w'.cell? ⟨g, o + t, none⟩ = some (.slice (some ⟨b, so, none⟩) l cp))
          (first | assumption | go_keep)
          ((refine step_append_there (by rfl) (.tmp 34) (.tmp 38) (by rfl) wr.heap.size _ [] (by rfl) ((OwnB.made wr.heap.size wr l (Nat.le_refl _) (by omega)).drewN 1) (by intro e; cases e) b so l cp lr (by rfl) (HRW.out.up (HM.out.up.trans UD.out) HXB.out.2 id) LL.out (by simp; omega) UD.out.size ?_; intro v2 w2 G1 G2; have U2 := hid (UD.out.grown G2.out (fun k hk => (OwnB.made wr.heap.size wr l (Nat.le_refl _) (by omega)).base k hk)); have q2 : w2.cell? ⟨g, o + t, none⟩ = some (.slice (some ⟨b, so, none⟩) l cp) := (U2.out.cell (p := ⟨g, o + t, none⟩) (Nat.lt_of_lt_of_le HXB.out.1 hwz) id).trans q1))
        obtain ⟨q, cq, rfl, hq, hp⟩ := G1.out.1.pc G1.out.2
        rw [show ([] ++ lr : List Nat).length = l from LL.out]
        have HP : Hid (Pc w2 q lr ∧ wr.heap.size ≤ q) := ⟨hp, hq⟩
        have M2 : Hid (Mid 0 w.heap.size t w2 u6 u7 u6 u7 xs (shC X R t) w2) := ⟨OwnV.apart M0.out.a U2.out (fun _ _ => id), M0.out.b.apart U2.out (fun _ _ => id), Up.refl _ _, Nat.le_trans hwz U2.out.size⟩
        obtain ⟨sR, SR⟩ : ∃ s, Hid (strOf lr = s) := ⟨_, rfl⟩
        have CC : Hid (∀ W : World, Up (fun q => some q = u6.ownBlock ∨ some q = u7.ownBlock) w2 W → W.cell? ⟨g, o + t, none⟩ = some (.slice (some ⟨b, so, none⟩) l cp) ∧ (convert 22 9 (.slice (some ⟨b, so, none⟩) l cp)).run Try.prog W = .ok (.string sR) W) := fun W u => by
          have hn1 : ∀ k, k < w.heap.size → ¬ (some k = u6.ownBlock ∨ some k = u7.ownBlock) := fun k hk e => by
            rcases e with e | e
            · have := M2.out.a.base k e.symm; omega
            · have := M2.out.b.base k e.symm; omega
          refine ⟨(u.cell (p := ⟨g, o + t, none⟩) (Nat.lt_of_lt_of_le HXB.out.1 (Nat.le_trans hwz U2.out.size)) (hn1 g HXB.out.1)).trans q2, ?_⟩
          rw [← SR.out]
          exact conv_row ((HRW.out.up (HM.out.up.trans U2.out) HXB.out.2 id).up u (Nat.lt_of_lt_of_le HXB.out.2 (Nat.le_trans hwz U2.out.size)) (hn1 b HXB.out.2)) LL.out
        have q3 := CC.out w2.drew (Up.refl _ _).drew
        have q4 := q3.1
        have q5 := q3.2
        clear q0 q1 q2 q3 hq hp hmk i3 hwz
        go_wp2_with fail
        go_region_held3 (fun w' => w'.cell? ⟨g, o + t, none⟩ = some (.slice (some ⟨b, so, none⟩) l cp) ∧ (convert 22 9 (.slice (some ⟨b, so, none⟩) l cp)).run Try.prog w' = .ok (.string sR) w')
          (first | exact CC.out _ (by first | exact (Up.refl _ _).drew | exact ((Up.refl _ _).alloc _).drew | exact (((Up.refl _ _).alloc _).alloc _).drew | exact MA.out.up | exact MB.out.up | exact MA.out.up.alloc _ | exact MB.out.up.alloc _))
          ((first
            | (refine step_append_one (by rfl) (.tmp 40) (.tmp 42) (by rfl) w.heap.size u6 xs (by rfl) (by first | exact (M2.out.alloc _).drew.a | exact ((M2.out.alloc _).alloc _).drew.a | exact (MB.out.alloc _).a | exact MB.out.a) ⟨_, 0, none⟩ 1 (.slice (some ⟨q, 0, none⟩) l cq) (by rfl) (by first | exact World.cell?_alloc_new _ _ _ 0 | exact cell_one _ _ _ _ 0 | exact cell_two _ _ _ _ 0 | exact (KB.out _ _ _ G6 (by simp) (World.cell?_alloc_new _ _ _ 0)) | exact (KB.out _ _ _ G6 (by simp) (cell_one _ _ _ _ 0)) | exact (KB.out _ _ _ G6 (by simp) (cell_two _ _ _ _ 0))) (by rfl) hxl (by first | exact (M2.out.alloc _).drew.lt | exact ((M2.out.alloc _).alloc _).drew.lt | exact (MB.out.alloc _).lt | exact MB.out.lt) ?_; intro v3 w3 G3 G4; have MA := hid ((by first | exact (M2.out.alloc _).drew.growA G3.out G4.out | exact ((M2.out.alloc _).alloc _).drew.growA G3.out G4.out | exact (MB.out.alloc _).growA G3.out G4.out | exact MB.out.growA G3.out G4.out) : Mid 0 w.heap.size _ w2 u6 u7 v3 _ _ _ w3); have KA : Hid (∀ (W : World) (a : Addr) (y : Value), Hid (W.grownBy w3 u6.ownBlock) → w2.heap.size ≤ a.block → W.cell? a = some y → w3.cell? a = some y) := fun W a y hg hb hc => ((Up.ofg hg.out).cell (lt_of_cell hc) fun e => by have := (World.ownsRow.lt M2.out.a _ e.symm).2; omega).trans hc)
            | (refine step_append_shard (by rfl) (.tmp 44) (.tmp 51) (by rfl) w.heap.size t u7 _ (by rfl) (by first | exact (M2.out.alloc _).drew.b | exact ((M2.out.alloc _).alloc _).drew.b | exact (MA.out.alloc _).b | exact MA.out.b) _ 1 (.string sR) (.bool true) (by rfl) (by first | exact World.cell?_alloc_new _ _ _ 0 | exact cell_one _ _ _ _ 0 | exact cell_two _ _ _ _ 0 | exact (KA.out _ _ _ G4 (by simp) (World.cell?_alloc_new _ _ _ 0)) | exact (KA.out _ _ _ G4 (by simp) (cell_one _ _ _ _ 0)) | exact (KA.out _ _ _ G4 (by simp) (cell_two _ _ _ _ 0))) (by first | exact World.cell?_alloc_new _ _ _ 1 | exact cell_one _ _ _ _ 1 | exact cell_two _ _ _ _ 1 | exact (KA.out _ _ _ G4 (by simp) (World.cell?_alloc_new _ _ _ 1)) | exact (KA.out _ _ _ G4 (by simp) (cell_one _ _ _ _ 1)) | exact (KA.out _ _ _ G4 (by simp) (cell_two _ _ _ _ 1))) (by rfl) (by rfl) (by omega) (by first | exact (M2.out.alloc _).drew.lt | exact ((M2.out.alloc _).alloc _).drew.lt | exact (MA.out.alloc _).lt | exact MA.out.lt) ?_; intro v5 w5 G5 G6; have MB := hid ((by first | exact (M2.out.alloc _).drew.growB G5.out G6.out | exact ((M2.out.alloc _).alloc _).drew.growB G5.out G6.out | exact (MA.out.alloc _).growB G5.out G6.out | exact MA.out.growB G5.out G6.out) : Mid 0 w.heap.size _ w2 u6 u7 _ v5 _ _ w5); have KB : Hid (∀ (W : World) (a : Addr) (y : Value), Hid (W.grownBy w5 u7.ownBlock) → w2.heap.size ≤ a.block → W.cell? a = some y → w5.cell? a = some y) := fun W a y hg hb hc => ((Up.ofg hg.out).cell (lt_of_cell hc) fun e => by have := (World.ownsRow.lt M2.out.b _ e.symm).2; omega).trans hc)))
        all_goals
          go_wp2
          go_roundw
          case rel => first | exact ⟨t + 1, by omega, by go_num, _, HM.out.next (U2.out.nul.trans MA.out.up) MA.out.a MA.out.b (by unfold outS; rw [if_neg (by rw [hb]; exact Bool.false_ne_true)]; exact ⟨q, cq, by rw [LR.out, LL.out], by rw [LR.out]; exact HP.out.1.up MA.out.up (fun e => by rcases e with e | e; exact M2.out.a.ne_pc HP.out.1 e.symm; exact M2.out.b.ne_pc HP.out.1 e.symm), Nat.le_trans HM.out.up.size HP.out.2⟩) (by rw [if_neg (by rw [hb]; exact Bool.false_ne_true), LR.out, SR.out])⟩ | exact ⟨t + 1, by omega, by go_num, _, HM.out.next (U2.out.nul.trans MB.out.up) MB.out.a MB.out.b (by unfold outS; rw [if_neg (by rw [hb]; exact Bool.false_ne_true)]; exact ⟨q, cq, by rw [LR.out, LL.out], by rw [LR.out]; exact HP.out.1.up MB.out.up (fun e => by rcases e with e | e; exact M2.out.a.ne_pc HP.out.1 e.symm; exact M2.out.b.ne_pc HP.out.1 e.symm), Nat.le_trans HM.out.up.size HP.out.2⟩) (by rw [if_neg (by rw [hb]; exact Bool.false_ne_true), LR.out, SR.out])⟩
          case measure => simp [intOf]; omega
    · obtain rfl : t = n := by omega
      go_wp2
      go_ret2
      exact ⟨_, _, _, rfl, HM.out⟩
end Go.Proofs.Ytcmcejgjajfkbaa
