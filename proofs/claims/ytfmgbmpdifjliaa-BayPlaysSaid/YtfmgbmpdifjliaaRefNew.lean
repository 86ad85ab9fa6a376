/- The document's 'NewDisk' and 'Replace'. -/
import Derived.Test.YtfmgbmpdifjliaaRefWrite
namespace Go.Proofs.Ytfmgbmpdifjliaa
open Go.RowKit
set_option linter.unusedVariables false

theorem info_strg : (Try.prog.info? 9).map (fun i => (i.zero, i.size, i.bytes)) = some (some (.string ByteArray.empty), 1, 16) := by kernel_rfl
/-- append(d.Slots, one). -/
theorem run_append_str (w : World) (ty : TypeId) (v : Value) (n : Nat) (R : Nat → List Nat) (hown : w.ownsRow 0 9 1 v n (strV n R)) (bk : Nat) (x : ByteArray) (hx : x = strOf (R n)) (hb : w.heap[bk]? = some (.cells #[.string x] 9 (0, 0))) (hl : n ≤ 900000) :
    ∃ v' w', (Builtin.append_ #[61, 61] ty #[v, .slice (some ⟨bk, 0, none⟩) 1 1]).run Try.prog w = .ok v' w' ∧ w'.ownsRow 0 9 1 v' (n + 1) (strV (n + 1) R) ∧ w.grownBy w' v.ownBlock ∧ (v'.ownBlock = v.ownBlock ∨ v'.ownBlock = some w.heap.size) := by
  obtain ⟨i0, hi, hz, hz1, hz2⟩ := info_parts info_strg
  have hnews : ∀ (j : Nat) (u : Value), [Value.string x][j]? = some u → w.cell? (Addr.add ⟨bk, 0, none⟩ j) = some u := fun j u hj => by
    rw [add_off, Nat.zero_add]
    simp only [World.cell?, hb]
    simpa using hj
  have h1 : ∀ u ∈ [Value.string x], u.oneCell' = true := fun u hu => by
    obtain rfl : u = .string x := by simpa using hu
    rfl
  obtain ⟨v', w', hrun, g1, g2, _⟩ := run_append_own (P := Try.prog) w 0 61 ty 9 i0 _ 1 16 Try.underlying61 hi hz hz1 hz2 rfl (by decide) v n _ hown ⟨bk, 0, none⟩ 1 1 [.string x] rfl hnews h1 (by unfold maxLen; omega) (by omega) (Nat.zero_le _)
  exact ⟨v', w', hrun, by rw [strV_next, ← hx]; exact g1, g2, append_where w w' v v' _ _ _ i0 _ 0 n _ Try.underlying61 hi hz (by rw [hz1]; exact hown) ⟨bk, 0, none⟩ 1 [.string x] (by rw [hz1]; rfl) hnews h1 (by omega) (by rw [hz2]; omega) hrun⟩
theorem RD.growS {w w2 : World} {r : RK} (h : RD w r) (hn : r.n < 64) (h96 : (r.R r.n).length = 96) (hws : r.ws = []) (v' : Value) (own : w2.ownsRow 0 9 1 v' (r.n + 1) (strV (r.n + 1) r.R)) (u : Up (fun k => (Value.slice r.sa r.n r.sc).ownBlock = some k) w w2) :
    ∃ sa sc, v' = .slice sa (r.n + 1) sc ∧ RD (w2.setCell ⟨r.m, 0, none⟩ v') { r with sa := sa, sc := sc, n := r.n + 1 } := by
  rcases own.2 with ⟨_, e⟩ | ⟨g, cap, cur, rfl, hbg, hg, hrest⟩
  · omega
  · have hm2 := (u.block _ h.lt fun e => ne_own h.head h.slots (by decide) e rfl).trans h.head
    have hw2 : w2.ownsRow 0 98 3 (.slice r.wa r.ws.length r.wc) r.ws.length (wcells r.ws) := own_up h.wait u fun g hg e => (h.slots_ne e).2 hg
    have u2 := (Up.refl (One r.m) w2).put rfl 0 (.slice (some ⟨g, 0, none⟩) (r.n + 1) cap)
    refine ⟨_, _, rfl, ?_, ⟨own.1, .inr ⟨g, cap, cur, rfl, hbg, ?_, hrest⟩⟩, own_up hw2 u2 fun g' hg' e => ne_own hm2 hw2 (by decide) hg' e, by show r.n + 1 ≤ 64; omega, fun i hi => ?_, fun x hx => ?_, h.most⟩
    · have := heap_setCell_same w2 r.m 0 _ _ (.slice (some ⟨g, 0, none⟩) (r.n + 1) cap) hm2
      simpa using this
    · rw [u2.block g (Array.getElem?_eq_some_iff.1 hg).1 (fun e => ne_type hm2 hg (by decide) (by unfold One at e; exact e.symm))]
      exact hg
    · have hi : i < r.n + 1 := hi
      by_cases e : i = r.n
      · rw [e]; exact h96
      · exact h.lenR i (by omega)
    · have hx : x ∈ r.ws := hx
      rw [hws] at hx
      cases hx
set_option maxRecDepth 100000 in
set_option maxHeartbeats 3200000 in
theorem rnewDisk_any (x : Int) (f : Option Nat) (w : World) (hx : x ≤ 9223372036854775807) :
    Calls Try.prog 19 #[.int .i64 x, .pointer (fp f)] w fun e w' => ∃ r : RK, e = .returned (.pointer (some ⟨r.m, 0, none⟩)) ∧ RD w' r ∧ r.n = cnt x ∧ r.live = true ∧ r.ws = [] ∧ r.fu = f ∧ r.R = (fun _ => zer 96) ∧ (∀ g, r.foot g → w.heap.size ≤ g) ∧ Up Nul w w' := by
  have HBL : Hid (∀ W, Calls Try.prog 48 #[] W fun e w' => e = .returned (.string (strOf (zer 96))) ∧ Up Nul W w') := blank_any
  have H0 : Hid (RD (w.alloc (.cells #[.slice none 0 0, .bool true, .slice none 0 0, .pointer (fp f)] 65)) ⟨w.heap.size, none, 0, 0, true, none, 0, [], f, fun _ => zer 96⟩) :=
    ⟨heap_alloc_new _ _, World.ownsRow_nil _ _ _ _, World.ownsRow_nil _ _ _ _, by simp, (fun i hi => absurd hi (Nat.not_lt_zero _)), (fun x hx => by cases hx), by simp⟩
  have HU0 := hid ((Up.refl Nul w).alloc (.cells #[.slice none 0 0, .bool true, .slice none 0 0, .pointer (fp f)] 65))
  obtain ⟨m, M⟩ : ∃ m, Hid (w.heap.size = m) := ⟨_, rfl⟩
  rw [M.out] at H0
  obtain ⟨zs, ZS⟩ : ∃ z, Hid (strOf (zer 96) = z) := ⟨_, rfl⟩
  rw [ZS.out] at HBL
  have HX := hid hx
  clear hx
  go_enter Try.func19, Try.ntmps19
  go_wp2_with fail
  rw [M.out]
  generalize w.alloc (.cells #[.slice none 0 0, .bool true, .slice none 0 0, .pointer (fp f)] 65) = w1 at H0 HU0 ⊢
  go_loopw [6] (fun i wr => ∃ t : Nat, t ≤ cnt x ∧ i = .int .i64 (t : Nat) ∧ ∃ sa sc, RD wr ⟨m, sa, sc, t, true, none, 0, [], f, fun _ => zer 96⟩ ∧ (∀ g, (Value.slice sa t sc).ownBlock = some g → m ≤ g) ∧ Up Nul w wr) (fun i _ => 64 - (intOf i).toNat)
  case atStart => exact ⟨0, by omega, rfl, _, _, H0.out, (fun g hg => by cases hg), HU0.out⟩
  case round =>
    obtain ⟨t, ht, rfl, sa, sc, hd, hg, hu⟩ := hrel
    have HD := hid hd
    have HG := hid hg
    have HU := hid hu
    clear hd hg hu H0 HU0
    have hct : cnt x = min x.toNat 64 := rfl
    by_cases hlt : t < cnt x
    · have i1 : (t : Int) < x := by omega
      have i2 : (t : Int) < 64 := by omega
      have HT : Hid (t < 64 ∧ t + 1 ≤ cnt x) := ⟨by omega, by omega⟩
      have y0 := HD.out.c0
      have f0 := HD.out.fr 0
      dsimp only at y0 f0
      have HAP : Hid (∀ wb, Up Nul wr wb → ∃ sa2 sc2 w2, (Builtin.append_ #[61, 61] 61 #[.slice sa t sc, .slice (some ⟨wb.heap.size, 0, none⟩) 1 1]).run Try.prog (wb.alloc (.cells #[.string zs] 9)) = .ok (.slice sa2 (t + 1) sc2) w2 ∧ Hid (w2.cell? ⟨m, 0, none⟩ = some (.slice sa t sc) ∧ w2.frozen? ⟨m, 0, none⟩ = false ∧ RD (w2.setCell ⟨m, 0, none⟩ (.slice sa2 (t + 1) sc2)) ⟨m, sa2, sc2, t + 1, true, none, 0, [], f, fun _ => zer 96⟩ ∧ (∀ g, (Value.slice sa2 (t + 1) sc2).ownBlock = some g → m ≤ g) ∧ Up Nul w (w2.setCell ⟨m, 0, none⟩ (.slice sa2 (t + 1) sc2)))) := fun wb u => by
        have ua := u.alloc (.cells #[.string zs] 9)
        obtain ⟨v2, w2, hap, o2, gr, wh⟩ := run_append_str (wb.alloc (.cells #[.string zs] 9)) 61 (.slice sa t sc) t (fun _ => zer 96) (own_up HD.out.slots ua fun _ _ => id) wb.heap.size zs ZS.out.symm (heap_alloc_new _ _) (by have := HT.out; omega)
        have u2 : Up (fun k => (Value.slice sa t sc).ownBlock = some k) wr w2 := by
          refine ⟨gr.os.trans ua.os, gr.tape.trans ua.tape, gr.output.trans ua.output, Nat.le_trans ua.size gr.size, fun k hk hn => ?_⟩
          rw [gr.block k (Nat.lt_of_lt_of_le hk ua.size) (fun e => hn e.symm), ua.block k hk id]
        have hml := HD.out.lt
        have hmn : ¬ (Value.slice sa t sc).ownBlock = some m := fun e => ne_own HD.out.head HD.out.slots (by decide) e rfl
        obtain ⟨sa2, sc2, e, h3⟩ := HD.out.growS HT.out.1 (by simp [zer]) rfl v2 o2 u2
        dsimp only at e
        subst e
        refine ⟨sa2, sc2, w2, hap, ⟨(u2.cell (p := ⟨m, 0, none⟩) hml hmn).trans y0, (u2.froz (p := ⟨m, 0, none⟩) hml hmn).trans f0, h3, fun g hg => ?_, (HU.out.newer u2 fun i hi e => by have := HG.out i e; have := M.out; omega).setCell (.inl (Nat.le_of_eq M.out)) _⟩⟩
        rcases wh with wh | wh
        · exact HG.out g (wh ▸ hg)
        · rw [wh] at hg
          injection hg with hg
          have := ua.size
          have := HU.out.size
          have := M.out
          omega
      have HC : Hid (∀ W, Up Nul wr W → W.cell? ⟨m, 0, none⟩ = some (.slice sa t sc)) := fun W u => (u.cell (p := ⟨m, 0, none⟩) (lt_of_cell y0) id).trans y0
      have HUD : Hid (Up Nul wr wr.drew) := (Up.refl _ _).drew
      clear hct hlt ht
      go_wp2_with fail
      refine wp_region_held_drew (S := fun _ => True) (by kernel_rfl) (by exact trivial) (fun hHeld => ?_)
      refine wpAnyH_take (i := 0) (oi := ⟨some 19, _, _, _, _, _⟩) (v := ?vn0) rfl (by kernel_rfl) (by kernel_rfl) (by kernel_rfl) (fun _ _ _ h => h) (Or.inl ⟨by rfl, ?yn0⟩) (by assumption) ?rn0
      case yn0 => (intro w hSw; (try dsimp only at hSw); go_simp; try with_reducible rfl)
      try simp only [Act.put, List.setIfInBounds_toArray, List.set_cons_zero, List.set_cons_succ]
      refine wpAnyH_take (i := 1) (oi := ⟨some 20, _, _, _, _, _⟩) (v := ?vn1) rfl (by kernel_rfl) (by kernel_rfl) (by kernel_rfl) (fun _ _ _ h => h) (Or.inl ⟨by rfl, ?yn1⟩) (by assumption) ?rn1
      case yn1 => (intro w hSw; (try dsimp only at hSw); go_simp; try with_reducible rfl)
      try simp only [Act.put, List.setIfInBounds_toArray, List.set_cons_zero, List.set_cons_succ]
      refine wpAnyH_take (i := 2) (oi := ⟨some 21, _, _, _, _, _⟩) (v := ?vn2) rfl (by kernel_rfl) (by kernel_rfl) (by kernel_rfl) (fun _ _ _ h => h) (Or.inl ⟨by rfl, ?yn2⟩) (by assumption) ?rn2
      case yn2 => (intro w hSw; (try dsimp only at hSw); go_simp; try with_reducible rfl)
      try simp only [Act.put, List.setIfInBounds_toArray, List.set_cons_zero, List.set_cons_succ]
      refine wpAnyH_take (i := 3) (oi := ⟨some 22, _, _, _, _, _⟩) (v := ?vn3) rfl (by kernel_rfl) (by kernel_rfl) (by kernel_rfl) (fun _ _ _ h => h) (Or.inl ⟨by rfl, ?yn3⟩) (by assumption) ?rn3
      case yn3 => (intro w hSw; (try dsimp only at hSw); go_simp; try with_reducible rfl)
      try simp only [Act.put, List.setIfInBounds_toArray, List.set_cons_zero, List.set_cons_succ]
      refine wpAnyH_ready (rs := [4, 5]) (by kernel_rfl) (by simp) ?_
      refine (AllReadyH.cons (o := ⟨some 23, _, _, _, _, _⟩) rfl (fun K hK => ?_) (AllReadyH.cons (o := ⟨some 24, _, _, _, _, _⟩) rfl (fun K hK => ?_) AllReadyH.nil))
      · go_simp
        refine hK.out _ _ ?kla (fun hHeld => ?_)
        case kla => trivial
        clear hK K
        try simp only [Act.put, List.setIfInBounds_toArray, List.set_cons_zero, List.set_cons_succ]
        refine wpAnyH_ready (rs := [5]) (by kernel_rfl) (by simp) ?_
        refine (AllReadyH.cons (o := ⟨some 24, _, _, _, _, _⟩) rfl (fun K hK => ?_) AllReadyH.nil)
        go_simp
        refine (HBL.out _).mono ?_
        rintro e wb ⟨rfl, kb⟩
        have ob : Hid (Up Nul wr wb) := HUD.out.trans kb
        clear kb
        have yb := HC.out wb ob.out
        refine hK.out _ _ ?kca (fun hHeld => ?_)
        case kca => trivial
        clear hK K
        try simp only [Act.put, List.setIfInBounds_toArray, List.set_cons_zero, List.set_cons_succ]
        refine wpAnyH_ready (rs := [6]) (by kernel_rfl) (by simp) ?_
        refine (AllReadyH.cons (o := ⟨some 25, _, _, _, _, _⟩) rfl (fun K hK => ?_) AllReadyH.nil)
        go_simp
        refine hK.out _ _ ?kma (fun hHeld => ?_)
        case kma => trivial
        clear hK K
        try simp only [Act.put, List.setIfInBounds_toArray, List.set_cons_zero, List.set_cons_succ]
        obtain ⟨sa2, sc2, w2, hap, HE⟩ := HAP.out wb ob.out
        refine wpAnyH_ready (rs := [7]) (by kernel_rfl) (by simp) ?_
        refine (AllReadyH.cons (o := ⟨some 26, _, _, _, _, _⟩) rfl (fun K hK => ?_) AllReadyH.nil)
        refine wp_append_eq _ _ 61 rfl (.slice sa t sc) _ (.slice sa2 (t + 1) sc2) rfl rfl hap ?_
        refine hK.out _ _ ?kap (fun hHeld => ?_)
        case kap => trivial
        clear hK K
        try simp only [Act.put, List.setIfInBounds_toArray, List.set_cons_zero, List.set_cons_succ]
        refine wpAnyH_take (i := 8) (oi := ⟨some 27, _, _, _, _, _⟩) (v := ?vn8a) rfl (by kernel_rfl) (by kernel_rfl) (by kernel_rfl) (fun _ _ _ h => h) (Or.inl ⟨by rfl, ?yn8a⟩) (by assumption) ?rn8a
        case yn8a => (intro w hSw; (try dsimp only at hSw); go_simp; try with_reducible rfl)
        try simp only [Act.put, List.setIfInBounds_toArray, List.set_cons_zero, List.set_cons_succ]
        refine wpAnyH_take (i := 9) (oi := ⟨some 28, _, _, _, _, _⟩) (v := ?vn9a) rfl (by kernel_rfl) (by kernel_rfl) (by kernel_rfl) (fun _ _ _ h => h) (Or.inl ⟨by rfl, ?yn9a⟩) (by assumption) ?rn9a
        case yn9a => (intro w hSw; (try dsimp only at hSw); go_simp; try with_reducible rfl)
        try simp only [Act.put, List.setIfInBounds_toArray, List.set_cons_zero, List.set_cons_succ]
        have x3 := HE.out.1
        have x4 := HE.out.2.1
        refine wpAnyH_ready (rs := [10]) (by kernel_rfl) (by simp) ?_
        refine (AllReadyH.cons (o := ⟨none, _, _, _, _, _⟩) rfl (fun K hK => ?_) AllReadyH.nil)
        go_simp
        refine hK.out _ _ ?kas (fun hHeld => ?_)
        case kas => trivial
        clear hK K
        try simp only [Act.put, List.setIfInBounds_toArray, List.set_cons_zero, List.set_cons_succ]
        refine wpAnyH_done (by kernel_rfl) ?_ _
        have HE3 := hid HE.out.2.2
        clear HE HAP HC
        go_wp2
        go_roundw
        case rel => exact ⟨t + 1, HT.out.2, by go_num, _, _, HE3.out⟩
        case measure => simp only [intOf]; have := HT.out; omega
      · go_simp
        refine (HBL.out _).mono ?_
        rintro e wb ⟨rfl, kb⟩
        have ob : Hid (Up Nul wr wb) := HUD.out.trans kb
        clear kb
        have yb := HC.out wb ob.out
        refine hK.out _ _ ?kcb (fun hHeld => ?_)
        case kcb => trivial
        clear hK K
        try simp only [Act.put, List.setIfInBounds_toArray, List.set_cons_zero, List.set_cons_succ]
        refine wpAnyH_ready (rs := [4, 6]) (by kernel_rfl) (by simp) ?_
        refine (AllReadyH.cons (o := ⟨some 23, _, _, _, _, _⟩) rfl (fun K hK => ?_) (AllReadyH.cons (o := ⟨some 25, _, _, _, _, _⟩) rfl (fun K hK => ?_) AllReadyH.nil))
        · go_simp
          refine hK.out _ _ ?klb (fun hHeld => ?_)
          case klb => trivial
          clear hK K
          try simp only [Act.put, List.setIfInBounds_toArray, List.set_cons_zero, List.set_cons_succ]
          refine wpAnyH_ready (rs := [6]) (by kernel_rfl) (by simp) ?_
          refine (AllReadyH.cons (o := ⟨some 25, _, _, _, _, _⟩) rfl (fun K hK => ?_) AllReadyH.nil)
          go_simp
          refine hK.out _ _ ?kmb (fun hHeld => ?_)
          case kmb => trivial
          clear hK K
          try simp only [Act.put, List.setIfInBounds_toArray, List.set_cons_zero, List.set_cons_succ]
          obtain ⟨sa2, sc2, w2, hap, HE⟩ := HAP.out wb ob.out
          refine wpAnyH_ready (rs := [7]) (by kernel_rfl) (by simp) ?_
          refine (AllReadyH.cons (o := ⟨some 26, _, _, _, _, _⟩) rfl (fun K hK => ?_) AllReadyH.nil)
          refine wp_append_eq _ _ 61 rfl (.slice sa t sc) _ (.slice sa2 (t + 1) sc2) rfl rfl hap ?_
          refine hK.out _ _ ?kbp (fun hHeld => ?_)
          case kbp => trivial
          clear hK K
          try simp only [Act.put, List.setIfInBounds_toArray, List.set_cons_zero, List.set_cons_succ]
          refine wpAnyH_take (i := 8) (oi := ⟨some 27, _, _, _, _, _⟩) (v := ?vn8b) rfl (by kernel_rfl) (by kernel_rfl) (by kernel_rfl) (fun _ _ _ h => h) (Or.inl ⟨by rfl, ?yn8b⟩) (by assumption) ?rn8b
          case yn8b => (intro w hSw; (try dsimp only at hSw); go_simp; try with_reducible rfl)
          try simp only [Act.put, List.setIfInBounds_toArray, List.set_cons_zero, List.set_cons_succ]
          refine wpAnyH_take (i := 9) (oi := ⟨some 28, _, _, _, _, _⟩) (v := ?vn9b) rfl (by kernel_rfl) (by kernel_rfl) (by kernel_rfl) (fun _ _ _ h => h) (Or.inl ⟨by rfl, ?yn9b⟩) (by assumption) ?rn9b
          case yn9b => (intro w hSw; (try dsimp only at hSw); go_simp; try with_reducible rfl)
          try simp only [Act.put, List.setIfInBounds_toArray, List.set_cons_zero, List.set_cons_succ]
          have x3 := HE.out.1
          have x4 := HE.out.2.1
          refine wpAnyH_ready (rs := [10]) (by kernel_rfl) (by simp) ?_
          refine (AllReadyH.cons (o := ⟨none, _, _, _, _, _⟩) rfl (fun K hK => ?_) AllReadyH.nil)
          go_simp
          refine hK.out _ _ ?kbs (fun hHeld => ?_)
          case kbs => trivial
          clear hK K
          try simp only [Act.put, List.setIfInBounds_toArray, List.set_cons_zero, List.set_cons_succ]
          refine wpAnyH_done (by kernel_rfl) ?_ _
          have HE3 := hid HE.out.2.2
          clear HE HAP HC
          go_wp2
          go_roundw
          case rel => exact ⟨t + 1, HT.out.2, by go_num, _, _, HE3.out⟩
          case measure => simp only [intOf]; have := HT.out; omega
        · go_simp
          refine hK.out _ _ ?kmc (fun hHeld => ?_)
          case kmc => trivial
          clear hK K
          try simp only [Act.put, List.setIfInBounds_toArray, List.set_cons_zero, List.set_cons_succ]
          have yc : (wb.alloc (.cells #[.string zs] 9)).cell? ⟨m, 0, none⟩ = some (.slice sa t sc) := HC.out _ (ob.out.alloc _)
          refine wpAnyH_ready (rs := [4]) (by kernel_rfl) (by simp) ?_
          refine (AllReadyH.cons (o := ⟨some 23, _, _, _, _, _⟩) rfl (fun K hK => ?_) AllReadyH.nil)
          go_simp
          refine hK.out _ _ ?klc (fun hHeld => ?_)
          case klc => trivial
          clear hK K
          try simp only [Act.put, List.setIfInBounds_toArray, List.set_cons_zero, List.set_cons_succ]
          obtain ⟨sa2, sc2, w2, hap, HE⟩ := HAP.out wb ob.out
          refine wpAnyH_ready (rs := [7]) (by kernel_rfl) (by simp) ?_
          refine (AllReadyH.cons (o := ⟨some 26, _, _, _, _, _⟩) rfl (fun K hK => ?_) AllReadyH.nil)
          refine wp_append_eq _ _ 61 rfl (.slice sa t sc) _ (.slice sa2 (t + 1) sc2) rfl rfl hap ?_
          refine hK.out _ _ ?kcp (fun hHeld => ?_)
          case kcp => trivial
          clear hK K
          try simp only [Act.put, List.setIfInBounds_toArray, List.set_cons_zero, List.set_cons_succ]
          refine wpAnyH_take (i := 8) (oi := ⟨some 27, _, _, _, _, _⟩) (v := ?vn8c) rfl (by kernel_rfl) (by kernel_rfl) (by kernel_rfl) (fun _ _ _ h => h) (Or.inl ⟨by rfl, ?yn8c⟩) (by assumption) ?rn8c
          case yn8c => (intro w hSw; (try dsimp only at hSw); go_simp; try with_reducible rfl)
          try simp only [Act.put, List.setIfInBounds_toArray, List.set_cons_zero, List.set_cons_succ]
          refine wpAnyH_take (i := 9) (oi := ⟨some 28, _, _, _, _, _⟩) (v := ?vn9c) rfl (by kernel_rfl) (by kernel_rfl) (by kernel_rfl) (fun _ _ _ h => h) (Or.inl ⟨by rfl, ?yn9c⟩) (by assumption) ?rn9c
          case yn9c => (intro w hSw; (try dsimp only at hSw); go_simp; try with_reducible rfl)
          try simp only [Act.put, List.setIfInBounds_toArray, List.set_cons_zero, List.set_cons_succ]
          have x3 := HE.out.1
          have x4 := HE.out.2.1
          refine wpAnyH_ready (rs := [10]) (by kernel_rfl) (by simp) ?_
          refine (AllReadyH.cons (o := ⟨none, _, _, _, _, _⟩) rfl (fun K hK => ?_) AllReadyH.nil)
          go_simp
          refine hK.out _ _ ?kcs (fun hHeld => ?_)
          case kcs => trivial
          clear hK K
          try simp only [Act.put, List.setIfInBounds_toArray, List.set_cons_zero, List.set_cons_succ]
          refine wpAnyH_done (by kernel_rfl) ?_ _
          have HE3 := hid HE.out.2.2
          clear HE HAP HC
          go_wp2
          go_roundw
          case rel => exact ⟨t + 1, HT.out.2, by go_num, _, _, HE3.out⟩
          case measure => simp only [intOf]; have := HT.out; omega
    · have i3 : ¬ (t : Int) < x ∨ ¬ (t : Int) < 64 := by omega
      obtain rfl : t = cnt x := by omega
      have HEX : Hid (∀ g, RK.foot ⟨m, sa, sc, cnt x, true, none, 0, [], f, fun _ => zer 96⟩ g → w.heap.size ≤ g) := fun g hg => by
        rcases hg with e | e | e
        · have e : g = m := e
          have := M.out
          omega
        · have := HG.out g e
          have := M.out
          omega
        · cases e
      generalize hcx : cnt x = c at i3 HD HEX ⊢
      have HCX := hid hcx
      clear hcx hct hlt ht
      by_cases h1 : (c : Int) < x
      · have h2 : ¬ (c : Int) < 64 := by omega
        clear i3
        go_wp2
        go_ret
        exact ⟨_, rfl, HD.out, HCX.out.symm, rfl, rfl, rfl, rfl, HEX.out, HU.out⟩
      · clear i3
        go_wp2
        go_ret
        exact ⟨_, rfl, HD.out, HCX.out.symm, rfl, rfl, rfl, rfl, HEX.out, HU.out⟩
end Go.Proofs.Ytfmgbmpdifjliaa
