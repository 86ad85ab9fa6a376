/- The tape only goes on: 'Used' and 'Free' of a Bay, told so; what turns nothing is a world with new blocks behind it. -/
import Derived.Test.YtcejdobmgbielaaRkRack
import Derived.Sort.Grow
namespace Go.Proofs.Ytcejdobmgbielaa
open Go.RowKit
set_option linter.unusedVariables false

/-- Nothing that was there turns; the tape goes on. -/
structure Ud (w w' : World) : Prop where
  up : Up Nul w w'
  dr : w.drawn ≤ w'.drawn
theorem Ud.refl (w : World) : Ud w w := ⟨Up.refl _ _, Nat.le_refl _⟩
theorem Ud.trans {u v w : World} (h : Ud u v) (k : Ud v w) : Ud u w := ⟨h.up.trans k.up, Nat.le_trans h.dr k.dr⟩
theorem Ud.alloc {u w : World} (h : Ud u w) (o : Obj) : Ud u (w.alloc o) := ⟨h.up.alloc o, h.dr⟩
theorem Ud.drew {u w : World} (h : Ud u w) : Ud u w.drew := ⟨h.up.drew, Nat.le_succ_of_le h.dr⟩
/-- .. so it is the world itself, with new blocks behind it. -/
theorem Ud.grow {w w' : World} (h : Ud w w') : ∃ q os, w' = Go.Sort.grow (w.drewN q) os := by
  obtain ⟨⟨h1, h2, h3, h4, h5⟩, h6⟩ := h
  refine ⟨w'.drawn - w.drawn, w'.heap.extract w.heap.size w'.heap.size, ?_⟩
  have e1 : w.drawn + (w'.drawn - w.drawn) = w'.drawn := by omega
  have e2 : w'.heap = w.heap ++ w'.heap.extract w.heap.size w'.heap.size := by
    apply Array.ext_getElem?
    intro i
    rw [Array.getElem?_append]
    by_cases hi : i < w.heap.size
    · rw [if_pos hi]
      exact h5 i hi id
    · rw [if_neg hi, Array.getElem?_extract]
      by_cases hj : i < w'.heap.size
      · rw [if_pos (by omega)]
        congr 1
        omega
      · rw [if_neg (by omega), Array.getElem?_eq_none (by omega)]
  cases w with
  | mk heap tape drawn os out =>
    cases w' with
    | mk heap' tape' drawn' os' out' =>
      simp only at h1 h2 h3 e1 e2
      subst h1 h2 h3
      show _ = World.mk _ _ _ _ _
      simp only [World.drewN]
      congr 1
      exact e1.symm
/-- append goes on. -/
theorem append_drawn (w w' : World) (v v' : Value) (t ty e : TypeId) (i : TypeInfo) (z : Value) (base n m : Nat) (xs : List Value) (ht : Try.prog.underlying t = some (.slice e)) (hi : Try.prog.info? e = some i) (hz : i.zero = some z) (hown : w.ownsRow base e i.size v n xs)
    (a : Addr) (c : Nat) (news : List Value) (h0 : 0 < m) (hl : news.length = m * i.size) (hnews : ∀ j u, news[j]? = some u → w.cell? (a.add j) = some u) (h1 : ∀ u ∈ news, u.oneCell' = true) (h63 : n + m ≤ 1000000) (hb : i.bytes ≤ 1000)
    (hrun : (Builtin.append_ #[t, t] ty #[v, .slice (some a) m c]).run Try.prog w = .ok v' w') : w.drawn ≤ w'.drawn := by
  have hm : (n + m) * i.bytes ≤ 140737488355328 := by
    have := Nat.mul_le_mul h63 hb
    omega
  have hm2 : m * i.bytes ≤ 140737488355328 := Nat.le_trans (Nat.mul_le_mul_right _ (Nat.le_add_left m n)) hm
  rcases hown.2 with ⟨rfl, rfl⟩ | ⟨g, cap, cur, rfl, hbg, hg, hnc, hcm, hcs, htake⟩
  · have hr := run_append_nil (P := Try.prog) w t ty e i z ht hi hz a m c news hl hnews h0 (by omega) (by omega)
    rw [hrun] at hr
    injection hr with _ hr
    rw [hr]
    exact Nat.le_succ _
  · by_cases hroom : n + m ≤ cap
    · have hfit : n * i.size + news.length ≤ cur.size := by rw [hl, hcs, ← Nat.add_mul]; exact Nat.mul_le_mul_right _ hroom
      have hr := run_append_room (P := Try.prog) w t ty e i ht hi g n cap cur hg a m c news hl hnews h1 hroom hfit
      rw [hrun] at hr
      injection hr with _ hr
      rw [hr]
      exact Nat.le_refl _
    · have holds : ∀ j u, xs[j]? = some u → w.cell? ((⟨g, 0, none⟩ : Addr).add j) = some u := hown.cells (g := g) rfl
      have hr := run_append_grow (P := Try.prog) w t ty e i z ht hi hz ⟨g, 0, none⟩ n cap xs hown.1 holds a m c news hl hnews (by omega) (by omega) (growslice_fits (by omega) hm)
      rw [hrun] at hr
      injection hr with _ hr
      rw [hr]
      exact Nat.le_succ _
/-- append(v, one int), the tape told. -/
theorem wpList_append_intD {w : World} {ops : Array Oper} {rest : List Oper} {o : Oper} {a : Act} {Q : Exit → Act → World → Prop} (hgd : o.guard = none) (s x : Operand)
    (ho : o.op = .call { callee := .builtin .append, args := #[s, x], argTypes := #[22, 22] }) (base : Nat) (v : Value) (xs : List Value) (hs : a.eval s = v) (hown : OwnV 3 base w v xs)
    (ad : Addr) (cap : Nat) (y : Int) (hx : a.eval x = .slice (some ad) 1 cap) (hc : w.cell? ad = some (.int .i64 y)) (hl : xs.length + 1 ≤ 1000000) (hbase : base ≤ w.heap.size)
    (h : ∀ v' w', Hid (OwnV 3 base w' v' (xs ++ [.int .i64 y])) → Hid (w.grownBy w' v.ownBlock ∧ w.drawn ≤ w'.drawn) → wpList Try.prog ops Q rest (a.put o.dst v') w') : wpList Try.prog ops Q (o :: rest) a w := by
  obtain ⟨i0, hi, hz, hz1, hz2⟩ := info_parts info_int
  have hnews : ∀ (j : Nat) (u : Value), [Value.int .i64 y][j]? = some u → w.cell? (ad.add j) = some u := fun j u hj => by
    match j, hj with
    | 0, hj => simp at hj; subst hj; simpa [Addr.add] using hc
  have h1 : ∀ u ∈ [Value.int .i64 y], u.oneCell' = true := fun u hu => by
    obtain rfl : u = .int .i64 y := by simpa using hu
    rfl
  obtain ⟨v', w', hrun, g1, g2, _⟩ := run_append_own (P := Try.prog) w base 22 o.type 3 i0 _ 1 8 Try.underlying22 hi hz hz1 hz2 rfl (by decide) v xs.length xs hown ad 1 cap [.int .i64 y] rfl hnews h1 (by unfold maxLen; omega) (by omega) hbase
  have hd := append_drawn w w' v v' _ _ _ i0 _ base xs.length 1 xs Try.underlying22 hi hz (by rw [hz1]; exact hown) ad cap [.int .i64 y] (by decide) (by rw [hz1]; rfl) hnews h1 hl (by rw [hz2]; omega) hrun
  refine wpList_plain hgd fun _ hK => ?_
  unfold Oper.wp
  simp [execOp, ho, resolve, invoke, builtin, hs, hx, hrun, Result.andThen]
  refine hK _ _ (h v' w' ?_ ⟨g2, hd⟩)
  show w'.ownsRow base _ 1 v' (xs ++ [Value.int .i64 y]).length (xs ++ [.int .i64 y])
  rw [List.length_append]
  exact g1
section
variable {w w' : World} {q b ub n : Nat} {U : Nat → Bool} {F : Nat → Prop}
set_option maxHeartbeats 800000 in
theorem pusedD_any (h : PBs w q b n U F) (hn : n ≤ 64) : Calls Try.prog 14 #[.pointer (some ⟨q, 0, none⟩)] w fun e w' => ∃ a c, e = .returned (.slice a (us U n).length c) ∧ Ud w w' := by
  obtain ⟨ub, h1, _⟩ := h
  have H := hid h1
  have HLE := hid hn
  have c1 := h1.c1
  clear h1 hn
  go_enter Try.func14, Try.ntmps14
  go_wp2_with fail
  clear c1
  go_loopw [3, 11] (fun v i wr => ∃ t : Nat, t ≤ n ∧ i = .int .i64 (t : Nat) ∧ OwnV 3 w.heap.size wr v (usV U t) ∧ Ud w wr) (fun _ i _ => n - (intOf i).toNat)
  case atStart => exact ⟨0, Nat.zero_le _, rfl, OwnV.nil _ _ _, Ud.refl _⟩
  case round =>
    obtain ⟨t, ht, rfl, ho, hu⟩ := hrel
    have HO := hid ho
    have HU := hid hu
    clear ho hu
    have i0 : (0 : Int) ≤ (t : Int) := by omega
    have i2 : (t : Int) ≤ 64 := by have := HLE.out; omega
    obtain ⟨va, vc, rfl⟩ := HO.out.shape
    by_cases hlt : t < n
    · have i1 : (t : Int) < (n : Int) := by omega
      have cu := (H.out.nxt HU.out.up).row.cell hlt
      cases hub : U t with
      | false =>
        rw [hub] at cu
        have HN : Hid (OwnV 3 w.heap.size wr (.slice va (usV U t).length vc) (usV U (t + 1))) := by show OwnV _ _ _ _ _; rw [usV_no hub]; exact HO.out
        have HT := hid hlt
        clear hub hlt ht
        generalize (usV U t).length = L at HO HN ⊢
        go_wp2_with fail
        go_roundw
        case rel => exact ⟨t + 1, HT.out, by go_num, HN.out, HU.out⟩
        case measure => have := HT.out; simp [intOf]; omega
      | true =>
        rw [hub] at cu
        have HY := hid (usV_yes hub)
        have HT := hid hlt
        have HL : Hid ((usV U t).length + 1 ≤ 1000000) := by show _ ≤ _; rw [usV_length]; have := us_length U t; omega
        have HOA := hid (HO.out.alloc (.cells #[.int .i64 (t : Nat)] 3))
        have HSZ : Hid (w.heap.size ≤ (wr.alloc (.cells #[.int .i64 (t : Nat)] 3)).heap.size) := (HU.out.up.alloc _).size
        clear hub hlt ht
        generalize (usV U t).length = L at HO HOA ⊢
        go_wp2_with (first
          | (at_builtin; refine wpList_append_intD rfl (.tmp 17) (.tmp 19) rfl w.heap.size _ _ rfl HOA.out ⟨wr.heap.size, 0, none⟩ 1 (t : Int) rfl (World.cell?_alloc_new _ _ _ 0) HL.out HSZ.out ?_; intro v2 w2 H2 K2)
          | fail)
        have H3 : Hid (OwnV 3 w.heap.size w2 v2 (usV U (t + 1))) := by show OwnV _ _ _ _ _; rw [HY.out]; exact H2.out
        have U3 : Hid (Ud w w2) := ⟨(HU.out.up.alloc _).grown K2.out.1 fun q hq => HO.out.base q hq, Nat.le_trans HU.out.dr K2.out.2⟩
        clear HY H2 K2
        go_wp2_with fail
        go_roundw
        case rel => exact ⟨t + 1, HT.out, by go_num, H3.out, U3.out⟩
        case measure => have := HT.out; simp [intOf]; omega
    · obtain rfl : t = n := by omega
      have HE : Hid ((usV U t).length = (us U t).length) := usV_length U t
      go_wp2_with fail
      go_ret
      exact ⟨va, vc, by rw [← HE.out]; rfl, HU.out⟩
theorem pfreeD_any (h : PBs w q b n U F) (hn : n ≤ 64) : Calls Try.prog 21 #[.pointer (some ⟨q, 0, none⟩)] w fun e w' => e = .returned (.int .i64 ((n : Int) - ((us U n).length : Nat))) ∧ Ud w w' := by
  have HL : Hid (∀ W, Ud w W → Calls Try.prog 14 #[.pointer (some ⟨q, 0, none⟩)] W fun e w' => ∃ a c, e = .returned (.slice a (us U n).length c) ∧ Ud W w') := fun W u =>
    pusedD_any (h.keep fun g hg => u.up.block g (h.lt g hg) id) hn
  obtain ⟨ub, h1, _⟩ := h
  have HC : Hid (∀ W, Ud w W → W.cell? ⟨q, 1, none⟩ = some (.slice (some ⟨ub, 0, none⟩) n n)) := fun W u => (h1.nxt u.up).c1
  have hle := us_length U n
  generalize (us U n).length = L at HL hle ⊢
  have HR0 : Hid (Ud w w) := Ud.refl _
  have i1 : (L : Int) ≤ (n : Int) := by omega
  have i2 : (n : Int) ≤ 64 := by omega
  have i3 : IntKind.i64.wrap ((n : Int) - (L : Int)) = (n : Int) - (L : Int) := IntWalk.i64_in _ (by omega)
  clear h1
  go_enter Try.func21, Try.ntmps21
  go_wp2_with fail
  go_region_held3 (fun W => Ud w W ∧ W.cell? ⟨q, 1, none⟩ = some (.slice (some ⟨ub, 0, none⟩) n n))
    (first | exact ⟨by assumption, HC.out _ (by assumption)⟩ | exact ⟨HR0.out.drew, HC.out _ HR0.out.drew⟩)
    ((go_at_call 14; (with_reducible refine (HL.out _ (by first | exact HR0.out.drew | assumption)).mono ?_); rintro e wb ⟨a, c, rfl, kb⟩; have ob : Ud w wb := (by first | exact HR0.out.drew.trans kb | exact Ud.trans (by assumption) kb); clear kb))
  all_goals
    have OB := hid ob
    clear ob
    go_wp2_with fail
    go_ret
    exact ⟨rfl, OB.out⟩
end
theorem dk_freeD {w : World} {m : Nat} {fu : Option Nat} {s : DS} {F : Nat → Prop} (h : Dk w m fu s F) : Calls Try.prog 21 #[.pointer (some ⟨s.q, 0, none⟩)] w fun e w' => e = .returned (.int .i64 (fre m s : Nat)) ∧ Ud w w' := by
  obtain ⟨d, G, h1, h2, _⟩ := h.ex
  refine (pfreeD_any h2 h.le).mono ?_
  rintro e w' ⟨rfl, u⟩
  refine ⟨?_, u⟩
  have hle := us_length s.U m
  congr 2
  unfold fre
  omega
end Go.Proofs.Ytcejdobmgbielaa
