/- MetaWay on the pure Meta. -/
import Derived.Test.YtmhmlfgikmeejaaDoorMtLocs
import Derived.Test.YtmhmlfgikmeejaaDoorMtInv3
import Derived.Test.YtmhmlfgikmeejaaDoorMtKey
namespace Go.Proofs.YtmhmlfgikmeejaaDoor
open Go.RowKit Go.Maps
set_option linter.unusedVariables false

def wlocs (v k : Nat) : List Lo := (List.range k).map fun i => ⟨((v + i + 1 : Nat) : Int) % 24, ((v + i + 1 : Nat) : Int) % 64, ((v + i + 1 : Nat) : Int)⟩
theorem wlocs_next (v k : Nat) : wlocs v (k + 1) = wlocs v k ++ [⟨((v + k + 1 : Nat) : Int) % 24, ((v + k + 1 : Nat) : Int) % 64, ((v + k + 1 : Nat) : Int)⟩] := by simp [wlocs, List.range_succ]
theorem wlocs_len (v k : Nat) : (wlocs v k).length = k := by simp [wlocs]
set_option maxRecDepth 10000 in
set_option maxHeartbeats 4000000 in
theorem wlocs_any (W : World) (pi v k : Nat) (hk : 1 ≤ k ∧ k ≤ 6) (hv : v ≤ 100) (hb : W.heap[pi]? = some (.cells #[.int .i64 (v : Nat)] 3 (0, 0))) :
    Calls Tryd.prog 10 #[.int .i64 (k : Nat), .pointer (some ⟨pi, 0, none⟩)] W fun e w' => ∃ g c, e = .returned (.slice (some ⟨g, 0, none⟩) k c) ∧ W.heap.size ≤ g ∧ g < w'.heap.size ∧ (k ≤ c ∧ (c : Int) ≤ 9223372036854775807) ∧ RowL w' (some ⟨g, 0, none⟩) (wlocs v k) ∧ Up (One pi) W w' ∧ w'.heap[pi]? = some (.cells #[.int .i64 ((v + k : Nat) : Int)] 3 (0, 0)) := by
  have HB := hid hb
  have hp : pi < W.heap.size := (Array.getElem?_eq_some_iff.1 hb).1
  clear hb
  go_enter Tryd.func10, Tryd.ntmps10
  go_wp2_with fail
  go_loopw [4, 5] (fun o i wr => ∃ t : Nat, t ≤ k ∧ i = .int .i64 (t : Nat) ∧ OwnLo W.heap.size wr o (wlocs v t) ∧ Up (One pi) W wr ∧ wr.heap[pi]? = some (.cells #[.int .i64 ((v + t : Nat) : Int)] 3 (0, 0))) (fun _ i _ => k - (intOf i).toNat)
  case atStart => exact ⟨0, by omega, rfl, OwnLo.nil _ _, Up.refl _ _, HB.out⟩
  case round =>
    obtain ⟨t, ht, rfl, hov, hu, hb⟩ := hrel
    obtain ⟨va, vc, hvs⟩ := hov.shape
    rw [wlocs_len] at hvs
    subst hvs
    by_cases hlt : t < k
    · obtain ⟨x, hx⟩ : ∃ x : Int, x = ((v + t + 1 : Nat) : Int) := ⟨_, rfl⟩
      have hx0 : ((v + t : Nat) : Int) + 1 = x := by omega
      have hxb : 0 ≤ x ∧ x ≤ 200 := by omega
      obtain ⟨wa, hwa⟩ : ∃ V, V = wr.setCell ⟨pi, 0, none⟩ (.int .i64 x) := ⟨_, rfl⟩
      have ua : Up (One pi) wr wa := by rw [hwa]; exact (Up.refl (One pi) wr).put rfl 0 _
      have ba : wa.heap[pi]? = some (.cells #[.int .i64 x] 3 (0, 0)) := by rw [hwa]; exact heap_set_same hb 0 _
      obtain ⟨wb, hwb⟩ : ∃ V, V = wa.alloc (.cells #[.int .i64 (x % 24), .int .i64 (x % 64), .int .i64 x] 36) := ⟨_, rfl⟩
      have ub : Up Nul wa wb := by rw [hwb]; exact (Up.refl _ _).alloc _
      have bb : wb.heap[wa.heap.size]? = some (.cells #[.int .i64 (x % 24), .int .i64 (x % 64), .int .i64 x] 36 (0, 0)) := by rw [hwb]; exact heap_alloc_new _ _
      have hrow : RowL wb (some ⟨wa.heap.size, 0, none⟩) [⟨x % 24, x % 64, x⟩] := .inr ⟨_, 0, rfl, (Array.getElem?_eq_some_iff.1 bb).1, fun i l hi j v hj => by
        have hi0 : i = 0 := by
          rcases Nat.lt_or_ge i 1 with h | h
          · omega
          · rw [List.getElem?_eq_none (by exact h)] at hi; cases hi
        subst hi0
        cases hi
        have hj3 : j < 3 := by
          rcases Nat.lt_or_ge j 3 with h | h
          · exact h
          · rw [List.getElem?_eq_none (by exact h)] at hj; cases hj
        have e2 : j = 0 ∨ j = 1 ∨ j = 2 := by omega
        rcases e2 with rfl | rfl | rfl <;> cases hj <;> simp [World.cell?, bb]⟩
      have hob : OwnLo W.heap.size wb (.slice va t vc) (wlocs v t) := (hov.up ua fun j hj _ e => by have e : j = pi := e; omega).up ub fun _ _ _ => id
      obtain ⟨v5, w5, hrun, hov5, hg5, _⟩ := hob.apps (some ⟨wa.heap.size, 0, none⟩) 1 hrow (by simp) (by rw [wlocs_len]; omega) (by simp) (by have h1 := hu.size; have h2 := ua.size; have h3 := ub.size; omega)
      have hwx : wlocs v (t + 1) = wlocs v t ++ [⟨x % 24, x % 64, x⟩] := by rw [wlocs_next, hx]
      have HFIN : Hid (OwnLo W.heap.size w5 v5 (wlocs v (t + 1)) ∧ Up (One pi) W w5 ∧ w5.heap[pi]? = some (.cells #[.int .i64 ((v + (t + 1) : Nat) : Int)] 3 (0, 0))) := by
        refine ⟨by rw [hwx]; exact hov5, (hu.trans (ua.trans ub.nul)).grown hg5 fun j e => hob.bs j e, ?_⟩
        have hpb : pi < wb.heap.size := by have h1 := hu.size; have h2 := ua.size; have h3 := ub.size; omega
        rw [hg5.block pi hpb (fun e => by have := hob.bs pi e.symm; omega), ub.block pi (by have h1 := hu.size; have h2 := ua.size; omega) id, ba, hx]
        rfl
      obtain ⟨va5, vc5, hv5⟩ := hov5.shape
      generalize (wlocs v t ++ [(⟨x % 24, x % 64, x⟩ : Lo)]).length = vl5 at hv5
      subst hv5
      have c0 : wr.cell? ⟨pi, 0, none⟩ = some (.int .i64 ((v + t : Nat) : Int)) := by simp [World.cell?, hb]
      have f0 : wr.frozen? ⟨pi, 0, none⟩ = false := by simp [World.frozen?, hb]
      have c1 : wa.cell? ⟨pi, 0, none⟩ = some (.int .i64 x) := by simp [World.cell?, ba]
      have HWA := hid hwa
      have HWB := hid hwb
      have hsz : wa.heap.size = wr.heap.size := by rw [hwa]; exact World.size_setCell _ _ _
      rw [hsz, hwb, hwa] at hrun
      have HRUN : Hid ((Builtin.append_ #[29, 29] 29 #[.slice va t vc, .slice (some ⟨wr.heap.size, 0, none⟩) 1 1]).run Tryd.prog ((wr.setCell ⟨pi, 0, none⟩ (.int .i64 x)).alloc (.cells #[.int .i64 (x % 24), .int .i64 (x % 64), .int .i64 x] 36)) = .ok (.slice va5 vl5 vc5) w5) := hrun
      have HX0 := hid hx0
      have i0 : (0 : Int) ≤ (t : Int) := by omega
      have i1 : (t : Int) < (k : Int) := by omega
      have i3 : (k : Int) ≤ 6 := by omega
      have HKV : Hid (k ≤ 6 ∧ v ≤ 100) := ⟨hk.2, hv⟩
      generalize hz : ((v + t : Nat) : Int) = z at c0 hx0
      have i4 : z + 1 ≤ 300 := by omega
      have i5 : 0 ≤ z := by omega
      clear hov hu hb ua ba ub bb hrow hob hov5 hg5 hwx hx hwa hwb hrun hz hsz
      go_wp2_with (first | (at_builtin; refine wpList_append_eqv rfl _ _ _ rfl _ _ _ rfl rfl HRUN.out ?_))
      go_roundw
      case rel => exact ⟨t + 1, by omega, by go_num, HFIN.out⟩
      case measure => simp [intOf]; omega
    · obtain rfl : t = k := by omega
      obtain ⟨g, c, he, hg1, hg2, h0⟩ := hov.sh (fun e => by have := congrArg List.length e; rw [wlocs_len] at this; simp at this; omega)
      rw [wlocs_len] at he h0
      injection he with he1 _ he2
      subst he1 he2
      have HR : Hid (RowL wr (some ⟨g, 0, none⟩) (wlocs v t)) := by
        obtain ⟨a, c', e, h⟩ := h0.row
        injection e with e
        rw [e]; exact h
      have HCP : Hid (t ≤ vc ∧ (vc : Int) ≤ 9223372036854775807) := by
        rcases h0.2 with ⟨e, _⟩ | ⟨g', c', cur, e, _, _, e4, e5, _⟩
        · cases e
        · injection e with _ _ e
          subst e
          rw [wlocs_len] at e4
          unfold maxLen at e5
          exact ⟨e4, by omega⟩
      have HG : Hid (W.heap.size ≤ g ∧ g < wr.heap.size) := ⟨hg1, hg2⟩
      have HU := hid hu
      have HBB := hid hb
      have hni : ¬ ((t : Int) < (t : Int)) := by omega
      clear hov hu hb hlt ht h0 hg1 hg2
      go_wp2
      go_ret
      exact ⟨g, vc, rfl, HG.out.1, HG.out.2, HCP.out, HR.out, HU.out, HBB.out⟩

theorem step_ok {M M' : MM} {r : Rc} {l : Int} (h1 : okR r = true) (h2 : rise M.last (newS r) = some l) (h3 : M.chg r = (0, M')) : M.step r = (0, { M' with last := l }) := by
  unfold MM.step MM.app
  rw [if_neg (by rw [h1]; simp), h2, h3]
  rfl
theorem step_err {M M' : MM} {r : Rc} {l e : Int} (h1 : okR r = true) (h2 : rise M.last (newS r) = some l) (h3 : M.chg r = (e, M')) (he : e ≠ 0) : M.step r = (e, M') := by
  unfold MM.step MM.app
  rw [if_neg (by rw [h1]; simp), h2, h3]
  dsimp only
  rw [if_neg he]
def bF (ka kb kc : ByteArray) (x y z : Option Bl) : ByteArray → Option Bl := fun k => if k = ka then x else if k = kb then y else if k = kc then z else none
def sF : List (Int × Option St) → Int → Option St
  | [] => fun _ => none
  | (i, v) :: S => upd (sF S) i v
/-- Three keys, none like another. -/
structure K3 (ka kb kc : ByteArray) : Prop where
  ab : ka ≠ kb
  ac : ka ≠ kc
  bc : kb ≠ kc
  na : ka ≠ noK
  nb : kb ≠ noK
  nc : kc ≠ noK
section
variable {ka kb kc : ByteArray} {x y z : Option Bl} {S : List (Int × Option St)} {l : Int}
theorem bF_a (h : K3 ka kb kc) : bF ka kb kc x y z ka = x := if_pos rfl
theorem bF_b (h : K3 ka kb kc) : bF ka kb kc x y z kb = y := by unfold bF; rw [if_neg h.ab.symm, if_pos rfl]
theorem bF_c (h : K3 ka kb kc) : bF ka kb kc x y z kc = z := by unfold bF; rw [if_neg h.ac.symm, if_neg h.bc.symm, if_pos rfl]
theorem bF_n (h : K3 ka kb kc) : bF ka kb kc x y z noK = none := by unfold bF; rw [if_neg h.na.symm, if_neg h.nb.symm, if_neg h.nc.symm]
theorem upd_a (h : K3 ka kb kc) (v : Option Bl) : upd (bF ka kb kc x y z) ka v = bF ka kb kc v y z := by
  funext k; unfold upd bF; by_cases e : k = ka <;> simp [e]
theorem upd_b (h : K3 ka kb kc) (v : Option Bl) : upd (bF ka kb kc x y z) kb v = bF ka kb kc x v z := by
  funext k; unfold upd bF
  by_cases e : k = kb
  · subst e; rw [if_pos rfl, if_neg h.ab.symm, if_pos rfl]
  · rw [if_neg e]; by_cases e2 : k = ka
    · rw [if_pos e2, if_pos e2]
    · rw [if_neg e2, if_neg e2, if_neg e, if_neg e]
theorem upd_c (h : K3 ka kb kc) (v : Option Bl) : upd (bF ka kb kc x y z) kc v = bF ka kb kc x y v := by
  funext k; unfold upd bF
  by_cases e : k = kc
  · subst e; rw [if_pos rfl, if_neg h.ac.symm, if_neg h.bc.symm, if_pos rfl]
  · rw [if_neg e]; by_cases e2 : k = ka
    · rw [if_pos e2, if_pos e2]
    · rw [if_neg e2, if_neg e2]
      by_cases e3 : k = kb
      · rw [if_pos e3, if_pos e3]
      · rw [if_neg e3, if_neg e3, if_neg e, if_neg e]
theorem lay_n (h : K3 ka kb kc) (i p : Int) : lay1 (bF ka kb kc x y z) noK i p = bF ka kb kc x y z := by unfold lay1; rw [bF_n h]
theorem lay_a (h : K3 ka kb kc) (b : Bl) (i p : Int) : lay1 (bF ka kb kc (some b) y z) ka i p = bF ka kb kc (some ⟨b.n, i, p⟩) y z := by unfold lay1; rw [bF_a h]; exact upd_a h _
theorem lay_b (h : K3 ka kb kc) (b : Bl) (i p : Int) : lay1 (bF ka kb kc x (some b) z) kb i p = bF ka kb kc x (some ⟨b.n, i, p⟩) z := by unfold lay1; rw [bF_b h]; exact upd_b h _
theorem lay_c (h : K3 ka kb kc) (b : Bl) (i p : Int) : lay1 (bF ka kb kc x y (some b)) kc i p = bF ka kb kc x y (some ⟨b.n, i, p⟩) := by unfold lay1; rw [bF_c h]; exact upd_c h _
abbrev mkM (ka kb kc : ByteArray) (x y z : Option Bl) (S : List (Int × Option St)) (l : Int) : MM := ⟨bF ka kb kc x y z, sF S, l, tb0⟩
abbrev s1 (k : Int) (c : Int) (a : ByteArray) (L : List Lo) : Option St := some ⟨k, c, a, noK, noK, L⟩
theorem ok_key {k : Int} {key : ByteArray} (hkey : (1 ≤ key.size ∧ key.size ≤ 16) ∧ ∀ c ∈ nums key, 33 ≤ c ∧ c ≤ 126) {n s c : Int} {v m : Nat} (hv : v ≤ 1000)
    (h : k = 1 ∧ (0 ≤ n ∧ n ≤ 63) ∧ (1 ≤ s ∧ s ≤ 100) ∧ c = 0 ∧ m = 3 ∨ k = 2 ∧ n = 0 ∧ s = 0 ∧ c = 0 ∧ m = 0 ∨ k = 3 ∧ n = 0 ∧ (1 ≤ s ∧ s ≤ 100) ∧ (0 ≤ c ∧ c ≤ 2) ∧ m = 6 ∨ k = 4 ∧ n = 0 ∧ (1 ≤ s ∧ s ≤ 100) ∧ c = 0 ∧ m = 3) : okR ⟨k, key, n, s, [], c, wlocs v m, tb0⟩ = true := by
  have hloc : ∀ l ∈ wlocs v m, (0 ≤ l.d ∧ l.d ≤ 23) ∧ (0 ≤ l.s ∧ l.s ≤ 63) ∧ 1 ≤ l.i ∧ l.i ≤ 2147483647 := by
    intro l hl
    obtain ⟨i, hi, rfl⟩ := List.mem_map.1 hl
    have := List.mem_range.1 hi
    dsimp only
    omega
  have hkk : (1 : Int) ≤ ((key.size : Nat) : Int) ∧ ((key.size : Nat) : Int) ≤ 16 := by omega
  have hlen : (((wlocs v m).length : Nat) : Int) = (m : Int) := by rw [wlocs_len]
  rcases h with ⟨rfl, hn, hs, rfl, rfl⟩ | ⟨rfl, rfl, rfl, rfl, rfl⟩ | ⟨rfl, rfl, hs, hc, rfl⟩ | ⟨rfl, rfl, hs, rfl, rfl⟩
  · exact okR_iff.2 ⟨(by decide : (1 : Nat) ≤ 1), (by decide : (1 : Nat) ≤ 8), rfl, hkk, hkey.2, (show (0 : Int) ≤ n ∧ n ≤ 64 by omega), (show (1 : Int) ≤ s ∧ s ≤ 2147483647 by omega), (by decide : sh 1 6 ≤ (0 : Int) ∧ (0 : Int) ≤ sh 1 7), (by decide : (((0 : Nat) : Int) = sh 1 8)), fun x hx => (by cases hx), hlen.trans (by decide : ((3 : Nat) : Int) = sh 1 11 + sh 1 12 * ((0 : Nat) : Int)), hloc, (by decide : ∀ x ∈ tb0.l, sh 1 13 ≤ x ∧ x ≤ sh 1 14)⟩
  · exact okR_iff.2 ⟨(by decide : (1 : Nat) ≤ 2), (by decide : (2 : Nat) ≤ 8), rfl, hkk, hkey.2, (by decide : sh 2 2 ≤ (0 : Int) ∧ (0 : Int) ≤ sh 2 3), (by decide : sh 2 4 ≤ (0 : Int) ∧ (0 : Int) ≤ sh 2 5), (by decide : sh 2 6 ≤ (0 : Int) ∧ (0 : Int) ≤ sh 2 7), (by decide : (((0 : Nat) : Int) = sh 2 8)), fun x hx => (by cases hx), hlen.trans (by decide : ((0 : Nat) : Int) = sh 2 11 + sh 2 12 * ((0 : Nat) : Int)), hloc, (by decide : ∀ x ∈ tb0.l, sh 2 13 ≤ x ∧ x ≤ sh 2 14)⟩
  · exact okR_iff.2 ⟨(by decide : (1 : Nat) ≤ 3), (by decide : (3 : Nat) ≤ 8), rfl, hkk, hkey.2, (by decide : sh 3 2 ≤ (0 : Int) ∧ (0 : Int) ≤ sh 3 3), (show (1 : Int) ≤ s ∧ s ≤ 2147483647 by omega), (show (0 : Int) ≤ c ∧ c ≤ 2 from hc), (by decide : (((0 : Nat) : Int) = sh 3 8)), fun x hx => (by cases hx), hlen.trans (by decide : ((6 : Nat) : Int) = sh 3 11 + sh 3 12 * ((0 : Nat) : Int)), hloc, (by decide : ∀ x ∈ tb0.l, sh 3 13 ≤ x ∧ x ≤ sh 3 14)⟩
  · exact okR_iff.2 ⟨(by decide : (1 : Nat) ≤ 4), (by decide : (4 : Nat) ≤ 8), rfl, hkk, hkey.2, (by decide : sh 4 2 ≤ (0 : Int) ∧ (0 : Int) ≤ sh 4 3), (show (1 : Int) ≤ s ∧ s ≤ 2147483647 by omega), (by decide : sh 4 6 ≤ (0 : Int) ∧ (0 : Int) ≤ sh 4 7), (by decide : (((0 : Nat) : Int) = sh 4 8)), fun x hx => (by cases hx), hlen.trans (by decide : ((3 : Nat) : Int) = sh 4 11 + sh 4 12 * ((0 : Nat) : Int)), hloc, (by decide : ∀ x ∈ tb0.l, sh 4 13 ≤ x ∧ x ≤ sh 4 14)⟩
end
abbrev KO (key : ByteArray) : Prop := (1 ≤ key.size ∧ key.size ≤ 16) ∧ ∀ c ∈ nums key, 33 ≤ c ∧ c ≤ 126
section
variable {ka kb kc : ByteArray} {n : Int}
abbrev S1 (ka : ByteArray) : List (Int × Option St) := [(1, s1 1 0 ka (wlocs 0 3))]
abbrev S2 (ka kb : ByteArray) : List (Int × Option St) := (2, s1 1 0 kb (wlocs 3 3)) :: S1 ka
abbrev S3 (ka kb kc : ByteArray) : List (Int × Option St) := (3, s1 1 0 kc (wlocs 6 3)) :: S2 ka kb
abbrev S4 (ka kb kc : ByteArray) : List (Int × Option St) := (4, s1 2 0 ka (wlocs 9 6)) :: (1, none) :: S3 ka kb kc
abbrev S5 (ka kb kc : ByteArray) : List (Int × Option St) := (5, s1 2 1 kb (wlocs 15 6)) :: (2, none) :: S4 ka kb kc
abbrev S6 (ka kb kc : ByteArray) : List (Int × Option St) := (6, s1 2 2 kc (wlocs 21 6)) :: (3, none) :: S5 ka kb kc
def L16 : List Lo := (wlocs 9 6).take 4 ++ ((wlocs 15 6).take 4 ++ ((wlocs 21 6).take 4 ++ [])) ++ wlocs 31 4
abbrev S7 (ka kb kc : ByteArray) : List (Int × Option St) := (7, some ⟨3, 0, ka, kb, kc, L16⟩) :: (6, none) :: (5, none) :: (4, none) :: S6 ka kb kc
abbrev S8 (ka kb kc : ByteArray) : List (Int × Option St) := (7, some ⟨3, 0, ka, noK, kc, L16⟩) :: S7 ka kb kc
def L8 : List Lo := (L16.drop (4 * 0)).take 4 ++ (wlocs 41 4).take 2
def L9 : List Lo := (L16.drop (4 * 2)).take 4 ++ ((wlocs 41 4).drop 2).take 2
abbrev S10 (ka kb kc : ByteArray) : List (Int × Option St) := (9, s1 2 2 kc L9) :: (8, s1 2 0 ka L8) :: (7, none) :: S8 ka kb kc
abbrev S11 (ka kb kc : ByteArray) : List (Int × Option St) := (10, s1 1 0 ka (wlocs 45 3)) :: (8, none) :: S10 ka kb kc
abbrev S12 (ka kb kc : ByteArray) : List (Int × Option St) := (9, none) :: S11 ka kb kc
abbrev B (n i p : Int) : Option Bl := some ⟨n, i, p⟩
theorem w_1 (h : K3 ka kb kc) (ko : KO ka) (hn : 0 ≤ n ∧ n ≤ 63) : MM.new.step ⟨1, ka, n, 1, [], 0, wlocs 0 3, tb0⟩ = (0, mkM ka kb kc (B n 1 0) none none (S1 ka) 1) := by
  have e : MM.new = mkM ka kb kc none none none [] 0 := by
    have : bF ka kb kc none none none = fun _ => none := by funext k; unfold bF; simp
    unfold mkM; rw [this]; rfl
  rw [e]
  refine (step_ok (M' := mkM ka kb kc (B n 1 0) none none (S1 ka) 0) (ok_key ko (by omega) (.inl ⟨rfl, hn, by omega, rfl, rfl⟩)) (l := 1) rfl ?_)
  show MM.put _ _ = _
  simp only [MM.put, MM.drop, MM.lay, bF_a h, upd_a h, lay_a h, lay_n h]
  rfl
theorem w_2 (h : K3 ka kb kc) (ko : KO kb) (hn : 0 ≤ n ∧ n ≤ 63) : (mkM ka kb kc (B n 1 0) none none (S1 ka) 1).step ⟨1, kb, n, 2, [], 0, wlocs 3 3, tb0⟩ = (0, mkM ka kb kc (B n 1 0) (B n 2 0) none (S2 ka kb) 2) := by
  refine (step_ok (M' := mkM ka kb kc (B n 1 0) (B n 2 0) none (S2 ka kb) 1) (ok_key ko (by omega) (.inl ⟨rfl, hn, by omega, rfl, rfl⟩)) (l := 2) rfl ?_)
  show MM.put _ _ = _
  simp only [MM.put, MM.drop, MM.lay, bF_b h, upd_b h, lay_b h, lay_n h]
  rfl
theorem w_3 (h : K3 ka kb kc) (ko : KO kc) (hn : 0 ≤ n ∧ n ≤ 63) : (mkM ka kb kc (B n 1 0) (B n 2 0) none (S2 ka kb) 2).step ⟨1, kc, n, 3, [], 0, wlocs 6 3, tb0⟩ = (0, mkM ka kb kc (B n 1 0) (B n 2 0) (B n 3 0) (S3 ka kb kc) 3) := by
  refine (step_ok (M' := mkM ka kb kc (B n 1 0) (B n 2 0) (B n 3 0) (S3 ka kb kc) 2) (ok_key ko (by omega) (.inl ⟨rfl, hn, by omega, rfl, rfl⟩)) (l := 3) rfl ?_)
  show MM.put _ _ = _
  simp only [MM.put, MM.drop, MM.lay, bF_c h, upd_c h, lay_c h, lay_n h]
  rfl
theorem chg5 {M : MM} {r : Rc} (h : r.kind = 5) : M.chg r = M.merge r := by
  unfold MM.chg; rw [if_neg (by omega), if_neg (by omega), if_neg (by omega), if_neg (by omega), if_pos h]
theorem chg6 {M : MM} {r : Rc} (h : r.kind = 6) : M.chg r = M.split r := by
  unfold MM.chg; rw [if_neg (by omega), if_neg (by omega), if_neg (by omega), if_neg (by omega), if_neg (by omega), if_pos h]
/-- 'swap' where it may be. -/
theorem swap_ok {M : MM} {r : Rc} {fr tk : Int} {x : Bl} {s : St} (hb : M.b r.key = some x) (hs : M.s x.sid = some s) (hk : s.kind = fr) : M.swap r fr tk = (0, ({ M with s := upd M.s x.sid none } : MM).lay r.sid ⟨tk, r.colour, r.key, noK, noK, r.locs⟩) := by
  unfold MM.swap
  rw [hb]
  dsimp only
  rw [hs]
  dsimp only
  rw [if_neg (fun e => e hk)]
theorem w_4 (h : K3 ka kb kc) (ko : KO ka) : (mkM ka kb kc (B n 1 0) (B n 2 0) (B n 3 0) (S3 ka kb kc) 3).step ⟨3, ka, 0, 4, [], 0, wlocs 9 6, tb0⟩ = (0, mkM ka kb kc (B n 4 0) (B n 2 0) (B n 3 0) (S4 ka kb kc) 4) := by
  refine (step_ok (M' := mkM ka kb kc (B n 4 0) (B n 2 0) (B n 3 0) (S4 ka kb kc) 3) (ok_key ko (by omega) (.inr (.inr (.inl ⟨rfl, rfl, by omega, by omega, rfl⟩)))) (l := 4) rfl ?_)
  show MM.swap _ _ 1 2 = _
  rw [swap_ok (bF_a h) (s := ⟨1, 0, ka, noK, noK, wlocs 0 3⟩) rfl rfl]
  simp only [MM.lay, lay_a h, lay_n h]
  rfl
theorem w_5 (h : K3 ka kb kc) (ko : KO kb) : (mkM ka kb kc (B n 4 0) (B n 2 0) (B n 3 0) (S4 ka kb kc) 4).step ⟨3, kb, 0, 5, [], 1, wlocs 15 6, tb0⟩ = (0, mkM ka kb kc (B n 4 0) (B n 5 0) (B n 3 0) (S5 ka kb kc) 5) := by
  refine (step_ok (M' := mkM ka kb kc (B n 4 0) (B n 5 0) (B n 3 0) (S5 ka kb kc) 4) (ok_key ko (by omega) (.inr (.inr (.inl ⟨rfl, rfl, by omega, by omega, rfl⟩)))) (l := 5) rfl ?_)
  show MM.swap _ _ 1 2 = _
  rw [swap_ok (bF_b h) (s := ⟨1, 0, kb, noK, noK, wlocs 3 3⟩) rfl rfl]
  simp only [MM.lay, lay_b h, lay_n h]
  rfl
theorem w_6 (h : K3 ka kb kc) (ko : KO kc) : (mkM ka kb kc (B n 4 0) (B n 5 0) (B n 3 0) (S5 ka kb kc) 5).step ⟨3, kc, 0, 6, [], 2, wlocs 21 6, tb0⟩ = (0, mkM ka kb kc (B n 4 0) (B n 5 0) (B n 6 0) (S6 ka kb kc) 6) := by
  refine (step_ok (M' := mkM ka kb kc (B n 4 0) (B n 5 0) (B n 6 0) (S6 ka kb kc) 5) (ok_key ko (by omega) (.inr (.inr (.inl ⟨rfl, rfl, by omega, by omega, rfl⟩)))) (l := 6) rfl ?_)
  show MM.swap _ _ 1 2 = _
  rw [swap_ok (bF_c h) (s := ⟨1, 0, kc, noK, noK, wlocs 6 3⟩) rfl rfl]
  simp only [MM.lay, lay_c h, lay_n h]
  rfl
theorem w_7 : (mkM ka kb kc (B n 4 0) (B n 5 0) (B n 6 0) (S6 ka kb kc) 6).step ⟨5, noK, 0, 7, [4, 6, 5], 0, wlocs 27 4, tb0⟩ = (12, mkM ka kb kc (B n 4 0) (B n 5 0) (B n 6 0) (S6 ka kb kc) 6) :=
  step_err (by decide) (l := 7) rfl (by
    rw [chg5 rfl]
    unfold MM.merge
    have e : (mkM ka kb kc (B n 4 0) (B n 5 0) (B n 6 0) (S6 ka kb kc) 6).mchk [4, 6, 5] 0 [4, 6, 5] = some 12 := rfl
    dsimp only
    rw [e]) (by decide)
theorem w_8 (h : K3 ka kb kc) : (mkM ka kb kc (B n 4 0) (B n 5 0) (B n 6 0) (S6 ka kb kc) 6).step ⟨5, noK, 0, 7, [4, 5, 6], 0, wlocs 31 4, tb0⟩ = (0, mkM ka kb kc (B n 7 0) (B n 7 1) (B n 7 2) (S7 ka kb kc) 7) := by
  refine step_ok (M' := mkM ka kb kc (B n 7 0) (B n 7 1) (B n 7 2) (S7 ka kb kc) 6) (by decide) (l := 7) rfl ?_
  rw [chg5 rfl]
  unfold MM.merge
  have e : (mkM ka kb kc (B n 4 0) (B n 5 0) (B n 6 0) (S6 ka kb kc) 6).mchk [4, 5, 6] 0 [4, 5, 6] = none := rfl
  dsimp only
  rw [e]
  dsimp only
  have k0 : (mkM ka kb kc (B n 4 0) (B n 5 0) (B n 6 0) (S6 ka kb kc) 6).mkey ⟨5, noK, 0, 7, [4, 5, 6], 0, wlocs 31 4, tb0⟩ 0 = ka := rfl
  have k1 : (mkM ka kb kc (B n 4 0) (B n 5 0) (B n 6 0) (S6 ka kb kc) 6).mkey ⟨5, noK, 0, 7, [4, 5, 6], 0, wlocs 31 4, tb0⟩ 1 = kb := rfl
  have k2 : (mkM ka kb kc (B n 4 0) (B n 5 0) (B n 6 0) (S6 ka kb kc) 6).mkey ⟨5, noK, 0, 7, [4, 5, 6], 0, wlocs 31 4, tb0⟩ 2 = kc := rfl
  rw [k0, k1, k2]
  simp only [MM.lay, lay_a h, lay_b h, lay_c h]
  rfl
theorem w_9 (h : K3 ka kb kc) (ko : KO kb) : (mkM ka kb kc (B n 7 0) (B n 7 1) (B n 7 2) (S7 ka kb kc) 7).step ⟨2, kb, 0, 0, [], 0, wlocs 0 0, tb0⟩ = (0, mkM ka kb kc (B n 7 0) none (B n 7 2) (S8 ka kb kc) 7) := by
  refine step_ok (M' := mkM ka kb kc (B n 7 0) none (B n 7 2) (S8 ka kb kc) 7) (ok_key ko (by omega) (.inr (.inl ⟨rfl, rfl, rfl, rfl, rfl⟩))) (l := 7) rfl ?_
  show MM.drop _ kb = _
  unfold MM.drop
  dsimp only
  rw [bF_b h]
  have hs : sF (S7 ka kb kc) 7 = some ⟨3, 0, ka, kb, kc, L16⟩ := rfl
  dsimp only
  rw [hs]
  have ho : (⟨3, 0, ka, kb, kc, L16⟩ : St).off 1 = ⟨3, 0, ka, noK, kc, L16⟩ := rfl
  have hd : (⟨3, 0, ka, noK, kc, L16⟩ : St).dead = false := by unfold St.dead; simp [h.na]
  dsimp only
  rw [ho, hd, upd_b h]
  rfl
theorem w_10 (h : K3 ka kb kc) : (mkM ka kb kc (B n 7 0) none (B n 7 2) (S8 ka kb kc) 7).step ⟨6, noK, 0, 7, [8, 9, 10], 0, wlocs 35 6, tb0⟩ = (1, mkM ka kb kc (B n 7 0) none (B n 7 2) (S8 ka kb kc) 7) :=
  step_err (by decide) (l := 10) rfl (by
    rw [chg6 rfl]
    exact split_bad rfl (s := ⟨3, 0, ka, noK, kc, L16⟩) rfl rfl (t := 1) (by omega) rfl) (by decide)
theorem w_11 (h : K3 ka kb kc) : (mkM ka kb kc (B n 7 0) none (B n 7 2) (S8 ka kb kc) 7).step ⟨6, noK, 0, 7, [8, 0, 9], 0, wlocs 41 4, tb0⟩ = (0, mkM ka kb kc (B n 8 0) none (B n 9 0) (S10 ka kb kc) 9) := by
  refine step_ok (M' := mkM ka kb kc (B n 8 0) none (B n 9 0) (S10 ka kb kc) 7) (by decide) (l := 9) rfl ?_
  rw [chg6 rfl]
  rw [split_ok rfl (s := ⟨3, 0, ka, noK, kc, L16⟩) rfl rfl (fun t ht => by
    rcases three ht with rfl | rfl | rfl
    · show (decide (ka = noK) != decide ((8 : Int) = 0)) = false
      rw [decide_eq_false h.na]; rfl
    · rfl
    · show (decide (kc = noK) != decide ((9 : Int) = 0)) = false
      rw [decide_eq_false h.nc]; rfl)]
  rw [spl_live (s := ⟨3, 0, ka, noK, kc, L16⟩) (t := 2) (show (⟨3, 0, ka, noK, kc, L16⟩ : St).key 2 ≠ noK from h.nc), spl_dead (s := ⟨3, 0, ka, noK, kc, L16⟩) (t := 1) rfl, spl_live (s := ⟨3, 0, ka, noK, kc, L16⟩) (t := 0) (show (⟨3, 0, ka, noK, kc, L16⟩ : St).key 0 ≠ noK from h.na)]
  simp only [spl]
  have e1 : (⟨3, 0, ka, noK, kc, L16⟩ : St).key 0 = ka := rfl
  have e2 : (⟨3, 0, ka, noK, kc, L16⟩ : St).key 2 = kc := rfl
  rw [e1, e2]
  simp only [MM.lay, lay_a h, lay_c h, lay_n h]
  rfl
theorem w_12 (h : K3 ka kb kc) (ko : KO ka) : (mkM ka kb kc (B n 8 0) none (B n 9 0) (S10 ka kb kc) 9).step ⟨4, ka, 0, 10, [], 0, wlocs 45 3, tb0⟩ = (0, mkM ka kb kc (B n 10 0) none (B n 9 0) (S11 ka kb kc) 10) := by
  refine (step_ok (M' := mkM ka kb kc (B n 10 0) none (B n 9 0) (S11 ka kb kc) 9) (ok_key ko (by omega) (.inr (.inr (.inr ⟨rfl, rfl, by omega, rfl, rfl⟩)))) (l := 10) rfl ?_)
  show MM.swap _ _ 2 1 = _
  rw [swap_ok (bF_a h) (s := ⟨2, 0, ka, noK, noK, L8⟩) rfl rfl]
  simp only [MM.lay, lay_a h, lay_n h]
  rfl
theorem w_13 (h : K3 ka kb kc) (ko : KO kc) : (mkM ka kb kc (B n 10 0) none (B n 9 0) (S11 ka kb kc) 10).step ⟨2, kc, 0, 0, [], 0, wlocs 0 0, tb0⟩ = (0, mkM ka kb kc (B n 10 0) none none (S12 ka kb kc) 10) := by
  refine step_ok (M' := mkM ka kb kc (B n 10 0) none none (S12 ka kb kc) 10) (ok_key ko (by omega) (.inr (.inl ⟨rfl, rfl, rfl, rfl, rfl⟩))) (l := 10) rfl ?_
  show MM.drop _ kc = _
  unfold MM.drop
  dsimp only
  rw [bF_c h]
  have hs : sF (S11 ka kb kc) 9 = some ⟨2, 2, kc, noK, noK, L9⟩ := rfl
  dsimp only
  rw [hs]
  have ho : (⟨2, 2, kc, noK, noK, L9⟩ : St).off 0 = ⟨2, 2, noK, noK, noK, L9⟩ := rfl
  have hd : (⟨2, 2, noK, noK, noK, L9⟩ : St).dead = true := rfl
  dsimp only
  rw [ho, hd, upd_c h]
  rfl
theorem w_14 (h : K3 ka kb kc) (ko : KO kc) : (mkM ka kb kc (B n 10 0) none none (S12 ka kb kc) 10).step ⟨3, kc, 0, 11, [], 0, wlocs 48 6, tb0⟩ = (9, mkM ka kb kc (B n 10 0) none none (S12 ka kb kc) 10) := by
  refine (step_err (ok_key ko (by omega) (.inr (.inr (.inl ⟨rfl, rfl, by omega, by omega, rfl⟩)))) (l := 11) rfl ?_ (by decide))
  show MM.swap _ _ 1 2 = _
  unfold MM.swap
  have hb : (mkM ka kb kc (B n 10 0) none none (S12 ka kb kc) 10).b kc = none := bF_c h
  dsimp only at hb ⊢
  rw [hb]
end
end Go.Proofs.YtmhmlfgikmeejaaDoor
