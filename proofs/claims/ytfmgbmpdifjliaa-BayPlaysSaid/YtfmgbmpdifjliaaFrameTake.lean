/- 'Take', 'Holds'. -/
import Derived.Test.YtfmgbmpdifjliaaFramePut
namespace Go.Proofs.Ytfmgbmpdifjliaa
open Go.RowKit
set_option linter.unusedVariables false

theorem strOf_inj {y z : List Nat} (hy : ∀ i, y.getD i 0 < 256) (hz : ∀ i, z.getD i 0 < 256) (h : strOf y = strOf z) : y = z := by
  rw [← nums_strOf hy, ← nums_strOf hz, h]
theorem bytes_inj {a b : ByteArray} (h : a.toList = b.toList) : a = b := by
  rw [ByteArray.toList_eq, ByteArray.toList_eq] at h
  exact ByteArray.ext (Array.toList_inj.1 h)
theorem str_beq {y z : List Nat} (hy : ∀ i, y.getD i 0 < 256) (hz : ∀ i, z.getD i 0 < 256) : ((strOf y).toList == (strOf z).toList) = decide (y = z) := by
  by_cases h : y = z
  · subst h; simp
  · rw [decide_eq_false h, beq_eq_false_iff_ne]
    exact fun e => h (strOf_inj hy hz (bytes_inj e))
theorem equalS (a1 a2 : Option Addr) (n1 c1 n2 c2 : Nat) (y z : List Nat) (w : World) (h1 : SlN w a1 n1 y) (h2 : SlN w a2 n2 z) :
    Calls Try.prog 62 #[.slice a1 n1 c1, .slice a2 n2 c2] w fun e w' => e = .returned (.bool (decide (y = z))) ∧ w' = w := by
  have e1 := h1.conv c1
  have e2 := h2.conv c2
  have e3 := str_beq (small_getD h1.small) (small_getD h2.small)
  obtain ⟨q, Q⟩ : ∃ q, Hid (decide (y = z) = q) := ⟨_, rfl⟩
  rw [Q.out] at e3 ⊢
  generalize strOf y = s1 at e1 e3
  generalize strOf z = s2 at e2 e3
  clear h1 h2
  go_enter Try.func62, Try.ntmps62
  go_wp2
  go_ret
  exact ⟨rfl, rfl⟩

theorem word_drop (z : List Nat) (o : Nat) : FrM.word (z.drop o) 0 = FrM.word z o := by
  simp [FrM.word, List.getD_eq_getElem?_getD, List.getElem?_drop]
/-- What Take tells, and where. -/
def Took (z : List Nat) (w : World) (e : Ending) (w' : World) : Prop :=
  (∃ a c, FrM.tk z = some (FrM.idOf z, FrM.datOf z) ∧ e = .returned (.tuple #[.int .i64 (FrM.idOf z : Nat), .slice a (z.getD 1 0) c, .bool true]) ∧ Got w w' a (z.getD 1 0) c (FrM.datOf z)) ∨
  (FrM.tk z = none ∧ e = .returned (.tuple #[.int .i64 0, .slice none 0 0, .bool false]) ∧ Up Nul w w')
theorem tk_len {z : List Nat} (h : ¬ z.length = 96) : FrM.tk z = none := by rw [FrM.tk, if_neg (fun k => h k.1)]
theorem tk_more {z : List Nat} (h : 64 < z.getD 1 0) : FrM.tk z = none := by rw [FrM.tk, if_neg (fun k => by have := k.2.1; omega)]
theorem take_len (a : Option Addr) (n cap : Nat) (z : List Nat) (w : World) (h : SlN w a n z) (hn : ¬ n = 96) :
    Calls Try.prog 47 #[.slice a n cap] w (Took z w) := by
  have HT : Hid (Took z w (.returned (.tuple #[.int .i64 0, .slice none 0 0, .bool false])) w) := .inr ⟨tk_len (by rw [h.len]; exact hn), rfl, Up.refl _ _⟩
  generalize Took z w = K at HT ⊢
  have hle := h.le
  have i1 : ¬ (n : Int) = 96 := by omega
  have i2 : ((n : Int) == 96) = false := by simp; omega
  clear h hn
  go_enter Try.func47, Try.ntmps47
  go_wp2
  go_ret3
  exact HT.out
theorem take_more (b o cap : Nat) (z : List Nat) (w : World) (h : SlN w (some ⟨b, o, none⟩) 96 z) (hm : 64 < z.getD 1 0) :
    Calls Try.prog 47 #[.slice (some ⟨b, o, none⟩) 96 cap] w (Took z w) := by
  have HT : Hid (Took z w (.returned (.tuple #[.int .i64 0, .slice none 0 0, .bool false])) w) := .inr ⟨tk_more hm, rfl, Up.refl _ _⟩
  generalize Took z w = K at HT ⊢
  have c1 : w.cell? ⟨b, o + 1, none⟩ = some (.int .u8 (z.getD 1 0 : Nat)) := by
    rcases h.row with e | ⟨b', o', e, _, r⟩
    · cases e
    · cases e
      exact r.cells 1 (by rw [h.len]; omega)
  generalize z.getD 1 0 = m at hm c1
  have i1 : (64 : Int) < (m : Int) := by omega
  clear h hm
  go_enter Try.func47, Try.ntmps47
  go_wp2
  go_ret3
  exact HT.out
set_option maxRecDepth 100000 in
set_option maxHeartbeats 1600000 in
theorem take_at (b o cap : Nat) (z : List Nat) (w : World) (h : SlN w (some ⟨b, o, none⟩) 96 z) (hc : 96 ≤ cap) (hm : z.getD 1 0 ≤ 64) :
    Calls Try.prog 47 #[.slice (some ⟨b, o, none⟩) 96 cap] w (Took z w) := by
  obtain ⟨hb, r⟩ : b < w.heap.size ∧ Row w b o z := by
    rcases h.row with e | ⟨b', o', e, hb, r⟩
    · cases e
    · cases e
      exact ⟨hb, r⟩
  have HL : Hid (z.length = 96) := h.len
  have HZ := hid h
  have HT : Hid (∀ e w', Took z w e w' = Took z w e w') := fun _ _ => rfl
  have h4 : SlN w (some ⟨b, o + 4, none⟩) 92 (z.drop 4) := by
    have := h.mid 4 92 cap (by omega) hc
    rw [atOff, if_neg (by omega)] at this
    rw [List.take_of_length_le (by rw [List.length_drop, HL.out]; omega)] at this
    simpa [add_off] using this
  have h12 : SlN w (some ⟨b, o + 12, none⟩) (z.getD 1 0) (FrM.datOf z) := by
    have := h.mid 12 (z.getD 1 0) cap (by omega) hc
    rw [atOff, if_neg (by omega)] at this
    have this : SlN w (some (Addr.add ⟨b, o, none⟩ 12)) (z.getD 1 0) ((z.drop 12).take (z.getD 1 0)) := this
    rw [add_off] at this
    exact this
  have HWD := hid (word_any (some ⟨b, o + 4, none⟩) 92 (cap - 4) (z.drop 4) w h4 (by omega) (by omega))
  rw [word_drop] at HWD
  have c1 : w.cell? ⟨b, o + 1, none⟩ = some (.int .u8 (z.getD 1 0 : Nat)) := r.cells 1 (by rw [HL.out]; omega)
  have HID : Hid (FrM.idOf z < 4294967296) := FrM.word_lt r.small 4
  have HDS : Hid (∀ x ∈ FrM.datOf z, x < 256) := h12.small
  have hTK : FrM.tk z = if z = FrM.fr (FrM.idOf z) (FrM.datOf z) then some (FrM.idOf z, FrM.datOf z) else none := by
    unfold FrM.tk
    by_cases e : z = FrM.fr (FrM.idOf z) (FrM.datOf z)
    · rw [if_pos e, if_pos ⟨HL.out, hm, e⟩]
    · rw [if_neg e, if_neg fun k => e k.2.2]
  have HGOOD : Hid (z = FrM.fr (FrM.idOf z) (FrM.datOf z) → ∀ w' a c, Got w w' a (z.getD 1 0) c (FrM.datOf z) → Took z w (.returned (.tuple #[.int .i64 (FrM.idOf z : Nat), .slice a (z.getD 1 0) c, .bool true])) w') := fun e w' a c g => .inl ⟨a, c, by rw [hTK, if_pos e], rfl, g⟩
  have HBAD : Hid (¬ z = FrM.fr (FrM.idOf z) (FrM.datOf z) → ∀ w', Up Nul w w' → Took z w (.returned (.tuple #[.int .i64 0, .slice none 0 0, .bool false])) w') := fun e w' u => .inr ⟨by rw [hTK, if_neg e], rfl, u⟩
  have s4 := run_from_at b o 96 cap 4 (by omega) (by omega) hc
  have s12 : ∀ W, (Instr.slice 32 (.slice (some ⟨b, o, none⟩) 96 cap) (some (.int .i64 12)) (some (.int .i64 ((12 : Int) + ((z.getD 1 0 : Nat) : Int)))) none).run Try.prog W = .ok (.slice (some ⟨b, o + 12, none⟩) (z.getD 1 0) (cap - 12)) W := fun W => by
    have := run_part (some ⟨b, o, none⟩) 96 cap 12 (12 + z.getD 1 0) (z.getD 1 0) rfl (by omega) W
    rw [atOff, if_neg (by omega)] at this
    simpa [add_off, Int.natCast_add] using this
  have HCL := hid (bclone_any (some ⟨b, o + 12, none⟩) (z.getD 1 0) (cap - 12) (FrM.datOf z) w h12 (fun e => by cases e) (by omega))
  have HWD : Hid (Calls Try.prog 61 #[.slice (some ⟨b, o + 4, none⟩) 92 (cap - 4)] w fun e w' => e = .returned (.int .u32 (FrM.idOf z : Nat)) ∧ w = w') := HWD
  have i0 : ((z.getD 1 0 : Nat) : Int) ≤ 64 := by omega
  have i3 : (96 : Int) ≤ (cap : Int) := by omega
  have hid64 : IntKind.i64.wrap (FrM.idOf z : Int) = (FrM.idOf z : Int) := by have := HID.out; exact IntWalk.i64_in _ (by omega)
  have HM : Hid (z.getD 1 0 ≤ 64) := hm
  generalize Took z w = K at HGOOD HBAD ⊢
  generalize FrM.idOf z = id at HWD HID HGOOD HBAD hid64 hTK
  generalize FrM.datOf z = dat at HDS HCL HGOOD HBAD h12 hTK
  generalize z.getD 1 0 = m at c1 HGOOD s12 HCL i0 HM h12
  clear h r h4 h12 hTK hm HT
  go_enter Try.func47, Try.ntmps47
  go_wp2_with fail
  refine HWD.out.mono ?_
  rintro e w1 ⟨rfl, rfl⟩
  go_wp2_with fail
  refine HCL.out.mono ?_
  rintro e w1 ⟨a', c', rfl, g1⟩
  have HG := hid g1
  have HL1 : Hid (dat.length = m) := g1.sl.len
  clear g1
  go_wp2_with fail
  refine (put_good id a' m c' dat w1 HID.out HM.out HG.out.sl).mono ?_
  rintro e w2 ⟨rfl, p1, p2⟩
  have HP := hid p1
  have HU := hid p2
  clear p1 p2
  go_wp2_with fail
  refine (equalS (some ⟨b, o, none⟩) _ 96 cap 96 96 z (FrM.fr id dat) w2 (HZ.out.nxt (HG.out.up.trans HU.out)) (blk_sln HP.out (by rw [FrM.fr_length (by rw [HL1.out]; exact HM.out)]; omega) (by rw [List.drop_zero, List.take_of_length_le (by rw [FrM.fr_length (by rw [HL1.out]; exact HM.out)]; omega)]) (by omega))).mono ?_
  rintro e w3 ⟨rfl, rfl⟩
  by_cases e : z = FrM.fr id dat
  · rw [decide_eq_true e]
    have E := hid e
    clear e
    go_wp2
    go_ret3
    exact HGOOD.out E.out _ _ _ ⟨HG.out.sl.nxt HU.out, HG.out.cap, HG.out.nil, HG.out.new, HG.out.up.trans HU.out⟩
  · rw [decide_eq_false e]
    have E := hid e
    clear e
    go_wp2
    go_ret3
    exact HBAD.out E.out _ (HG.out.up.trans HU.out)
/-- Take of any bytes. -/
theorem take_any (a : Option Addr) (n cap : Nat) (z : List Nat) (w : World) (h : SlN w a n z) (hc : n ≤ cap) :
    Calls Try.prog 47 #[.slice a n cap] w (Took z w) := by
  by_cases hn : n = 96
  · subst hn
    rcases h.row with e | ⟨b, o, rfl, _, _⟩
    · cases e
    · by_cases hm : z.getD 1 0 ≤ 64
      · exact take_at b o cap z w h hc hm
      · exact take_more b o cap z w h (by omega)
  · exact take_len a n cap z w h hn

/-! ### 'Holds' -/
theorem holds_any (a : Option Addr) (n cap : Nat) (z : List Nat) (x : Int) (w : World) (h : SlN w a n z) (hc : n ≤ cap) :
    Calls Try.prog 51 #[.slice a n cap, .int .i64 x] w fun e w' =>
      (∃ a' c, FrM.tk z = some (FrM.idOf z, FrM.datOf z) ∧ (FrM.idOf z : Int) = x ∧ e = .returned (.tuple #[.slice a' (z.getD 1 0) c, .bool true]) ∧ Got w w' a' (z.getD 1 0) c (FrM.datOf z)) ∨
      ((FrM.tk z = none ∨ ¬ (FrM.idOf z : Int) = x) ∧ e = .returned (.tuple #[.slice none 0 0, .bool false]) ∧ Up Nul w w') := by
  have HT := hid (take_any a n cap z w h hc)
  clear h hc
  unfold Took at HT
  go_enter Try.func51, Try.ntmps51
  go_wp2_with fail
  refine HT.out.mono ?_
  rintro e w1 (⟨a', c, h1, rfl, g⟩ | ⟨h1, rfl, u⟩)
  · have H1 := hid (And.intro h1 g)
    clear h1 g
    by_cases e : (FrM.idOf z : Int) = x
    · have E := hid e
      have e2 : ((FrM.idOf z : Int) == x) = true := by simp [e]
      go_wp2
      go_ret2
      exact .inl ⟨a', c, H1.out.1, E.out, rfl, H1.out.2⟩
    · have E := hid e
      have e2 : ((FrM.idOf z : Int) == x) = false := by simp [e]
      go_wp2
      go_ret2
      exact .inr ⟨.inr E.out, rfl, H1.out.2.up⟩
  · have H1 := hid (And.intro h1 u)
    clear h1 u
    go_wp2
    go_ret2
    exact .inr ⟨.inl H1.out.1, rfl, H1.out.2⟩
end Go.Proofs.Ytfmgbmpdifjliaa
