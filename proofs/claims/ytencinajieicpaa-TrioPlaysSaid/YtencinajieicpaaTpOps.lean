/- The program's Tape, as the laws ask for it. -/
import Derived.Test.YtencinajieicpaaTpReal
import Derived.BigQuiet
import Derived.Deep.QuietTactic
namespace Go.Proofs.Ytencinajieicpaa
open Go.RowKit
set_option linter.unusedVariables false

section
variable {w w' : World} {t : Nat} {fu k : Option Nat} {S : TS} {v : Value} {T : Nat → Prop}
theorem pt_new (hf : FzO w fu k) : Calls Try.prog 39 #[.pointer (fp fu)] w fun e w' => ∃ t, e = .returned (.pointer (some ⟨t, 0, none⟩)) ∧ TpW w' t fu ⟨[], 0, true⟩ (.slice none 0 0) ∧ Up Nul w w' ∧ t = w.heap.size := by
  have HE : Hid (TpW (w.alloc (.cells #[.pointer (fp fu), .bool true, .slice none 0 0, .int .i64 0] 90)) w.heap.size fu ⟨[], 0, true⟩ (.slice none 0 0)) := ⟨heap_alloc_new _ _, OwnB.nil _ _, by simp, by simp⟩
  have HU := hid ((Up.refl Nul w).alloc (.cells #[.pointer (fp fu), .bool true, .slice none 0 0, .int .i64 0] 90))
  clear hf
  generalize fp fu = p at HE HU ⊢
  go_enter Try.func39, Try.ntmps39
  go_wp2
  go_ret
  exact ⟨_, rfl, HE.out, HU.out, rfl⟩
theorem pt_settle (h : TpW w t fu S v) (n : Nat) (hn : n ≤ S.B.length) : Calls Try.prog 56 #[.pointer (some ⟨t, 0, none⟩), .int .i64 (n : Nat)] w fun e w' => e = .returned (.tuple #[]) ∧ ∃ v', TpW w' t fu ⟨S.B.take n, 0, S.live⟩ v' ∧ v'.ownBlock = v.ownBlock ∧ Up (One t) w w' := by
  obtain ⟨a, c, rfl, hc, _⟩ := h.shp
  have c2 := h.c2
  have c3 := h.c3
  have f2 := h.fr 2
  have f3 := h.fr 3
  have HP := hid (h.put n hn)
  have hr := run_upto a S.B.length c n (by omega) w
  have UP := hid (((Up.refl (One t) w).put rfl 2 (.slice a n c)).put rfl 3 (.int .i64 (n : Nat)))
  have HB := hid (ownBlock_sl a n S.B.length c)
  generalize S.B.length - S.loose = q at c3
  obtain ⟨l, hl⟩ : ∃ l, l = S.B.length := ⟨_, rfl⟩
  rw [← hl] at c2 hr HB ⊢
  clear h hl hn hc
  go_enter Try.func56, Try.ntmps56
  go_wp2
  go_end0
  exact ⟨rfl, _, HP.out, HB.out, UP.out⟩
/-- What is told of a Tape that is another now. -/
theorem TpW.did {S' : TS} {v' : Value} {k' : Option Nat} {X : Nat → Prop} (h : TpW w t fu S v) (hT : ∀ g, T g ↔ g = t ∨ v.ownBlock = some g) (h' : TpW w' t fu S' v') (hv : v'.ownBlock = v.ownBlock ∨ ∀ g, v'.ownBlock = some g → w.heap.size ≤ g) (u : Up X w w') (hX : ∀ g, g < w.heap.size → X g → g = t ∨ v.ownBlock = some g ∨ fu = some g) (hz : FzO w' fu k') : Td PTp w w' t fu k' T S' := by
  refine ⟨⟨fun g => g = t ∨ v'.ownBlock = some g, ⟨v', h', fun _ => Iff.rfl⟩, fun g hg => ?_⟩, u.mono fun g hl hg => ?_, hz⟩
  · rcases hg with e | e
    · exact .inl ((hT g).2 (.inl e))
    · rcases hv with hv | hv
      · exact .inl ((hT g).2 (.inr (by rw [← hv]; exact e)))
      · exact .inr (hv g e)
  · rcases hX g hl hg with e | e | e
    · exact .inl ((hT g).2 (.inl e))
    · exact .inl ((hT g).2 (.inr e))
    · exact .inr e
/-- A slice of bytes stays over what turns none of it. -/
theorem pt_append (h : TpW w t fu S v) (hT : ∀ g, T g ↔ g = t ∨ v.ownBlock = some g) (hf : FzO w fu k) (a : Option Addr) (l c : Nat) (z : List Nat) (hz : SlN w a l z) (hc : l ≤ c) (hl : l ≤ 100000) (hne : l = 0 ∨ ∀ x, a = some x → ¬ T x.block ∧ fu ≠ some x.block) :
    Calls Try.prog 37 #[.pointer (some ⟨t, 0, none⟩), .slice a l c] w fun e w' =>
      (S.live = false ∧ e = .returned (.int .i64 5) ∧ Up Nul w w') ∨ (S.live = true ∧ 65536 < S.B.length + l ∧ e = .returned (.int .i64 7) ∧ Up Nul w w') ∨ (S.live = true ∧ S.B.length + l ≤ 65536 ∧ k = some 0 ∧ e = .returned (.int .i64 4) ∧ Up Nul w w') ∨
      (S.live = true ∧ S.B.length + l ≤ 65536 ∧ k ≠ some 0 ∧ e = .returned (.int .i64 0) ∧ Td PTp w w' t fu (less k) T ⟨S.B ++ z, S.loose + l, true⟩) := by
  obtain ⟨B, lo, live⟩ := S
  have UR := hid (Up.refl Nul w)
  obtain ⟨va, vc, rfl, hvc, hsl⟩ := h.shp
  have c0 := h.c0
  have c1 := h.c1
  have c2 := h.c2
  have hB := h.le
  have hlo := h.lo
  dsimp only at c1 c2 hB hlo hvc hsl ⊢
  cases live with
  | false =>
    clear h hf hne hT
    go_enter Try.func37, Try.ntmps37
    go_wp2
    go_ret
    exact .inl ⟨by first | rfl | trivial, rfl, UR.out⟩
  | true =>
    obtain ⟨n, hn⟩ : ∃ n, n = B.length := ⟨_, rfl⟩
    rw [← hn] at c2 hB hlo ⊢
    have i1 : IntKind.i64.wrap (65536 - (n : Int)) = 65536 - (n : Int) := IntWalk.i64_in _ (by omega)
    by_cases hfit : 65536 < n + l
    · have i2 : 65536 - (n : Int) < (l : Int) := by omega
      have HFT := hid hfit
      clear h hf hne hT hn hfit
      go_enter Try.func37, Try.ntmps37
      go_wp2
      go_ret
      exact .inr (.inl ⟨by first | rfl | trivial, HFT.out, rfl, UR.out⟩)
    · have i2 : ¬ 65536 - (n : Int) < (l : Int) := by omega
      have HFT : Hid (n + l ≤ 65536) := by show _ ≤ _; omega
      by_cases hk : k = some 0
      · subst hk
        have HS := hid (spend_dead fu w hf)
        generalize fp fu = p at HS c0
        clear h hf hne hT hn hfit
        go_enter Try.func37, Try.ntmps37
        go_wp2_with fail
        refine HS.out.mono ?_
        rintro e w1 ⟨rfl, rfl⟩
        go_wp2
        go_ret
        exact .inr (.inr (.inl ⟨by first | rfl | trivial, HFT.out, by first | rfl | trivial, rfl, UR.out⟩))
      · have HS := hid (spend_live fu k w hf hk)
        have HK := hid hk
        have h' : TpW w t fu ⟨B, lo, true⟩ (.slice va n vc) := by rw [hn]; exact h
        have hT' : ∀ g, T g ↔ g = t ∨ (Value.slice va n vc).ownBlock = some g := by rw [hn]; exact hT
        have HH := hid h'
        have HT := hid hT'
        have HN := hid (h'.nf hf)
        have HNE := hid h'.ne
        clear h' hT'
        have HLN := hid hn
        have HZ := hid hz
        have HA : Hid (∀ g o, a = some ⟨g, o, none⟩ → l = 0 ∨ (¬ FF fu g)) := fun g o e => hne.imp id fun h => fun e2 => (h _ e).2 e2
        generalize fp fu = p at HS c0
        clear h hf hT hn hfit hk hsl hz hne
        go_enter Try.func37, Try.ntmps37
        go_wp2_with fail
        refine HS.out.mono ?_
        rintro e w1 ⟨rfl, hf1, u1, hsz⟩
        have h1 : TpW w1 t fu ⟨B, lo, true⟩ (.slice va n vc) := HH.out.up u1 (fun e => (HN.out t e).1 rfl) fun g hg e => (HN.out g e).2 hg
        have z1 : SlN w1 a l z := by
          refine ⟨HZ.out.len, ?_, HZ.out.le⟩
          rcases HZ.out.row with e | ⟨b, o, e1, e2, e3⟩
          · exact .inl e
          · rcases HA.out b o e1 with e | e
            · exact .inl e
            · exact .inr ⟨b, o, e1, Nat.lt_of_lt_of_le e2 u1.size, e3.up u1 e2 e⟩
        obtain ⟨v2, w2, hrun, g1, g2, g3⟩ := run_append_slw w1 30 0 _ B h1.own a l c z z1 (by have := HFT.out; rw [HLN.out] at this; omega) (Nat.zero_le _)
        obtain ⟨q2, l2, k2, rfl⟩ : ∃ q l c, v2 = .slice q l c := by
          rcases g1.own.2 with ⟨e, _⟩ | ⟨_, _, _, e, _⟩ <;> exact ⟨_, _, _, e⟩
        have b2 : (Value.slice q2 l2 k2).ownBlock = (Value.slice va n vc).ownBlock ∨ ∀ g, (Value.slice q2 l2 k2).ownBlock = some g → w.heap.size ≤ g := g3.imp id fun e g hg => by
          rw [e] at hg
          have : w1.heap.size = g := by simpa using hg
          omega
        have hts : some t ≠ (Value.slice va n vc).ownBlock := fun e => h1.ne t e.symm rfl
        have ht2 : w2.heap[t]? = some (.cells #[.pointer (fp fu), .bool true, .slice va n vc, .int .i64 ((B.length - lo : Nat) : Int)] 90 (0, 0)) := (g2.block t h1.lt hts).trans h1.heap
        have nt2 : ∀ g, (Value.slice q2 l2 k2).ownBlock = some g → g ≠ t := fun g hg e => by
          rcases g3 with e3 | e3
          · exact h1.ne g (by rw [← e3]; exact hg) e
          · rw [e3] at hg
            have : w1.heap.size = g := by simpa using hg
            have := h1.lt
            omega
        have c2 : w2.cell? ⟨t, 2, none⟩ = some (.slice va n vc) := by simp [World.cell?, ht2]
        have f2 : w2.frozen? ⟨t, 2, none⟩ = false := by simp [World.frozen?, ht2]
        have hlen : (B ++ z).length = n + l := by rw [List.length_append, HZ.out.len, HLN.out]
        have HP : Hid (TpW (w2.setCell ⟨t, 2, none⟩ (.slice q2 l2 k2)) t fu ⟨B ++ z, lo + l, true⟩ (.slice q2 l2 k2)) := by
          refine ⟨?_, g1.off ((Up.refl (One t) w2).put rfl 2 (.slice q2 l2 k2)) fun g hg e => nt2 g hg e, by show (B ++ z).length ≤ _; rw [hlen]; exact HFT.out, by show lo + l ≤ (B ++ z).length; rw [hlen]; omega⟩
          rw [heap_setCell_same w2 t 2 _ _ _ ht2]
          show some (Obj.cells #[_, _, _, .int .i64 ((B.length - lo : Nat) : Int)] _ _) = some (.cells #[_, _, _, .int .i64 (((B ++ z).length - (lo + l) : Nat) : Int)] _ _)
          rw [hlen, HLN.out, Nat.add_sub_add_right]
        have UW : Hid (Up (fun g => g = t ∨ (Value.slice va n vc).ownBlock = some g ∨ fu = some g) w (w2.setCell ⟨t, 2, none⟩ (.slice q2 l2 k2))) := by
          refine Up.put (Up.trans (u1.mono fun g _ e => .inr (.inr e)) ⟨g2.os, g2.tape, g2.output, g2.size, fun g hg hs => g2.block g hg fun e => hs (.inr (.inl e.symm))⟩) (.inl rfl) 2 (.slice q2 l2 k2)
        have HF : Hid (FzO (w2.setCell ⟨t, 2, none⟩ (.slice q2 l2 k2)) fu (less k)) := by
          refine hf1.up (S := fun g => g = t ∨ (Value.slice va n vc).ownBlock = some g) (Up.put (S := fun g => g = t ∨ (Value.slice va n vc).ownBlock = some g) ⟨g2.os, g2.tape, g2.output, g2.size, fun g hg hs => g2.block g hg fun e => hs (.inr e.symm)⟩ (.inl rfl) 2 (.slice q2 l2 k2)) fun f e => ?_
          rintro (e2 | e2)
          · exact (HN.out f e).1 e2
          · exact (HN.out f e).2 e2
        have HD := hid (HH.out.did HT.out HP.out b2 UW.out (fun g _ e => e) HF.out)
        have d2 := h1.c2
        clear h1 z1 u1 hf1 b2 hts ht2 nt2 hlen UW HF HP g1 g2 g3 hsz c1 c0 HH HT HN HZ HA HNE
        go_wp2_with (at_builtin; refine wpList_append_eqv rfl (.tmp 29) (.tmp 30) 30 rfl _ _ _ rfl rfl hrun ?_)
        go_wp2
        go_ret
        exact .inr (.inr (.inr ⟨by first | rfl | trivial, HFT.out, HK.out, rfl, HD.out⟩))
theorem pt_sync (h : TpW w t fu S v) (hT : ∀ g, T g ↔ g = t ∨ v.ownBlock = some g) (hf : FzO w fu k) : Calls Try.prog 38 #[.pointer (some ⟨t, 0, none⟩)] w fun e w' =>
      (S.live = false ∧ e = .returned (.int .i64 5) ∧ Up Nul w w') ∨ (S.live = true ∧ k = some 0 ∧ e = .returned (.int .i64 4) ∧ Up Nul w w') ∨ (S.live = true ∧ k ≠ some 0 ∧ e = .returned (.int .i64 0) ∧ Td PTp w w' t fu k T ⟨S.B, 0, true⟩) := by
  obtain ⟨B, lo, live⟩ := S
  have UR := hid (Up.refl Nul w)
  have HS := hid (pt_settle h B.length (Nat.le_refl _))
  have HH := hid h
  have HT := hid hT
  have HF := hid hf
  have HN := hid (h.nf hf)
  obtain ⟨va, vc, rfl, hvc, hsl⟩ := h.shp
  have c0 := h.c0
  have c1 := h.c1
  have c2 := h.c2
  have HD := hid (dead_any fu k w hf)
  dsimp only at c1 c2 HS HT HH ⊢
  rw [List.take_length] at HS
  obtain ⟨n, hn⟩ : ∃ n, n = B.length := ⟨_, rfl⟩
  rw [← hn] at HS c2 HT HH
  generalize fp fu = p at HD c0
  clear h hf hT hn hsl hvc
  cases live with
  | false =>
    suffices H : Calls Try.prog 38 #[.pointer (some ⟨t, 0, none⟩)] w (fun e w' => e = .returned (.int .i64 5) ∧ w' = w) from H.mono fun e w' h => .inl ⟨rfl, h.1, by rw [h.2]; exact UR.out⟩
    go_enter Try.func38, Try.ntmps38
    go_wp2
    go_ret
    exact ⟨rfl, rfl⟩
  | true =>
    by_cases hk : k = some 0
    · subst hk
      have HD : Hid (Calls Try.prog 60 #[.pointer p] w fun e w' => e = .returned (.bool true) ∧ w' = w) := HD
      suffices H : Calls Try.prog 38 #[.pointer (some ⟨t, 0, none⟩)] w (fun e w' => e = .returned (.int .i64 4) ∧ w' = w) from H.mono fun e w' h => .inr (.inl ⟨rfl, rfl, h.1, by rw [h.2]; exact UR.out⟩)
      go_enter Try.func38, Try.ntmps38
      go_wp2_with fail
      refine HD.out.mono ?_
      rintro e w1 ⟨rfl, rfl⟩
      go_wp2
      go_ret
      exact ⟨rfl, rfl⟩
    · have hd : (k == some 0) = false := by simpa using hk
      rw [hd] at HD
      have HK := hid hk
      clear hk hd
      suffices H : Calls Try.prog 38 #[.pointer (some ⟨t, 0, none⟩)] w (fun e w' => e = .returned (.int .i64 0) ∧ Td PTp w w' t fu k T ⟨B, 0, true⟩) from H.mono fun e w' h => .inr (.inr ⟨rfl, HK.out, h.1, h.2⟩)
      go_enter Try.func38, Try.ntmps38
      go_wp2_with fail
      refine HD.out.mono ?_
      rintro e w1 ⟨rfl, rfl⟩
      go_wp2_with fail
      refine HS.out.mono ?_
      rintro e w2 ⟨rfl, v', g1, g2, g3⟩
      have HD := hid (HH.out.did HT.out g1 (.inl g2) g3 (fun g _ e => .inl e) (HF.out.up g3 fun f e => (HN.out f e).1))
      clear g1 g2 g3
      go_wp2
      go_ret
      exact ⟨rfl, HD.out⟩
theorem pt_cut (h : TpW w t fu S v) (hT : ∀ g, T g ↔ g = t ∨ v.ownBlock = some g) (hf : FzO w fu k) (x : Int) : Calls Try.prog 62 #[.pointer (some ⟨t, 0, none⟩), .int .i64 x] w fun e w' =>
      (S.live = false ∧ e = .returned (.int .i64 5) ∧ Up Nul w w') ∨ (S.live = true ∧ (x < 0 ∨ (S.B.length : Int) < x) ∧ e = .returned (.int .i64 1) ∧ Up Nul w w') ∨ (S.live = true ∧ (0 ≤ x ∧ x ≤ (S.B.length : Int)) ∧ k = some 0 ∧ e = .returned (.int .i64 4) ∧ Up Nul w w') ∨
      (S.live = true ∧ (0 ≤ x ∧ x ≤ (S.B.length : Int)) ∧ k ≠ some 0 ∧ e = .returned (.int .i64 0) ∧ Td PTp w w' t fu (less k) T ⟨S.B.take x.toNat, 0, true⟩) := by
  obtain ⟨B, lo, live⟩ := S
  have UR := hid (Up.refl Nul w)
  obtain ⟨va, vc, rfl, hvc, hsl⟩ := h.shp
  have HH := hid h
  have HT := hid hT
  have HN := hid (h.nf hf)
  have c0 := h.c0
  have c1 := h.c1
  have c2 := h.c2
  dsimp only at c1 c2 HH HT HN hvc ⊢
  obtain ⟨n, hn⟩ : ∃ n, n = B.length := ⟨_, rfl⟩
  rw [← hn] at c2 HH HT HN ⊢
  have HNE := hid hn
  cases live with
  | false =>
    clear h hT hn hsl hvc hf
    generalize fp fu = p at c0
    suffices H : Calls Try.prog 62 #[.pointer (some ⟨t, 0, none⟩), .int .i64 x] w (fun e w' => e = .returned (.int .i64 5) ∧ w' = w) from H.mono fun e w' h => .inl ⟨rfl, h.1, by rw [h.2]; exact UR.out⟩
    go_enter Try.func62, Try.ntmps62
    go_wp2
    go_ret
    exact ⟨rfl, rfl⟩
  | true =>
    by_cases hx : x < 0 ∨ (n : Int) < x
    · have HX := hid hx
      clear h hT hn hsl hvc hf
      generalize fp fu = p at c0
      by_cases h0 : x < 0
      · clear hx
        suffices H : Calls Try.prog 62 #[.pointer (some ⟨t, 0, none⟩), .int .i64 x] w (fun e w' => e = .returned (.int .i64 1) ∧ w' = w) from H.mono fun e w' h => .inr (.inl ⟨rfl, HX.out, h.1, by rw [h.2]; exact UR.out⟩)
        go_enter Try.func62, Try.ntmps62
        go_wp2
        go_ret
        exact ⟨rfl, rfl⟩
      · have h1 : (n : Int) < x := hx.resolve_left h0
        clear hx
        suffices H : Calls Try.prog 62 #[.pointer (some ⟨t, 0, none⟩), .int .i64 x] w (fun e w' => e = .returned (.int .i64 1) ∧ w' = w) from H.mono fun e w' h => .inr (.inl ⟨rfl, HX.out, h.1, by rw [h.2]; exact UR.out⟩)
        go_enter Try.func62, Try.ntmps62
        go_wp2
        go_ret
        exact ⟨rfl, rfl⟩
    · have HX : Hid (0 ≤ x ∧ x ≤ (n : Int)) := by show _ ∧ _; omega
      have h0 : ¬ x < 0 := by omega
      have h1 : ¬ (n : Int) < x := by omega
      clear hx
      by_cases hk : k = some 0
      · subst hk
        have HS := hid (spend_dead fu w hf)
        generalize fp fu = p at HS c0
        clear h hf hT hn hsl hvc
        suffices H : Calls Try.prog 62 #[.pointer (some ⟨t, 0, none⟩), .int .i64 x] w (fun e w' => e = .returned (.int .i64 4) ∧ w' = w) from H.mono fun e w' h => .inr (.inr (.inl ⟨rfl, HX.out, rfl, h.1, by rw [h.2]; exact UR.out⟩))
        go_enter Try.func62, Try.ntmps62
        go_wp2_with fail
        refine HS.out.mono ?_
        rintro e w1 ⟨rfl, rfl⟩
        go_wp2
        go_ret
        exact ⟨rfl, rfl⟩
      · have HS := hid (spend_live fu k w hf hk)
        have HK := hid hk
        generalize fp fu = p at HS c0
        clear h hf hT hn hsl hvc hk
        suffices H : Calls Try.prog 62 #[.pointer (some ⟨t, 0, none⟩), .int .i64 x] w (fun e w' => e = .returned (.int .i64 0) ∧ Td PTp w w' t fu (less k) T ⟨B.take x.toNat, 0, true⟩) from H.mono fun e w' h => .inr (.inr (.inr ⟨rfl, HX.out, HK.out, h.1, h.2⟩))
        go_enter Try.func62, Try.ntmps62
        go_wp2_with fail
        refine HS.out.mono ?_
        rintro e w1 ⟨rfl, hf1, u1, hsz⟩
        have h1' := HH.out.up u1 (fun e => (HN.out t e).1 rfl) fun g hg e => (HN.out g e).2 hg
        have HS2 := hid (pt_settle h1' x.toNat (by have := HX.out; rw [HNE.out] at this; show x.toNat ≤ B.length; omega))
        rw [Int.toNat_of_nonneg HX.out.1] at HS2
        have H1 := hid (And.intro hf1 (And.intro u1 h1'))
        clear hf1 u1 hsz h1'
        go_wp2_with fail
        refine HS2.out.mono ?_
        rintro e w2 ⟨rfl, v', g1, g2, g3⟩
        have HD := hid (HH.out.did HT.out g1 (.inl g2) (Up.trans (H1.out.2.1.mono (T := fun g => g = t ∨ fu = some g) fun g _ e => .inr e) (g3.mono fun g _ e => .inl e)) (fun g _ e => e.imp id .inr) (H1.out.1.up g3 fun f e => (HN.out f e).1))
        clear g1 g2 g3
        go_wp2
        go_ret
        exact ⟨rfl, HD.out⟩
theorem pt_bytes (h : TpW w t fu S v) : Calls Try.prog 36 #[.pointer (some ⟨t, 0, none⟩)] w fun e w' =>
      ((S.live = false ∧ ∃ a c, e = .returned (.tuple #[.slice a 0 c, .int .i64 5])) ∨ (S.live = true ∧ ∃ a c, e = .returned (.tuple #[.slice a S.B.length c, .int .i64 0]) ∧ Got w w' a S.B.length c S.B)) ∧ Up Nul w w' := by
  obtain ⟨B, lo, live⟩ := S
  obtain ⟨va, vc, rfl, hvc, hsl⟩ := h.shp
  have c1 := h.c1
  have c2 := h.c2
  have hB := h.le
  dsimp only at c1 c2 hB hvc hsl ⊢
  have HB := hid (bclone_wide va B.length vc B w hsl hsl.nil0 (by omega))
  obtain ⟨n, hn⟩ : ∃ n, n = B.length := ⟨_, rfl⟩
  rw [← hn] at c2 HB
  have HN := hid hn
  clear h hB hvc hsl hn
  cases live with
  | false =>
    suffices H : Calls Try.prog 36 #[.pointer (some ⟨t, 0, none⟩)] w (fun e w' => e = .returned (.tuple #[.slice none 0 0, .int .i64 5]) ∧ w' = w) from H.mono fun e w' h => ⟨.inl ⟨rfl, none, 0, h.1⟩, by rw [h.2]; exact Up.refl _ _⟩
    go_enter Try.func36, Try.ntmps36
    go_wp2
    go_ret2
    exact ⟨rfl, rfl⟩
  | true =>
    suffices H : Calls Try.prog 36 #[.pointer (some ⟨t, 0, none⟩)] w (fun e w' => ∃ a c, e = .returned (.tuple #[.slice a n c, .int .i64 0]) ∧ Got w w' a n c B) from H.mono fun e w' ⟨a, c, h1, h2⟩ => ⟨.inr ⟨rfl, a, c, by rw [← HN.out]; exact h1, by rw [← HN.out]; exact h2⟩, h2.up⟩
    go_enter Try.func36, Try.ntmps36
    go_wp2_with fail
    refine HB.out.mono ?_
    rintro e w1 ⟨a, c, rfl, hg⟩
    have HG := hid hg
    clear hg
    go_wp2
    go_ret2
    exact ⟨a, c, rfl, HG.out⟩
theorem pt_live (h : TpW w t fu S v) : Calls Try.prog 35 #[.pointer (some ⟨t, 0, none⟩)] w fun e w' => e = .returned (.bool S.live) ∧ Up Nul w w' := by
  have c1 := h.c1
  generalize S.live = b at c1 ⊢
  have UR := hid (Up.refl Nul w)
  clear h
  go_enter Try.func35, Try.ntmps35
  go_wp2
  go_ret
  exact ⟨rfl, UR.out⟩
theorem pt_loose (h : TpW w t fu S v) : Calls Try.prog 55 #[.pointer (some ⟨t, 0, none⟩)] w fun e w' => e = .returned (.int .i64 (S.loose : Nat)) ∧ TpW w' t fu S v ∧ Up Nul w w' := by
  have HU : Hid (∀ n, TpW (w.drewN n) t fu S v ∧ Up Nul w (w.drewN n)) := fun n => ⟨h.up ((Up.refl Nul w).drewN n) (fun e => e) fun _ _ e => e, (Up.refl Nul w).drewN n⟩
  obtain ⟨va, vc, rfl, hvc, hsl⟩ := h.shp
  have c2 := h.c2
  have c3 := h.c3
  have hB := h.le
  have hlo := h.lo
  obtain ⟨n, hn⟩ : ∃ n, n = S.B.length := ⟨_, rfl⟩
  obtain ⟨l, hl⟩ : ∃ l, l = S.loose := ⟨_, rfl⟩
  rw [← hn] at c2 c3 hB hlo
  rw [← hl] at c3 hlo ⊢
  obtain ⟨q, hq⟩ : ∃ q, q = n - l := ⟨_, rfl⟩
  rw [← hq] at c3
  have i1 : IntKind.i64.wrap ((n : Int) - (q : Int)) = (l : Int) := by rw [show (n : Int) - (q : Int) = (l : Int) by omega]; exact IntWalk.i64_in _ (by omega)
  have i2 : wrap64 ((n : Int) - (q : Int)) = (l : Int) := by rw [← IntWalk.i64_left]; exact i1
  clear h hsl hvc hq hB hlo hn hl
  go_enter Try.func55, Try.ntmps55
  go_wp2
  go_quiet (fail)
  go_wp2
  go_ret
  exact ⟨rfl, HU.out _⟩
theorem pt_fail (h : TpW w t fu S v) : Calls Try.prog 15 #[.pointer (some ⟨t, 0, none⟩)] w fun e w' => e = .returned (.tuple #[]) ∧ TpW w' t fu ⟨S.B, S.loose, false⟩ v ∧ Up (One t) w w' := by
  have c1 := h.c1
  have f1 := h.fr 1
  have HP : Hid (TpW (w.setCell ⟨t, 1, none⟩ (.bool false)) t fu ⟨S.B, S.loose, false⟩ v) :=
    ⟨heap_setCell_same w t 1 _ _ _ h.heap, h.own.off ((Up.refl (One t) w).put rfl 1 (.bool false)) fun g hg e => h.ne g hg e, h.le, h.lo⟩
  have UP := hid ((Up.refl (One t) w).put rfl 1 (.bool false))
  clear h
  go_enter Try.func15, Try.ntmps15
  go_wp2
  go_end0
  exact ⟨rfl, HP.out, UP.out⟩
theorem pt_crash (h : TpW w t fu S v) (x : Int) : Calls Try.prog 31 #[.pointer (some ⟨t, 0, none⟩), .int .i64 x] w fun e w' => e = .returned (.tuple #[]) ∧ ∃ v', TpW w' t fu (S.crash x) v' ∧ v'.ownBlock = v.ownBlock ∧ Up (One t) w w' := by
  have HL := hid (pt_loose h)
  have hB := h.le
  have hlo := h.lo
  have HX : Hid (S.crash x = ⟨S.B.take (S.B.length - S.loose + min (max x 0).toNat S.loose), 0, S.live⟩) := rfl
  obtain ⟨q, hq⟩ : ∃ q, q = S.B.length - S.loose := ⟨_, rfl⟩
  obtain ⟨lo, hl⟩ : ∃ lo, lo = S.loose := ⟨_, rfl⟩
  obtain ⟨m, hm⟩ : ∃ m, m = q + min (max x 0).toNat lo := ⟨_, rfl⟩
  rw [← hq, ← hl, ← hm] at HX
  rw [← hl] at HL
  have HM : Hid (m ≤ S.B.length ∧ S.B.length - S.loose = q) := by show _ ∧ _; omega
  have hwq : wrap64 ((q : Int) + min (max x 0) (lo : Int)) = (m : Int) := by
    rw [show (q : Int) + min (max x 0) (lo : Int) = (m : Int) by omega, ← IntWalk.i64_left]
    exact IntWalk.i64_in _ (by omega)
  clear h hB hlo hm hq hl
  go_enter Try.func31, Try.ntmps31
  go_wp2_with fail
  refine HL.out.mono ?_
  rintro e w1 ⟨rfl, h1, u1⟩
  have c3 := h1.c3
  rw [HM.out.2] at c3
  have HS := hid (pt_settle h1 m HM.out.1)
  have U1 := hid u1
  clear h1 u1
  go_wp2_with fail
  rw [hwq]
  refine HS.out.mono ?_
  rintro e w2 ⟨rfl, v', g1, g2, g3⟩
  rw [← HX.out] at g1
  have HG := hid (And.intro g1 (And.intro g2 (U1.out.nul.trans g3)))
  clear g1 g2 g3
  go_wp2
  go_end0
  exact ⟨rfl, v', HG.out⟩
theorem pt_replace (h : TpW w t fu S v) (hf : FzO w fu k) : Calls Try.prog 16 #[.pointer (some ⟨t, 0, none⟩)] w fun e w' => e = .returned (.tuple #[]) ∧ TpW w' t fu ⟨[], 0, true⟩ (.slice none 0 0) ∧ Up (One t) w w' := by
  have c0 := h.c0
  have HN := hid (pt_new hf)
  have HH := hid h
  generalize fp fu = p at HN c0
  clear h hf
  go_enter Try.func16, Try.ntmps16
  go_wp2_with fail
  refine HN.out.mono ?_
  rintro e w1 ⟨t2, rfl, g1, g2, g3⟩
  have d0 := g1.c0
  have d1 := g1.c1
  have d2 := g1.c2
  have d3 := g1.c3
  have h1 := HH.out.up g2 (fun e => e) fun _ _ e => e
  have e0 := h1.c0
  have e1 := h1.c1
  have e2 := h1.c2
  have e3 := h1.c3
  have f0 := h1.fr 0
  have f1 := h1.fr 1
  have f2 := h1.fr 2
  have f3 := h1.fr 3
  dsimp only at d0 d1 d2 d3
  have HG := hid (And.intro g1 (And.intro g2 h1))
  clear g1 g2 g3 h1
  have HP : Hid (TpW ((((w1.setCell ⟨t, 0, none⟩ (.pointer (fp fu))).setCell ⟨t, 1, none⟩ (.bool true)).setCell ⟨t, 2, none⟩ (.slice none 0 0)).setCell ⟨t, 3, none⟩ (.int .i64 0)) t fu ⟨[], 0, true⟩ (.slice none 0 0)) := by
    refine ⟨?_, OwnB.nil _ _, by simp, by simp⟩
    rw [heap_setCell_same _ t 3 _ _ _ (heap_setCell_same _ t 2 _ _ _ (heap_setCell_same _ t 1 _ _ _ (heap_setCell_same w1 t 0 _ _ _ HG.out.2.2.heap)))]
    rfl
  have HU : Hid (Up (One t) w ((((w1.setCell ⟨t, 0, none⟩ (.pointer (fp fu))).setCell ⟨t, 1, none⟩ (.bool true)).setCell ⟨t, 2, none⟩ (.slice none 0 0)).setCell ⟨t, 3, none⟩ (.int .i64 0))) := ((((HG.out.2.1.nul (S := One t)).put rfl 0 _).put rfl 1 _).put rfl 2 _).put rfl 3 _
  go_wp2
  go_end0
  exact ⟨rfl, HP.out, HU.out⟩
end
/-- The program's Tape keeps what a law asks of a Tape. -/
def tapeOps : TapeOps where
  PT := PTp
  lt := fun h g hg => by
    obtain ⟨v, h, hT⟩ := h
    rcases (hT g).1 hg with rfl | e
    · exact h.lt
    · exact h.bk g e
  le := fun h => by
    obtain ⟨v, h, hT⟩ := h
    exact ⟨h.le, h.lo, h.own.small⟩
  nf := fun h hf f e ht => by
    obtain ⟨v, h, hT⟩ := h
    rcases (hT f).1 ht with e2 | e2
    · exact (h.nf hf f e).1 e2
    · exact (h.nf hf f e).2 e2
  keep := fun h u hs => by
    obtain ⟨v, h, hT⟩ := h
    exact ⟨v, h.up u (hs _ ((hT _).2 (.inl rfl))) fun g hg => hs g ((hT g).2 (.inr hg)), hT⟩
  new := fun hf => (pt_new hf).mono fun e w' h => by
    obtain ⟨t, rfl, h1, h2, h3⟩ := h
    refine ⟨t, fun g => g = t ∨ (Value.slice none 0 0).ownBlock = some g, rfl, ⟨_, h1, fun _ => Iff.rfl⟩, h2, fun g hg => ?_⟩
    rcases hg with rfl | e
    · omega
    · cases e
  append := fun h hf a l c z hz hc hl hn => by
    obtain ⟨v, h, hT⟩ := h
    exact pt_append h hT hf a l c z hz hc hl hn
  sync := fun h hf => by
    obtain ⟨v, h, hT⟩ := h
    exact pt_sync h hT hf
  cut := fun h hf x => by
    obtain ⟨v, h, hT⟩ := h
    exact pt_cut h hT hf x
  bytes := fun h => by
    obtain ⟨v, h, hT⟩ := h
    refine (pt_bytes h).mono ?_
    rintro e w' ⟨h1 | ⟨h1, a, c, h2, h3⟩, h4⟩
    · exact ⟨.inl h1, h4⟩
    · exact ⟨.inr ⟨h1, a, _, c, h2, h3.sl⟩, h4⟩
  live := fun h => by
    obtain ⟨v, h, hT⟩ := h
    exact pt_live h
  loose := fun h => by
    obtain ⟨v, h, hT⟩ := h
    exact (pt_loose h).mono fun e w' h => ⟨⟨_, h.1, fun _ => rfl⟩, h.2.2⟩
  fail := fun h hf => by
    obtain ⟨v, h, hT⟩ := h
    exact (pt_fail h).mono fun e w' g => ⟨g.1, _, rfl, h.did hT g.2.1 (.inl rfl) g.2.2 (fun g _ e => .inl e) (hf.up g.2.2 fun f e => (h.nf hf f e).1)⟩
  replace := fun h hf => by
    obtain ⟨v, h, hT⟩ := h
    exact (pt_replace h hf).mono fun e w' g => ⟨g.1, h.did hT g.2.1 (.inr fun _ e => by cases e) g.2.2 (fun g _ e => .inl e) (hf.up g.2.2 fun f e => (h.nf hf f e).1)⟩
  crash := fun h hf x => by
    obtain ⟨v, h, hT⟩ := h
    refine (pt_crash h x).mono fun e w' g => ?_
    obtain ⟨g1, v', g2, g3, g4⟩ := g
    refine ⟨g1, _, ?_, ?_, h.did hT g2 (.inl g3) g4 (fun g _ e => .inl e) (hf.up g4 fun f e => (h.nf hf f e).1)⟩
    · rfl
    · exact fun _ => rfl
end Go.Proofs.Ytencinajieicpaa
