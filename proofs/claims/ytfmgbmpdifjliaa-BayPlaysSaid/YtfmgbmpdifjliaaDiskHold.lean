/- A Disk as a law holds it: its slots, what is pending, its Fuse. -/
import Derived.Test.YtfmgbmpdifjliaaDiskCrash
namespace Go.Proofs.Ytfmgbmpdifjliaa
open Go.RowKit
set_option linter.unusedVariables false

/-- Blocks whose type is not among D are as they were. -/
structure Ks (D : TypeId → Prop) (w w' : World) : Prop where
  size : w.heap.size ≤ w'.heap.size
  kept : ∀ (g : Nat) (A : Array Value) (T : TypeId) (fr : Nat × Nat), w.heap[g]? = some (Obj.cells A T fr) → ¬ D T → w'.heap[g]? = some (Obj.cells A T fr)
theorem Ks.refl (D : TypeId → Prop) (w : World) : Ks D w w := ⟨Nat.le_refl _, fun _ _ _ _ h _ => h⟩
theorem Ks.trans {D : TypeId → Prop} {u v w : World} (h : Ks D u v) (k : Ks D v w) : Ks D u w := ⟨Nat.le_trans h.size k.size, fun g A T fr e d => k.kept g A T fr (h.kept g A T fr e d) d⟩
theorem Ks.mono {D E : TypeId → Prop} {w w' : World} (h : Ks D w w') (hd : ∀ t, D t → E t) : Ks E w w' := ⟨h.size, fun g A T fr e d => h.kept g A T fr e fun x => d (hd T x)⟩
theorem Ks.nul {D : TypeId → Prop} {w w' : World} (h : Up Nul w w') : Ks D w w' := ⟨h.size, fun g A T fr e _ => (h.block g (Array.getElem?_eq_some_iff.1 e).1 id).trans e⟩
theorem Ks.blk {D : TypeId → Prop} {w w' : World} (h : Ks D w w') (hd : ¬ D 5) {g : Nat} {z : List Nat} (b : Blk w g z) : Blk w' g z := ⟨h.kept g _ _ _ b.heap hd, b.small⟩
/-- The types of a Disk's blocks. -/
def DD (t : TypeId) : Prop := t = 75 ∨ t = 83 ∨ t = 100 ∨ t = 111
theorem dd_byte : ¬ DD 5 := by unfold DD; decide
theorem Dsk.ty {w : World} {d : DK} (h : Dsk w d) {k : Nat} (hk : d.foot k) : ∃ (A : Array Value) (T : TypeId), w.heap[k]? = some (Obj.cells A T (0, 0)) ∧ DD T ∧ T ≠ 111 := by
  rcases hk with rfl | rfl | hk
  · exact ⟨_, _, h.head, .inl rfl, by decide⟩
  · exact ⟨_, _, h.rows, .inr (.inl rfl), by decide⟩
  · obtain ⟨cur, e⟩ := h.pend_row hk
    exact ⟨_, _, e, .inr (.inr (.inl rfl)), by decide⟩
theorem Dsk.ks {D : TypeId → Prop} {w w' : World} {d : DK} (h : Dsk w d) (k : Ks D w w') (hd : ∀ t, DD t → ¬ D t) : Dsk w' d := by
  refine ⟨k.kept _ _ _ _ h.head (hd _ (.inl rfl)), k.kept _ _ _ _ h.rows (hd _ (.inr (.inl rfl))), h.small, h.len, h.le, ⟨h.pend.1, ?_⟩, h.good, h.most⟩
  rcases h.pend.2 with hn | ⟨g, cap, cur, h1, h2, h3, h4⟩
  · exact .inl hn
  · exact .inr ⟨g, cap, cur, h1, h2, k.kept _ _ _ _ h3 (hd _ (.inr (.inr (.inl rfl)))), h4⟩
theorem ks_foot {S : Nat → Prop} {w w' : World} (u : Up S w w') (hs : ∀ g, S g → g < w.heap.size → ∃ (A : Array Value) (T : TypeId), w.heap[g]? = some (Obj.cells A T (0, 0)) ∧ DD T) : Ks DD w w' := ⟨u.size, fun g A T fr e d => by
  by_cases h : S g
  · obtain ⟨A', T', e', d'⟩ := hs g h (Array.getElem?_eq_some_iff.1 e).1
    rw [e] at e'
    injection e' with e'
    injection e' with _ e' _
    exact absurd (e' ▸ d') d
  · exact (u.block g (Array.getElem?_eq_some_iff.1 e).1 h).trans e⟩
/-- A Disk and its Fuse, all new since w0. -/
structure H (w0 w : World) (b n : Nat) (fu k : Option Nat) (live : Bool) (R : Nat → List Nat) (ps : List (Nat × List Nat)) : Prop where
  ex : ∃ d, Dsk w d ∧ d.b = b ∧ d.n = n ∧ d.fu = fu ∧ d.live = live ∧ d.ps = ps ∧ (∀ s, s < n → d.slot s = R s) ∧ ∀ g, d.foot g → w0.heap.size ≤ g
  fz : FzO w fu k
  fnew : ∀ f, fu = some f → w0.heap.size ≤ f
theorem FzO.ks {D : TypeId → Prop} {w w' : World} {fu k : Option Nat} (h : FzO w fu k) (e : Ks D w w') (hd : ∀ t, DD t → ¬ D t) : FzO w' fu k := by
  cases fu with
  | none => exact h
  | some f =>
    have h : Fz w f k := h
    exact ⟨e.kept _ _ _ _ h.heap (hd _ (.inr (.inr (.inr rfl)))), h.le⟩
theorem H.ks {D : TypeId → Prop} {w0 w w' : World} {b n : Nat} {fu k : Option Nat} {live : Bool} {R : Nat → List Nat} {ps : List (Nat × List Nat)} (h : H w0 w b n fu k live R ps) (e : Ks D w w') (hd : ∀ t, DD t → ¬ D t) : H w0 w' b n fu k live R ps := by
  obtain ⟨d, h1, h2⟩ := h.ex
  exact ⟨⟨d, h1.ks e hd, h2⟩, h.fz.ks e hd, h.fnew⟩
theorem H.nxt {w0 w w' : World} {b n : Nat} {fu k : Option Nat} {live : Bool} {R : Nat → List Nat} {ps : List (Nat × List Nat)} (h : H w0 w b n fu k live R ps) (u : Up Nul w w') : H w0 w' b n fu k live R ps :=
  h.ks (D := fun _ => False) (.nul u) fun _ _ => id
/-- Where a law stands: nothing that was there at its beginning turns. -/
def At (w0 w : World) : Prop := Up Nul w0 w
theorem At.foot {S : Nat → Prop} {w0 w w' : World} (h : Up Nul w0 w) (u : Up S w w') (hs : ∀ g, S g → w0.heap.size ≤ g) : Up Nul w0 w' := h.newer u fun i hi e => by have := hs i e; omega
/-- One slot is another. -/
def upd (R : Nat → List Nat) (s : Nat) (y : List Nat) (t : Nat) : List Nat := if t = s then y else R t
theorem over_slot {z y : List Nat} {s t : Nat} (hy : y.length = 96) (hs : (s + 1) * 96 ≤ z.length) (ht : (t + 1) * 96 ≤ z.length) : ((over z (s * 96) y).drop (t * 96)).take 96 = if t = s then y else (z.drop (t * 96)).take 96 := by
  have hl : (over z (s * 96) y).length = z.length := over_length (by omega)
  apply ext_getD
  · split
    · rw [List.length_take, List.length_drop, hl, hy]; omega
    · rw [List.length_take, List.length_drop, hl, List.length_take, List.length_drop]
  · intro i hi
    have hi : i < 96 := by
      rw [List.length_take] at hi
      omega
    rw [getD_part _ _ _ _ hi, over_at (by omega)]
    by_cases e : t = s
    · subst e
      rw [if_pos rfl, if_pos (by omega), show t * 96 + i - t * 96 = i by omega]
    · rw [if_neg e, if_neg (by omega), getD_part _ _ _ _ hi]
/-- What lies there behind a write. -/
theorem slot_put {w : World} {d : DK} (h : Dsk w d) {s t : Nat} (y : List Nat) (pa : Option Addr) (pc : Nat) (ps : List (Nat × List Nat)) (hs : s < d.n) (ht : t < d.n) (hy : y.length = 96) :
    DK.slot { d with pa := pa, pc := pc, ps := ps, z := over d.z (s * 96) y } t = if t = s then y else d.slot t :=
  over_slot hy (by rw [h.len]; omega) (by rw [h.len]; omega)
theorem slot_new (b q n : Nat) (fu : Option Nat) (s : Nat) (hs : s < n) : (DK.new b q n fu).slot s = zer 96 := by
  unfold DK.slot DK.new zer
  rw [List.drop_replicate, List.take_replicate]
  congr 1
  omega
/-- A byte of a slot turned. -/
def turn (z : List Nat) (t c : Nat) : List Nat := z.set t (z.getD t 0 ^^^ c)
theorem slot_rot {w : World} {d : DK} (h : Dsk w d) {s t r c : Nat} (hs : s < d.n) (ht : t < 96) (hr : r < d.n) : (d.rot (s * 96 + t) c).slot r = if r = s then turn (d.slot s) t c else d.slot r := by
  have hl := h.len
  unfold DK.rot DK.slot turn
  dsimp only
  apply ext_getD
  · split
    · next e => subst e; simp
    · simp
  · intro i hi
    have hi : i < 96 := by
      rw [List.length_take] at hi
      omega
    rw [getD_part _ _ _ _ hi, getD_set _ _ _ _ (by omega)]
    by_cases e : r = s
    · subst e
      rw [if_pos rfl, getD_set _ _ _ _ (by rw [List.length_take, List.length_drop]; omega), getD_part _ _ _ _ ht, getD_part (d.z) (r * 96) 96 i (by omega)]
      by_cases e2 : i = t
      · subst e2; rw [if_pos rfl, if_pos rfl]
      · rw [if_neg (by omega), if_neg e2]
    · rw [if_neg e, if_neg (by omega), getD_part _ _ _ _ hi]

/-! ### A crash, slot by slot -/
/-- What the first pending write to a slot covered; where there is none, what is there. -/
def fst : List (Nat × List Nat) → Nat → List Nat → List Nat
  | [], _, r => r
  | p :: ps, s, r => if p.1 = s then p.2 else fst ps s r
theorem und_slot {z zz : List Nat} {s r t : Nat} (hz : zz.length = 96) (ht : t ≤ 96) (hs : (s + 1) * 96 ≤ z.length) (hr : (r + 1) * 96 ≤ z.length) :
    ((und (s, zz) t z).drop (r * 96)).take 96 = if r = s then ((z.drop (r * 96)).take 96).take t ++ zz.drop t else (z.drop (r * 96)).take 96 := by
  have hl : (und (s, zz) t z).length = z.length := by unfold und; exact over_length (by simp [hz]; omega)
  apply ext_getD
  · split
    · simp only [List.length_take, List.length_drop, List.length_append, hl, hz]; omega
    · simp only [List.length_take, List.length_drop, hl]
  · intro i hi
    have h96 : i < 96 := by
      rw [List.length_take] at hi
      omega
    clear hi
    rw [getD_part _ _ _ _ h96]
    unfold und
    rw [over_at (by simp [hz]; omega)]
    simp only [List.length_drop, hz]
    by_cases e : r = s
    · subst e
      rw [if_pos rfl]
      by_cases e2 : t ≤ i
      · rw [if_pos (by omega)]
        simp only [List.getD_eq_getElem?_getD]
        rw [List.getElem?_append_right (by simp only [List.length_take, List.length_drop]; omega)]
        simp only [List.length_take, List.length_drop]
        congr 2
        omega
      · rw [if_neg (by omega)]
        simp only [List.getD_eq_getElem?_getD]
        rw [List.getElem?_append_left (by simp only [List.length_take, List.length_drop]; omega), List.getElem?_take, if_pos (by omega), List.getElem?_take, if_pos h96, List.getElem?_drop]
    · rw [if_neg e, if_neg (by omega), getD_part _ _ _ _ h96]
theorem und_length (z : List Nat) (p : Nat × List Nat) (t : Nat) (hz : p.2.length = 96) (ht : t ≤ 96) (hs : (p.1 + 1) * 96 ≤ z.length) : (und p t z).length = z.length := by
  unfold und
  exact over_length (by simp [hz]; omega)
/-- The slots with all pending writes from m on taken back, or but the first torn bytes of the first of them. -/
theorem crs_slots {ps : List (Nat × List Nat)} {keep torn n : Nat} {z : List Nat} (hz : z.length = n * 96) (hp : ∀ p ∈ ps, p.1 < n ∧ p.2.length = 96) (ht : torn ≤ 96) : ∀ j, j ≤ ps.length → j ≤ ps.length - keep → (crs ps keep torn z j).length = n * 96 ∧ ∀ r, r < n →
    ((crs ps keep torn z j).drop (r * 96)).take 96 = if j = ps.length - keep ∧ 0 < j ∧ r = (ps.getD keep (0, [])).1 then (fst (ps.drop (keep + 1)) r ((z.drop (r * 96)).take 96)).take torn ++ (ps.getD keep (0, [])).2.drop torn else fst (ps.drop (ps.length - j)) r ((z.drop (r * 96)).take 96)
  | 0, _, _ => ⟨hz, fun r hr => by rw [if_neg (by omega)]; simp [crs, fst]⟩
  | j + 1, h1, h2 => by
    obtain ⟨i1, i2⟩ := crs_slots (keep := keep) hz hp ht j (by omega) (by omega)
    obtain ⟨m, hm⟩ : ∃ m, ps.length - 1 - j = m := ⟨_, rfl⟩
    have hml : m < ps.length := by omega
    obtain ⟨q1, q2⟩ := hp (ps.getD m (0, [])) (by rw [List.getD_eq_getElem?_getD, List.getElem?_eq_getElem hml]; exact List.getElem_mem hml)
    have hd : ps.drop m = ps.getD m (0, []) :: ps.drop (m + 1) := by
      rw [List.getD_eq_getElem?_getD, List.getElem?_eq_getElem hml]
      exact List.drop_eq_getElem_cons hml
    have e1 : ps.length - j = m + 1 := by omega
    have e2 : ps.length - (j + 1) = m := by omega
    show (und _ _ _).length = _ ∧ _
    have htt : (if ps.length - 1 - j = keep then torn else 0) ≤ 96 := by split <;> omega
    refine ⟨by rw [hm, und_length _ _ _ q2 (by rw [hm] at htt; exact htt) (by rw [i1]; omega), i1], fun r hr => ?_⟩
    show ((und _ _ _).drop _).take _ = _
    rw [hm] at htt ⊢
    have := und_slot (z := crs ps keep torn z j) (s := (ps.getD m (0, [])).1) (r := r) q2 htt (by rw [i1]; omega) (by rw [i1]; omega)
    rw [this, i2 r hr, if_neg (show ¬ (j = ps.length - keep ∧ 0 < j ∧ r = (ps.getD keep (0, [])).1) by omega), e1, e2, hd]
    by_cases er : r = (ps.getD m (0, [])).1
    · rw [if_pos er]
      by_cases ek : m = keep
      · subst ek
        rw [if_pos rfl, if_pos ⟨by omega, by omega, er⟩]
      · rw [if_neg ek, if_neg (by omega)]
        simp only [List.take_zero, List.nil_append, List.drop_zero, fst]
        rw [if_pos er.symm]
    · rw [if_neg er]
      by_cases ek : m = keep
      · subst ek
        rw [if_neg (fun h => er h.2.2)]
        simp only [fst]
        rw [if_neg (fun h => er h.symm)]
      · rw [if_neg (by omega)]
        simp only [fst]
        rw [if_neg (fun h => er h.symm)]
/-- What lies in a slot behind a crash. -/
def crashR (ps : List (Nat × List Nat)) (keep torn : Nat) (R : Nat → List Nat) (r : Nat) : List Nat :=
  if keep < ps.length ∧ r = (ps.getD keep (0, [])).1 then (fst (ps.drop (keep + 1)) r (R r)).take torn ++ (ps.getD keep (0, [])).2.drop torn else fst (ps.drop keep) r (R r)
theorem crash_slot {w : World} {d : DK} (h : Dsk w d) (keep torn : Nat) (ht : torn ≤ 96) {r : Nat} (hr : r < d.n) :
    ((crash d.ps keep torn d.z).drop (r * 96)).take 96 = crashR d.ps keep torn d.slot r := by
  have hp : ∀ p ∈ d.ps, p.1 < d.n ∧ p.2.length = 96 := fun p hp => ⟨(h.good p hp).1, (h.good p hp).2.1⟩
  unfold crash
  rw [(crs_slots h.len hp ht (d.ps.length - keep) (by omega) (Nat.le_refl _)).2 r hr]
  unfold crashR
  by_cases hk : keep < d.ps.length
  · rw [show d.ps.length - (d.ps.length - keep) = keep by omega]
    by_cases er : r = (d.ps.getD keep (0, [])).1
    · rw [if_pos ⟨rfl, by omega, er⟩, if_pos ⟨hk, er⟩]; rfl
    · rw [if_neg (fun h => er h.2.2), if_neg (fun h => er h.2)]; rfl
  · have e1 : d.ps.drop (d.ps.length - (d.ps.length - keep)) = [] := List.drop_eq_nil_of_le (by omega)
    have e2 : d.ps.drop keep = [] := List.drop_eq_nil_of_le (by omega)
    rw [if_neg (fun h => hk (by have := h.2.1; omega)), if_neg (fun h => hk h.1), e1, e2]
    rfl

/-! ### The calls, as a law meets them -/
theorem newH {w0 w : World} (h0 : Up Nul w0 w) (x : Int) (fu k : Option Nat) (hf : FzO w fu k) (hn : ∀ f, fu = some f → w0.heap.size ≤ f) (n : Nat) (hx : cnt x = n) :
    Calls Try.prog 8 #[.int .i64 x, .pointer (fp fu)] w fun e w' => ∃ b, e = .returned (.pointer (some ⟨b, 0, none⟩)) ∧ H w0 w' b n fu k true (fun _ => zer 96) [] ∧ Up Nul w w' := by
  subst hx
  refine (new_any x fu w).mono ?_
  rintro e w' ⟨b, q, rfl, h1, h2, h3, h4⟩
  refine ⟨b, rfl, ⟨⟨_, h1, rfl, rfl, rfl, rfl, rfl, fun s hs => slot_new _ _ _ _ s hs, fun g hg => ?_⟩, hf.up h2 fun _ _ => id, hn⟩, h2⟩
  have := h0.size
  rcases hg with rfl | rfl | hg
  · exact Nat.le_trans this h3
  · exact Nat.le_trans this h4
  · cases hg
section
variable {w0 w : World} {b n : Nat} {fu k : Option Nat} {live : Bool} {R : Nat → List Nat} {ps : List (Nat × List Nat)}
theorem slotsH (h : H w0 w b n fu k live R ps) : Calls Try.prog 39 #[.pointer (some ⟨b, 0, none⟩)] w fun e w' => e = .returned (.int .i64 (n : Nat)) ∧ w' = w := by
  obtain ⟨d, h1, rfl, rfl, _⟩ := h.ex
  exact slots_any d w h1
theorem failH (h : H w0 w b n fu k live R ps) (h0 : Up Nul w0 w) : Calls Try.prog 32 #[.pointer (some ⟨b, 0, none⟩)] w fun e w' => e = .returned (.tuple #[]) ∧ H w0 w' b n fu k false R ps ∧ Up Nul w0 w' ∧ Ks DD w w' := by
  obtain ⟨d, h1, rfl, rfl, rfl, rfl, rfl, h6, h7⟩ := h.ex
  refine (fail_any d w h1).mono ?_
  rintro e w' ⟨rfl, g1, g2⟩
  exact ⟨rfl, ⟨⟨_, g1, rfl, rfl, rfl, rfl, rfl, h6, h7⟩, h.fz.up g2 fun f e1 e2 => foot_fuse h1 h.fz f (.inl e2) e1, h.fnew⟩, At.foot h0 g2 fun g e => h7 g (.inl e), ks_foot g2 fun g e _ => by
    obtain ⟨A, T, e1, e2, _⟩ := h1.ty (.inl e)
    exact ⟨A, T, e1, e2⟩⟩
theorem syncH_gone (h : H w0 w b n fu k false R ps) : Calls Try.prog 28 #[.pointer (some ⟨b, 0, none⟩)] w fun e w' => e = .returned (.int .i64 5) ∧ w' = w := by
  obtain ⟨d, h1, rfl, rfl, rfl, h5, rfl, h6, h7⟩ := h.ex
  exact sync_gone d w h1 h5
theorem syncH_dead (h : H w0 w b n fu (some 0) true R ps) : Calls Try.prog 28 #[.pointer (some ⟨b, 0, none⟩)] w fun e w' => e = .returned (.int .i64 4) ∧ w' = w := by
  obtain ⟨d, h1, rfl, rfl, rfl, h5, rfl, h6, h7⟩ := h.ex
  exact sync_dead d w h1 h5 h.fz
theorem syncH (h : H w0 w b n fu k true R ps) (h0 : Up Nul w0 w) (hk : k ≠ some 0) : Calls Try.prog 28 #[.pointer (some ⟨b, 0, none⟩)] w fun e w' => e = .returned (.int .i64 0) ∧ H w0 w' b n fu k true R [] ∧ Up Nul w0 w' ∧ Ks DD w w' := by
  obtain ⟨d, h1, rfl, rfl, rfl, h5, rfl, h6, h7⟩ := h.ex
  refine (sync_good d k w h1 h5 h.fz hk).mono ?_
  rintro e w' ⟨rfl, g1, g2⟩
  refine ⟨rfl, ⟨⟨_, g1, rfl, rfl, rfl, h5, rfl, h6, fun g hg => ?_⟩, h.fz.up g2 fun f e1 e2 => foot_fuse h1 h.fz f (.inl e2) e1, h.fnew⟩, At.foot h0 g2 fun g e => h7 g (.inl e), ks_foot g2 fun g e _ => by
    obtain ⟨A, T, e1, e2, _⟩ := h1.ty (.inl e)
    exact ⟨A, T, e1, e2⟩⟩
  rcases hg with e | e | e
  · exact h7 g (.inl e)
  · exact h7 g (.inr (.inl e))
  · cases e
theorem replaceH (h : H w0 w b n fu k live R ps) (h0 : Up Nul w0 w) : Calls Try.prog 33 #[.pointer (some ⟨b, 0, none⟩)] w fun e w' => e = .returned (.tuple #[]) ∧ H w0 w' b n fu k true (fun _ => zer 96) [] ∧ Up Nul w0 w' ∧ Ks DD w w' := by
  obtain ⟨d, h1, rfl, rfl, rfl, h5, rfl, h6, h7⟩ := h.ex
  refine (replace_any d w h1).mono ?_
  rintro e w' ⟨rfl, g1, g2⟩
  refine ⟨rfl, ⟨⟨_, g1, rfl, rfl, rfl, rfl, rfl, fun s hs => slot_new _ _ _ _ s hs, fun g hg => ?_⟩, h.fz.up g2 fun f e1 e2 => foot_fuse h1 h.fz f e2 e1, h.fnew⟩, At.foot h0 g2 h7, ks_foot g2 fun g e _ => by
    obtain ⟨A, T, e1, e2, _⟩ := h1.ty e
    exact ⟨A, T, e1, e2⟩⟩
  rcases hg with e | e | e
  · exact h7 g (.inl e)
  · exact h7 g (.inr (.inl e))
  · cases e
theorem readH (h : H w0 w b n fu k true R ps) {s : Nat} (hs : s < n) : Calls Try.prog 46 #[.pointer (some ⟨b, 0, none⟩), .int .i64 s] w fun e w' => ∃ a c, e = .returned (.tuple #[.slice a 96 c, .int .i64 0]) ∧ Got w w' a 96 c (R s) := by
  obtain ⟨d, h1, rfl, rfl, rfl, h5, rfl, h6, h7⟩ := h.ex
  rw [← h6 s hs]
  exact read_good d s w h1 hs h5
theorem writeH (h : H w0 w b n fu k true R ps) (h0 : Up Nul w0 w) {s : Nat} (hs : s < n) (hk : k ≠ some 0) (hm : ps.length < 1000) {q c : Nat} {y : List Nat} (hy : Blk w q y) (hl : y.length = 96) :
    Calls Try.prog 44 #[.pointer (some ⟨b, 0, none⟩), .int .i64 s, .slice (some ⟨q, 0, none⟩) 96 c] w fun e w' => e = .returned (.int .i64 0) ∧ H w0 w' b n fu (less k) true (upd R s y) (ps ++ [(s, R s)]) ∧ Up Nul w0 w' ∧ Ks DD w w' := by
  obtain ⟨d, h1, rfl, rfl, rfl, h5, rfl, h6, h7⟩ := h.ex
  have hfoot : ∀ g, (d.foot g ∨ d.fu = some g) → ∃ (A : Array Value) (T : TypeId), w.heap[g]? = some (Obj.cells A T (0, 0)) ∧ DD T := fun g hg => by
    rcases hg with hg | hg
    · obtain ⟨A, T, e1, e2, _⟩ := h1.ty hg
      exact ⟨A, T, e1, e2⟩
    · have hz := h.fz
      rw [hg] at hz
      exact ⟨_, _, Fz.heap hz, .inr (.inr (.inr rfl))⟩
  refine (write_good d s k (some ⟨q, 0, none⟩) c y w h1 hs h5 h.fz hk hm ⟨hl, .inr ⟨q, 0, rfl, hy.lt, hy.whole⟩, by omega⟩ fun x hx => ?_).mono ?_
  · injection hx with hx
    subst hx
    have no : ∀ (A : Array Value) (T : TypeId), w.heap[q]? = some (Obj.cells A T (0, 0)) → ¬ DD T := fun A T e1 e2 => by
      have e3 := hy.heap
      rw [e1] at e3
      injection e3 with e3
      injection e3 with _ e3 _
      exact dd_byte (e3 ▸ e2)
    refine ⟨fun e => ?_, fun e => ?_⟩
    · obtain ⟨A, T, e1, e2⟩ := hfoot q (.inl e)
      exact no A T e1 e2
    · obtain ⟨A, T, e1, e2⟩ := hfoot q (.inr e)
      exact no A T e1 e2
  · rintro e w' ⟨rfl, g1, d', g2⟩
    obtain ⟨pa, pc, e⟩ := g2.at_
    refine ⟨rfl, ⟨⟨d', g2.dsk, by rw [e], by rw [e], by rw [e], by rw [e]; exact h5, by rw [e, ← h6 s hs], fun t ht => ?_, fun g hg => ?_⟩, g1, h.fnew⟩, At.foot h0 g2.up fun g hg => ?_, ks_foot g2.up fun g hg _ => hfoot g hg⟩
    · rw [e, slot_put h1 y pa pc _ hs ht hl, h6 t ht]
      rfl
    · rcases g2.foot g hg with hg | hg
      · exact h7 g hg
      · exact Nat.le_trans h0.size hg
    · rcases hg with hg | hg
      · exact h7 g hg
      · exact h.fnew g hg
theorem rotH (h : H w0 w b n fu k true R ps) (h0 : Up Nul w0 w) {s t c : Nat} (hs : s < n) (ht : t < 96) (hc : c < 256) :
    Calls Try.prog 13 #[.pointer (some ⟨b, 0, none⟩), .int .i64 s, .int .i64 t, .int .u8 c] w fun e w' => e = .returned (.bool true) ∧ H w0 w' b n fu k true (upd R s (turn (R s) t c)) ps ∧ Up Nul w0 w' ∧ Ks DD w w' := by
  obtain ⟨d, h1, rfl, rfl, rfl, h5, rfl, h6, h7⟩ := h.ex
  refine (rot_good d s t c w h1 hs ht hc h5).mono ?_
  rintro e w' ⟨rfl, g1, g2⟩
  refine ⟨rfl, ⟨⟨_, g1, rfl, rfl, rfl, h5, rfl, fun r hr => ?_, h7⟩, h.fz.up g2 fun f e1 e2 => foot_fuse h1 h.fz f (.inr (.inl e2)) e1, h.fnew⟩, At.foot h0 g2 fun g e => h7 g (.inr (.inl e)), ks_foot g2 fun g e _ => by
    obtain ⟨A, T, e1, e2, _⟩ := h1.ty (.inr (.inl e))
    exact ⟨A, T, e1, e2⟩⟩
  rw [slot_rot h1 hs ht hr, h6 s hs, h6 r hr]
  rfl
theorem crashH (h : H w0 w b n fu k live R ps) (h0 : Up Nul w0 w) (x y : Int) :
    Calls Try.prog 30 #[.pointer (some ⟨b, 0, none⟩), .int .i64 x, .int .i64 y] w fun e w' => e = .returned (.tuple #[]) ∧ H w0 w' b n fu k live (crashR ps x.toNat (min y.toNat 96) R) [] ∧ Up Nul w0 w' ∧ Ks DD w w' := by
  obtain ⟨d, h1, rfl, rfl, rfl, rfl, rfl, h6, h7⟩ := h.ex
  refine (crash_any d x y w h1).mono ?_
  rintro e w' ⟨rfl, g1, g2⟩
  refine ⟨rfl, ⟨⟨_, g1, rfl, rfl, rfl, rfl, rfl, fun r hr => ?_, fun g hg => ?_⟩, h.fz.up g2 fun f e1 e2 => foot_fuse h1 h.fz f e2 e1, h.fnew⟩, At.foot h0 g2 h7, ks_foot g2 fun g e _ => by
    obtain ⟨A, T, e1, e2, _⟩ := h1.ty e
    exact ⟨A, T, e1, e2⟩⟩
  · show ((crash d.ps _ _ d.z).drop (r * 96)).take 96 = _
    rw [crash_slot h1 _ _ (by omega) hr]
    unfold crashR
    rw [h6 r hr]
  · rcases hg with e | e | e
    · exact h7 g (.inl e)
    · exact h7 g (.inr (.inl e))
    · cases e
end
end Go.Proofs.Ytfmgbmpdifjliaa
