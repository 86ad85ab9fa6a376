/- 'Decode'. -/
import Derived.Test.YtpdkcpjofofkoaaDoorPkTidy
import Derived.Test.YtpdkcpjofofkoaaDoorPq10
import Derived.Test.YtpdkcpjofofkoaaDoorPq12
import Derived.Test.YtpdkcpjofofkoaaDoorPq3
import Derived.Laws.ResultCell
namespace Go.Proofs.YtpdkcpjofofkoaaDoor
open Go.RowKit
set_option linter.unusedVariables false

theorem sln_small {w : World} {a : Option Addr} {n : Nat} {z : List Nat} (h : SlN w a n z) : ∀ x ∈ z, x < 256 := by
 intro x hx
 rcases h.row with e | ⟨b, o, _, _, r⟩
 ·rw [List.eq_nil_of_length_eq_zero (h.len.trans e)] at hx; cases hx
 ·obtain ⟨i, hi, rfl⟩ := List.mem_iff_getElem.1 hx
  have := r.small i
  rwa [List.getD_eq_getElem?_getD, List.getElem?_eq_getElem hi] at this
theorem equal_any (a1 a2 : Option Addr) (n1 c1 n2 c2 : Nat) (y z : List Nat) (w : World) (h1 : SlN w a1 n1 y) (h2 : SlN w a2 n2 z) :
  Calls Tryd.prog 36 #[.slice a1 n1 c1, .slice a2 n2 c2] w fun e w' => e = .returned (.bool (decide (y = z))) ∧ w' = w := by
 have e1 := h1.conv c1
 have e2 := h2.conv c2
 have e3 := str_beq (small_getD (sln_small h1)) (small_getD (sln_small h2))
 obtain ⟨q, Q⟩ : ∃ q, Hid (decide (y = z) = q) := ⟨_, rfl⟩
 rw [Q.out] at e3 ⊢
 generalize strOf y = s1 at e1 e3
 generalize strOf z = s2 at e2 e3
 clear h1 h2
 go_enter Tryd.func36, Tryd.ntmps36
 go_wp2
 go_ret
 exact ⟨rfl, rfl⟩
theorem Bz.sln {W0 w : World} {v : Value} {z : List Nat} (h : Bz W0 w v z) (hl : z.length ≤ 1000) : ∃ a c, v = .slice a z.length c ∧ SlN w a z.length z ∧ z.length ≤ c := by
 obtain ⟨a, c, e, h1, h2, _⟩ := h.own.sln (by omega)
 exact ⟨a, c, e, h2, h1⟩
/-- What Decode tells: the record, and whether; nought, if it is none. -/
def decO (z : List Nat) : Rc := (decR z).getD rc0
set_option maxRecDepth 100000 in
set_option maxHeartbeats 2000000 in
theorem dec_any (a : Option Addr) (n c : Nat) (z : List Nat) (w : World) (hS : Shp w) (h : SlN w a n z) (hc : n ≤ c) :
  Calls Tryd.prog 13 #[.slice a n c] w fun e w' => ∃ sa sc la lc, e = .returned (.tuple #[rv (decO z) (.slice sa (decO z).sids.length sc) (.slice la (decO z).locs.length lc), .bool (decR z).isSome]) ∧ RH w' (decO z) sa la ∧ Up Nul w w' := by
 have h8 := sln_small h
 obtain ⟨W1, hW1⟩ : ∃ W, W = w.alloc (.cells #[.int .i64 0, .string ⟨#[]⟩, .int .i64 0, .int .i64 0, .slice none 0 0, .int .i64 0, .slice none 0 0, .int .i64 0, .int .i64 0, .int .i64 0, .int .i64 0, .int .i64 0, .int .i64 0] 27) := ⟨_, rfl⟩
 have U1 : Up Nul w W1 := by rw [hW1]; exact (Up.refl Nul w).alloc _
 have hB : W1.heap[w.heap.size]? = some (.cells #[.int .i64 0, .string ⟨#[]⟩, .int .i64 0, .int .i64 0, .slice none 0 0, .int .i64 0, .slice none 0 0, .int .i64 0, .int .i64 0, .int .i64 0, .int .i64 0, .int .i64 0, .int .i64 0] 27 (0, 0)) := by rw [hW1]; exact heap_alloc_new _ _
 have hBl : w.heap.size < W1.heap.size := by rw [hW1]; simp
 have HRC := hid (read_core a n c z W1 (hS.nxt U1) (h.nxt U1) hc h8)
 obtain ⟨B, BB⟩ : ∃ B, Hid (w.heap.size = B) := ⟨_, rfl⟩
 rw [BB.out] at hB hBl
 have HB := hid (And.intro hB (And.intro hBl U1))
 have HS := hid hS
 have HSL := hid h
 have hn := h.len
 have HBW : Hid (w.heap.size ≤ B) := by show _ ≤ _; rw [BB.out]; exact Nat.le_refl _
 have hr0 : (readR z).key.size ≤ 100000 ∧ True := ⟨by
  unfold readR
  split
  ·show (rdKey _ _).size ≤ _
   unfold rdKey
   split
   ·rw [strOf_size, nx_length]
    have := num_lt1 (small_drop h8 1)
    omega
   ·show (0 : Nat) ≤ _; omega
  ·show (0 : Nat) ≤ _; omega, trivial⟩
 obtain ⟨r, R⟩ : ∃ r, Hid (readR z = r) := ⟨_, rfl⟩
 have HD : Hid (decR z = if okR r = true ∧ encR r = z then some r else none) := by show _ = _; unfold decR; rw [R.out]
 rw [R.out] at HRC hr0
 obtain ⟨D, DD⟩ : ∃ D, Hid (decO z = D) := ⟨_, rfl⟩
 obtain ⟨ib, IB⟩ : ∃ b, Hid ((decR z).isSome = b) := ⟨_, rfl⟩
 rw [DD.out, IB.out]
 have HDD : Hid (D = (if okR r = true ∧ encR r = z then some r else none).getD rc0 ∧ ib = (if okR r = true ∧ encR r = z then some r else none).isSome) := ⟨by rw [← DD.out]; unfold decO; rw [HD.out], by rw [← IB.out, HD.out]⟩
 clear h8 hB hBl U1 hS h HD DD IB
 go_enter Tryd.func13, Tryd.ntmps13
 go_wp2_with fail
 rw [← hW1]
 clear hW1
 rw [BB.out]
 refine HRC.out.mono ?_
 rintro e w2 ⟨sa, sc, la, lc, rfl, hrh, u2, hrf⟩
 have HRF := hid (show RF r sa la (B + 1) from ⟨fun h x hx => Nat.le_trans HB.out.2.1 (hrf.s h x hx), fun h x hx => Nat.le_trans HB.out.2.1 (hrf.l h x hx)⟩)
 clear hrf
 obtain ⟨sl, SL⟩ : ∃ l, Hid (r.sids.length = l) := ⟨_, rfl⟩
 obtain ⟨ll, LL⟩ : ∃ l, Hid (r.locs.length = l) := ⟨_, rfl⟩
 have HEY := fun W hS hr F => enc_yes r sa la sc lc W hS hr F
 have HEN := fun W hS hr F => enc_not r sa la sc lc W hS hr hr0.1 F
 rw [SL.out, LL.out] at HEY HEN ⊢
 obtain ⟨W3, hW3⟩ : ∃ W, W = w2.alloc (.cells #[.int .i64 r.kind, .string r.key, .int .i64 r.n, .int .i64 r.sid, .slice sa sl sc, .int .i64 r.colour, .slice la ll lc, .int .i64 r.t.hot, .int .i64 r.t.warm, .int .i64 r.t.gap, .int .i64 r.t.add, .int .i64 r.t.top, .int .i64 r.t.half] 27) := ⟨_, rfl⟩
 have U3 : Up Nul w2 W3 := by rw [hW3]; exact (Up.refl Nul w2).alloc _
 have hp : W3.heap[w2.heap.size]? = some (.cells #[.int .i64 r.kind, .string r.key, .int .i64 r.n, .int .i64 r.sid, .slice sa sl sc, .int .i64 r.colour, .slice la ll lc, .int .i64 r.t.hot, .int .i64 r.t.warm, .int .i64 r.t.gap, .int .i64 r.t.add, .int .i64 r.t.top, .int .i64 r.t.half] 27 (0, 0)) := by rw [hW3]; exact heap_alloc_new _ _
 have hpl : w2.heap.size < W3.heap.size := by rw [hW3]; simp
 have hb2 := (u2.block B HB.out.2.1 id).trans HB.out.1
 have hb2l := Nat.lt_of_lt_of_le HB.out.2.1 u2.size
 have hb3 := (U3.block B hb2l id).trans hb2
 have HW := hid (And.intro (HB.out.2.2.trans (u2.trans U3)) (And.intro (hrh.nxt U3) (And.intro hp (And.intro hpl (And.intro hb3 (show B < w2.heap.size from hb2l))))))
 obtain ⟨p, P⟩ : ∃ p, Hid (w2.heap.size = p) := ⟨_, rfl⟩
 rw [P.out] at hp
 have hpp := hp
 have x0 : W3.cell? ⟨p, 0, none⟩ = some (.int .i64 r.kind) := by simp [World.cell?, hpp]
 have x1 : W3.cell? ⟨p, 1, none⟩ = some (.string r.key) := by simp [World.cell?, hpp]
 have x2 : W3.cell? ⟨p, 2, none⟩ = some (.int .i64 r.n) := by simp [World.cell?, hpp]
 have x3 : W3.cell? ⟨p, 3, none⟩ = some (.int .i64 r.sid) := by simp [World.cell?, hpp]
 have x4 : W3.cell? ⟨p, 4, none⟩ = some (.slice sa sl sc) := by simp [World.cell?, hpp]
 have x5 : W3.cell? ⟨p, 5, none⟩ = some (.int .i64 r.colour) := by simp [World.cell?, hpp]
 have x6 : W3.cell? ⟨p, 6, none⟩ = some (.slice la ll lc) := by simp [World.cell?, hpp]
 have x7 : W3.cell? ⟨p, 7, none⟩ = some (.int .i64 r.t.hot) := by simp [World.cell?, hpp]
 have x8 : W3.cell? ⟨p, 8, none⟩ = some (.int .i64 r.t.warm) := by simp [World.cell?, hpp]
 have x9 : W3.cell? ⟨p, 9, none⟩ = some (.int .i64 r.t.gap) := by simp [World.cell?, hpp]
 have x10 : W3.cell? ⟨p, 10, none⟩ = some (.int .i64 r.t.add) := by simp [World.cell?, hpp]
 have x11 : W3.cell? ⟨p, 11, none⟩ = some (.int .i64 r.t.top) := by simp [World.cell?, hpp]
 have x12 : W3.cell? ⟨p, 12, none⟩ = some (.int .i64 r.t.half) := by simp [World.cell?, hpp]
 clear hpp hp hpl hb2 hb2l hb3 u2 U3 hrh HRC HB
 go_upto_region 2 with fail
 rw [← hW3, P.out]
 clear hW3
 cases hok : okR r with
 | false =>
  have HEN' := hid (HEN W3 (HS.out.nxt HW.out.1) HW.out.2.1 hok)
  have HDE : Hid (D = rc0 ∧ ib = false) := by
   have := HDD.out
   rw [hok, if_neg (fun h => by cases h.1)] at this
   exact this
  clear HEY HEN hok
  go_wp2_with fail
  refine HEN'.out.mono ?_
  rintro e w4 ⟨rfl, u4⟩
  have hb := (u4.block B (by have := HW.out.2.2.2.1; have := HW.out.2.2.2.2.2; omega) id).trans HW.out.2.2.2.2.1
  have b0 : w4.cell? ⟨B, 0, none⟩ = some (.int .i64 0) := by simp [World.cell?, hb]
  have f0 : w4.frozen? ⟨B, 0, none⟩ = false := by simp [World.frozen?, hb]
  have b1 : w4.cell? ⟨B, 1, none⟩ = some (.string ⟨#[]⟩) := by simp [World.cell?, hb]
  have f1 : w4.frozen? ⟨B, 1, none⟩ = false := by simp [World.frozen?, hb]
  have b2 : w4.cell? ⟨B, 2, none⟩ = some (.int .i64 0) := by simp [World.cell?, hb]
  have f2 : w4.frozen? ⟨B, 2, none⟩ = false := by simp [World.frozen?, hb]
  have b3 : w4.cell? ⟨B, 3, none⟩ = some (.int .i64 0) := by simp [World.cell?, hb]
  have f3 : w4.frozen? ⟨B, 3, none⟩ = false := by simp [World.frozen?, hb]
  have b4 : w4.cell? ⟨B, 4, none⟩ = some (.slice none 0 0) := by simp [World.cell?, hb]
  have f4 : w4.frozen? ⟨B, 4, none⟩ = false := by simp [World.frozen?, hb]
  have b5 : w4.cell? ⟨B, 5, none⟩ = some (.int .i64 0) := by simp [World.cell?, hb]
  have f5 : w4.frozen? ⟨B, 5, none⟩ = false := by simp [World.frozen?, hb]
  have b6 : w4.cell? ⟨B, 6, none⟩ = some (.slice none 0 0) := by simp [World.cell?, hb]
  have f6 : w4.frozen? ⟨B, 6, none⟩ = false := by simp [World.frozen?, hb]
  have b7 : w4.cell? ⟨B, 7, none⟩ = some (.int .i64 0) := by simp [World.cell?, hb]
  have f7 : w4.frozen? ⟨B, 7, none⟩ = false := by simp [World.frozen?, hb]
  have b8 : w4.cell? ⟨B, 8, none⟩ = some (.int .i64 0) := by simp [World.cell?, hb]
  have f8 : w4.frozen? ⟨B, 8, none⟩ = false := by simp [World.frozen?, hb]
  have b9 : w4.cell? ⟨B, 9, none⟩ = some (.int .i64 0) := by simp [World.cell?, hb]
  have f9 : w4.frozen? ⟨B, 9, none⟩ = false := by simp [World.frozen?, hb]
  have b10 : w4.cell? ⟨B, 10, none⟩ = some (.int .i64 0) := by simp [World.cell?, hb]
  have f10 : w4.frozen? ⟨B, 10, none⟩ = false := by simp [World.frozen?, hb]
  have b11 : w4.cell? ⟨B, 11, none⟩ = some (.int .i64 0) := by simp [World.cell?, hb]
  have f11 : w4.frozen? ⟨B, 11, none⟩ = false := by simp [World.frozen?, hb]
  have b12 : w4.cell? ⟨B, 12, none⟩ = some (.int .i64 0) := by simp [World.cell?, hb]
  have f12 : w4.frozen? ⟨B, 12, none⟩ = false := by simp [World.frozen?, hb]
  have HBB := hid hb
  have HUF := hid (up13 w4 B (.int .i64 0) (.string ⟨#[]⟩) (.int .i64 0) (.int .i64 0) (.slice none 0 0) (.int .i64 0) (.slice none 0 0) (.int .i64 0) (.int .i64 0) (.int .i64 0) (.int .i64 0) (.int .i64 0) (.int .i64 0))
  have HU4 := hid (HW.out.1.trans u4)
  clear hb u4 x0 x1 x2 x3 x4 x5 x6 x7 x8 x9 x10 x11 x12
  go_wp2_with fail
  have hld := run_loadVar_row (P := Tryd.prog) _ B _ 27 _ _ _ (heap13s HBB.out (.int .i64 0) (.string ⟨#[]⟩) (.int .i64 0) (.int .i64 0) (.slice none 0 0) (.int .i64 0) (.slice none 0 0) (.int .i64 0) (.int .i64 0) (.int .i64 0) (.int .i64 0) (.int .i64 0) (.int .i64 0)) Tryd.underlying27 rfl info_rec13
  refine bodyPost_ret (v := .tuple #[.agg #[.int .i64 0, .string ⟨#[]⟩, .int .i64 0, .int .i64 0, .slice none 0 0, .int .i64 0, .slice none 0 0, .int .i64 0, .int .i64 0, .int .i64 0, .int .i64 0, .int .i64 0, .int .i64 0], .bool false]) (by rw [results_cell_tmp rfl]; simp [asAddr, hld, Result.andThen]) rfl ?_
  rw [HDE.out.1, HDE.out.2]
  exact ⟨none, 0, none, 0, rfl, ⟨RowI.nil _ _, RowL.nil _ _, by show 0 ≤ 100000; omega, by show 0 ≤ 100000; omega⟩, ⟨HUF.out.os.trans HU4.out.os, HUF.out.tape.trans HU4.out.tape, HUF.out.output.trans HU4.out.output, Nat.le_trans HU4.out.size HUF.out.size, fun k hk _ => (HUF.out.block k (Nat.lt_of_lt_of_le hk HU4.out.size) (fun e => by have e : k = B := e; have := BB.out; omega)).trans (HU4.out.block k hk id)⟩⟩
 | true =>
  have F := okR_iff.1 hok
  have HEY' := hid (HEY W3 (HS.out.nxt HW.out.1) HW.out.2.1 F)
  have hle := F.len
  clear HEY HEN F
  go_wp2_with fail
  refine HEY'.out.mono ?_
  rintro e w4 ⟨v, W0, rfl, u0, hz⟩
  obtain ⟨va, vc, rfl, vs, hvc⟩ := hz.sln (by omega)
  have HU4 := hid (u0.trans hz.up)
  have HEQ := hid (equal_any a va n c (encR r).length vc z (encR r) w4 ((HSL.out.nxt HW.out.1).nxt HU4.out) vs)
  generalize (encR r).length = el at HEQ
  clear hz vs hvc u0 hle
  have hb := (HU4.out.block B (by have := HW.out.2.2.2.1; have := HW.out.2.2.2.2.2; omega) id).trans HW.out.2.2.2.2.1
  have hp4 := (HU4.out.block p (by have := HW.out.2.2.2.1; have := P.out; omega) id).trans (P.out ▸ HW.out.2.2.1)
  clear x0 x1 x2 x3 x4 x5 x6 x7 x8 x9 x10 x11 x12
  have b0 : w4.cell? ⟨B, 0, none⟩ = some (.int .i64 0) := by simp [World.cell?, hb]
  have f0 : w4.frozen? ⟨B, 0, none⟩ = false := by simp [World.frozen?, hb]
  have b1 : w4.cell? ⟨B, 1, none⟩ = some (.string ⟨#[]⟩) := by simp [World.cell?, hb]
  have f1 : w4.frozen? ⟨B, 1, none⟩ = false := by simp [World.frozen?, hb]
  have b2 : w4.cell? ⟨B, 2, none⟩ = some (.int .i64 0) := by simp [World.cell?, hb]
  have f2 : w4.frozen? ⟨B, 2, none⟩ = false := by simp [World.frozen?, hb]
  have b3 : w4.cell? ⟨B, 3, none⟩ = some (.int .i64 0) := by simp [World.cell?, hb]
  have f3 : w4.frozen? ⟨B, 3, none⟩ = false := by simp [World.frozen?, hb]
  have b4 : w4.cell? ⟨B, 4, none⟩ = some (.slice none 0 0) := by simp [World.cell?, hb]
  have f4 : w4.frozen? ⟨B, 4, none⟩ = false := by simp [World.frozen?, hb]
  have b5 : w4.cell? ⟨B, 5, none⟩ = some (.int .i64 0) := by simp [World.cell?, hb]
  have f5 : w4.frozen? ⟨B, 5, none⟩ = false := by simp [World.frozen?, hb]
  have b6 : w4.cell? ⟨B, 6, none⟩ = some (.slice none 0 0) := by simp [World.cell?, hb]
  have f6 : w4.frozen? ⟨B, 6, none⟩ = false := by simp [World.frozen?, hb]
  have b7 : w4.cell? ⟨B, 7, none⟩ = some (.int .i64 0) := by simp [World.cell?, hb]
  have f7 : w4.frozen? ⟨B, 7, none⟩ = false := by simp [World.frozen?, hb]
  have b8 : w4.cell? ⟨B, 8, none⟩ = some (.int .i64 0) := by simp [World.cell?, hb]
  have f8 : w4.frozen? ⟨B, 8, none⟩ = false := by simp [World.frozen?, hb]
  have b9 : w4.cell? ⟨B, 9, none⟩ = some (.int .i64 0) := by simp [World.cell?, hb]
  have f9 : w4.frozen? ⟨B, 9, none⟩ = false := by simp [World.frozen?, hb]
  have b10 : w4.cell? ⟨B, 10, none⟩ = some (.int .i64 0) := by simp [World.cell?, hb]
  have f10 : w4.frozen? ⟨B, 10, none⟩ = false := by simp [World.frozen?, hb]
  have b11 : w4.cell? ⟨B, 11, none⟩ = some (.int .i64 0) := by simp [World.cell?, hb]
  have f11 : w4.frozen? ⟨B, 11, none⟩ = false := by simp [World.frozen?, hb]
  have b12 : w4.cell? ⟨B, 12, none⟩ = some (.int .i64 0) := by simp [World.cell?, hb]
  have f12 : w4.frozen? ⟨B, 12, none⟩ = false := by simp [World.frozen?, hb]
  have x0 : w4.cell? ⟨p, 0, none⟩ = some (.int .i64 r.kind) := by simp [World.cell?, hp4]
  have x1 : w4.cell? ⟨p, 1, none⟩ = some (.string r.key) := by simp [World.cell?, hp4]
  have x2 : w4.cell? ⟨p, 2, none⟩ = some (.int .i64 r.n) := by simp [World.cell?, hp4]
  have x3 : w4.cell? ⟨p, 3, none⟩ = some (.int .i64 r.sid) := by simp [World.cell?, hp4]
  have x4 : w4.cell? ⟨p, 4, none⟩ = some (.slice sa sl sc) := by simp [World.cell?, hp4]
  have x5 : w4.cell? ⟨p, 5, none⟩ = some (.int .i64 r.colour) := by simp [World.cell?, hp4]
  have x6 : w4.cell? ⟨p, 6, none⟩ = some (.slice la ll lc) := by simp [World.cell?, hp4]
  have x7 : w4.cell? ⟨p, 7, none⟩ = some (.int .i64 r.t.hot) := by simp [World.cell?, hp4]
  have x8 : w4.cell? ⟨p, 8, none⟩ = some (.int .i64 r.t.warm) := by simp [World.cell?, hp4]
  have x9 : w4.cell? ⟨p, 9, none⟩ = some (.int .i64 r.t.gap) := by simp [World.cell?, hp4]
  have x10 : w4.cell? ⟨p, 10, none⟩ = some (.int .i64 r.t.add) := by simp [World.cell?, hp4]
  have x11 : w4.cell? ⟨p, 11, none⟩ = some (.int .i64 r.t.top) := by simp [World.cell?, hp4]
  have x12 : w4.cell? ⟨p, 12, none⟩ = some (.int .i64 r.t.half) := by simp [World.cell?, hp4]
  have HBB := hid hb
  have HUN := hid (up13 w4 B (.int .i64 0) (.string ⟨#[]⟩) (.int .i64 0) (.int .i64 0) (.slice none 0 0) (.int .i64 0) (.slice none 0 0) (.int .i64 0) (.int .i64 0) (.int .i64 0) (.int .i64 0) (.int .i64 0) (.int .i64 0))
  have HUY := hid (up13 w4 B (.int .i64 r.kind) (.string r.key) (.int .i64 r.n) (.int .i64 r.sid) (.slice sa sl sc) (.int .i64 r.colour) (.slice la ll lc) (.int .i64 r.t.hot) (.int .i64 r.t.warm) (.int .i64 r.t.gap) (.int .i64 r.t.add) (.int .i64 r.t.top) (.int .i64 r.t.half))
  have HUA := hid (HW.out.1.trans HU4.out)
  have HRH := hid (HW.out.2.1.nxt HU4.out)
  have HRL : Hid (∀ w', Up (One B) w4 w' → RH w' r sa la) := fun w' u => by
   have h := HRH.out
   refine ⟨?_, ?_, h.ns, h.nl⟩
   ·by_cases e : r.sids = []
    ·exact .inl e
    ·obtain ⟨g, o, ea, hg, hc⟩ := h.s.resolve_left e
     have hgB : g ≠ B := by have := HRF.out.s e _ ea; have e2 : ({ block := g, off := o, spot := none } : Addr).block = g := rfl; omega
     exact .inr ⟨g, o, ea, Nat.lt_of_lt_of_le hg u.size, fun i x hi => (u.cell (p := ⟨g, o + i, none⟩) hg hgB).trans (hc i x hi)⟩
   ·by_cases e : r.locs = []
    ·exact .inl e
    ·obtain ⟨g, o, ea, hg, hc⟩ := h.l.resolve_left e
     have hgB : g ≠ B := by have := HRF.out.l e _ ea; have e2 : ({ block := g, off := o, spot := none } : Addr).block = g := rfl; omega
     exact .inr ⟨g, o, ea, Nat.lt_of_lt_of_le hg u.size, fun i l hi j v hj => (u.cell (p := ⟨g, o + i * 3 + j, none⟩) hg hgB).trans (hc i l hi j v hj)⟩
  clear hb hp4 HU4
  by_cases heq : z = encR r
  ·have HDE : Hid (D = r ∧ ib = true) := by
    have := HDD.out
    rw [hok, if_pos ⟨rfl, heq.symm⟩] at this
    exact this
   have HTR : Hid (decide (z = encR r) = true) := decide_eq_true heq
   rw [HTR.out] at HEQ
   clear heq HDD
   go_wp2_with fail
   refine HEQ.out.mono ?_
   rintro e w5 ⟨rfl, rfl⟩
   go_wp2_with fail
   have hld := run_loadVar_row (P := Tryd.prog) _ B _ 27 _ _ _ (heap13s HBB.out (.int .i64 r.kind) (.string r.key) (.int .i64 r.n) (.int .i64 r.sid) (.slice sa sl sc) (.int .i64 r.colour) (.slice la ll lc) (.int .i64 r.t.hot) (.int .i64 r.t.warm) (.int .i64 r.t.gap) (.int .i64 r.t.add) (.int .i64 r.t.top) (.int .i64 r.t.half)) Tryd.underlying27 rfl info_rec13
   refine bodyPost_ret (v := .tuple #[.agg #[.int .i64 r.kind, .string r.key, .int .i64 r.n, .int .i64 r.sid, .slice sa sl sc, .int .i64 r.colour, .slice la ll lc, .int .i64 r.t.hot, .int .i64 r.t.warm, .int .i64 r.t.gap, .int .i64 r.t.add, .int .i64 r.t.top, .int .i64 r.t.half], .bool true]) (by rw [results_cell_tmp rfl]; simp [asAddr, hld, Result.andThen]) rfl ?_
   rw [HDE.out.1, HDE.out.2]
   refine ⟨sa, sc, la, lc, by rw [SL.out, LL.out], HRL.out _ HUY.out, ⟨HUY.out.os.trans HUA.out.os, HUY.out.tape.trans HUA.out.tape, HUY.out.output.trans HUA.out.output, Nat.le_trans HUA.out.size HUY.out.size, fun k hk _ => (HUY.out.block k (Nat.lt_of_lt_of_le hk HUA.out.size) (fun e => by have e : k = B := e; have := BB.out; omega)).trans (HUA.out.block k hk id)⟩⟩
  ·have HDE : Hid (D = rc0 ∧ ib = false) := by
    have := HDD.out
    rw [hok, if_neg (fun h => heq h.2.symm)] at this
    exact this
   have HTR : Hid (decide (z = encR r) = false) := decide_eq_false heq
   rw [HTR.out] at HEQ
   clear heq HDD
   go_wp2_with fail
   refine HEQ.out.mono ?_
   rintro e w5 ⟨rfl, rfl⟩
   go_wp2_with fail
   have hld := run_loadVar_row (P := Tryd.prog) _ B _ 27 _ _ _ (heap13s HBB.out (.int .i64 0) (.string ⟨#[]⟩) (.int .i64 0) (.int .i64 0) (.slice none 0 0) (.int .i64 0) (.slice none 0 0) (.int .i64 0) (.int .i64 0) (.int .i64 0) (.int .i64 0) (.int .i64 0) (.int .i64 0)) Tryd.underlying27 rfl info_rec13
   refine bodyPost_ret (v := .tuple #[.agg #[.int .i64 0, .string ⟨#[]⟩, .int .i64 0, .int .i64 0, .slice none 0 0, .int .i64 0, .slice none 0 0, .int .i64 0, .int .i64 0, .int .i64 0, .int .i64 0, .int .i64 0, .int .i64 0], .bool false]) (by rw [results_cell_tmp rfl]; simp [asAddr, hld, Result.andThen]) rfl ?_
   rw [HDE.out.1, HDE.out.2]
   exact ⟨none, 0, none, 0, rfl, ⟨RowI.nil _ _, RowL.nil _ _, by show 0 ≤ 100000; omega, by show 0 ≤ 100000; omega⟩, ⟨HUN.out.os.trans HUA.out.os, HUN.out.tape.trans HUA.out.tape, HUN.out.output.trans HUA.out.output, Nat.le_trans HUA.out.size HUN.out.size, fun k hk _ => (HUN.out.block k (Nat.lt_of_lt_of_le hk HUA.out.size) (fun e => by have e : k = B := e; have := BB.out; omega)).trans (HUA.out.block k hk id)⟩⟩
end Go.Proofs.YtpdkcpjofofkoaaDoor
