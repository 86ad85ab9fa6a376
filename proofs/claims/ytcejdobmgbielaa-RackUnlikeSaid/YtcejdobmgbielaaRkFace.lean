/- What a law asks of the program's Rack; a Rack as a law holds it. -/
import Derived.Test.YtcejdobmgbielaaRkMany
namespace Go.Proofs.Ytcejdobmgbielaa
open Go.RowKit
set_option linter.unusedVariables false

/-! ### Rows of Locs -/
/-- A Loc as cells: its disk, its slot, its id. -/
structure Lc where
  disk : Nat
  slot : Nat
  id : Nat
def Lc.cells (c : Lc) : List Value := [.int .i64 (c.disk : Nat), .int .i64 (c.slot : Nat), .int .i64 (c.id : Nat)]
def lcV (l : List Lc) : List Value := (l.map Lc.cells).flatten
theorem lcV_append (l k : List Lc) : lcV (l ++ k) = lcV l ++ lcV k := by simp [lcV]
theorem lcV_length (l : List Lc) : (lcV l).length = l.length * 3 := by
  induction l with
  | nil => rfl
  | cons c l ih =>
    have e : lcV (c :: l) = c.cells ++ lcV l := by simp [lcV]
    have h3 : c.cells.length = 3 := rfl
    rw [e, List.length_append, ih, h3, List.length_cons]
    omega
theorem lc_one (l : List Lc) : ∀ v ∈ lcV l, v.oneCell' = true := by
  intro v hv
  unfold lcV at hv
  obtain ⟨x, hx, hv⟩ := List.mem_flatten.1 hv
  obtain ⟨c, _, rfl⟩ := List.mem_map.1 hx
  simp only [Lc.cells, List.mem_cons, List.not_mem_nil, or_false] at hv
  rcases hv with rfl | rfl | rfl <;> rfl
theorem lcV_at (l : List Lc) : ∀ s j : Nat, j < 3 → ∀ c, l[s]? = some c → (lcV l)[s * 3 + j]? = c.cells[j]? := by
  induction l with
  | nil => intro s j _ c h; simp at h
  | cons c0 l ih =>
    intro s j hj c h
    have e : lcV (c0 :: l) = c0.cells ++ lcV l := by simp [lcV]
    have h3 : c0.cells.length = 3 := rfl
    cases s with
    | zero =>
      have : c0 = c := by simpa using h
      subst this
      rw [e, Nat.zero_mul, Nat.zero_add, List.getElem?_append_left (by omega)]
    | succ s =>
      have h : l[s]? = some c := by simpa using h
      rw [e, List.getElem?_append_right (by omega), h3, show (s + 1) * 3 + j - 3 = s * 3 + j by omega]
      exact ih s j hj c h
/-- A slice of Locs of the call's own. -/
def OwnL (base : Nat) (w : World) (v : Value) (l : List Lc) : Prop := w.ownsRow base 36 3 v l.length (lcV l)
theorem OwnL.nil (base : Nat) (w : World) : OwnL base w (.slice none 0 0) [] := World.ownsRow_nil _ _ _ _
theorem OwnL.alloc {base : Nat} {w : World} {v : Value} {l : List Lc} (h : OwnL base w v l) (o : Obj) : OwnL base (w.alloc o) v l := World.ownsRow.alloc h o
theorem OwnL.drewN {base : Nat} {w : World} {v : Value} {l : List Lc} (h : OwnL base w v l) (n : Nat) : OwnL base (w.drewN n) v l := h
theorem OwnL.keep {base : Nat} {w w' : World} {v : Value} {l : List Lc} (h : OwnL base w v l) (hs : ∀ k, v.ownBlock = some k → w'.heap[k]? = w.heap[k]?) : OwnL base w' v l := by
  refine ⟨h.1, ?_⟩
  rcases h.2 with hn | ⟨g, cap, cur, h1, h2, h3, h4⟩
  · exact .inl hn
  · exact .inr ⟨g, cap, cur, h1, h2, (hs g (by rw [h1]; rfl)).trans h3, h4⟩
theorem OwnL.lt {base : Nat} {w : World} {v : Value} {l : List Lc} (h : OwnL base w v l) : ∀ k, v.ownBlock = some k → base ≤ k ∧ k < w.heap.size := fun k hk => World.ownsRow.lt h k hk
theorem OwnL.nxt {base : Nat} {w w' : World} {v : Value} {l : List Lc} (h : OwnL base w v l) (u : Up Nul w w') : OwnL base w' v l := h.keep fun k hk => u.block k (h.lt k hk).2 fun h => h
theorem OwnL.shape {base : Nat} {w : World} {v : Value} {l : List Lc} (h : OwnL base w v l) : ∃ a cap, v = .slice a l.length cap := by
  rcases h.2 with ⟨e, e0⟩ | ⟨g, cap, cur, e, _⟩
  · exact ⟨none, 0, by rw [e, e0]⟩
  · exact ⟨_, _, e⟩
theorem OwnL.at {base : Nat} {w : World} {v : Value} {l : List Lc} (h : OwnL base w v l) {s : Nat} (hs : s < l.length) : ∃ g cap, v = .slice (some ⟨g, 0, none⟩) l.length cap ∧ g < w.heap.size ∧ w.rangeAt g (s * 3) l[s].cells := by
  rcases h.2 with ⟨_, hn⟩ | ⟨g, cap, cur, h1, h2, h3, h4, h5, h6, h7⟩
  · omega
  · refine ⟨g, cap, h1, (Array.getElem?_eq_some_iff.1 h3).1, fun j x hx => ?_⟩
    have hj : j < 3 := by
      rcases Nat.lt_or_ge j 3 with e | e
      · exact e
      · rw [List.getElem?_eq_none (by exact e)] at hx; cases hx
    have e := lcV_at l s j hj l[s] (List.getElem?_eq_getElem hs)
    rw [← h7, List.getElem?_take, if_pos (by omega), hx] at e
    simp only [World.cell?, h3]
    simpa using e
/-! ### Which disks are told -/
/-- How many slots are free. -/
def fre (m : Nat) (s : DS) : Nat := m - (us s.U m).length
/-- What may be placed on. -/
def Fit (n m : Nat) (D : Nat → DS) (cl : Int) (av : Int → Prop) (d : Nat) : Prop := d < n ∧ (D d).live = true ∧ 0 < fre m (D d) ∧ ¬ av (d : Int) ∧ (cl < 0 ∨ ((d % 3 : Nat) : Int) = cl)
def Bef (F : Nat → Nat) (x y : Nat) : Prop := F y < F x ∨ (F x = F y ∧ x < y)
/-- The k best of those that may be. -/
structure Plc (C : Nat → Prop) (F : Nat → Nat) (k : Nat) (p : List Nat) : Prop where
  len : p.length = k
  ord : p.Pairwise (Bef F)
  all : ∀ d ∈ p, C d
  best : ∀ d, C d → d ∉ p → ∀ x ∈ p, Bef F x d
theorem Bef.irrefl {F : Nat → Nat} {x : Nat} (h : Bef F x x) : False := by
  rcases h with h | ⟨_, h⟩ <;> omega
theorem Plc.nodup {C : Nat → Prop} {F : Nat → Nat} {k : Nat} {p : List Nat} (h : Plc C F k p) : p.Nodup := h.ord.imp fun {a b} hb e => by subst e; exact hb.irrefl
/-- A row of numbers as values. -/
def intV (p : List Nat) : List Value := p.map fun i => Value.int .i64 (i : Nat)
/-- The slot that a Take of a disk tells. -/
def slo (m : Nat) (s : DS) : Nat := (fst0 s.U m 0).getD 0
def tkD (m : Nat) (s : DS) : DS := { s with U := updB s.U (slo m s) true }
/-! ### The program's Rack -/
structure Rd (PR : World → Nat → Nat → Nat → Option Nat → (Nat → DS) → Nat → (Nat → Prop) → Prop) (w w' : World) (r n m : Nat) (fu k' : Option Nat) (T X : Nat → Prop) (D' : Nat → DS) (nx' : Nat) : Prop where
  ex : ∃ T', PR w' r n m fu D' nx' T' ∧ (∀ g, T' g → T g ∨ w.heap.size ≤ g) ∧ ∀ g, X g → ¬ T' g
  up : Up (fun g => T g ∨ fu = some g) w w'
  fz : FzO w' fu k'
/-- A row's block is one of ints. -/
def IntAt (w : World) (a : Option Addr) : Prop := ∀ x, a = some x → ∃ A f, w.heap[x.block]? = some (Obj.cells A 3 f)
def lcA (x y z : Int) : Value := .agg #[.int .i64 x, .int .i64 y, .int .i64 z]
/-- What each call of the program's Rack does: where it lies (r), how many disks and slots, its Fuse, its disks, the next id, its blocks. -/
structure RackOps : Type where
  PR : World → Nat → Nat → Nat → Option Nat → (Nat → DS) → Nat → (Nat → Prop) → Prop
  lt : ∀ {w r n m fu D nx T}, PR w r n m fu D nx T → ∀ g, T g → g < w.heap.size
  le : ∀ {w r n m fu D nx T}, PR w r n m fu D nx T → 1 ≤ n ∧ n ≤ 24 ∧ m ≤ 64 ∧ 1 ≤ nx
  nf : ∀ {w r n m fu k D nx T}, PR w r n m fu D nx T → FzO w fu k → ∀ f, fu = some f → ¬ T f
  keep : ∀ {w w' r n m fu D nx T} {S : Nat → Prop}, PR w r n m fu D nx T → Up S w w' → (∀ g, T g → ¬ S g) → PR w' r n m fu D nx T
  new : ∀ {w : World} {n m : Nat} {fu k : Option Nat}, 1 ≤ n → n ≤ 24 → 1 ≤ m → m ≤ 64 → FzO w fu k → Calls Try.prog 7 #[.int .i64 (n : Nat), .int .i64 (m : Nat), .pointer (fp fu)] w fun e w' =>
    ∃ r D T, e = .returned (.tuple #[.pointer (some ⟨r, 0, none⟩), .int .i64 0]) ∧ PR w' r n m fu D 1 T ∧ (∀ i, i < n → (D i).U = (fun _ => false) ∧ (D i).live = true ∧ (D i).R = (fun _ => zer 96) ∧ (D i).ps = []) ∧ Up Nul w w' ∧ ∀ g, T g → w.heap.size ≤ g
  newBad : ∀ {w : World} {x y : Int} {fu : Option Nat}, (x < 1 ∨ 24 < x ∨ y < 1 ∨ 64 < y) → Calls Try.prog 7 #[.int .i64 x, .int .i64 y, .pointer (fp fu)] w fun e w' => e = .returned (.tuple #[.pointer none, .int .i64 1]) ∧ Up Nul w w'
  place : ∀ {w r n m fu k D nx T}, PR w r n m fu D nx T → FzO w fu k → ∀ (x cl : Int) (a : Option Addr) (l c : Nat) (f : Nat → Int), SlI w a l f → l ≤ 1000 → (-9223372036854775808 ≤ x ∧ x ≤ 9223372036854775807) →
    Calls Try.prog 8 #[.pointer (some ⟨r, 0, none⟩), .int .i64 x, .int .i64 cl, .slice a l c] w fun e w' =>
      ((0 ≤ x ∧ ∃ p v, Plc (Fit n m D cl fun d => ∃ i, i < l ∧ f i = d) (fun d => fre m (D d)) x.toNat p ∧ e = .returned (.tuple #[v, .bool true]) ∧ OwnV 3 w.heap.size w' v (intV p)) ∨
       ((x < 0 ∨ ∀ p : List Nat, p.Nodup → (∀ d ∈ p, Fit n m D cl (fun d => ∃ i, i < l ∧ f i = d) d) → (p.length : Int) < x) ∧ ∃ b c, e = .returned (.tuple #[.slice b 0 c, .bool false]))) ∧ Up Nul w w'
  take : ∀ {w r n m fu k D nx T}, PR w r n m fu D nx T → FzO w fu k → ∀ (a : Option Addr) (c : Nat) (p : List Nat), SlI w a p.length (fun i => (p.getD i 0 : Nat)) → p.length ≤ c → IntAt w a → p.Nodup → (∀ d ∈ p, d < n ∧ 0 < fre m (D d)) → nx ≤ 1000000000 →
    Calls Try.prog 9 #[.pointer (some ⟨r, 0, none⟩), .slice a p.length c] w fun e w' =>
      ∃ v D', e = .returned (.tuple #[v, .bool true]) ∧ OwnL w.heap.size w' v (p.zipIdx.map fun x => ⟨x.1, slo m (D x.1), nx + x.2⟩) ∧ (∀ d ∈ p, D' d = tkD m (D d)) ∧ (∀ d, d ∉ p → D' d = D d) ∧ Rd PR w w' r n m fu k T (fun g => v.ownBlock = some g) D' (nx + p.length)
  next : ∀ {w r n m fu D nx T}, PR w r n m fu D nx T → Calls Try.prog 10 #[.pointer (some ⟨r, 0, none⟩)] w fun e w' => e = .returned (.int .i64 (nx : Nat)) ∧ Up Nul w w'
  bay : ∀ {w r n m fu D nx T}, PR w r n m fu D nx T → ∀ i, i < n → Calls Try.prog 13 #[.pointer (some ⟨r, 0, none⟩), .int .i64 (i : Nat)] w fun e w' => e = .returned (.pointer (some ⟨(D i).q, 0, none⟩)) ∧ Up Nul w w'
  one : ∀ {w r n m fu k D nx T}, PR w r n m fu D nx T → FzO w fu k → ∀ i, i < n → ∃ F, Dk w m fu (D i) F ∧ ∀ w' k' s', s'.q = (D i).q → s'.b = (D i).b → Dn w w' m fu k' F s' → Rd PR w w' r n m fu k' T Nul (updD D i s') nx
  bayNil : ∀ {w r n m fu D nx T}, PR w r n m fu D nx T → ∀ x : Int, (x < 0 ∨ (n : Int) ≤ x) → Calls Try.prog 13 #[.pointer (some ⟨r, 0, none⟩), .int .i64 x] w fun e w' => e = .returned (.pointer none) ∧ Up Nul w w'
  size : ∀ {w r n m fu D nx T}, PR w r n m fu D nx T → Calls Try.prog 17 #[.pointer (some ⟨r, 0, none⟩)] w fun e w' => e = .returned (.int .i64 (n : Nat)) ∧ Up Nul w w'
  reset : ∀ {w r n m fu k D nx T}, PR w r n m fu D nx T → FzO w fu k → ∀ x : Nat, 1 ≤ x → x ≤ 1000000000 → Calls Try.prog 11 #[.pointer (some ⟨r, 0, none⟩), .int .i64 (x : Nat)] w fun e w' =>
    ∃ D', e = .returned (.tuple #[]) ∧ (∀ i, i < n → (D' i).U = (fun _ => false) ∧ (D' i).b = (D i).b ∧ (D' i).live = (D i).live ∧ (D' i).R = (D i).R ∧ (D' i).ps = (D i).ps) ∧ Rd PR w w' r n m fu k T Nul D' x
  hold : ∀ {w r n m fu k D nx T}, PR w r n m fu D nx T → FzO w fu k → ∀ (i j y : Nat), i < n → j < m → (D i).U j = false → y ≤ 1000000000 → Calls Try.prog 12 #[.pointer (some ⟨r, 0, none⟩), lcA (i : Nat) (j : Nat) (y : Nat)] w fun e w' =>
    e = .returned (.bool true) ∧ Rd PR w w' r n m fu k T Nul (updD D i { D i with U := updB (D i).U j true }) (max nx (y + 1))
  holdBad : ∀ {w r n m fu k D nx T}, PR w r n m fu D nx T → FzO w fu k → ∀ (x y z : Int), (x < 0 ∨ (n : Int) ≤ x ∨ y < 0 ∨ (m : Int) ≤ y ∨ (D x.toNat).U y.toNat = true) → Calls Try.prog 12 #[.pointer (some ⟨r, 0, none⟩), lcA x y z] w fun e w' =>
    e = .returned (.bool false) ∧ Up Nul w w'
  giveBad : ∀ {w r n m fu k D nx T}, PR w r n m fu D nx T → FzO w fu k → ∀ (x y z : Int), (x < 0 ∨ (n : Int) ≤ x) → Calls Try.prog 15 #[.pointer (some ⟨r, 0, none⟩), lcA x y z] w fun e w' =>
    e = .returned (.bool false) ∧ Up Nul w w'
  put : ∀ {w r n m fu k D nx T}, PR w r n m fu D nx T → FzO w fu k → ∀ (i j y : Nat) (a : Option Addr) (l c : Nat) (z : List Nat), SlN w a l z → l ≤ c → l ≤ 64 → i < n → j < m → (D i).U j = true → (D i).live = true → y < 4294967296 → (D i).ps.length < 1000 →
    Calls Try.prog 23 #[.pointer (some ⟨r, 0, none⟩), lcA (i : Nat) (j : Nat) (y : Nat), .slice a l c] w fun e w' =>
      (k = some 0 ∧ e = .returned (.int .i64 4) ∧ Up Nul w w') ∨ (k ≠ some 0 ∧ e = .returned (.int .i64 0) ∧ Rd PR w w' r n m fu (less k) T Nul (updD D i { D i with R := upd (D i).R j (FrM.fr y z), ps := (D i).ps ++ [(j, (D i).R j)] }) nx)
  get : ∀ {w r n m fu k D nx T}, PR w r n m fu D nx T → FzO w fu k → ∀ (i j : Nat) (y : Int), i < n → j < m → (D i).live = true →
    Calls Try.prog 24 #[.pointer (some ⟨r, 0, none⟩), lcA (i : Nat) (j : Nat) y] w fun e w' =>
      ((∃ a l c, FrM.tk ((D i).R j) = some (FrM.idOf ((D i).R j), FrM.datOf ((D i).R j)) ∧ (FrM.idOf ((D i).R j) : Int) = y ∧ e = .returned (.tuple #[.slice a l c, .int .i64 0]) ∧ SlN w' a l (FrM.datOf ((D i).R j))) ∨
       (∃ a c, (FrM.tk ((D i).R j) = none ∨ ¬ (FrM.idOf ((D i).R j) : Int) = y) ∧ e = .returned (.tuple #[.slice a 0 c, .int .i64 6]))) ∧ Up Nul w w'
  syncDead : ∀ {w r n m fu D nx T}, PR w r n m fu D nx T → FzO w fu (some 0) → (∃ i, i < n ∧ (D i).live = true) → Calls Try.prog 25 #[.pointer (some ⟨r, 0, none⟩)] w fun e w' => e = .returned (.int .i64 4) ∧ Up Nul w w'
/-! ### A Rack as a law holds it -/
/-- A Rack, all new since w0; P: the law's own blocks. -/
structure RH (O : RackOps) (P : Nat → Prop) (w0 w : World) (r n m : Nat) (fu k : Option Nat) (D : Nat → DS) (nx : Nat) : Prop where
  ex : ∃ T, O.PR w r n m fu D nx T ∧ (∀ g, T g → w0.heap.size ≤ g) ∧ ∀ x, P x → ¬ T x
  fz : FzO w fu k
  fnew : ∀ f, fu = some f → w0.heap.size ≤ f ∧ ¬ P f
  own : ∀ x, P x → x < w.heap.size
  up : Up Nul w0 w
/-- The law's own blocks stay. -/
def Sp (P : Nat → Prop) (w w' : World) : Prop := ∀ x, P x → w'.heap[x]? = w.heap[x]?
section
variable {O : RackOps} {P : Nat → Prop} {w0 w w' : World} {r n m nx : Nat} {fu k : Option Nat} {D : Nat → DS}
theorem RH.le (h : RH O P w0 w r n m fu k D nx) : 1 ≤ n ∧ n ≤ 24 ∧ m ≤ 64 ∧ 1 ≤ nx := by
  obtain ⟨T, h1, _⟩ := h.ex
  exact O.le h1
theorem RH.nxt (h : RH O P w0 w r n m fu k D nx) (u : Up Nul w w') : RH O P w0 w' r n m fu k D nx := by
  obtain ⟨T, h1, h2, h3⟩ := h.ex
  exact ⟨⟨T, O.keep h1 u fun _ _ h => h, h2, h3⟩, h.fz.up u fun _ _ h => h, h.fnew, fun x hx => Nat.lt_of_lt_of_le (h.own x hx) u.size, h.up.trans u⟩
theorem RH.sp (h : RH O P w0 w r n m fu k D nx) (u : Up Nul w w') : Sp P w w' := fun x hx => u.block x (h.own x hx) fun h => h
/-- Some blocks more are the law's. -/
theorem RH.owns {Q : Nat → Prop} (h : RH O P w0 w r n m fu k D nx) (u : Up Nul w w') (h1 : ∀ x, Q x → P x ∨ (w.heap.size ≤ x ∧ x < w'.heap.size)) : RH O Q w0 w' r n m fu k D nx := by
  obtain ⟨T, k1, k2, k3⟩ := h.ex
  refine ⟨⟨T, O.keep k1 u fun _ _ h => h, k2, fun y hy e => ?_⟩, h.fz.up u fun _ _ h => h, fun f e => ⟨(h.fnew f e).1, fun hy => ?_⟩, fun y hy => ?_, h.up.trans u⟩
  · rcases h1 y hy with hy | ⟨hy, _⟩
    · exact k3 y hy e
    · have := O.lt k1 y e; omega
  · rcases h1 f hy with hy | ⟨hy, _⟩
    · exact (h.fnew f e).2 hy
    · have hz := h.fz
      rw [e] at hz
      have := Fz.lt hz
      omega
  · rcases h1 y hy with hy | ⟨_, hy⟩
    · exact Nat.lt_of_lt_of_le (h.own y hy) u.size
    · exact hy
theorem RH.less {Q : Nat → Prop} (h : RH O P w0 w r n m fu k D nx) (h1 : ∀ x, Q x → P x) : RH O Q w0 w r n m fu k D nx := h.owns (Up.refl _ _) fun x hx => .inl (h1 x hx)
/-- The law turns blocks of its own. -/
theorem RH.mine (h : RH O P w0 w r n m fu k D nx) {S : Nat → Prop} (u : Up S w w') (hs : ∀ x, S x → P x) (hn : ∀ x, S x → w0.heap.size ≤ x) : RH O P w0 w' r n m fu k D nx := by
  obtain ⟨T, k1, k2, k3⟩ := h.ex
  exact ⟨⟨T, O.keep k1 u fun g hg e => k3 g (hs g e) hg, k2, k3⟩, h.fz.up u fun f e hf => (h.fnew f e).2 (hs f hf), h.fnew, fun x hx => Nat.lt_of_lt_of_le (h.own x hx) u.size, At.foot h.up u hn⟩
/-- The Rack has changed; X: blocks that the call made. -/
theorem RH.did {T X : Nat → Prop} {k' : Option Nat} {D' : Nat → DS} {nx' : Nat} (h1 : O.PR w r n m fu D nx T) (h2 : ∀ g, T g → w0.heap.size ≤ g) (h3 : ∀ x, P x → ¬ T x) (h4 : ∀ f, fu = some f → w0.heap.size ≤ f ∧ ¬ P f) (h5 : ∀ x, P x → x < w.heap.size) (up : Up Nul w0 w) (d : Rd O.PR w w' r n m fu k' T X D' nx') : RH O P w0 w' r n m fu k' D' nx' ∧ Sp P w w' := by
  obtain ⟨T', d1, d2, d3⟩ := d.ex
  refine ⟨⟨⟨T', d1, fun g hg => ?_, fun x hx e => ?_⟩, d.fz, h4, fun x hx => Nat.lt_of_lt_of_le (h5 x hx) d.up.size, At.foot up d.up fun g hg => ?_⟩, fun x hx => d.up.block x (h5 x hx) fun e => ?_⟩
  · rcases d2 g hg with e | e
    · exact h2 g e
    · exact Nat.le_trans up.size e
  · rcases d2 x e with e | e
    · exact h3 x hx e
    · have := h5 x hx; omega
  · rcases hg with e | e
    · exact h2 g e
    · exact (h4 g e).1
  · rcases e with e | e
    · exact h3 x hx e
    · exact (h4 x e).2 hx
/-- One block of those that the call made is the law's. -/
theorem RH.didX {T X : Nat → Prop} {k' : Option Nat} {D' : Nat → DS} {nx' : Nat} (h : RH O P w0 w r n m fu k D nx) (h1 : O.PR w r n m fu D nx T) (h2 : ∀ g, T g → w0.heap.size ≤ g) (h3 : ∀ x, P x → ¬ T x) (d : Rd O.PR w w' r n m fu k' T X D' nx') (hx : ∀ x, X x → w.heap.size ≤ x ∧ x < w'.heap.size) : RH O (fun x => P x ∨ X x) w0 w' r n m fu k' D' nx' ∧ Sp P w w' := by
  obtain ⟨T', d1, d2, d3⟩ := d.ex
  obtain ⟨g1, g2⟩ := RH.did h1 h2 h3 h.fnew h.own h.up d
  refine ⟨⟨⟨T', d1, fun g hg => ?_, fun x hx' e => ?_⟩, d.fz, fun f e => ⟨(h.fnew f e).1, fun hx' => ?_⟩, fun x hx' => ?_, g1.up⟩, g2⟩
  · rcases d2 g hg with e | e
    · exact h2 g e
    · exact Nat.le_trans h.up.size e
  · rcases hx' with hx' | hx'
    · rcases d2 x e with e | e
      · exact h3 x hx' e
      · have := h.own x hx'; omega
    · exact d3 x hx' e
  · rcases hx' with hx' | hx'
    · exact (h.fnew f e).2 hx'
    · have hz := h.fz
      rw [e] at hz
      have := Fz.lt hz
      have := (hx f hx').1
      omega
  · rcases hx' with hx' | hx'
    · exact g1.own x hx'
    · exact (hx x hx').2
end
end Go.Proofs.Ytcejdobmgbielaa
