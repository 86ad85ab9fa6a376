/- A record that may be, with one field turned beyond its bounds, may not be. -/
import Derived.Test.YtpdkcpjofofkoaaDoorRcMath
namespace Go.Proofs.YtpdkcpjofofkoaaDoor
open Go.RowKit
theorem okR_no {r : Rc} (h : OkF r → False) : okR r = false := by
  cases e : okR r with
  | false => rfl
  | true => exact (h (okR_iff.1 e)).elim
theorem nums_append (a b : ByteArray) : nums (a ++ b) = nums a ++ nums b := by
  unfold nums
  rw [ByteArray.data_append, Array.toList_append, List.map_append]
section
variable {r : Rc} {y : Int}
theorem bad0 (F : OkF r) (hy : 1 ≤ y) : okR (⟨(8 + y), r.key, r.n, r.sid, r.sids, r.colour, r.locs, r.t⟩ : Rc) = false := okR_no fun G => by
  have F0 := F
  have hy0 := hy
  clear F0 hy0
  have h8 := G.k8
  have hk := G.kk
  simp only [kn] at h8 hk
  omega
theorem bad1 (F : OkF r) (hy : 1 ≤ y) : okR (⟨r.kind, r.key, r.n, r.sid, r.sids, (2 + y), r.locs, r.t⟩ : Rc) = false := okR_no fun G => by
  have F0 := F
  have hy0 := hy
  clear F0 hy0
  have b := sh_bounds (kn (⟨r.kind, r.key, r.n, r.sid, r.sids, (2 + y), r.locs, r.t⟩ : Rc)) (by have := G.k8; omega)
  have h := G.co
  simp only at h
  omega
theorem bad2 (F : OkF r) (hy : 1 ≤ y) : okR (⟨r.kind, (r.key ++ ⟨#[127]⟩), r.n, r.sid, r.sids, r.colour, r.locs, r.t⟩ : Rc) = false := okR_no fun G => by
  have F0 := F
  have hy0 := hy
  clear F0 hy0
  have h := (G.pl 127 (by show 127 ∈ nums _; rw [nums_append]; exact List.mem_append_right _ (by decide))).2
  omega
theorem bad3 (F : OkF r) (hy : 1 ≤ y) : okR (⟨r.kind, r.key, (64 + y), r.sid, r.sids, r.colour, r.locs, r.t⟩ : Rc) = false := okR_no fun G => by
  have F0 := F
  have hy0 := hy
  clear F0 hy0
  have b := sh_bounds (kn (⟨r.kind, r.key, (64 + y), r.sid, r.sids, r.colour, r.locs, r.t⟩ : Rc)) (by have := G.k8; omega)
  have h := G.n
  simp only at h
  omega
theorem bad4 (F : OkF r) (hy : 1 ≤ y) : okR (⟨r.kind, r.key, r.n, (-y), r.sids, r.colour, r.locs, r.t⟩ : Rc) = false := okR_no fun G => by
  have F0 := F
  have hy0 := hy
  clear F0 hy0
  have b := sh_bounds (kn (⟨r.kind, r.key, r.n, (-y), r.sids, r.colour, r.locs, r.t⟩ : Rc)) (by have := G.k8; omega)
  have h := G.sid
  have b4 : 0 ≤ sh (kn (⟨r.kind, r.key, r.n, (-y), r.sids, r.colour, r.locs, r.t⟩ : Rc)) 4 := by
    have : ∀ k, k < 9 → 0 ≤ sh k 4 := by decide
    exact this _ (by have := G.k8; omega)
  simp only at h
  omega
theorem bad5 (F : OkF r) (hy : 1 ≤ y) : okR (⟨r.kind, r.key, r.n, r.sid, (r.sids ++ [1]), r.colour, r.locs, r.t⟩ : Rc) = false := okR_no fun G => by
  have F0 := F
  have hy0 := hy
  clear F0 hy0
  have h1 : ((r.sids.length : Nat) : Int) = sh (kn r) 8 := F.ns
  have h2 : (((r.sids ++ [1]).length : Nat) : Int) = sh (kn r) 8 := G.ns
  rw [List.length_append] at h2
  simp only [List.length_cons, List.length_nil] at h2
  omega
theorem bad6 (F : OkF r) (hy : 1 ≤ y) : okR (⟨r.kind, r.key, r.n, r.sid, r.sids, r.colour, (r.locs ++ [(⟨0, 0, 1⟩ : Lo)]), r.t⟩ : Rc) = false := okR_no fun G => by
  have F0 := F
  have hy0 := hy
  clear F0 hy0
  have h1 : ((r.locs.length : Nat) : Int) = sh (kn r) 11 + sh (kn r) 12 * ((nz r.sids : Nat) : Int) := F.nl
  have h2 : (((r.locs ++ [(⟨0, 0, 1⟩ : Lo)]).length : Nat) : Int) = sh (kn r) 11 + sh (kn r) 12 * ((nz r.sids : Nat) : Int) := G.nl
  rw [List.length_append] at h2
  simp only [List.length_cons, List.length_nil] at h2
  omega
theorem bad7 (F : OkF r) (hy : 1 ≤ y) : okR (⟨r.kind, r.key, r.n, r.sid, r.sids, r.colour, r.locs, (⟨r.t.hot, r.t.warm, -y, r.t.add, r.t.top, r.t.half⟩ : Tb)⟩ : Rc) = false := okR_no fun G => by
  have F0 := F
  have hy0 := hy
  clear F0 hy0
  have h : sh (kn r) 13 ≤ -y := (G.t (-y) (by simp [Tb.l])).1
  have b4 : 0 ≤ sh (kn r) 13 := by
    have : ∀ k, k < 9 → 0 ≤ sh k 13 := by decide
    exact this _ (by have := F.k8; omega)
  omega
end
end Go.Proofs.YtpdkcpjofofkoaaDoor
