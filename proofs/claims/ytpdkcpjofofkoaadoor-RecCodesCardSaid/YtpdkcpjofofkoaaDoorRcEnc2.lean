/- 'Encode' of any record. -/
import Derived.Test.YtpdkcpjofofkoaaDoorRcEncY
namespace Go.Proofs.YtpdkcpjofofkoaaDoor
open Go.RowKit
set_option linter.unusedVariables false

/-- What Encode tells of a record that may be. -/
theorem enc_yes (r : Rc) (sa la : Option Addr) (sc lc : Nat) (w : World) (hS : Shp w) (hr : RH w r sa la) (F : OkF r) :
    Calls Tryd.prog 9 #[rv r (.slice sa r.sids.length sc) (.slice la r.locs.length lc)] w fun e w' => ∃ v W0, e = .returned (.tuple #[v, .bool true]) ∧ Up Nul w W0 ∧ Bz W0 w' v (encR r) := by
  have hk := F.kk
  have hb := sh_bounds (kn r) (by have := F.k8; omega)
  obtain ⟨n, hn⟩ := Int.eq_ofNat_of_zero_le (show 0 ≤ r.n by have := F.n; omega)
  obtain ⟨sid, hsid⟩ := Int.eq_ofNat_of_zero_le (show 0 ≤ r.sid by have := F.sid; omega)
  obtain ⟨co, hco⟩ := Int.eq_ofNat_of_zero_le (show 0 ≤ r.colour by have := F.co; omega)
  have HOK := fun W (u : Up Nul w W) => ok_any r sa la sc lc W (hS.nxt u) (hr.nxt u) (by have := F.keyl; omega)
  rw [okR_iff.2 F] at HOK
  have e1 := F.n
  have e2 := F.sid
  have e3 := F.co
  have e4 := F.keyl
  have e5 := F.nsl
  have e6 := F.nll
  have e7 := F.k1
  have e8 := F.k8
  have H := enc_core w r.key n sid co sa sc la lc r.t (kn r) r.sids r.locs (by omega) (by omega) hS (by omega) (by omega) (by omega) e4 e5 e6 hr.s hr.l (fun x hx => by have := F.sids x hx; omega) F.locs (fun x hx => by have := F.t x hx; omega)
    (fun W u => by have := HOK W u; simp only [rv, hk, hn, hsid, hco] at this; exact this)
  simp only [rv, hk, hn, hsid, hco]
  refine H.mono ?_
  rintro e w' ⟨v, W0, rfl, u, hz⟩
  refine ⟨v, W0, rfl, u, ?_⟩
  unfold encR
  rw [hn, hsid, hco, hk]
  exact hz
/-- What Encode tells of a record that may not be. -/
theorem enc_not (r : Rc) (sa la : Option Addr) (sc lc : Nat) (w : World) (hS : Shp w) (hr : RH w r sa la) (hk : r.key.size ≤ 100000) (F : okR r = false) :
    Calls Tryd.prog 9 #[rv r (.slice sa r.sids.length sc) (.slice la r.locs.length lc)] w fun e w' => e = .returned (.tuple #[.slice none 0 0, .bool false]) ∧ Up Nul w w' := by
  refine enc_no r _ _ w fun W u => ?_
  have := ok_any r sa la sc lc W (hS.nxt u) (hr.nxt u) hk
  rw [F] at this
  exact this
end Go.Proofs.YtpdkcpjofofkoaaDoor
