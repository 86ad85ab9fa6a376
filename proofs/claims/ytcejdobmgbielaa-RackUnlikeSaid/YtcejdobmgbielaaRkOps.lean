/- The program's Rack keeps the contracts of RackOps. -/
import Derived.Test.YtcejdobmgbielaaRkReset
import Derived.Test.YtcejdobmgbielaaRkSync
import Derived.Test.YtcejdobmgbielaaRkNew
import Derived.Test.YtcejdobmgbielaaRkPlace
namespace Go.Proofs.Ytcejdobmgbielaa
open Go.RowKit
set_option linter.unusedVariables false

theorem up_of_eq {w w' : World} (h : w' = w) : Up Nul w w' := by subst h; exact Up.refl _ _
def rackOps : RackOps where
  PR := RK
  lt h g hg := h.lt g hg
  le h := h.le
  nf h hf := h.nf hf
  keep h u hs := h.keep u hs
  new h1 h2 h3 h4 hf := rnew_good h1 h2 h3 h4 hf
  newBad h := rnew_bad h
  place h hf x cl a l c f ha hl hx := rplace_any h hf x cl a l c f ha hl hx
  take h hf a c p ha hc hi hd hp hx := rtake_any h hf a c p ha hc hi hd hp hx
  next h := by
    obtain ⟨bb, cap, T0, h1, _, _⟩ := h.ex
    exact (rnext_any h1).mono fun e w' k => ⟨k.1, up_of_eq k.2⟩
  bay h i hi := (h.bayOk i hi).mono fun e w' k => ⟨k.1, up_of_eq k.2⟩
  one h hf i hi := h.one hf i hi
  bayNil h x hx := (h.bayNo x hx).mono fun e w' k => ⟨k.1, up_of_eq k.2⟩
  size h := by
    obtain ⟨bb, cap, T0, h1, _, _⟩ := h.ex
    exact (rsize_any h1).mono fun e w' k => ⟨k.1, up_of_eq k.2⟩
  reset {w r n m fu k D nx T} h hf x hx1 hx2 := (rreset_any h hf x hx1 hx2).mono fun e w' k => ⟨rstD D n, k.1, fun i hi => by
    unfold rstD
    rw [if_pos hi]
    exact ⟨rfl, rfl, rfl, rfl, rfl⟩, k.2⟩
  hold h hf i j y hi hj hU hy := rhold_any h hf i j y hi hj hU hy
  holdBad h hf x y z hx := rholdBad_any h hf x y z hx
  giveBad h hf x y z hx := rgiveBad_any h x y z hx
  put h hf i j y a l c z hz hc hl hi hj hU hlv hy hp := rput_any h hf i j y a l c z hz hc hl hi hj hU hlv hy hp
  get h hf i j y hi hj hlv := rget_any h hf i j y hi hj hlv
  syncDead h hf hl := rsyncDead_any h hf hl
end Go.Proofs.Ytcejdobmgbielaa
