/- The program's Trio, as the laws ask for it. -/
import Derived.Test.YtencinajieicpaaTrApp
import Derived.Test.YtencinajieicpaaTrOpenR
import Derived.Test.YtencinajieicpaaTrMend
namespace Go.Proofs.Ytencinajieicpaa
open Go.RowKit
set_option linter.unusedVariables false

/-- The program's Trio keeps what a law asks of a Trio. -/
def trioOps : TrioOps where
  O := tapeOps
  PQ := PQr
  lt := fun h g hg => by
    obtain ⟨hh, T0, hT, htn, hTT⟩ := h
    rcases (hTT g).1 hg with rfl | e
    · exact trc_lt hh
    · exact hT.lt g e
  le := fun h => by
    obtain ⟨hh, T0, hT, htn, hTT⟩ := h
    exact hT.le
  nf := fun h hf f e hg => by
    obtain ⟨hh, T0, hT, htn, hTT⟩ := h
    rcases (hTT f).1 hg with e2 | e2
    · exact trc_nf hh hf f e e2
    · exact hT.nf hf f e e2
  keep := fun h u hx => by
    obtain ⟨hh, T0, hT, htn, hTT⟩ := h
    exact ⟨(u.block _ (trc_lt hh) (hx _ ((hTT _).2 (.inl rfl)))).trans hh, T0, hT.keep u fun g hg => hx g ((hTT g).2 (.inr hg)), htn, hTT⟩
  same := fun h hs => by
    obtain ⟨hh, T0, hT, htn, hTT⟩ := h
    exact ⟨hh, T0, hT.congr hs, htn, hTT⟩
  one := fun h hf i hi => by
    obtain ⟨hh, T0, hT, htn, hTT⟩ := h
    obtain ⟨F, s, h1, h2, h3, h4⟩ := hT.one hf hi
    exact ⟨F, s, fun g hg => (hTT g).2 (.inr (h1 g hg)), h2, h3, fun w' k' s' d => trc_did hh hf htn hTT (h4 w' k' s' d)⟩
  new := fun hf => ptr_new hf
  tapes := fun h => ptr_tapes h.heap
  append := fun h hf hN a l c z hz hc hl hn => ptr_append h hf hN a l c z hz hc hl hn
  openT := fun h hf => ptr_open h hf
  mend := fun h hf x => ptr_mend h hf x
  records := fun h => ptr_records h.heap
  split := fun a l c z hz hc hl => by
    refine (split_any a l c z hz hc hl).mono ?_
    rintro e w' ⟨v, rfl, h1, h2⟩
    exact ⟨v, rfl, h1.rr, h2⟩
end Go.Proofs.Ytencinajieicpaa
