/- The program's Bay is one of those that the laws' walks are for. -/
import Derived.Test.YtfmgbmpdifjliaaBayReal3
namespace Go.Proofs.Ytfmgbmpdifjliaa
open Go.RowKit
set_option linter.unusedVariables false

def bayOps : BayOps where
  PB := PBs
  ty := PBs.ty
  keep := PBs.keep
  new := pnew_any
  take := ptake_any
  hold := fun h _ x => phold_any h x
  give := fun h _ x => pgive_any h x
  free := pfree_any
  used := pused_any
  disk := pdisk_any
  writeBad := pwrite_bad
  writeGood := pwrite_good
  readErr := pread_err
  readOk := pread_ok
  scan := pscan_any
end Go.Proofs.Ytfmgbmpdifjliaa
