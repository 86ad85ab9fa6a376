/- What the walks rest on. -/
import Derived.Test.YtkenfabnbmkhbaaGreatCB10
