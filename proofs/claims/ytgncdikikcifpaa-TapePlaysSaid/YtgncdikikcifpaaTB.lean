/- What the walks rest on. -/
import Derived.Test.YtgncdikikcifpaaTB2
