/- What the walks rest on. -/
import Derived.Test.YtencinajieicpaaTB2
