/- What the walks rest on. -/
import Derived.Test.YtmaffnadmfphpaaCB4
