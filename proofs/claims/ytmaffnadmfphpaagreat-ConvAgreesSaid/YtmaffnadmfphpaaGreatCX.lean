/- What the walks rest on. -/
import Derived.Test.YtmaffnadmfphpaaGreatCX1
