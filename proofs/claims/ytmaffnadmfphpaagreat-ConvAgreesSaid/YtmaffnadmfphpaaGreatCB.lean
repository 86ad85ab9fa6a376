/- What the walks rest on. -/
import Derived.Test.YtmaffnadmfphpaaGreatCB9
