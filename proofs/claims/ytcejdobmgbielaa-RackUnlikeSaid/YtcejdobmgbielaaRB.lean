/- What the walks rest on. -/
import Derived.Test.YtcejdobmgbielaaRB5
