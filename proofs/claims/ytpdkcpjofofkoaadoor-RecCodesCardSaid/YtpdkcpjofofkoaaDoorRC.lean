/- What the walks rest on. -/
import Derived.Test.YtpdkcpjofofkoaaDoorRC1
