/- What the walks rest on. -/
import Derived.Test.YtmhmlfgikmeejaaDoorRC1
