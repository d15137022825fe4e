/- The contracts of package reorder's Order, Back, Apply and Mirrors, together: corder_any, cback_any, capply_any, cmirrors_any. -/
import Derived.Test.YtahjkndphkpieaaCApp
import Derived.Test.YtahjkndphkpieaaCBack
