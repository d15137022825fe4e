/- The contracts of package neutral's Settle and Raise, together: csettle_any and craise_any. -/
import Derived.Test.YtjoiinpkkaigdaaCSet
import Derived.Test.YtjoiinpkkaigdaaCRaise
