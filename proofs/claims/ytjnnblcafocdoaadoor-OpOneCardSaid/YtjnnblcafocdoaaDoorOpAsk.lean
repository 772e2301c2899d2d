/-
  Put and Take of package op, met by contracts (imports alone).
-/
import Derived.Test.YtjnnblcafocdoaaDoorOpPut
import Derived.Test.YtjnnblcafocdoaaDoorOpTake
