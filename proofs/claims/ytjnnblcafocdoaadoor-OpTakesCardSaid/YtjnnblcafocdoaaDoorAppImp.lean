/-
  Imports alone: what walks with append, cuts and held regions use.
-/
import Derived.Test.YtjnnblcafocdoaaDoorRows
import Derived.Deep.AppendLies
import Derived.Deep.RegionLaw
import Derived.Deep.RegionHeld3
import Derived.Deep.DeepCutAuto
import Derived.Deep.Onto
import Derived.OwnWalk
import Derived.Laws.OwnMore
import Derived.BigRegion
