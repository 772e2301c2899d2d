/-
  Imports alone: what walks with drawn regions use.
-/
import Derived.Test.YtadljlkflmodiaaRows
import Derived.Deep.RegionWith
import Derived.Deep.RegionLaw
import Derived.Deep.RegionHeld3
import Derived.Deep.DeepCutAuto
import Derived.BigRegion
