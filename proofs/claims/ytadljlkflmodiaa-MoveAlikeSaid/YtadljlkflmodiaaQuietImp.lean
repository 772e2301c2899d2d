/-
  Imports alone: what walks with drawn regions that only read use.
-/
import Derived.Test.YtadljlkflmodiaaRows
import Derived.Deep.QuietTactic
import Derived.BigQuiet
import Derived.Deep.Draws
