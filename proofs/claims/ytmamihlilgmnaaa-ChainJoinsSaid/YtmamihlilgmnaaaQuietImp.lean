/-
  Imports alone: what walks with drawn regions that only read use.
-/
import Derived.Test.YtmamihlilgmnaaaRows
import Derived.Deep.QuietTactic
import Derived.BigQuiet
import Derived.Deep.Draws
