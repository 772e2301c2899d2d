/-
  Imports alone: what walks with drawn regions that only read use.
-/
import Derived.Test.YtijkigibcpgciaaRows
import Derived.Deep.QuietTactic
import Derived.BigQuiet
import Derived.Deep.Draws
