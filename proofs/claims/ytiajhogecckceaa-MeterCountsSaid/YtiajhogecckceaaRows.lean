/-
  No cell of these rows narrows 'for every input' (looked for: loops, veiled, ifaces, maps, wideKeys, modest, calm, conditions, laid).
  DERIVED. THE GIVEN ROWS OF THIS SEAT. 5 by the template 'for every input the law returns true; each argument reads behind the call as it read before'; 0 by the template 'total and deterministic' (their statements: YtiajhogecckceaaTotals.lean).
  GIVEN WITH THE SEED: the statements are not yours to turn. If you find one false, say at which input.
  Laid BY PROGRAM, IN A SANDBOX (cutbox-rows.mjs): the forced cells as the released guide's own fill.sh prints them over the translation bbba5a14ae84e3ac… (all of the seat's roots in one cut). By AI agents, Wed Nov 11 2026. No macro, syntax, notation, axiom, sorry.
-/
import Derived.Test.YtiajhogecckceaaChecked
import GoSem.Claim
import GoSem.ClaimJoined
import GoSem.ClaimMapViews
import Derived.JoinedTies
import Derived.KernelRfl
namespace Go.Proofs.Ytiajhogecckceaa
/- THE CELL 'sum', in the pinned program and in every row, IS THE sha256 OF THE DUMP (.gsa) THAT YtiajhogecckceaaProg.lean LOADS. Nothing in Lean hashes anything: it is a label: what it is worth is what the hold of that sum in a sandbox is worth. -/
noncomputable def Try.pinned : Pinned := { name := "ytiajhogecckceaa", sum := "bbba5a14ae84e3aceced7bde416a69d894c1d6781a0ef47d8ed8a5de66b1f99c", checked := Try.checked }
namespace Rows
def none {H : Type} : Left H := { results := [], args := [] }

/-- 'almerylaw05.MeterCounts': WHATEVER THE INPUT: true; the input reads as it did. -/
def meterCountsSpec : ChangeSpec := { name := "meterCounts", fn := fun _ => fun
  | [d] => { results := [.lit (.bool true)], args := [d] }
  | _ => none }
def meterCountsRow : OpenClaim := { program := "ytiajhogecckceaa", sum := "bbba5a14ae84e3aceced7bde416a69d894c1d6781a0ef47d8ed8a5de66b1f99c", func := "almery/almerylaw05.MeterCounts", spec := "meterCounts", unfollowed := true, recurses := true, apart := false }
def MeterCountsSaid : Prop := meterCountsRow.holds Try.pinned (OpenSpec.ofChange meterCountsSpec)

/-- ITS FALSE NEIGHBOUR: 'it returns false'. Refute it at one input. -/
def meterCountsWrong : ChangeSpec := { name := "meterCounts", fn := fun _ => fun
  | [d] => { results := [.lit (.bool false)], args := [d] }
  | _ => none }
def MeterCountsWrongFalsely : Prop := meterCountsRow.holds Try.pinned (OpenSpec.ofChange meterCountsWrong)

/-- 'almerylaw05.MeterLaps': WHATEVER THE INPUT: true; the input reads as it did. -/
def meterLapsSpec : ChangeSpec := { name := "meterLaps", fn := fun _ => fun
  | [d1, d2] => { results := [.lit (.bool true)], args := [d1, d2] }
  | _ => none }
def meterLapsRow : OpenClaim := { program := "ytiajhogecckceaa", sum := "bbba5a14ae84e3aceced7bde416a69d894c1d6781a0ef47d8ed8a5de66b1f99c", func := "almery/almerylaw05.MeterLaps", spec := "meterLaps", unfollowed := true, recurses := true, apart := false }
def MeterLapsSaid : Prop := meterLapsRow.holds Try.pinned (OpenSpec.ofChange meterLapsSpec)

/-- ITS FALSE NEIGHBOUR: 'it returns false'. Refute it at one input. -/
def meterLapsWrong : ChangeSpec := { name := "meterLaps", fn := fun _ => fun
  | [d1, d2] => { results := [.lit (.bool false)], args := [d1, d2] }
  | _ => none }
def MeterLapsWrongFalsely : Prop := meterLapsRow.holds Try.pinned (OpenSpec.ofChange meterLapsWrong)

/-- 'almerylaw05.MeterRises': WHATEVER THE INPUT: true; the input reads as it did. -/
def meterRisesSpec : ChangeSpec := { name := "meterRises", fn := fun _ => fun
  | [d1, d2] => { results := [.lit (.bool true)], args := [d1, d2] }
  | _ => none }
def meterRisesRow : OpenClaim := { program := "ytiajhogecckceaa", sum := "bbba5a14ae84e3aceced7bde416a69d894c1d6781a0ef47d8ed8a5de66b1f99c", func := "almery/almerylaw05.MeterRises", spec := "meterRises", unfollowed := true, recurses := true, apart := false }
def MeterRisesSaid : Prop := meterRisesRow.holds Try.pinned (OpenSpec.ofChange meterRisesSpec)

/-- ITS FALSE NEIGHBOUR: 'it returns false'. Refute it at one input. -/
def meterRisesWrong : ChangeSpec := { name := "meterRises", fn := fun _ => fun
  | [d1, d2] => { results := [.lit (.bool false)], args := [d1, d2] }
  | _ => none }
def MeterRisesWrongFalsely : Prop := meterRisesRow.holds Try.pinned (OpenSpec.ofChange meterRisesWrong)

/-- 'almerylaw05.MeterNobody': WHATEVER THE INPUT: true; the input reads as it did. -/
def meterNobodySpec : ChangeSpec := { name := "meterNobody", fn := fun _ => fun
  | [d] => { results := [.lit (.bool true)], args := [d] }
  | _ => none }
def meterNobodyRow : OpenClaim := { program := "ytiajhogecckceaa", sum := "bbba5a14ae84e3aceced7bde416a69d894c1d6781a0ef47d8ed8a5de66b1f99c", func := "almery/almerylaw05.MeterNobody", spec := "meterNobody", unfollowed := true, recurses := true, apart := false }
def MeterNobodySaid : Prop := meterNobodyRow.holds Try.pinned (OpenSpec.ofChange meterNobodySpec)

/-- ITS FALSE NEIGHBOUR: 'it returns false'. Refute it at one input. -/
def meterNobodyWrong : ChangeSpec := { name := "meterNobody", fn := fun _ => fun
  | [d] => { results := [.lit (.bool false)], args := [d] }
  | _ => none }
def MeterNobodyWrongFalsely : Prop := meterNobodyRow.holds Try.pinned (OpenSpec.ofChange meterNobodyWrong)

/-- 'almerylaw05.MeterApart': WHATEVER THE INPUT: true; the input reads as it did. -/
def meterApartSpec : ChangeSpec := { name := "meterApart", fn := fun _ => fun
  | [d1, d2] => { results := [.lit (.bool true)], args := [d1, d2] }
  | _ => none }
def meterApartRow : OpenClaim := { program := "ytiajhogecckceaa", sum := "bbba5a14ae84e3aceced7bde416a69d894c1d6781a0ef47d8ed8a5de66b1f99c", func := "almery/almerylaw05.MeterApart", spec := "meterApart", unfollowed := true, recurses := true, apart := false }
def MeterApartSaid : Prop := meterApartRow.holds Try.pinned (OpenSpec.ofChange meterApartSpec)

/-- ITS FALSE NEIGHBOUR: 'it returns false'. Refute it at one input. -/
def meterApartWrong : ChangeSpec := { name := "meterApart", fn := fun _ => fun
  | [d1, d2] => { results := [.lit (.bool false)], args := [d1, d2] }
  | _ => none }
def MeterApartWrongFalsely : Prop := meterApartRow.holds Try.pinned (OpenSpec.ofChange meterApartWrong)

/- THE SECOND FORM. 'bulk': how many values and letters a reading holds, each counted each time it is reached (what is shared counts as often as it is met; a slice's spare places count too). A statement '..UptoSaid' is the law's where the arguments, and the package variables that the reading takes, are together of bulk at most 1048576: NARROWER than '..Said'. Prove '..Said' where nothing that the law and all that it calls make is longer than what came in: it says more and counts as full. Else prove '..UptoSaid'. A law counts once. -/
mutual
def uptoBulk {H : Type} : DataW H → Nat
  | .lit (.string bytes) => bytes.length + 1
  | .lit _ => 1
  | .nil => 1
  | .ptr d => uptoBulk d + 1
  | .slice elems spare => uptoBulkAll elems + uptoBulkAll spare + 1
  | .agg parts => uptoBulkAll parts + 1
  | .iface _ d => uptoBulk d + 1
  | .map entries => uptoBulkEntries entries + 1
  | .held _ => 1
def uptoBulkAll {H : Type} : List (DataW H) → Nat
  | [] => 0
  | d :: r => uptoBulk d + uptoBulkAll r
def uptoBulkEntries {H : Type} : List (Lit × DataW H) → Nat
  | [] => 0
  | x :: r => uptoBulkEntry x + uptoBulkEntries r
def uptoBulkEntry {H : Type} : Lit × DataW H → Nat
  | (.string bytes, d) => bytes.length + uptoBulk d + 1
  | (_, d) => uptoBulk d + 1
 end
def uptoSmall : (H : Type) → List (DataW H) → Bool := fun _ ds => decide (uptoBulkAll ds ≤ 1048576)
def OpenSpec.upto (s : _root_.Go.ChangeSpec) : _root_.Go.OpenSpec := { _root_.Go.OpenSpec.ofChange s with cond := some uptoSmall }

/-- 'almerylaw05.MeterCounts', WHERE WHAT IT READS IS OF BULK AT MOST 1048576: true; the input reads as it did. -/
def meterCountsUptoRow : OpenClaim := { program := "ytiajhogecckceaa", sum := "bbba5a14ae84e3aceced7bde416a69d894c1d6781a0ef47d8ed8a5de66b1f99c", func := "almery/almerylaw05.MeterCounts", spec := "meterCounts", unfollowed := true, recurses := true, apart := false, narrowed := true }
def MeterCountsUptoSaid : Prop := meterCountsUptoRow.holds Try.pinned (OpenSpec.upto meterCountsSpec)

/-- 'almerylaw05.MeterLaps', WHERE WHAT IT READS IS OF BULK AT MOST 1048576: true; the input reads as it did. -/
def meterLapsUptoRow : OpenClaim := { program := "ytiajhogecckceaa", sum := "bbba5a14ae84e3aceced7bde416a69d894c1d6781a0ef47d8ed8a5de66b1f99c", func := "almery/almerylaw05.MeterLaps", spec := "meterLaps", unfollowed := true, recurses := true, apart := false, narrowed := true }
def MeterLapsUptoSaid : Prop := meterLapsUptoRow.holds Try.pinned (OpenSpec.upto meterLapsSpec)

/-- 'almerylaw05.MeterRises', WHERE WHAT IT READS IS OF BULK AT MOST 1048576: true; the input reads as it did. -/
def meterRisesUptoRow : OpenClaim := { program := "ytiajhogecckceaa", sum := "bbba5a14ae84e3aceced7bde416a69d894c1d6781a0ef47d8ed8a5de66b1f99c", func := "almery/almerylaw05.MeterRises", spec := "meterRises", unfollowed := true, recurses := true, apart := false, narrowed := true }
def MeterRisesUptoSaid : Prop := meterRisesUptoRow.holds Try.pinned (OpenSpec.upto meterRisesSpec)

/-- 'almerylaw05.MeterNobody', WHERE WHAT IT READS IS OF BULK AT MOST 1048576: true; the input reads as it did. -/
def meterNobodyUptoRow : OpenClaim := { program := "ytiajhogecckceaa", sum := "bbba5a14ae84e3aceced7bde416a69d894c1d6781a0ef47d8ed8a5de66b1f99c", func := "almery/almerylaw05.MeterNobody", spec := "meterNobody", unfollowed := true, recurses := true, apart := false, narrowed := true }
def MeterNobodyUptoSaid : Prop := meterNobodyUptoRow.holds Try.pinned (OpenSpec.upto meterNobodySpec)

/-- 'almerylaw05.MeterApart', WHERE WHAT IT READS IS OF BULK AT MOST 1048576: true; the input reads as it did. -/
def meterApartUptoRow : OpenClaim := { program := "ytiajhogecckceaa", sum := "bbba5a14ae84e3aceced7bde416a69d894c1d6781a0ef47d8ed8a5de66b1f99c", func := "almery/almerylaw05.MeterApart", spec := "meterApart", unfollowed := true, recurses := true, apart := false, narrowed := true }
def MeterApartUptoSaid : Prop := meterApartUptoRow.holds Try.pinned (OpenSpec.upto meterApartSpec)

end Rows
end Go.Proofs.Ytiajhogecckceaa
