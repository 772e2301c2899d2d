/-
  No cell of these rows narrows 'for every input' (looked for: loops, veiled, ifaces, maps, wideKeys, modest, calm, conditions, laid).
  DERIVED. THE GIVEN ROWS OF THIS SEAT. 5 by the template 'for every input the law returns true; each argument reads behind the call as it read before'; 0 by the template 'total and deterministic' (their statements: YtadljlkflmodiaaTotals.lean).
  GIVEN WITH THE SEED: the statements are not yours to turn. If you find one false, say at which input.
  Laid BY PROGRAM, IN A SANDBOX (cutbox-rows.mjs): the forced cells as the released guide's own fill.sh prints them over the translation 219e35ecac775674… (all of the seat's roots in one cut). By AI agents, Wed Nov 11 2026. No macro, syntax, notation, axiom, sorry.
-/
import Derived.Test.YtadljlkflmodiaaChecked
import GoSem.Claim
import GoSem.ClaimJoined
import GoSem.ClaimMapViews
import Derived.JoinedTies
import Derived.KernelRfl
namespace Go.Proofs.Ytadljlkflmodiaa
/- THE CELL 'sum', in the pinned program and in every row, IS THE sha256 OF THE DUMP (.gsa) THAT YtadljlkflmodiaaProg.lean LOADS. Nothing in Lean hashes anything: it is a label: what it is worth is what the hold of that sum in a sandbox is worth. -/
noncomputable def Try.pinned : Pinned := { name := "ytadljlkflmodiaa", sum := "219e35ecac775674eb127ad03929574966732a34b4fd686b9efe95c3973f739d", checked := Try.checked }
namespace Rows
def none {H : Type} : Left H := { results := [], args := [] }

/-- 'almerylaw15.MoveActs': WHATEVER THE INPUT: true; the input reads as it did. -/
def moveActsSpec : ChangeSpec := { name := "moveActs", fn := fun _ => fun
  | [d1, d2, d3] => { results := [.lit (.bool true)], args := [d1, d2, d3] }
  | _ => none }
def moveActsRow : OpenClaim := { program := "ytadljlkflmodiaa", sum := "219e35ecac775674eb127ad03929574966732a34b4fd686b9efe95c3973f739d", func := "almery/almerylaw15.MoveActs", spec := "moveActs", unfollowed := true, recurses := true, apart := false }
def MoveActsSaid : Prop := moveActsRow.holds Try.pinned (OpenSpec.ofChange moveActsSpec)

/-- ITS FALSE NEIGHBOUR: 'it returns false'. Refute it at one input. -/
def moveActsWrong : ChangeSpec := { name := "moveActs", fn := fun _ => fun
  | [d1, d2, d3] => { results := [.lit (.bool false)], args := [d1, d2, d3] }
  | _ => none }
def MoveActsWrongFalsely : Prop := moveActsRow.holds Try.pinned (OpenSpec.ofChange moveActsWrong)

/-- 'almerylaw15.MoveAlike': WHATEVER THE INPUT: true; the input reads as it did. -/
def moveAlikeSpec : ChangeSpec := { name := "moveAlike", fn := fun _ => fun
  | [d1, d2, d3] => { results := [.lit (.bool true)], args := [d1, d2, d3] }
  | _ => none }
def moveAlikeRow : OpenClaim := { program := "ytadljlkflmodiaa", sum := "219e35ecac775674eb127ad03929574966732a34b4fd686b9efe95c3973f739d", func := "almery/almerylaw15.MoveAlike", spec := "moveAlike", unfollowed := true, recurses := true, apart := false }
def MoveAlikeSaid : Prop := moveAlikeRow.holds Try.pinned (OpenSpec.ofChange moveAlikeSpec)

/-- ITS FALSE NEIGHBOUR: 'it returns false'. Refute it at one input. -/
def moveAlikeWrong : ChangeSpec := { name := "moveAlike", fn := fun _ => fun
  | [d1, d2, d3] => { results := [.lit (.bool false)], args := [d1, d2, d3] }
  | _ => none }
def MoveAlikeWrongFalsely : Prop := moveAlikeRow.holds Try.pinned (OpenSpec.ofChange moveAlikeWrong)

/-- 'almerylaw15.MoveSteps': WHATEVER THE INPUT: true; the input reads as it did. -/
def moveStepsSpec : ChangeSpec := { name := "moveSteps", fn := fun _ => fun
  | [d1, d2] => { results := [.lit (.bool true)], args := [d1, d2] }
  | _ => none }
def moveStepsRow : OpenClaim := { program := "ytadljlkflmodiaa", sum := "219e35ecac775674eb127ad03929574966732a34b4fd686b9efe95c3973f739d", func := "almery/almerylaw15.MoveSteps", spec := "moveSteps", unfollowed := true, recurses := true, apart := false }
def MoveStepsSaid : Prop := moveStepsRow.holds Try.pinned (OpenSpec.ofChange moveStepsSpec)

/-- ITS FALSE NEIGHBOUR: 'it returns false'. Refute it at one input. -/
def moveStepsWrong : ChangeSpec := { name := "moveSteps", fn := fun _ => fun
  | [d1, d2] => { results := [.lit (.bool false)], args := [d1, d2] }
  | _ => none }
def MoveStepsWrongFalsely : Prop := moveStepsRow.holds Try.pinned (OpenSpec.ofChange moveStepsWrong)

/-- 'almerylaw15.MoveWrote': WHATEVER THE INPUT: true; the input reads as it did. -/
def moveWroteSpec : ChangeSpec := { name := "moveWrote", fn := fun _ => fun
  | [d1, d2, d3] => { results := [.lit (.bool true)], args := [d1, d2, d3] }
  | _ => none }
def moveWroteRow : OpenClaim := { program := "ytadljlkflmodiaa", sum := "219e35ecac775674eb127ad03929574966732a34b4fd686b9efe95c3973f739d", func := "almery/almerylaw15.MoveWrote", spec := "moveWrote", unfollowed := true, recurses := true, apart := false }
def MoveWroteSaid : Prop := moveWroteRow.holds Try.pinned (OpenSpec.ofChange moveWroteSpec)

/-- ITS FALSE NEIGHBOUR: 'it returns false'. Refute it at one input. -/
def moveWroteWrong : ChangeSpec := { name := "moveWrote", fn := fun _ => fun
  | [d1, d2, d3] => { results := [.lit (.bool false)], args := [d1, d2, d3] }
  | _ => none }
def MoveWroteWrongFalsely : Prop := moveWroteRow.holds Try.pinned (OpenSpec.ofChange moveWroteWrong)

/-- 'almerylaw15.MoveNobody': WHATEVER THE INPUT: true; the input reads as it did. -/
def moveNobodySpec : ChangeSpec := { name := "moveNobody", fn := fun _ => fun
  | [d] => { results := [.lit (.bool true)], args := [d] }
  | _ => none }
def moveNobodyRow : OpenClaim := { program := "ytadljlkflmodiaa", sum := "219e35ecac775674eb127ad03929574966732a34b4fd686b9efe95c3973f739d", func := "almery/almerylaw15.MoveNobody", spec := "moveNobody", unfollowed := true, recurses := true, apart := false }
def MoveNobodySaid : Prop := moveNobodyRow.holds Try.pinned (OpenSpec.ofChange moveNobodySpec)

/-- ITS FALSE NEIGHBOUR: 'it returns false'. Refute it at one input. -/
def moveNobodyWrong : ChangeSpec := { name := "moveNobody", fn := fun _ => fun
  | [d] => { results := [.lit (.bool false)], args := [d] }
  | _ => none }
def MoveNobodyWrongFalsely : Prop := moveNobodyRow.holds Try.pinned (OpenSpec.ofChange moveNobodyWrong)

/- THE SECOND FORM. 'bulk': how many values and letters a reading holds, each counted each time it is reached (what is shared counts as often as it is met; a slice's spare places count too). A statement '..UptoSaid' is the law's where the arguments, and the package variables that the reading takes, are together of bulk at most 1048576: NARROWER than '..Said'. Prove '..Said' where nothing that the law and all that it calls make is longer than what came in: it says more and counts as full. Else prove '..UptoSaid'. A law counts once. -/
mutual
def uptoBulk {H : Type} : DataW H → Nat
  | .lit (.string bytes) => bytes.length + 1
  | .lit _ => 1
  | .nil => 1
  | .ptr d => uptoBulk d + 1
  | .slice elems spare => uptoBulkAll elems + uptoBulkAll spare + 1
  | .agg parts => uptoBulkAll parts + 1
  | .iface _ d => uptoBulk d + 1
  | .map entries => uptoBulkEntries entries + 1
  | .held _ => 1
def uptoBulkAll {H : Type} : List (DataW H) → Nat
  | [] => 0
  | d :: r => uptoBulk d + uptoBulkAll r
def uptoBulkEntries {H : Type} : List (Lit × DataW H) → Nat
  | [] => 0
  | x :: r => uptoBulkEntry x + uptoBulkEntries r
def uptoBulkEntry {H : Type} : Lit × DataW H → Nat
  | (.string bytes, d) => bytes.length + uptoBulk d + 1
  | (_, d) => uptoBulk d + 1
 end
def uptoSmall : (H : Type) → List (DataW H) → Bool := fun _ ds => decide (uptoBulkAll ds ≤ 1048576)
def OpenSpec.upto (s : _root_.Go.ChangeSpec) : _root_.Go.OpenSpec := { _root_.Go.OpenSpec.ofChange s with cond := some uptoSmall }

/-- 'almerylaw15.MoveActs', WHERE WHAT IT READS IS OF BULK AT MOST 1048576: true; the input reads as it did. -/
def moveActsUptoRow : OpenClaim := { program := "ytadljlkflmodiaa", sum := "219e35ecac775674eb127ad03929574966732a34b4fd686b9efe95c3973f739d", func := "almery/almerylaw15.MoveActs", spec := "moveActs", unfollowed := true, recurses := true, apart := false, narrowed := true }
def MoveActsUptoSaid : Prop := moveActsUptoRow.holds Try.pinned (OpenSpec.upto moveActsSpec)

/-- 'almerylaw15.MoveAlike', WHERE WHAT IT READS IS OF BULK AT MOST 1048576: true; the input reads as it did. -/
def moveAlikeUptoRow : OpenClaim := { program := "ytadljlkflmodiaa", sum := "219e35ecac775674eb127ad03929574966732a34b4fd686b9efe95c3973f739d", func := "almery/almerylaw15.MoveAlike", spec := "moveAlike", unfollowed := true, recurses := true, apart := false, narrowed := true }
def MoveAlikeUptoSaid : Prop := moveAlikeUptoRow.holds Try.pinned (OpenSpec.upto moveAlikeSpec)

/-- 'almerylaw15.MoveSteps', WHERE WHAT IT READS IS OF BULK AT MOST 1048576: true; the input reads as it did. -/
def moveStepsUptoRow : OpenClaim := { program := "ytadljlkflmodiaa", sum := "219e35ecac775674eb127ad03929574966732a34b4fd686b9efe95c3973f739d", func := "almery/almerylaw15.MoveSteps", spec := "moveSteps", unfollowed := true, recurses := true, apart := false, narrowed := true }
def MoveStepsUptoSaid : Prop := moveStepsUptoRow.holds Try.pinned (OpenSpec.upto moveStepsSpec)

/-- 'almerylaw15.MoveWrote', WHERE WHAT IT READS IS OF BULK AT MOST 1048576: true; the input reads as it did. -/
def moveWroteUptoRow : OpenClaim := { program := "ytadljlkflmodiaa", sum := "219e35ecac775674eb127ad03929574966732a34b4fd686b9efe95c3973f739d", func := "almery/almerylaw15.MoveWrote", spec := "moveWrote", unfollowed := true, recurses := true, apart := false, narrowed := true }
def MoveWroteUptoSaid : Prop := moveWroteUptoRow.holds Try.pinned (OpenSpec.upto moveWroteSpec)

/-- 'almerylaw15.MoveNobody', WHERE WHAT IT READS IS OF BULK AT MOST 1048576: true; the input reads as it did. -/
def moveNobodyUptoRow : OpenClaim := { program := "ytadljlkflmodiaa", sum := "219e35ecac775674eb127ad03929574966732a34b4fd686b9efe95c3973f739d", func := "almery/almerylaw15.MoveNobody", spec := "moveNobody", unfollowed := true, recurses := true, apart := false, narrowed := true }
def MoveNobodyUptoSaid : Prop := moveNobodyUptoRow.holds Try.pinned (OpenSpec.upto moveNobodySpec)

end Rows
end Go.Proofs.Ytadljlkflmodiaa
