/-
  No cell of these rows narrows 'for every input' (looked for: loops, veiled, ifaces, maps, wideKeys, modest, calm, conditions, laid).
  DERIVED. THE GIVEN ROWS OF THIS SEAT. 5 by the template 'for every input the law returns true; each argument reads behind the call as it read before'; 0 by the template 'total and deterministic' (their statements: YtglaohclbepmfaaTotals.lean).
  GIVEN WITH THE SEED: the statements are not yours to turn. If you find one false, say at which input.
  Laid BY PROGRAM, IN A SANDBOX (cutbox-rows.mjs): the forced cells as the released guide's own fill.sh prints them over the translation 25259756b307fa9d… (all of the seat's roots in one cut). By AI agents, Wed Nov 11 2026. No macro, syntax, notation, axiom, sorry.
-/
import Derived.Test.YtglaohclbepmfaaChecked
import GoSem.Claim
import GoSem.ClaimJoined
import GoSem.ClaimMapViews
import Derived.JoinedTies
import Derived.KernelRfl
namespace Go.Proofs.Ytglaohclbepmfaa
/- THE CELL 'sum', in the pinned program and in every row, IS THE sha256 OF THE DUMP (.gsa) THAT YtglaohclbepmfaaProg.lean LOADS. Nothing in Lean hashes anything: it is a label: what it is worth is what the hold of that sum in a sandbox is worth. -/
noncomputable def Try.pinned : Pinned := { name := "ytglaohclbepmfaa", sum := "25259756b307fa9da7e8a8fd3364676a93e9b5f3d1d3b7c7ae36f51c39b4a76c", checked := Try.checked }
namespace Rows
def none {H : Type} : Left H := { results := [], args := [] }

/-- 'almerylaw12.PageActs': WHATEVER THE INPUT: true; the input reads as it did. -/
def pageActsSpec : ChangeSpec := { name := "pageActs", fn := fun _ => fun
  | [d1, d2] => { results := [.lit (.bool true)], args := [d1, d2] }
  | _ => none }
def pageActsRow : OpenClaim := { program := "ytglaohclbepmfaa", sum := "25259756b307fa9da7e8a8fd3364676a93e9b5f3d1d3b7c7ae36f51c39b4a76c", func := "almery/almerylaw12.PageActs", spec := "pageActs", apart := false }
def PageActsSaid : Prop := pageActsRow.holds Try.pinned (OpenSpec.ofChange pageActsSpec)

/-- ITS FALSE NEIGHBOUR: 'it returns false'. Refute it at one input. -/
def pageActsWrong : ChangeSpec := { name := "pageActs", fn := fun _ => fun
  | [d1, d2] => { results := [.lit (.bool false)], args := [d1, d2] }
  | _ => none }
def PageActsWrongFalsely : Prop := pageActsRow.holds Try.pinned (OpenSpec.ofChange pageActsWrong)

/-- 'almerylaw12.PageNew': WHATEVER THE INPUT: true; the input reads as it did. -/
def pageNewSpec : ChangeSpec := { name := "pageNew", fn := fun _ => fun
  | [d] => { results := [.lit (.bool true)], args := [d] }
  | _ => none }
def pageNewRow : OpenClaim := { program := "ytglaohclbepmfaa", sum := "25259756b307fa9da7e8a8fd3364676a93e9b5f3d1d3b7c7ae36f51c39b4a76c", func := "almery/almerylaw12.PageNew", spec := "pageNew", apart := false }
def PageNewSaid : Prop := pageNewRow.holds Try.pinned (OpenSpec.ofChange pageNewSpec)

/-- ITS FALSE NEIGHBOUR: 'it returns false'. Refute it at one input. -/
def pageNewWrong : ChangeSpec := { name := "pageNew", fn := fun _ => fun
  | [d] => { results := [.lit (.bool false)], args := [d] }
  | _ => none }
def PageNewWrongFalsely : Prop := pageNewRow.holds Try.pinned (OpenSpec.ofChange pageNewWrong)

/-- 'almerylaw12.PageBack': WHATEVER THE INPUT: true; the input reads as it did. -/
def pageBackSpec : ChangeSpec := { name := "pageBack", fn := fun _ => fun
  | [d1, d2, d3] => { results := [.lit (.bool true)], args := [d1, d2, d3] }
  | _ => none }
def pageBackRow : OpenClaim := { program := "ytglaohclbepmfaa", sum := "25259756b307fa9da7e8a8fd3364676a93e9b5f3d1d3b7c7ae36f51c39b4a76c", func := "almery/almerylaw12.PageBack", spec := "pageBack", apart := false }
def PageBackSaid : Prop := pageBackRow.holds Try.pinned (OpenSpec.ofChange pageBackSpec)

/-- ITS FALSE NEIGHBOUR: 'it returns false'. Refute it at one input. -/
def pageBackWrong : ChangeSpec := { name := "pageBack", fn := fun _ => fun
  | [d1, d2, d3] => { results := [.lit (.bool false)], args := [d1, d2, d3] }
  | _ => none }
def PageBackWrongFalsely : Prop := pageBackRow.holds Try.pinned (OpenSpec.ofChange pageBackWrong)

/-- 'almerylaw12.PageFill': WHATEVER THE INPUT: true; the input reads as it did. -/
def pageFillSpec : ChangeSpec := { name := "pageFill", fn := fun _ => fun
  | [d] => { results := [.lit (.bool true)], args := [d] }
  | _ => none }
def pageFillRow : OpenClaim := { program := "ytglaohclbepmfaa", sum := "25259756b307fa9da7e8a8fd3364676a93e9b5f3d1d3b7c7ae36f51c39b4a76c", func := "almery/almerylaw12.PageFill", spec := "pageFill", apart := false }
def PageFillSaid : Prop := pageFillRow.holds Try.pinned (OpenSpec.ofChange pageFillSpec)

/-- ITS FALSE NEIGHBOUR: 'it returns false'. Refute it at one input. -/
def pageFillWrong : ChangeSpec := { name := "pageFill", fn := fun _ => fun
  | [d] => { results := [.lit (.bool false)], args := [d] }
  | _ => none }
def PageFillWrongFalsely : Prop := pageFillRow.holds Try.pinned (OpenSpec.ofChange pageFillWrong)

/-- 'almerylaw12.PageNobody': WHATEVER THE INPUT: true; the input reads as it did. -/
def pageNobodySpec : ChangeSpec := { name := "pageNobody", fn := fun _ => fun
  | [d] => { results := [.lit (.bool true)], args := [d] }
  | _ => none }
def pageNobodyRow : OpenClaim := { program := "ytglaohclbepmfaa", sum := "25259756b307fa9da7e8a8fd3364676a93e9b5f3d1d3b7c7ae36f51c39b4a76c", func := "almery/almerylaw12.PageNobody", spec := "pageNobody", apart := false }
def PageNobodySaid : Prop := pageNobodyRow.holds Try.pinned (OpenSpec.ofChange pageNobodySpec)

/-- ITS FALSE NEIGHBOUR: 'it returns false'. Refute it at one input. -/
def pageNobodyWrong : ChangeSpec := { name := "pageNobody", fn := fun _ => fun
  | [d] => { results := [.lit (.bool false)], args := [d] }
  | _ => none }
def PageNobodyWrongFalsely : Prop := pageNobodyRow.holds Try.pinned (OpenSpec.ofChange pageNobodyWrong)

/- THE SECOND FORM. 'bulk': how many values and letters a reading holds, each counted each time it is reached (what is shared counts as often as it is met; a slice's spare places count too). A statement '..UptoSaid' is the law's where the arguments, and the package variables that the reading takes, are together of bulk at most 1048576: NARROWER than '..Said'. Prove '..Said' where nothing that the law and all that it calls make is longer than what came in: it says more and counts as full. Else prove '..UptoSaid'. A law counts once. -/
mutual
def uptoBulk {H : Type} : DataW H → Nat
  | .lit (.string bytes) => bytes.length + 1
  | .lit _ => 1
  | .nil => 1
  | .ptr d => uptoBulk d + 1
  | .slice elems spare => uptoBulkAll elems + uptoBulkAll spare + 1
  | .agg parts => uptoBulkAll parts + 1
  | .iface _ d => uptoBulk d + 1
  | .map entries => uptoBulkEntries entries + 1
  | .held _ => 1
def uptoBulkAll {H : Type} : List (DataW H) → Nat
  | [] => 0
  | d :: r => uptoBulk d + uptoBulkAll r
def uptoBulkEntries {H : Type} : List (Lit × DataW H) → Nat
  | [] => 0
  | x :: r => uptoBulkEntry x + uptoBulkEntries r
def uptoBulkEntry {H : Type} : Lit × DataW H → Nat
  | (.string bytes, d) => bytes.length + uptoBulk d + 1
  | (_, d) => uptoBulk d + 1
 end
def uptoSmall : (H : Type) → List (DataW H) → Bool := fun _ ds => decide (uptoBulkAll ds ≤ 1048576)
def OpenSpec.upto (s : _root_.Go.ChangeSpec) : _root_.Go.OpenSpec := { _root_.Go.OpenSpec.ofChange s with cond := some uptoSmall }

/-- 'almerylaw12.PageActs', WHERE WHAT IT READS IS OF BULK AT MOST 1048576: true; the input reads as it did. -/
def pageActsUptoRow : OpenClaim := { program := "ytglaohclbepmfaa", sum := "25259756b307fa9da7e8a8fd3364676a93e9b5f3d1d3b7c7ae36f51c39b4a76c", func := "almery/almerylaw12.PageActs", spec := "pageActs", apart := false, narrowed := true }
def PageActsUptoSaid : Prop := pageActsUptoRow.holds Try.pinned (OpenSpec.upto pageActsSpec)

/-- 'almerylaw12.PageNew', WHERE WHAT IT READS IS OF BULK AT MOST 1048576: true; the input reads as it did. -/
def pageNewUptoRow : OpenClaim := { program := "ytglaohclbepmfaa", sum := "25259756b307fa9da7e8a8fd3364676a93e9b5f3d1d3b7c7ae36f51c39b4a76c", func := "almery/almerylaw12.PageNew", spec := "pageNew", apart := false, narrowed := true }
def PageNewUptoSaid : Prop := pageNewUptoRow.holds Try.pinned (OpenSpec.upto pageNewSpec)

/-- 'almerylaw12.PageBack', WHERE WHAT IT READS IS OF BULK AT MOST 1048576: true; the input reads as it did. -/
def pageBackUptoRow : OpenClaim := { program := "ytglaohclbepmfaa", sum := "25259756b307fa9da7e8a8fd3364676a93e9b5f3d1d3b7c7ae36f51c39b4a76c", func := "almery/almerylaw12.PageBack", spec := "pageBack", apart := false, narrowed := true }
def PageBackUptoSaid : Prop := pageBackUptoRow.holds Try.pinned (OpenSpec.upto pageBackSpec)

/-- 'almerylaw12.PageFill', WHERE WHAT IT READS IS OF BULK AT MOST 1048576: true; the input reads as it did. -/
def pageFillUptoRow : OpenClaim := { program := "ytglaohclbepmfaa", sum := "25259756b307fa9da7e8a8fd3364676a93e9b5f3d1d3b7c7ae36f51c39b4a76c", func := "almery/almerylaw12.PageFill", spec := "pageFill", apart := false, narrowed := true }
def PageFillUptoSaid : Prop := pageFillUptoRow.holds Try.pinned (OpenSpec.upto pageFillSpec)

/-- 'almerylaw12.PageNobody', WHERE WHAT IT READS IS OF BULK AT MOST 1048576: true; the input reads as it did. -/
def pageNobodyUptoRow : OpenClaim := { program := "ytglaohclbepmfaa", sum := "25259756b307fa9da7e8a8fd3364676a93e9b5f3d1d3b7c7ae36f51c39b4a76c", func := "almery/almerylaw12.PageNobody", spec := "pageNobody", apart := false, narrowed := true }
def PageNobodyUptoSaid : Prop := pageNobodyUptoRow.holds Try.pinned (OpenSpec.upto pageNobodySpec)

end Rows
end Go.Proofs.Ytglaohclbepmfaa
