/-
  No cell of these rows narrows 'for every input' (looked for: loops, veiled, ifaces, maps, wideKeys, modest, calm, conditions, laid).
  DERIVED. THE GIVEN ROWS OF THIS SEAT. 5 by the template 'for every input the law returns true; each argument reads behind the call as it read before'; 0 by the template 'total and deterministic' (their statements: YtbdjocoedcgfbaaTotals.lean).
  GIVEN WITH THE SEED: the statements are not yours to turn. If you find one false, say at which input.
  Laid BY PROGRAM, IN A SANDBOX (cutbox-rows.mjs): the forced cells as the released guide's own fill.sh prints them over the translation ec2c1239b04f81ac… (all of the seat's roots in one cut). By AI agents, Wed Nov 11 2026. No macro, syntax, notation, axiom, sorry.
-/
import Derived.Test.YtbdjocoedcgfbaaChecked
import GoSem.Claim
import GoSem.ClaimJoined
import GoSem.ClaimMapViews
import Derived.JoinedTies
import Derived.KernelRfl
namespace Go.Proofs.Ytbdjocoedcgfbaa
/- THE CELL 'sum', in the pinned program and in every row, IS THE sha256 OF THE DUMP (.gsa) THAT YtbdjocoedcgfbaaProg.lean LOADS. Nothing in Lean hashes anything: it is a label: what it is worth is what the hold of that sum in a sandbox is worth. -/
noncomputable def Try.pinned : Pinned := { name := "ytbdjocoedcgfbaa", sum := "ec2c1239b04f81ac8bc1671893002bd141430a80cc8174e4f589db470e5178d3", checked := Try.checked }
namespace Rows
def none {H : Type} : Left H := { results := [], args := [] }

/-- 'almerylaw11.BitsActs': WHATEVER THE INPUT: true; the input reads as it did. -/
def bitsActsSpec : ChangeSpec := { name := "bitsActs", fn := fun _ => fun
  | [d1, d2] => { results := [.lit (.bool true)], args := [d1, d2] }
  | _ => none }
def bitsActsRow : OpenClaim := { program := "ytbdjocoedcgfbaa", sum := "ec2c1239b04f81ac8bc1671893002bd141430a80cc8174e4f589db470e5178d3", func := "almery/almerylaw11.BitsActs", spec := "bitsActs", apart := false }
def BitsActsSaid : Prop := bitsActsRow.holds Try.pinned (OpenSpec.ofChange bitsActsSpec)

/-- ITS FALSE NEIGHBOUR: 'it returns false'. Refute it at one input. -/
def bitsActsWrong : ChangeSpec := { name := "bitsActs", fn := fun _ => fun
  | [d1, d2] => { results := [.lit (.bool false)], args := [d1, d2] }
  | _ => none }
def BitsActsWrongFalsely : Prop := bitsActsRow.holds Try.pinned (OpenSpec.ofChange bitsActsWrong)

/-- 'almerylaw11.BitsNew': WHATEVER THE INPUT: true; the input reads as it did. -/
def bitsNewSpec : ChangeSpec := { name := "bitsNew", fn := fun _ => fun
  | [d] => { results := [.lit (.bool true)], args := [d] }
  | _ => none }
def bitsNewRow : OpenClaim := { program := "ytbdjocoedcgfbaa", sum := "ec2c1239b04f81ac8bc1671893002bd141430a80cc8174e4f589db470e5178d3", func := "almery/almerylaw11.BitsNew", spec := "bitsNew", apart := false }
def BitsNewSaid : Prop := bitsNewRow.holds Try.pinned (OpenSpec.ofChange bitsNewSpec)

/-- ITS FALSE NEIGHBOUR: 'it returns false'. Refute it at one input. -/
def bitsNewWrong : ChangeSpec := { name := "bitsNew", fn := fun _ => fun
  | [d] => { results := [.lit (.bool false)], args := [d] }
  | _ => none }
def BitsNewWrongFalsely : Prop := bitsNewRow.holds Try.pinned (OpenSpec.ofChange bitsNewWrong)

/-- 'almerylaw11.BitsFill': WHATEVER THE INPUT: true; the input reads as it did. -/
def bitsFillSpec : ChangeSpec := { name := "bitsFill", fn := fun _ => fun
  | [d] => { results := [.lit (.bool true)], args := [d] }
  | _ => none }
def bitsFillRow : OpenClaim := { program := "ytbdjocoedcgfbaa", sum := "ec2c1239b04f81ac8bc1671893002bd141430a80cc8174e4f589db470e5178d3", func := "almery/almerylaw11.BitsFill", spec := "bitsFill", apart := false }
def BitsFillSaid : Prop := bitsFillRow.holds Try.pinned (OpenSpec.ofChange bitsFillSpec)

/-- ITS FALSE NEIGHBOUR: 'it returns false'. Refute it at one input. -/
def bitsFillWrong : ChangeSpec := { name := "bitsFill", fn := fun _ => fun
  | [d] => { results := [.lit (.bool false)], args := [d] }
  | _ => none }
def BitsFillWrongFalsely : Prop := bitsFillRow.holds Try.pinned (OpenSpec.ofChange bitsFillWrong)

/-- 'almerylaw11.BitsBetween': WHATEVER THE INPUT: true; the input reads as it did. -/
def bitsBetweenSpec : ChangeSpec := { name := "bitsBetween", fn := fun _ => fun
  | [d1, d2] => { results := [.lit (.bool true)], args := [d1, d2] }
  | _ => none }
def bitsBetweenRow : OpenClaim := { program := "ytbdjocoedcgfbaa", sum := "ec2c1239b04f81ac8bc1671893002bd141430a80cc8174e4f589db470e5178d3", func := "almery/almerylaw11.BitsBetween", spec := "bitsBetween", apart := false }
def BitsBetweenSaid : Prop := bitsBetweenRow.holds Try.pinned (OpenSpec.ofChange bitsBetweenSpec)

/-- ITS FALSE NEIGHBOUR: 'it returns false'. Refute it at one input. -/
def bitsBetweenWrong : ChangeSpec := { name := "bitsBetween", fn := fun _ => fun
  | [d1, d2] => { results := [.lit (.bool false)], args := [d1, d2] }
  | _ => none }
def BitsBetweenWrongFalsely : Prop := bitsBetweenRow.holds Try.pinned (OpenSpec.ofChange bitsBetweenWrong)

/-- 'almerylaw11.BitsNobody': WHATEVER THE INPUT: true; the input reads as it did. -/
def bitsNobodySpec : ChangeSpec := { name := "bitsNobody", fn := fun _ => fun
  | [d] => { results := [.lit (.bool true)], args := [d] }
  | _ => none }
def bitsNobodyRow : OpenClaim := { program := "ytbdjocoedcgfbaa", sum := "ec2c1239b04f81ac8bc1671893002bd141430a80cc8174e4f589db470e5178d3", func := "almery/almerylaw11.BitsNobody", spec := "bitsNobody", apart := false }
def BitsNobodySaid : Prop := bitsNobodyRow.holds Try.pinned (OpenSpec.ofChange bitsNobodySpec)

/-- ITS FALSE NEIGHBOUR: 'it returns false'. Refute it at one input. -/
def bitsNobodyWrong : ChangeSpec := { name := "bitsNobody", fn := fun _ => fun
  | [d] => { results := [.lit (.bool false)], args := [d] }
  | _ => none }
def BitsNobodyWrongFalsely : Prop := bitsNobodyRow.holds Try.pinned (OpenSpec.ofChange bitsNobodyWrong)

/- THE SECOND FORM. 'bulk': how many values and letters a reading holds, each counted each time it is reached (what is shared counts as often as it is met; a slice's spare places count too). A statement '..UptoSaid' is the law's where the arguments, and the package variables that the reading takes, are together of bulk at most 1048576: NARROWER than '..Said'. Prove '..Said' where nothing that the law and all that it calls make is longer than what came in: it says more and counts as full. Else prove '..UptoSaid'. A law counts once. -/
mutual
def uptoBulk {H : Type} : DataW H → Nat
  | .lit (.string bytes) => bytes.length + 1
  | .lit _ => 1
  | .nil => 1
  | .ptr d => uptoBulk d + 1
  | .slice elems spare => uptoBulkAll elems + uptoBulkAll spare + 1
  | .agg parts => uptoBulkAll parts + 1
  | .iface _ d => uptoBulk d + 1
  | .map entries => uptoBulkEntries entries + 1
  | .held _ => 1
def uptoBulkAll {H : Type} : List (DataW H) → Nat
  | [] => 0
  | d :: r => uptoBulk d + uptoBulkAll r
def uptoBulkEntries {H : Type} : List (Lit × DataW H) → Nat
  | [] => 0
  | x :: r => uptoBulkEntry x + uptoBulkEntries r
def uptoBulkEntry {H : Type} : Lit × DataW H → Nat
  | (.string bytes, d) => bytes.length + uptoBulk d + 1
  | (_, d) => uptoBulk d + 1
 end
def uptoSmall : (H : Type) → List (DataW H) → Bool := fun _ ds => decide (uptoBulkAll ds ≤ 1048576)
def OpenSpec.upto (s : _root_.Go.ChangeSpec) : _root_.Go.OpenSpec := { _root_.Go.OpenSpec.ofChange s with cond := some uptoSmall }

/-- 'almerylaw11.BitsActs', WHERE WHAT IT READS IS OF BULK AT MOST 1048576: true; the input reads as it did. -/
def bitsActsUptoRow : OpenClaim := { program := "ytbdjocoedcgfbaa", sum := "ec2c1239b04f81ac8bc1671893002bd141430a80cc8174e4f589db470e5178d3", func := "almery/almerylaw11.BitsActs", spec := "bitsActs", apart := false, narrowed := true }
def BitsActsUptoSaid : Prop := bitsActsUptoRow.holds Try.pinned (OpenSpec.upto bitsActsSpec)

/-- 'almerylaw11.BitsNew', WHERE WHAT IT READS IS OF BULK AT MOST 1048576: true; the input reads as it did. -/
def bitsNewUptoRow : OpenClaim := { program := "ytbdjocoedcgfbaa", sum := "ec2c1239b04f81ac8bc1671893002bd141430a80cc8174e4f589db470e5178d3", func := "almery/almerylaw11.BitsNew", spec := "bitsNew", apart := false, narrowed := true }
def BitsNewUptoSaid : Prop := bitsNewUptoRow.holds Try.pinned (OpenSpec.upto bitsNewSpec)

/-- 'almerylaw11.BitsFill', WHERE WHAT IT READS IS OF BULK AT MOST 1048576: true; the input reads as it did. -/
def bitsFillUptoRow : OpenClaim := { program := "ytbdjocoedcgfbaa", sum := "ec2c1239b04f81ac8bc1671893002bd141430a80cc8174e4f589db470e5178d3", func := "almery/almerylaw11.BitsFill", spec := "bitsFill", apart := false, narrowed := true }
def BitsFillUptoSaid : Prop := bitsFillUptoRow.holds Try.pinned (OpenSpec.upto bitsFillSpec)

/-- 'almerylaw11.BitsBetween', WHERE WHAT IT READS IS OF BULK AT MOST 1048576: true; the input reads as it did. -/
def bitsBetweenUptoRow : OpenClaim := { program := "ytbdjocoedcgfbaa", sum := "ec2c1239b04f81ac8bc1671893002bd141430a80cc8174e4f589db470e5178d3", func := "almery/almerylaw11.BitsBetween", spec := "bitsBetween", apart := false, narrowed := true }
def BitsBetweenUptoSaid : Prop := bitsBetweenUptoRow.holds Try.pinned (OpenSpec.upto bitsBetweenSpec)

/-- 'almerylaw11.BitsNobody', WHERE WHAT IT READS IS OF BULK AT MOST 1048576: true; the input reads as it did. -/
def bitsNobodyUptoRow : OpenClaim := { program := "ytbdjocoedcgfbaa", sum := "ec2c1239b04f81ac8bc1671893002bd141430a80cc8174e4f589db470e5178d3", func := "almery/almerylaw11.BitsNobody", spec := "bitsNobody", apart := false, narrowed := true }
def BitsNobodyUptoSaid : Prop := bitsNobodyUptoRow.holds Try.pinned (OpenSpec.upto bitsNobodySpec)

end Rows
end Go.Proofs.Ytbdjocoedcgfbaa
