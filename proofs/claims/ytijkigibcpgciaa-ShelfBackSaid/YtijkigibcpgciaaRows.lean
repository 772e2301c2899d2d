/-
  No cell of these rows narrows 'for every input' (looked for: loops, veiled, ifaces, maps, wideKeys, modest, calm, conditions, laid).
  DERIVED. THE GIVEN ROWS OF THIS SEAT. 6 by the template 'for every input the law returns true; each argument reads behind the call as it read before'; 0 by the template 'total and deterministic' (their statements: YtijkigibcpgciaaTotals.lean).
  GIVEN WITH THE SEED: the statements are not yours to turn. If you find one false, say at which input.
  Laid BY PROGRAM, IN A SANDBOX (cutbox-rows.mjs): the forced cells as the released guide's own fill.sh prints them over the translation 51b7c3bc6f04d786… (all of the seat's roots in one cut). By AI agents, Wed Nov 11 2026. No macro, syntax, notation, axiom, sorry.
-/
import Derived.Test.YtijkigibcpgciaaChecked
import GoSem.Claim
import GoSem.ClaimJoined
import GoSem.ClaimMapViews
import Derived.JoinedTies
import Derived.KernelRfl
namespace Go.Proofs.Ytijkigibcpgciaa
/- THE CELL 'sum', in the pinned program and in every row, IS THE sha256 OF THE DUMP (.gsa) THAT YtijkigibcpgciaaProg.lean LOADS. Nothing in Lean hashes anything: it is a label: what it is worth is what the hold of that sum in a sandbox is worth. -/
noncomputable def Try.pinned : Pinned := { name := "ytijkigibcpgciaa", sum := "51b7c3bc6f04d7860f84cae29506f5f20e3888afea873ea9573a093054fac0f5", checked := Try.checked }
namespace Rows
def none {H : Type} : Left H := { results := [], args := [] }

/-- 'almerylaw13.ShelfActs': WHATEVER THE INPUT: true; the input reads as it did. -/
def shelfActsSpec : ChangeSpec := { name := "shelfActs", fn := fun _ => fun
  | [d1, d2] => { results := [.lit (.bool true)], args := [d1, d2] }
  | _ => none }
def shelfActsRow : OpenClaim := { program := "ytijkigibcpgciaa", sum := "51b7c3bc6f04d7860f84cae29506f5f20e3888afea873ea9573a093054fac0f5", func := "almery/almerylaw13.ShelfActs", spec := "shelfActs", unfollowed := true, recurses := true, apart := false }
def ShelfActsSaid : Prop := shelfActsRow.holds Try.pinned (OpenSpec.ofChange shelfActsSpec)

/-- ITS FALSE NEIGHBOUR: 'it returns false'. Refute it at one input. -/
def shelfActsWrong : ChangeSpec := { name := "shelfActs", fn := fun _ => fun
  | [d1, d2] => { results := [.lit (.bool false)], args := [d1, d2] }
  | _ => none }
def ShelfActsWrongFalsely : Prop := shelfActsRow.holds Try.pinned (OpenSpec.ofChange shelfActsWrong)

/-- 'almerylaw13.ShelfNew': WHATEVER THE INPUT: true; the input reads as it did. -/
def shelfNewSpec : ChangeSpec := { name := "shelfNew", fn := fun _ => fun
  | [d1, d2] => { results := [.lit (.bool true)], args := [d1, d2] }
  | _ => none }
def shelfNewRow : OpenClaim := { program := "ytijkigibcpgciaa", sum := "51b7c3bc6f04d7860f84cae29506f5f20e3888afea873ea9573a093054fac0f5", func := "almery/almerylaw13.ShelfNew", spec := "shelfNew", unfollowed := true, recurses := true, apart := false }
def ShelfNewSaid : Prop := shelfNewRow.holds Try.pinned (OpenSpec.ofChange shelfNewSpec)

/-- ITS FALSE NEIGHBOUR: 'it returns false'. Refute it at one input. -/
def shelfNewWrong : ChangeSpec := { name := "shelfNew", fn := fun _ => fun
  | [d1, d2] => { results := [.lit (.bool false)], args := [d1, d2] }
  | _ => none }
def ShelfNewWrongFalsely : Prop := shelfNewRow.holds Try.pinned (OpenSpec.ofChange shelfNewWrong)

/-- 'almerylaw13.ShelfPages': WHATEVER THE INPUT: true; the input reads as it did. -/
def shelfPagesSpec : ChangeSpec := { name := "shelfPages", fn := fun _ => fun
  | [d1, d2] => { results := [.lit (.bool true)], args := [d1, d2] }
  | _ => none }
def shelfPagesRow : OpenClaim := { program := "ytijkigibcpgciaa", sum := "51b7c3bc6f04d7860f84cae29506f5f20e3888afea873ea9573a093054fac0f5", func := "almery/almerylaw13.ShelfPages", spec := "shelfPages", unfollowed := true, recurses := true, apart := false }
def ShelfPagesSaid : Prop := shelfPagesRow.holds Try.pinned (OpenSpec.ofChange shelfPagesSpec)

/-- ITS FALSE NEIGHBOUR: 'it returns false'. Refute it at one input. -/
def shelfPagesWrong : ChangeSpec := { name := "shelfPages", fn := fun _ => fun
  | [d1, d2] => { results := [.lit (.bool false)], args := [d1, d2] }
  | _ => none }
def ShelfPagesWrongFalsely : Prop := shelfPagesRow.holds Try.pinned (OpenSpec.ofChange shelfPagesWrong)

/-- 'almerylaw13.ShelfMoves': WHATEVER THE INPUT: true; the input reads as it did. -/
def shelfMovesSpec : ChangeSpec := { name := "shelfMoves", fn := fun _ => fun
  | [d1, d2] => { results := [.lit (.bool true)], args := [d1, d2] }
  | _ => none }
def shelfMovesRow : OpenClaim := { program := "ytijkigibcpgciaa", sum := "51b7c3bc6f04d7860f84cae29506f5f20e3888afea873ea9573a093054fac0f5", func := "almery/almerylaw13.ShelfMoves", spec := "shelfMoves", unfollowed := true, recurses := true, apart := false }
def ShelfMovesSaid : Prop := shelfMovesRow.holds Try.pinned (OpenSpec.ofChange shelfMovesSpec)

/-- ITS FALSE NEIGHBOUR: 'it returns false'. Refute it at one input. -/
def shelfMovesWrong : ChangeSpec := { name := "shelfMoves", fn := fun _ => fun
  | [d1, d2] => { results := [.lit (.bool false)], args := [d1, d2] }
  | _ => none }
def ShelfMovesWrongFalsely : Prop := shelfMovesRow.holds Try.pinned (OpenSpec.ofChange shelfMovesWrong)

/-- 'almerylaw13.ShelfBack': WHATEVER THE INPUT: true; the input reads as it did. -/
def shelfBackSpec : ChangeSpec := { name := "shelfBack", fn := fun _ => fun
  | [d1, d2] => { results := [.lit (.bool true)], args := [d1, d2] }
  | _ => none }
def shelfBackRow : OpenClaim := { program := "ytijkigibcpgciaa", sum := "51b7c3bc6f04d7860f84cae29506f5f20e3888afea873ea9573a093054fac0f5", func := "almery/almerylaw13.ShelfBack", spec := "shelfBack", unfollowed := true, recurses := true, apart := false }
def ShelfBackSaid : Prop := shelfBackRow.holds Try.pinned (OpenSpec.ofChange shelfBackSpec)

/-- ITS FALSE NEIGHBOUR: 'it returns false'. Refute it at one input. -/
def shelfBackWrong : ChangeSpec := { name := "shelfBack", fn := fun _ => fun
  | [d1, d2] => { results := [.lit (.bool false)], args := [d1, d2] }
  | _ => none }
def ShelfBackWrongFalsely : Prop := shelfBackRow.holds Try.pinned (OpenSpec.ofChange shelfBackWrong)

/-- 'almerylaw13.ShelfNobody': WHATEVER THE INPUT: true; the input reads as it did. -/
def shelfNobodySpec : ChangeSpec := { name := "shelfNobody", fn := fun _ => fun
  | [d1, d2] => { results := [.lit (.bool true)], args := [d1, d2] }
  | _ => none }
def shelfNobodyRow : OpenClaim := { program := "ytijkigibcpgciaa", sum := "51b7c3bc6f04d7860f84cae29506f5f20e3888afea873ea9573a093054fac0f5", func := "almery/almerylaw13.ShelfNobody", spec := "shelfNobody", unfollowed := true, recurses := true, apart := false }
def ShelfNobodySaid : Prop := shelfNobodyRow.holds Try.pinned (OpenSpec.ofChange shelfNobodySpec)

/-- ITS FALSE NEIGHBOUR: 'it returns false'. Refute it at one input. -/
def shelfNobodyWrong : ChangeSpec := { name := "shelfNobody", fn := fun _ => fun
  | [d1, d2] => { results := [.lit (.bool false)], args := [d1, d2] }
  | _ => none }
def ShelfNobodyWrongFalsely : Prop := shelfNobodyRow.holds Try.pinned (OpenSpec.ofChange shelfNobodyWrong)

/- THE SECOND FORM. 'bulk': how many values and letters a reading holds, each counted each time it is reached (what is shared counts as often as it is met; a slice's spare places count too). A statement '..UptoSaid' is the law's where the arguments, and the package variables that the reading takes, are together of bulk at most 1048576: NARROWER than '..Said'. Prove '..Said' where nothing that the law and all that it calls make is longer than what came in: it says more and counts as full. Else prove '..UptoSaid'. A law counts once. -/
mutual
def uptoBulk {H : Type} : DataW H → Nat
  | .lit (.string bytes) => bytes.length + 1
  | .lit _ => 1
  | .nil => 1
  | .ptr d => uptoBulk d + 1
  | .slice elems spare => uptoBulkAll elems + uptoBulkAll spare + 1
  | .agg parts => uptoBulkAll parts + 1
  | .iface _ d => uptoBulk d + 1
  | .map entries => uptoBulkEntries entries + 1
  | .held _ => 1
def uptoBulkAll {H : Type} : List (DataW H) → Nat
  | [] => 0
  | d :: r => uptoBulk d + uptoBulkAll r
def uptoBulkEntries {H : Type} : List (Lit × DataW H) → Nat
  | [] => 0
  | x :: r => uptoBulkEntry x + uptoBulkEntries r
def uptoBulkEntry {H : Type} : Lit × DataW H → Nat
  | (.string bytes, d) => bytes.length + uptoBulk d + 1
  | (_, d) => uptoBulk d + 1
 end
def uptoSmall : (H : Type) → List (DataW H) → Bool := fun _ ds => decide (uptoBulkAll ds ≤ 1048576)
def OpenSpec.upto (s : _root_.Go.ChangeSpec) : _root_.Go.OpenSpec := { _root_.Go.OpenSpec.ofChange s with cond := some uptoSmall }

/-- 'almerylaw13.ShelfActs', WHERE WHAT IT READS IS OF BULK AT MOST 1048576: true; the input reads as it did. -/
def shelfActsUptoRow : OpenClaim := { program := "ytijkigibcpgciaa", sum := "51b7c3bc6f04d7860f84cae29506f5f20e3888afea873ea9573a093054fac0f5", func := "almery/almerylaw13.ShelfActs", spec := "shelfActs", unfollowed := true, recurses := true, apart := false, narrowed := true }
def ShelfActsUptoSaid : Prop := shelfActsUptoRow.holds Try.pinned (OpenSpec.upto shelfActsSpec)

/-- 'almerylaw13.ShelfNew', WHERE WHAT IT READS IS OF BULK AT MOST 1048576: true; the input reads as it did. -/
def shelfNewUptoRow : OpenClaim := { program := "ytijkigibcpgciaa", sum := "51b7c3bc6f04d7860f84cae29506f5f20e3888afea873ea9573a093054fac0f5", func := "almery/almerylaw13.ShelfNew", spec := "shelfNew", unfollowed := true, recurses := true, apart := false, narrowed := true }
def ShelfNewUptoSaid : Prop := shelfNewUptoRow.holds Try.pinned (OpenSpec.upto shelfNewSpec)

/-- 'almerylaw13.ShelfPages', WHERE WHAT IT READS IS OF BULK AT MOST 1048576: true; the input reads as it did. -/
def shelfPagesUptoRow : OpenClaim := { program := "ytijkigibcpgciaa", sum := "51b7c3bc6f04d7860f84cae29506f5f20e3888afea873ea9573a093054fac0f5", func := "almery/almerylaw13.ShelfPages", spec := "shelfPages", unfollowed := true, recurses := true, apart := false, narrowed := true }
def ShelfPagesUptoSaid : Prop := shelfPagesUptoRow.holds Try.pinned (OpenSpec.upto shelfPagesSpec)

/-- 'almerylaw13.ShelfMoves', WHERE WHAT IT READS IS OF BULK AT MOST 1048576: true; the input reads as it did. -/
def shelfMovesUptoRow : OpenClaim := { program := "ytijkigibcpgciaa", sum := "51b7c3bc6f04d7860f84cae29506f5f20e3888afea873ea9573a093054fac0f5", func := "almery/almerylaw13.ShelfMoves", spec := "shelfMoves", unfollowed := true, recurses := true, apart := false, narrowed := true }
def ShelfMovesUptoSaid : Prop := shelfMovesUptoRow.holds Try.pinned (OpenSpec.upto shelfMovesSpec)

/-- 'almerylaw13.ShelfBack', WHERE WHAT IT READS IS OF BULK AT MOST 1048576: true; the input reads as it did. -/
def shelfBackUptoRow : OpenClaim := { program := "ytijkigibcpgciaa", sum := "51b7c3bc6f04d7860f84cae29506f5f20e3888afea873ea9573a093054fac0f5", func := "almery/almerylaw13.ShelfBack", spec := "shelfBack", unfollowed := true, recurses := true, apart := false, narrowed := true }
def ShelfBackUptoSaid : Prop := shelfBackUptoRow.holds Try.pinned (OpenSpec.upto shelfBackSpec)

/-- 'almerylaw13.ShelfNobody', WHERE WHAT IT READS IS OF BULK AT MOST 1048576: true; the input reads as it did. -/
def shelfNobodyUptoRow : OpenClaim := { program := "ytijkigibcpgciaa", sum := "51b7c3bc6f04d7860f84cae29506f5f20e3888afea873ea9573a093054fac0f5", func := "almery/almerylaw13.ShelfNobody", spec := "shelfNobody", unfollowed := true, recurses := true, apart := false, narrowed := true }
def ShelfNobodyUptoSaid : Prop := shelfNobodyUptoRow.holds Try.pinned (OpenSpec.upto shelfNobodySpec)

end Rows
end Go.Proofs.Ytijkigibcpgciaa
