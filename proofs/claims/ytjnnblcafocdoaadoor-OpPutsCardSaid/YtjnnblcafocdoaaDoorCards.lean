/-
  DERIVED. GIVEN WITH THE SEED: THE CARDS: each row of YtjnnblcafocdoaaDoorRows.lean that lists a variable, with what it lists TIED to the program's text (the seventh form; the later family's looks); each row that meets fmt, with fmt's text TOLD by the authors' own Lean function (tested against real Go, not proved from fmt's source: count such statements apart). THE CARD IS WHAT COUNTS. Prove the row's statement (the work); the ties are given (YtjnnblcafocdoaaDoorTie.lean); close each card by the builder's one call (the guide's Derived/Test/ToyasCard.lean, 'card_holds'). Laid BY PROGRAM, IN A SANDBOX (cutbox-door.mjs). By AI agents, Wed Nov 11 2026. No macro, syntax, notation, axiom, sorry.
-/
import Derived.Test.YtjnnblcafocdoaaDoorRows
import GoSem.ClaimSeven
namespace Go.Proofs.YtjnnblcafocdoaaDoor
namespace Rows

/-- THE TIED CARD OF 'almerylaw19.OpPuts'. -/
def opPutsCard : Claim7 := { stood := { row := opPutsRow, standIns := [], harness := (true, "a6c0e758e0c542fd3698dccd30b5602a82088c65245b0e5fc1d904e95b49403e"), looks := false }, kinds := [], alts := [], laidByText := true, laidKinds := [.data], laidTests := true, laidLooks := .later }
def OpPutsCardSaid : Prop := Claim7.holds Tryd.pinned (.plain (OpenSpec.ofChange opPutsSpec)) opPutsCard

/-- THE TIED CARD OF 'almerylaw19.OpTakes'. -/
def opTakesCard : Claim7 := { stood := { row := opTakesRow, standIns := [], harness := (true, "a6c0e758e0c542fd3698dccd30b5602a82088c65245b0e5fc1d904e95b49403e"), looks := false }, kinds := [], alts := [], laidByText := true, laidKinds := [.data], laidTests := true, laidLooks := .later }
def OpTakesCardSaid : Prop := Claim7.holds Tryd.pinned (.plain (OpenSpec.ofChange opTakesSpec)) opTakesCard

/-- THE TIED CARD OF 'almerylaw19.OpBack'. -/
def opBackCard : Claim7 := { stood := { row := opBackRow, standIns := [], harness := (true, "a6c0e758e0c542fd3698dccd30b5602a82088c65245b0e5fc1d904e95b49403e"), looks := false }, kinds := [], alts := [], laidByText := true, laidKinds := [.data], laidTests := true, laidLooks := .later }
def OpBackCardSaid : Prop := Claim7.holds Tryd.pinned (.plain (OpenSpec.ofChange opBackSpec)) opBackCard

/-- THE TIED CARD OF 'almerylaw19.OpOne'. -/
def opOneCard : Claim7 := { stood := { row := opOneRow, standIns := [], harness := (true, "a6c0e758e0c542fd3698dccd30b5602a82088c65245b0e5fc1d904e95b49403e"), looks := false }, kinds := [], alts := [], laidByText := true, laidKinds := [.data], laidTests := true, laidLooks := .later }
def OpOneCardSaid : Prop := Claim7.holds Tryd.pinned (.plain (OpenSpec.ofChange opOneSpec)) opOneCard

/-- THE TIED CARD OF 'almerylaw19.OpJoins'. -/
def opJoinsCard : Claim7 := { stood := { row := opJoinsRow, standIns := [], harness := (true, "a6c0e758e0c542fd3698dccd30b5602a82088c65245b0e5fc1d904e95b49403e"), looks := false }, kinds := [], alts := [], laidByText := true, laidKinds := [.data], laidTests := true, laidLooks := .later }
def OpJoinsCardSaid : Prop := Claim7.holds Tryd.pinned (.plain (OpenSpec.ofChange opJoinsSpec)) opJoinsCard

/-- THE SECOND FORM's CARD OF 'almerylaw19.OpPuts'. -/
def opPutsUptoCard : Claim7 := { stood := { row := opPutsUptoRow, standIns := [], harness := (true, "a6c0e758e0c542fd3698dccd30b5602a82088c65245b0e5fc1d904e95b49403e"), looks := false }, kinds := [], alts := [], laidByText := true, laidKinds := [.data], laidTests := true, laidLooks := .later }
def OpPutsUptoCardSaid : Prop := Claim7.holds Tryd.pinned (.plain (OpenSpec.upto opPutsSpec)) opPutsUptoCard

/-- THE SECOND FORM's CARD OF 'almerylaw19.OpTakes'. -/
def opTakesUptoCard : Claim7 := { stood := { row := opTakesUptoRow, standIns := [], harness := (true, "a6c0e758e0c542fd3698dccd30b5602a82088c65245b0e5fc1d904e95b49403e"), looks := false }, kinds := [], alts := [], laidByText := true, laidKinds := [.data], laidTests := true, laidLooks := .later }
def OpTakesUptoCardSaid : Prop := Claim7.holds Tryd.pinned (.plain (OpenSpec.upto opTakesSpec)) opTakesUptoCard

/-- THE SECOND FORM's CARD OF 'almerylaw19.OpBack'. -/
def opBackUptoCard : Claim7 := { stood := { row := opBackUptoRow, standIns := [], harness := (true, "a6c0e758e0c542fd3698dccd30b5602a82088c65245b0e5fc1d904e95b49403e"), looks := false }, kinds := [], alts := [], laidByText := true, laidKinds := [.data], laidTests := true, laidLooks := .later }
def OpBackUptoCardSaid : Prop := Claim7.holds Tryd.pinned (.plain (OpenSpec.upto opBackSpec)) opBackUptoCard

/-- THE SECOND FORM's CARD OF 'almerylaw19.OpOne'. -/
def opOneUptoCard : Claim7 := { stood := { row := opOneUptoRow, standIns := [], harness := (true, "a6c0e758e0c542fd3698dccd30b5602a82088c65245b0e5fc1d904e95b49403e"), looks := false }, kinds := [], alts := [], laidByText := true, laidKinds := [.data], laidTests := true, laidLooks := .later }
def OpOneUptoCardSaid : Prop := Claim7.holds Tryd.pinned (.plain (OpenSpec.upto opOneSpec)) opOneUptoCard

/-- THE SECOND FORM's CARD OF 'almerylaw19.OpJoins'. -/
def opJoinsUptoCard : Claim7 := { stood := { row := opJoinsUptoRow, standIns := [], harness := (true, "a6c0e758e0c542fd3698dccd30b5602a82088c65245b0e5fc1d904e95b49403e"), looks := false }, kinds := [], alts := [], laidByText := true, laidKinds := [.data], laidTests := true, laidLooks := .later }
def OpJoinsUptoCardSaid : Prop := Claim7.holds Tryd.pinned (.plain (OpenSpec.upto opJoinsSpec)) opJoinsUptoCard
end Rows
end Go.Proofs.YtjnnblcafocdoaaDoor
