/-
  DERIVED. GIVEN WITH THE SEED: THE CARDS: each row of YtodombgmjnidiaaDoorRows.lean that lists a variable, with what it lists TIED to the program's text (the seventh form; the later family's looks); each row that meets fmt, with fmt's text TOLD by the authors' own Lean function (tested against real Go, not proved from fmt's source: count such statements apart). THE CARD IS WHAT COUNTS. Prove the row's statement (the work); the ties are given (YtodombgmjnidiaaDoorTie.lean); close each card by the builder's one call (the guide's Derived/Test/ToyasCard.lean, 'card_holds'). Laid BY PROGRAM, IN A SANDBOX (cutbox-door.mjs). By AI agents, Wed Nov 11 2026. No macro, syntax, notation, axiom, sorry.
-/
import Derived.Test.YtodombgmjnidiaaDoorRows
import GoSem.ClaimSeven
namespace Go.Proofs.YtodombgmjnidiaaDoor
namespace Rows

/-- THE TIED CARD OF 'almerylaw09.IdentJoins'. -/
def identJoinsCard : Claim7 := { stood := { row := identJoinsRow, standIns := [], harness := (true, "6ecee00adc82606c029dd97b68301ed476ffecb1ad915eb7b9a25cd40f67232f"), looks := false }, kinds := [], alts := [], laidByText := true, laidKinds := [.data], laidTests := true, laidLooks := .later }
def IdentJoinsCardSaid : Prop := Claim7.holds Tryd.pinned (.plain (OpenSpec.ofChange identJoinsSpec)) identJoinsCard

/-- THE TIED CARD OF 'almerylaw09.IdentSplits'. -/
def identSplitsCard : Claim7 := { stood := { row := identSplitsRow, standIns := [], harness := (true, "6ecee00adc82606c029dd97b68301ed476ffecb1ad915eb7b9a25cd40f67232f"), looks := false }, kinds := [], alts := [], laidByText := true, laidKinds := [.data], laidTests := true, laidLooks := .later }
def IdentSplitsCardSaid : Prop := Claim7.holds Tryd.pinned (.plain (OpenSpec.ofChange identSplitsSpec)) identSplitsCard

/-- THE TIED CARD OF 'almerylaw09.IdentBack'. -/
def identBackCard : Claim7 := { stood := { row := identBackRow, standIns := [], harness := (true, "6ecee00adc82606c029dd97b68301ed476ffecb1ad915eb7b9a25cd40f67232f"), looks := false }, kinds := [], alts := [], laidByText := true, laidKinds := [.data], laidTests := true, laidLooks := .later }
def IdentBackCardSaid : Prop := Claim7.holds Tryd.pinned (.plain (OpenSpec.ofChange identBackSpec)) identBackCard

/-- THE TIED CARD OF 'almerylaw09.IdentOne'. -/
def identOneCard : Claim7 := { stood := { row := identOneRow, standIns := [], harness := (true, "6ecee00adc82606c029dd97b68301ed476ffecb1ad915eb7b9a25cd40f67232f"), looks := false }, kinds := [], alts := [], laidByText := true, laidKinds := [.data], laidTests := true, laidLooks := .later }
def IdentOneCardSaid : Prop := Claim7.holds Tryd.pinned (.plain (OpenSpec.ofChange identOneSpec)) identOneCard

/-- THE TIED CARD OF 'almerylaw09.IdentApart'. -/
def identApartCard : Claim7 := { stood := { row := identApartRow, standIns := [], harness := (true, "6ecee00adc82606c029dd97b68301ed476ffecb1ad915eb7b9a25cd40f67232f"), looks := false }, kinds := [], alts := [], laidByText := true, laidKinds := [.data], laidTests := true, laidLooks := .later }
def IdentApartCardSaid : Prop := Claim7.holds Tryd.pinned (.plain (OpenSpec.ofChange identApartSpec)) identApartCard

/-- THE SECOND FORM's CARD OF 'almerylaw09.IdentJoins'. -/
def identJoinsUptoCard : Claim7 := { stood := { row := identJoinsUptoRow, standIns := [], harness := (true, "6ecee00adc82606c029dd97b68301ed476ffecb1ad915eb7b9a25cd40f67232f"), looks := false }, kinds := [], alts := [], laidByText := true, laidKinds := [.data], laidTests := true, laidLooks := .later }
def IdentJoinsUptoCardSaid : Prop := Claim7.holds Tryd.pinned (.plain (OpenSpec.upto identJoinsSpec)) identJoinsUptoCard

/-- THE SECOND FORM's CARD OF 'almerylaw09.IdentSplits'. -/
def identSplitsUptoCard : Claim7 := { stood := { row := identSplitsUptoRow, standIns := [], harness := (true, "6ecee00adc82606c029dd97b68301ed476ffecb1ad915eb7b9a25cd40f67232f"), looks := false }, kinds := [], alts := [], laidByText := true, laidKinds := [.data], laidTests := true, laidLooks := .later }
def IdentSplitsUptoCardSaid : Prop := Claim7.holds Tryd.pinned (.plain (OpenSpec.upto identSplitsSpec)) identSplitsUptoCard

/-- THE SECOND FORM's CARD OF 'almerylaw09.IdentBack'. -/
def identBackUptoCard : Claim7 := { stood := { row := identBackUptoRow, standIns := [], harness := (true, "6ecee00adc82606c029dd97b68301ed476ffecb1ad915eb7b9a25cd40f67232f"), looks := false }, kinds := [], alts := [], laidByText := true, laidKinds := [.data], laidTests := true, laidLooks := .later }
def IdentBackUptoCardSaid : Prop := Claim7.holds Tryd.pinned (.plain (OpenSpec.upto identBackSpec)) identBackUptoCard

/-- THE SECOND FORM's CARD OF 'almerylaw09.IdentOne'. -/
def identOneUptoCard : Claim7 := { stood := { row := identOneUptoRow, standIns := [], harness := (true, "6ecee00adc82606c029dd97b68301ed476ffecb1ad915eb7b9a25cd40f67232f"), looks := false }, kinds := [], alts := [], laidByText := true, laidKinds := [.data], laidTests := true, laidLooks := .later }
def IdentOneUptoCardSaid : Prop := Claim7.holds Tryd.pinned (.plain (OpenSpec.upto identOneSpec)) identOneUptoCard

/-- THE SECOND FORM's CARD OF 'almerylaw09.IdentApart'. -/
def identApartUptoCard : Claim7 := { stood := { row := identApartUptoRow, standIns := [], harness := (true, "6ecee00adc82606c029dd97b68301ed476ffecb1ad915eb7b9a25cd40f67232f"), looks := false }, kinds := [], alts := [], laidByText := true, laidKinds := [.data], laidTests := true, laidLooks := .later }
def IdentApartUptoCardSaid : Prop := Claim7.holds Tryd.pinned (.plain (OpenSpec.upto identApartSpec)) identApartUptoCard
end Rows
end Go.Proofs.YtodombgmjnidiaaDoor
