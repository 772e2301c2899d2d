/-
  DERIVED. GIVEN WITH THE SEED: THE CARDS: each row of YtelhhhmmkdbagaaDoorRows.lean that lists a variable, with what it lists TIED to the program's text (the seventh form; the later family's looks); each row that meets fmt, with fmt's text TOLD by the authors' own Lean function (tested against real Go, not proved from fmt's source: count such statements apart). THE CARD IS WHAT COUNTS. Prove the row's statement (the work); the ties are given (YtelhhhmmkdbagaaDoorTie.lean); close each card by the builder's one call (the guide's Derived/Test/ToyasCard.lean, 'card_holds'). Laid BY PROGRAM, IN A SANDBOX (cutbox-door.mjs). By AI agents, Wed Nov 11 2026. No macro, syntax, notation, axiom, sorry.
-/
import Derived.Test.YtelhhhmmkdbagaaDoorRows
import GoSem.ClaimSeven
namespace Go.Proofs.YtelhhhmmkdbagaaDoor
namespace Rows

/-- THE TIED CARD OF 'almerylaw10.ProxyActs'. -/
def proxyActsCard : Claim7 := { stood := { row := proxyActsRow, standIns := [], harness := (true, "dc09400c98cce5f40f12a69495cc319e8cab327ed7daaa3b5133bec50da8570d"), looks := false }, kinds := [], alts := [], laidByText := true, laidKinds := [.data], laidTests := true, laidLooks := .later }
def ProxyActsCardSaid : Prop := Claim7.holds Tryd.pinned (.plain (OpenSpec.ofChange proxyActsSpec)) proxyActsCard

/-- THE TIED CARD OF 'almerylaw10.ProxyNew'. -/
def proxyNewCard : Claim7 := { stood := { row := proxyNewRow, standIns := [], harness := (true, "dc09400c98cce5f40f12a69495cc319e8cab327ed7daaa3b5133bec50da8570d"), looks := false }, kinds := [], alts := [], laidByText := true, laidKinds := [.data], laidTests := true, laidLooks := .later }
def ProxyNewCardSaid : Prop := Claim7.holds Tryd.pinned (.plain (OpenSpec.ofChange proxyNewSpec)) proxyNewCard

/-- THE TIED CARD OF 'almerylaw10.ProxyLooks'. -/
def proxyLooksCard : Claim7 := { stood := { row := proxyLooksRow, standIns := [], harness := (true, "dc09400c98cce5f40f12a69495cc319e8cab327ed7daaa3b5133bec50da8570d"), looks := false }, kinds := [], alts := [], laidByText := true, laidKinds := [.data], laidTests := true, laidLooks := .later }
def ProxyLooksCardSaid : Prop := Claim7.holds Tryd.pinned (.plain (OpenSpec.ofChange proxyLooksSpec)) proxyLooksCard

/-- THE TIED CARD OF 'almerylaw10.ProxyLife'. -/
def proxyLifeCard : Claim7 := { stood := { row := proxyLifeRow, standIns := [], harness := (true, "dc09400c98cce5f40f12a69495cc319e8cab327ed7daaa3b5133bec50da8570d"), looks := false }, kinds := [], alts := [], laidByText := true, laidKinds := [.data], laidTests := true, laidLooks := .later }
def ProxyLifeCardSaid : Prop := Claim7.holds Tryd.pinned (.plain (OpenSpec.ofChange proxyLifeSpec)) proxyLifeCard

/-- THE TIED CARD OF 'almerylaw10.ProxyNobody'. -/
def proxyNobodyCard : Claim7 := { stood := { row := proxyNobodyRow, standIns := [], harness := (true, "dc09400c98cce5f40f12a69495cc319e8cab327ed7daaa3b5133bec50da8570d"), looks := false }, kinds := [], alts := [], laidByText := true, laidKinds := [.data], laidTests := true, laidLooks := .later }
def ProxyNobodyCardSaid : Prop := Claim7.holds Tryd.pinned (.plain (OpenSpec.ofChange proxyNobodySpec)) proxyNobodyCard

/-- THE SECOND FORM's CARD OF 'almerylaw10.ProxyActs'. -/
def proxyActsUptoCard : Claim7 := { stood := { row := proxyActsUptoRow, standIns := [], harness := (true, "dc09400c98cce5f40f12a69495cc319e8cab327ed7daaa3b5133bec50da8570d"), looks := false }, kinds := [], alts := [], laidByText := true, laidKinds := [.data], laidTests := true, laidLooks := .later }
def ProxyActsUptoCardSaid : Prop := Claim7.holds Tryd.pinned (.plain (OpenSpec.upto proxyActsSpec)) proxyActsUptoCard

/-- THE SECOND FORM's CARD OF 'almerylaw10.ProxyNew'. -/
def proxyNewUptoCard : Claim7 := { stood := { row := proxyNewUptoRow, standIns := [], harness := (true, "dc09400c98cce5f40f12a69495cc319e8cab327ed7daaa3b5133bec50da8570d"), looks := false }, kinds := [], alts := [], laidByText := true, laidKinds := [.data], laidTests := true, laidLooks := .later }
def ProxyNewUptoCardSaid : Prop := Claim7.holds Tryd.pinned (.plain (OpenSpec.upto proxyNewSpec)) proxyNewUptoCard

/-- THE SECOND FORM's CARD OF 'almerylaw10.ProxyLooks'. -/
def proxyLooksUptoCard : Claim7 := { stood := { row := proxyLooksUptoRow, standIns := [], harness := (true, "dc09400c98cce5f40f12a69495cc319e8cab327ed7daaa3b5133bec50da8570d"), looks := false }, kinds := [], alts := [], laidByText := true, laidKinds := [.data], laidTests := true, laidLooks := .later }
def ProxyLooksUptoCardSaid : Prop := Claim7.holds Tryd.pinned (.plain (OpenSpec.upto proxyLooksSpec)) proxyLooksUptoCard

/-- THE SECOND FORM's CARD OF 'almerylaw10.ProxyLife'. -/
def proxyLifeUptoCard : Claim7 := { stood := { row := proxyLifeUptoRow, standIns := [], harness := (true, "dc09400c98cce5f40f12a69495cc319e8cab327ed7daaa3b5133bec50da8570d"), looks := false }, kinds := [], alts := [], laidByText := true, laidKinds := [.data], laidTests := true, laidLooks := .later }
def ProxyLifeUptoCardSaid : Prop := Claim7.holds Tryd.pinned (.plain (OpenSpec.upto proxyLifeSpec)) proxyLifeUptoCard

/-- THE SECOND FORM's CARD OF 'almerylaw10.ProxyNobody'. -/
def proxyNobodyUptoCard : Claim7 := { stood := { row := proxyNobodyUptoRow, standIns := [], harness := (true, "dc09400c98cce5f40f12a69495cc319e8cab327ed7daaa3b5133bec50da8570d"), looks := false }, kinds := [], alts := [], laidByText := true, laidKinds := [.data], laidTests := true, laidLooks := .later }
def ProxyNobodyUptoCardSaid : Prop := Claim7.holds Tryd.pinned (.plain (OpenSpec.upto proxyNobodySpec)) proxyNobodyUptoCard
end Rows
end Go.Proofs.YtelhhhmmkdbagaaDoor
