/-
  DERIVED. GIVEN WITH THE SEED: THE CARDS: each row of YtcankhnnikhblaaGreatDoorRows.lean that lists a variable, with what it lists TIED to the program's text (the seventh form; the later family's looks); each row that meets fmt, with fmt's text TOLD by the authors' own Lean function (tested against real Go, not proved from fmt's source: count such statements apart). THE CARD IS WHAT COUNTS. Prove the row's statement (the work); the ties are given (YtcankhnnikhblaaGreatDoorTie.lean); close each card by the builder's one call (the guide's Derived/Test/ToyasCard.lean, 'card_holds'). Laid BY PROGRAM, IN A SANDBOX (cutbox-door.mjs). By AI agents, Wed Nov 11 2026. No macro, syntax, notation, axiom, sorry.
-/
import Derived.Test.YtcankhnnikhblaaGreatDoorRows
import GoSem.ClaimSeven
namespace Go.Proofs.YtcankhnnikhblaaGreatDoor
namespace Rows

/-- THE TIED CARD OF 'demesnelaw13.TablePlays'. -/
def tablePlaysCard : Claim7 := { stood := { row := tablePlaysRow, standIns := [], harness := (true, "acb683bce5d7f50e82887281060898e81030a47dc74722d929b0bbca8a064e89"), looks := false }, kinds := [], alts := [], laidByText := true, laidKinds := [.data, .data], laidTests := true, laidLooks := .later }
def TablePlaysCardSaid : Prop := Claim7.holds Tryz.pinned (.plain (OpenSpec.ofChange tablePlaysSpec)) tablePlaysCard

/-- THE TIED CARD OF 'demesnelaw13.TableWalks'. -/
def tableWalksCard : Claim7 := { stood := { row := tableWalksRow, standIns := [], harness := (true, "acb683bce5d7f50e82887281060898e81030a47dc74722d929b0bbca8a064e89"), looks := false }, kinds := [], alts := [], laidByText := true, laidKinds := [.data, .data], laidTests := true, laidLooks := .later }
def TableWalksCardSaid : Prop := Claim7.holds Tryz.pinned (.plain (OpenSpec.ofChange tableWalksSpec)) tableWalksCard

/-- THE TIED CARD OF 'demesnelaw13.TableKeeps'. -/
def tableKeepsCard : Claim7 := { stood := { row := tableKeepsRow, standIns := [], harness := (true, "acb683bce5d7f50e82887281060898e81030a47dc74722d929b0bbca8a064e89"), looks := false }, kinds := [], alts := [], laidByText := true, laidKinds := [.data, .data], laidTests := true, laidLooks := .later }
def TableKeepsCardSaid : Prop := Claim7.holds Tryz.pinned (.plain (OpenSpec.ofChange tableKeepsSpec)) tableKeepsCard

/-- THE TIED CARD OF 'demesnelaw13.TableBack'. -/
def tableBackCard : Claim7 := { stood := { row := tableBackRow, standIns := [], harness := (true, "acb683bce5d7f50e82887281060898e81030a47dc74722d929b0bbca8a064e89"), looks := false }, kinds := [], alts := [], laidByText := true, laidKinds := [.data, .data], laidTests := true, laidLooks := .later }
def TableBackCardSaid : Prop := Claim7.holds Tryz.pinned (.plain (OpenSpec.ofChange tableBackSpec)) tableBackCard

/-- THE TIED CARD OF 'demesnelaw13.TableApart'. -/
def tableApartCard : Claim7 := { stood := { row := tableApartRow, standIns := [], harness := (true, "acb683bce5d7f50e82887281060898e81030a47dc74722d929b0bbca8a064e89"), looks := false }, kinds := [], alts := [], laidByText := true, laidKinds := [.data, .data], laidTests := true, laidLooks := .later }
def TableApartCardSaid : Prop := Claim7.holds Tryz.pinned (.plain (OpenSpec.ofChange tableApartSpec)) tableApartCard

/-- THE TIED CARD OF 'demesnelaw13.TableLacks'. -/
def tableLacksCard : Claim7 := { stood := { row := tableLacksRow, standIns := [], harness := (true, "acb683bce5d7f50e82887281060898e81030a47dc74722d929b0bbca8a064e89"), looks := false }, kinds := [], alts := [], laidByText := true, laidKinds := [.data, .data], laidTests := true, laidLooks := .later }
def TableLacksCardSaid : Prop := Claim7.holds Tryz.pinned (.plain (OpenSpec.ofChange tableLacksSpec)) tableLacksCard

/-- THE SECOND FORM's CARD OF 'demesnelaw13.TablePlays'. -/
def tablePlaysUptoCard : Claim7 := { stood := { row := tablePlaysUptoRow, standIns := [], harness := (true, "acb683bce5d7f50e82887281060898e81030a47dc74722d929b0bbca8a064e89"), looks := false }, kinds := [], alts := [], laidByText := true, laidKinds := [.data, .data], laidTests := true, laidLooks := .later }
def TablePlaysUptoCardSaid : Prop := Claim7.holds Tryz.pinned (.plain (OpenSpec.upto tablePlaysSpec)) tablePlaysUptoCard

/-- THE SECOND FORM's CARD OF 'demesnelaw13.TableWalks'. -/
def tableWalksUptoCard : Claim7 := { stood := { row := tableWalksUptoRow, standIns := [], harness := (true, "acb683bce5d7f50e82887281060898e81030a47dc74722d929b0bbca8a064e89"), looks := false }, kinds := [], alts := [], laidByText := true, laidKinds := [.data, .data], laidTests := true, laidLooks := .later }
def TableWalksUptoCardSaid : Prop := Claim7.holds Tryz.pinned (.plain (OpenSpec.upto tableWalksSpec)) tableWalksUptoCard

/-- THE SECOND FORM's CARD OF 'demesnelaw13.TableKeeps'. -/
def tableKeepsUptoCard : Claim7 := { stood := { row := tableKeepsUptoRow, standIns := [], harness := (true, "acb683bce5d7f50e82887281060898e81030a47dc74722d929b0bbca8a064e89"), looks := false }, kinds := [], alts := [], laidByText := true, laidKinds := [.data, .data], laidTests := true, laidLooks := .later }
def TableKeepsUptoCardSaid : Prop := Claim7.holds Tryz.pinned (.plain (OpenSpec.upto tableKeepsSpec)) tableKeepsUptoCard

/-- THE SECOND FORM's CARD OF 'demesnelaw13.TableBack'. -/
def tableBackUptoCard : Claim7 := { stood := { row := tableBackUptoRow, standIns := [], harness := (true, "acb683bce5d7f50e82887281060898e81030a47dc74722d929b0bbca8a064e89"), looks := false }, kinds := [], alts := [], laidByText := true, laidKinds := [.data, .data], laidTests := true, laidLooks := .later }
def TableBackUptoCardSaid : Prop := Claim7.holds Tryz.pinned (.plain (OpenSpec.upto tableBackSpec)) tableBackUptoCard

/-- THE SECOND FORM's CARD OF 'demesnelaw13.TableApart'. -/
def tableApartUptoCard : Claim7 := { stood := { row := tableApartUptoRow, standIns := [], harness := (true, "acb683bce5d7f50e82887281060898e81030a47dc74722d929b0bbca8a064e89"), looks := false }, kinds := [], alts := [], laidByText := true, laidKinds := [.data, .data], laidTests := true, laidLooks := .later }
def TableApartUptoCardSaid : Prop := Claim7.holds Tryz.pinned (.plain (OpenSpec.upto tableApartSpec)) tableApartUptoCard

/-- THE SECOND FORM's CARD OF 'demesnelaw13.TableLacks'. -/
def tableLacksUptoCard : Claim7 := { stood := { row := tableLacksUptoRow, standIns := [], harness := (true, "acb683bce5d7f50e82887281060898e81030a47dc74722d929b0bbca8a064e89"), looks := false }, kinds := [], alts := [], laidByText := true, laidKinds := [.data, .data], laidTests := true, laidLooks := .later }
def TableLacksUptoCardSaid : Prop := Claim7.holds Tryz.pinned (.plain (OpenSpec.upto tableLacksSpec)) tableLacksUptoCard
end Rows
end Go.Proofs.YtcankhnnikhblaaGreatDoor
