/-
  DERIVED. GIVEN WITH THE SEED: THE CARDS: each row of YtpjlmmiceiionaaDoorRows.lean that lists a variable, with what it lists TIED to the program's text (the seventh form; the later family's looks); each row that meets fmt, with fmt's text TOLD by the authors' own Lean function (tested against real Go, not proved from fmt's source: count such statements apart). THE CARD IS WHAT COUNTS. Prove the row's statement (the work); the ties are given (YtpjlmmiceiionaaDoorTie.lean); close each card by the builder's one call (the guide's Derived/Test/ToyasCard.lean, 'card_holds'). Laid BY PROGRAM, IN A SANDBOX (cutbox-door.mjs). By AI agents, Wed Nov 11 2026. No macro, syntax, notation, axiom, sorry.
-/
import Derived.Test.YtpjlmmiceiionaaDoorRows
import GoSem.ClaimSeven
namespace Go.Proofs.YtpjlmmiceiionaaDoor
namespace Rows

/-- THE TIED CARD OF 'demesnelaw20.IndexPlays'. -/
def indexPlaysCard : Claim7 := { stood := { row := indexPlaysRow, standIns := [], harness := (true, "240731452fcba1965f07ce8b6a844088ca03fae0407e49a9375ad1b95187ee38"), looks := false }, kinds := [], alts := [], laidByText := true, laidKinds := [.data], laidTests := true, laidLooks := .later }
def IndexPlaysCardSaid : Prop := Claim7.holds Tryd.pinned (.plain (OpenSpec.ofChange indexPlaysSpec)) indexPlaysCard

/-- THE TIED CARD OF 'demesnelaw20.IndexAlike'. -/
def indexAlikeCard : Claim7 := { stood := { row := indexAlikeRow, standIns := [], harness := (true, "240731452fcba1965f07ce8b6a844088ca03fae0407e49a9375ad1b95187ee38"), looks := false }, kinds := [], alts := [], laidByText := true, laidKinds := [.data], laidTests := true, laidLooks := .later }
def IndexAlikeCardSaid : Prop := Claim7.holds Tryd.pinned (.plain (OpenSpec.ofChange indexAlikeSpec)) indexAlikeCard

/-- THE TIED CARD OF 'demesnelaw20.IndexFollows'. -/
def indexFollowsCard : Claim7 := { stood := { row := indexFollowsRow, standIns := [], harness := (true, "240731452fcba1965f07ce8b6a844088ca03fae0407e49a9375ad1b95187ee38"), looks := false }, kinds := [], alts := [], laidByText := true, laidKinds := [.data], laidTests := true, laidLooks := .later }
def IndexFollowsCardSaid : Prop := Claim7.holds Tryd.pinned (.plain (OpenSpec.ofChange indexFollowsSpec)) indexFollowsCard

/-- THE SECOND FORM's CARD OF 'demesnelaw20.IndexPlays'. -/
def indexPlaysUptoCard : Claim7 := { stood := { row := indexPlaysUptoRow, standIns := [], harness := (true, "240731452fcba1965f07ce8b6a844088ca03fae0407e49a9375ad1b95187ee38"), looks := false }, kinds := [], alts := [], laidByText := true, laidKinds := [.data], laidTests := true, laidLooks := .later }
def IndexPlaysUptoCardSaid : Prop := Claim7.holds Tryd.pinned (.plain (OpenSpec.upto indexPlaysSpec)) indexPlaysUptoCard

/-- THE SECOND FORM's CARD OF 'demesnelaw20.IndexAlike'. -/
def indexAlikeUptoCard : Claim7 := { stood := { row := indexAlikeUptoRow, standIns := [], harness := (true, "240731452fcba1965f07ce8b6a844088ca03fae0407e49a9375ad1b95187ee38"), looks := false }, kinds := [], alts := [], laidByText := true, laidKinds := [.data], laidTests := true, laidLooks := .later }
def IndexAlikeUptoCardSaid : Prop := Claim7.holds Tryd.pinned (.plain (OpenSpec.upto indexAlikeSpec)) indexAlikeUptoCard

/-- THE SECOND FORM's CARD OF 'demesnelaw20.IndexFollows'. -/
def indexFollowsUptoCard : Claim7 := { stood := { row := indexFollowsUptoRow, standIns := [], harness := (true, "240731452fcba1965f07ce8b6a844088ca03fae0407e49a9375ad1b95187ee38"), looks := false }, kinds := [], alts := [], laidByText := true, laidKinds := [.data], laidTests := true, laidLooks := .later }
def IndexFollowsUptoCardSaid : Prop := Claim7.holds Tryd.pinned (.plain (OpenSpec.upto indexFollowsSpec)) indexFollowsUptoCard
end Rows
end Go.Proofs.YtpjlmmiceiionaaDoor
