/-
  DERIVED. GIVEN WITH THE SEED: THE CARDS: each row of YthkkcnnlfjchaaaDoorRows.lean that lists a variable, with what it lists TIED to the program's text (the seventh form; the later family's looks); each row that meets fmt, with fmt's text TOLD by the authors' own Lean function (tested against real Go, not proved from fmt's source: count such statements apart). THE CARD IS WHAT COUNTS. Prove the row's statement (the work); the ties are given (YthkkcnnlfjchaaaDoorTie.lean); close each card by the builder's one call (the guide's Derived/Test/ToyasCard.lean, 'card_holds'). Laid BY PROGRAM, IN A SANDBOX (cutbox-door.mjs). By AI agents, Wed Nov 11 2026. No macro, syntax, notation, axiom, sorry.
-/
import Derived.Test.YthkkcnnlfjchaaaDoorRows
import GoSem.ClaimSeven
namespace Go.Proofs.YthkkcnnlfjchaaaDoor
namespace Rows

/-- THE TIED CARD OF 'demesnelaw19.DirtyPlays'. -/
def dirtyPlaysCard : Claim7 := { stood := { row := dirtyPlaysRow, standIns := [], harness := (true, "8471d8dd587ad0fcac617d5be2d736a629825194337ce9fb1381da41db5f3a6e"), looks := false }, kinds := [], alts := [], laidByText := true, laidKinds := [.data], laidTests := true, laidLooks := .later }
def DirtyPlaysCardSaid : Prop := Claim7.holds Tryd.pinned (.plain (OpenSpec.ofChange dirtyPlaysSpec)) dirtyPlaysCard

/-- THE TIED CARD OF 'demesnelaw19.DirtyTells'. -/
def dirtyTellsCard : Claim7 := { stood := { row := dirtyTellsRow, standIns := [], harness := (true, "8471d8dd587ad0fcac617d5be2d736a629825194337ce9fb1381da41db5f3a6e"), looks := false }, kinds := [], alts := [], laidByText := true, laidKinds := [.data], laidTests := true, laidLooks := .later }
def DirtyTellsCardSaid : Prop := Claim7.holds Tryd.pinned (.plain (OpenSpec.ofChange dirtyTellsSpec)) dirtyTellsCard

/-- THE TIED CARD OF 'demesnelaw19.DirtyOff'. -/
def dirtyOffCard : Claim7 := { stood := { row := dirtyOffRow, standIns := [], harness := (true, "8471d8dd587ad0fcac617d5be2d736a629825194337ce9fb1381da41db5f3a6e"), looks := false }, kinds := [], alts := [], laidByText := true, laidKinds := [.data], laidTests := true, laidLooks := .later }
def DirtyOffCardSaid : Prop := Claim7.holds Tryd.pinned (.plain (OpenSpec.ofChange dirtyOffSpec)) dirtyOffCard

/-- THE SECOND FORM's CARD OF 'demesnelaw19.DirtyPlays'. -/
def dirtyPlaysUptoCard : Claim7 := { stood := { row := dirtyPlaysUptoRow, standIns := [], harness := (true, "8471d8dd587ad0fcac617d5be2d736a629825194337ce9fb1381da41db5f3a6e"), looks := false }, kinds := [], alts := [], laidByText := true, laidKinds := [.data], laidTests := true, laidLooks := .later }
def DirtyPlaysUptoCardSaid : Prop := Claim7.holds Tryd.pinned (.plain (OpenSpec.upto dirtyPlaysSpec)) dirtyPlaysUptoCard

/-- THE SECOND FORM's CARD OF 'demesnelaw19.DirtyTells'. -/
def dirtyTellsUptoCard : Claim7 := { stood := { row := dirtyTellsUptoRow, standIns := [], harness := (true, "8471d8dd587ad0fcac617d5be2d736a629825194337ce9fb1381da41db5f3a6e"), looks := false }, kinds := [], alts := [], laidByText := true, laidKinds := [.data], laidTests := true, laidLooks := .later }
def DirtyTellsUptoCardSaid : Prop := Claim7.holds Tryd.pinned (.plain (OpenSpec.upto dirtyTellsSpec)) dirtyTellsUptoCard

/-- THE SECOND FORM's CARD OF 'demesnelaw19.DirtyOff'. -/
def dirtyOffUptoCard : Claim7 := { stood := { row := dirtyOffUptoRow, standIns := [], harness := (true, "8471d8dd587ad0fcac617d5be2d736a629825194337ce9fb1381da41db5f3a6e"), looks := false }, kinds := [], alts := [], laidByText := true, laidKinds := [.data], laidTests := true, laidLooks := .later }
def DirtyOffUptoCardSaid : Prop := Claim7.holds Tryd.pinned (.plain (OpenSpec.upto dirtyOffSpec)) dirtyOffUptoCard
end Rows
end Go.Proofs.YthkkcnnlfjchaaaDoor
