/-
  DERIVED. GIVEN WITH THE SEED: THE CARDS: each row of YtjnkmmfppkpgbaaDoorRows.lean that lists a variable, with what it lists TIED to the program's text (the seventh form; the later family's looks); each row that meets fmt, with fmt's text TOLD by the authors' own Lean function (tested against real Go, not proved from fmt's source: count such statements apart). THE CARD IS WHAT COUNTS. Prove the row's statement (the work); the ties are given (YtjnkmmfppkpgbaaDoorTie.lean); close each card by the builder's one call (the guide's Derived/Test/ToyasCard.lean, 'card_holds'). Laid BY PROGRAM, IN A SANDBOX (cutbox-door.mjs). By AI agents, Wed Nov 11 2026. No macro, syntax, notation, axiom, sorry.
-/
import Derived.Test.YtjnkmmfppkpgbaaDoorRows
import GoSem.ClaimSeven
namespace Go.Proofs.YtjnkmmfppkpgbaaDoor
namespace Rows

/-- THE TIED CARD OF 'demesnelaw8.FramesPlays'. -/
def framesPlaysCard : Claim7 := { stood := { row := framesPlaysRow, standIns := [], harness := (true, "c33f0ff6e60634fe5fb30286bf095b76f7debedc54556e59db45153808733360"), looks := false }, kinds := [], alts := [], laidByText := true, laidKinds := [.data, .data], laidTests := true, laidLooks := .later }
def FramesPlaysCardSaid : Prop := Claim7.holds Tryd.pinned (.plain (OpenSpec.ofChange framesPlaysSpec)) framesPlaysCard

/-- THE TIED CARD OF 'demesnelaw8.FramesClean'. -/
def framesCleanCard : Claim7 := { stood := { row := framesCleanRow, standIns := [], harness := (true, "c33f0ff6e60634fe5fb30286bf095b76f7debedc54556e59db45153808733360"), looks := false }, kinds := [], alts := [], laidByText := true, laidKinds := [.data, .data], laidTests := true, laidLooks := .later }
def FramesCleanCardSaid : Prop := Claim7.holds Tryd.pinned (.plain (OpenSpec.ofChange framesCleanSpec)) framesCleanCard

/-- THE TIED CARD OF 'demesnelaw8.FramesBlocks'. -/
def framesBlocksCard : Claim7 := { stood := { row := framesBlocksRow, standIns := [], harness := (true, "c33f0ff6e60634fe5fb30286bf095b76f7debedc54556e59db45153808733360"), looks := false }, kinds := [], alts := [], laidByText := true, laidKinds := [.data, .data], laidTests := true, laidLooks := .later }
def FramesBlocksCardSaid : Prop := Claim7.holds Tryd.pinned (.plain (OpenSpec.ofChange framesBlocksSpec)) framesBlocksCard

/-- THE TIED CARD OF 'demesnelaw8.FramesKinds'. -/
def framesKindsCard : Claim7 := { stood := { row := framesKindsRow, standIns := [], harness := (true, "c33f0ff6e60634fe5fb30286bf095b76f7debedc54556e59db45153808733360"), looks := false }, kinds := [], alts := [], laidByText := true, laidKinds := [.data, .data], laidTests := true, laidLooks := .later }
def FramesKindsCardSaid : Prop := Claim7.holds Tryd.pinned (.plain (OpenSpec.ofChange framesKindsSpec)) framesKindsCard

/-- THE SECOND FORM's CARD OF 'demesnelaw8.FramesPlays'. -/
def framesPlaysUptoCard : Claim7 := { stood := { row := framesPlaysUptoRow, standIns := [], harness := (true, "c33f0ff6e60634fe5fb30286bf095b76f7debedc54556e59db45153808733360"), looks := false }, kinds := [], alts := [], laidByText := true, laidKinds := [.data, .data], laidTests := true, laidLooks := .later }
def FramesPlaysUptoCardSaid : Prop := Claim7.holds Tryd.pinned (.plain (OpenSpec.upto framesPlaysSpec)) framesPlaysUptoCard

/-- THE SECOND FORM's CARD OF 'demesnelaw8.FramesClean'. -/
def framesCleanUptoCard : Claim7 := { stood := { row := framesCleanUptoRow, standIns := [], harness := (true, "c33f0ff6e60634fe5fb30286bf095b76f7debedc54556e59db45153808733360"), looks := false }, kinds := [], alts := [], laidByText := true, laidKinds := [.data, .data], laidTests := true, laidLooks := .later }
def FramesCleanUptoCardSaid : Prop := Claim7.holds Tryd.pinned (.plain (OpenSpec.upto framesCleanSpec)) framesCleanUptoCard

/-- THE SECOND FORM's CARD OF 'demesnelaw8.FramesBlocks'. -/
def framesBlocksUptoCard : Claim7 := { stood := { row := framesBlocksUptoRow, standIns := [], harness := (true, "c33f0ff6e60634fe5fb30286bf095b76f7debedc54556e59db45153808733360"), looks := false }, kinds := [], alts := [], laidByText := true, laidKinds := [.data, .data], laidTests := true, laidLooks := .later }
def FramesBlocksUptoCardSaid : Prop := Claim7.holds Tryd.pinned (.plain (OpenSpec.upto framesBlocksSpec)) framesBlocksUptoCard

/-- THE SECOND FORM's CARD OF 'demesnelaw8.FramesKinds'. -/
def framesKindsUptoCard : Claim7 := { stood := { row := framesKindsUptoRow, standIns := [], harness := (true, "c33f0ff6e60634fe5fb30286bf095b76f7debedc54556e59db45153808733360"), looks := false }, kinds := [], alts := [], laidByText := true, laidKinds := [.data, .data], laidTests := true, laidLooks := .later }
def FramesKindsUptoCardSaid : Prop := Claim7.holds Tryd.pinned (.plain (OpenSpec.upto framesKindsSpec)) framesKindsUptoCard
end Rows
end Go.Proofs.YtjnkmmfppkpgbaaDoor
