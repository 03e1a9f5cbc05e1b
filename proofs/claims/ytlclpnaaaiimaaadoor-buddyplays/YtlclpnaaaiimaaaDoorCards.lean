/-
  DERIVED. GIVEN WITH THE SEED: THE CARDS: each row of YtlclpnaaaiimaaaDoorRows.lean that lists a variable, with what it lists TIED to the program's text (the seventh form; the later family's looks); each row that meets fmt, with fmt's text TOLD by the authors' own Lean function (tested against real Go, not proved from fmt's source: count such statements apart). THE CARD IS WHAT COUNTS. Prove the row's statement (the work); the ties are given (YtlclpnaaaiimaaaDoorTie.lean); close each card by the builder's one call (the guide's Derived/Test/ToyasCard.lean, 'card_holds'). Laid BY PROGRAM, IN A SANDBOX (cutbox-door.mjs). By AI agents, Wed Nov 11 2026. No macro, syntax, notation, axiom, sorry.
-/
import Derived.Test.YtlclpnaaaiimaaaDoorRows
import GoSem.ClaimSeven
namespace Go.Proofs.YtlclpnaaaiimaaaDoor
namespace Rows

/-- THE TIED CARD OF 'demesnelaw7.BuddyPlays'. -/
def buddyPlaysCard : Claim7 := { stood := { row := buddyPlaysRow, standIns := [], harness := (true, "bf85554331beede54a5d0608a56ce3f62673e8b164b01b7ba2d3e60147b98329"), looks := false }, kinds := [], alts := [], laidByText := true, laidKinds := [.data, .data], laidTests := true, laidLooks := .later }
def BuddyPlaysCardSaid : Prop := Claim7.holds Tryd.pinned (.plain (OpenSpec.ofChange buddyPlaysSpec)) buddyPlaysCard

/-- THE TIED CARD OF 'demesnelaw7.BuddyOnce'. -/
def buddyOnceCard : Claim7 := { stood := { row := buddyOnceRow, standIns := [], harness := (true, "bf85554331beede54a5d0608a56ce3f62673e8b164b01b7ba2d3e60147b98329"), looks := false }, kinds := [], alts := [], laidByText := true, laidKinds := [.data, .data], laidTests := true, laidLooks := .later }
def BuddyOnceCardSaid : Prop := Claim7.holds Tryd.pinned (.plain (OpenSpec.ofChange buddyOnceSpec)) buddyOnceCard

/-- THE TIED CARD OF 'demesnelaw7.BuddyBack'. -/
def buddyBackCard : Claim7 := { stood := { row := buddyBackRow, standIns := [], harness := (true, "bf85554331beede54a5d0608a56ce3f62673e8b164b01b7ba2d3e60147b98329"), looks := false }, kinds := [], alts := [], laidByText := true, laidKinds := [.data, .data], laidTests := true, laidLooks := .later }
def BuddyBackCardSaid : Prop := Claim7.holds Tryd.pinned (.plain (OpenSpec.ofChange buddyBackSpec)) buddyBackCard

/-- THE TIED CARD OF 'demesnelaw7.BuddyRuns'. -/
def buddyRunsCard : Claim7 := { stood := { row := buddyRunsRow, standIns := [], harness := (true, "bf85554331beede54a5d0608a56ce3f62673e8b164b01b7ba2d3e60147b98329"), looks := false }, kinds := [], alts := [], laidByText := true, laidKinds := [.data, .data], laidTests := true, laidLooks := .later }
def BuddyRunsCardSaid : Prop := Claim7.holds Tryd.pinned (.plain (OpenSpec.ofChange buddyRunsSpec)) buddyRunsCard

/-- THE TIED CARD OF 'demesnelaw7.BuddyLeast'. -/
def buddyLeastCard : Claim7 := { stood := { row := buddyLeastRow, standIns := [], harness := (true, "bf85554331beede54a5d0608a56ce3f62673e8b164b01b7ba2d3e60147b98329"), looks := false }, kinds := [], alts := [], laidByText := true, laidKinds := [.data, .data], laidTests := true, laidLooks := .later }
def BuddyLeastCardSaid : Prop := Claim7.holds Tryd.pinned (.plain (OpenSpec.ofChange buddyLeastSpec)) buddyLeastCard

/-- THE SECOND FORM's CARD OF 'demesnelaw7.BuddyPlays'. -/
def buddyPlaysUptoCard : Claim7 := { stood := { row := buddyPlaysUptoRow, standIns := [], harness := (true, "bf85554331beede54a5d0608a56ce3f62673e8b164b01b7ba2d3e60147b98329"), looks := false }, kinds := [], alts := [], laidByText := true, laidKinds := [.data, .data], laidTests := true, laidLooks := .later }
def BuddyPlaysUptoCardSaid : Prop := Claim7.holds Tryd.pinned (.plain (OpenSpec.upto buddyPlaysSpec)) buddyPlaysUptoCard

/-- THE SECOND FORM's CARD OF 'demesnelaw7.BuddyOnce'. -/
def buddyOnceUptoCard : Claim7 := { stood := { row := buddyOnceUptoRow, standIns := [], harness := (true, "bf85554331beede54a5d0608a56ce3f62673e8b164b01b7ba2d3e60147b98329"), looks := false }, kinds := [], alts := [], laidByText := true, laidKinds := [.data, .data], laidTests := true, laidLooks := .later }
def BuddyOnceUptoCardSaid : Prop := Claim7.holds Tryd.pinned (.plain (OpenSpec.upto buddyOnceSpec)) buddyOnceUptoCard

/-- THE SECOND FORM's CARD OF 'demesnelaw7.BuddyBack'. -/
def buddyBackUptoCard : Claim7 := { stood := { row := buddyBackUptoRow, standIns := [], harness := (true, "bf85554331beede54a5d0608a56ce3f62673e8b164b01b7ba2d3e60147b98329"), looks := false }, kinds := [], alts := [], laidByText := true, laidKinds := [.data, .data], laidTests := true, laidLooks := .later }
def BuddyBackUptoCardSaid : Prop := Claim7.holds Tryd.pinned (.plain (OpenSpec.upto buddyBackSpec)) buddyBackUptoCard

/-- THE SECOND FORM's CARD OF 'demesnelaw7.BuddyRuns'. -/
def buddyRunsUptoCard : Claim7 := { stood := { row := buddyRunsUptoRow, standIns := [], harness := (true, "bf85554331beede54a5d0608a56ce3f62673e8b164b01b7ba2d3e60147b98329"), looks := false }, kinds := [], alts := [], laidByText := true, laidKinds := [.data, .data], laidTests := true, laidLooks := .later }
def BuddyRunsUptoCardSaid : Prop := Claim7.holds Tryd.pinned (.plain (OpenSpec.upto buddyRunsSpec)) buddyRunsUptoCard

/-- THE SECOND FORM's CARD OF 'demesnelaw7.BuddyLeast'. -/
def buddyLeastUptoCard : Claim7 := { stood := { row := buddyLeastUptoRow, standIns := [], harness := (true, "bf85554331beede54a5d0608a56ce3f62673e8b164b01b7ba2d3e60147b98329"), looks := false }, kinds := [], alts := [], laidByText := true, laidKinds := [.data, .data], laidTests := true, laidLooks := .later }
def BuddyLeastUptoCardSaid : Prop := Claim7.holds Tryd.pinned (.plain (OpenSpec.upto buddyLeastSpec)) buddyLeastUptoCard
end Rows
end Go.Proofs.YtlclpnaaaiimaaaDoor
