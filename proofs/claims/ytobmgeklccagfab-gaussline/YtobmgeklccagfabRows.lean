/-
  No cell of these rows narrows 'for every input' (looked for: loops, veiled, ifaces, maps, wideKeys, modest, calm, conditions, laid).
  DERIVED. THE GIVEN ROWS OF THIS SEAT. 4 by the template 'for every input the law returns true; each argument reads behind the call as it read before'; 0 by the template 'total and deterministic' (their statements: YtobmgeklccagfabTotals.lean).
  GIVEN WITH THE SEED: the statements are not yours to turn. If you find one false, say at which input.
  Laid BY PROGRAM, IN A SANDBOX (cutbox-rows.mjs): the forced cells as the released guide's own fill.sh prints them over the translation 4edf9701658664bb… (all of the seat's roots in one cut). By AI agents, Wed Nov 11 2026. No macro, syntax, notation, axiom, sorry.
-/
import Derived.Test.YtobmgeklccagfabChecked
import GoSem.Claim
import GoSem.ClaimJoined
import GoSem.ClaimMapViews
import Derived.JoinedTies
import Derived.KernelRfl
namespace Go.Proofs.Ytobmgeklccagfab
/- THE CELL 'sum', in the pinned program and in every row, IS THE sha256 OF THE DUMP (.gsa) THAT YtobmgeklccagfabProg.lean LOADS. Nothing in Lean hashes anything: it is a label: what it is worth is what the hold of that sum in a sandbox is worth. -/
noncomputable def Try.pinned : Pinned := { name := "ytobmgeklccagfab", sum := "4edf9701658664bb3aba466f00656710f8cb5b7108d9f65727ea46d5d0b176fc", checked := Try.checked }
namespace Rows
def none {H : Type} : Left H := { results := [], args := [] }

/-- 'demesnelaw1.GaussRests': WHATEVER THE INPUT: true; the input reads as it did. -/
def gaussRestsSpec : ChangeSpec := { name := "gaussRests", fn := fun _ => fun
  | [d1, d2, d3, d4] => { results := [.lit (.bool true)], args := [d1, d2, d3, d4] }
  | _ => none }
def gaussRestsRow : OpenClaim := { program := "ytobmgeklccagfab", sum := "4edf9701658664bb3aba466f00656710f8cb5b7108d9f65727ea46d5d0b176fc", func := "demesne/demesnelaw1.GaussRests", spec := "gaussRests", inPlace := ["math.Float64bits", "math.Float64frombits", "math.archTrunc"], apart := false }
def GaussRestsSaid : Prop := gaussRestsRow.holds Try.pinned (OpenSpec.ofChange gaussRestsSpec)

/-- ITS FALSE NEIGHBOUR: 'it returns false'. Refute it at one input. -/
def gaussRestsWrong : ChangeSpec := { name := "gaussRests", fn := fun _ => fun
  | [d1, d2, d3, d4] => { results := [.lit (.bool false)], args := [d1, d2, d3, d4] }
  | _ => none }
def GaussRestsWrongFalsely : Prop := gaussRestsRow.holds Try.pinned (OpenSpec.ofChange gaussRestsWrong)

/-- 'demesnelaw1.GaussLine': WHATEVER THE INPUT: true; the input reads as it did. -/
def gaussLineSpec : ChangeSpec := { name := "gaussLine", fn := fun _ => fun
  | [d1, d2, d3, d4, d5, d6, d7] => { results := [.lit (.bool true)], args := [d1, d2, d3, d4, d5, d6, d7] }
  | _ => none }
def gaussLineRow : OpenClaim := { program := "ytobmgeklccagfab", sum := "4edf9701658664bb3aba466f00656710f8cb5b7108d9f65727ea46d5d0b176fc", func := "demesne/demesnelaw1.GaussLine", spec := "gaussLine", inPlace := ["math.Float64bits", "math.Float64frombits", "math.archTrunc"], apart := false }
def GaussLineSaid : Prop := gaussLineRow.holds Try.pinned (OpenSpec.ofChange gaussLineSpec)

/-- ITS FALSE NEIGHBOUR: 'it returns false'. Refute it at one input. -/
def gaussLineWrong : ChangeSpec := { name := "gaussLine", fn := fun _ => fun
  | [d1, d2, d3, d4, d5, d6, d7] => { results := [.lit (.bool false)], args := [d1, d2, d3, d4, d5, d6, d7] }
  | _ => none }
def GaussLineWrongFalsely : Prop := gaussLineRow.holds Try.pinned (OpenSpec.ofChange gaussLineWrong)

/-- 'demesnelaw1.GaussTurns': WHATEVER THE INPUT: true; the input reads as it did. -/
def gaussTurnsSpec : ChangeSpec := { name := "gaussTurns", fn := fun _ => fun
  | [d1, d2, d3] => { results := [.lit (.bool true)], args := [d1, d2, d3] }
  | _ => none }
def gaussTurnsRow : OpenClaim := { program := "ytobmgeklccagfab", sum := "4edf9701658664bb3aba466f00656710f8cb5b7108d9f65727ea46d5d0b176fc", func := "demesne/demesnelaw1.GaussTurns", spec := "gaussTurns", inPlace := ["math.Float64bits", "math.Float64frombits", "math.archTrunc"], apart := false }
def GaussTurnsSaid : Prop := gaussTurnsRow.holds Try.pinned (OpenSpec.ofChange gaussTurnsSpec)

/-- ITS FALSE NEIGHBOUR: 'it returns false'. Refute it at one input. -/
def gaussTurnsWrong : ChangeSpec := { name := "gaussTurns", fn := fun _ => fun
  | [d1, d2, d3] => { results := [.lit (.bool false)], args := [d1, d2, d3] }
  | _ => none }
def GaussTurnsWrongFalsely : Prop := gaussTurnsRow.holds Try.pinned (OpenSpec.ofChange gaussTurnsWrong)

/-- 'demesnelaw1.GaussUnits': WHATEVER THE INPUT: true; the input reads as it did. -/
def gaussUnitsSpec : ChangeSpec := { name := "gaussUnits", fn := fun _ => fun
  | [d1, d2, d3] => { results := [.lit (.bool true)], args := [d1, d2, d3] }
  | _ => none }
def gaussUnitsRow : OpenClaim := { program := "ytobmgeklccagfab", sum := "4edf9701658664bb3aba466f00656710f8cb5b7108d9f65727ea46d5d0b176fc", func := "demesne/demesnelaw1.GaussUnits", spec := "gaussUnits", inPlace := ["math.Float64bits", "math.Float64frombits", "math.archTrunc"], apart := false }
def GaussUnitsSaid : Prop := gaussUnitsRow.holds Try.pinned (OpenSpec.ofChange gaussUnitsSpec)

/-- ITS FALSE NEIGHBOUR: 'it returns false'. Refute it at one input. -/
def gaussUnitsWrong : ChangeSpec := { name := "gaussUnits", fn := fun _ => fun
  | [d1, d2, d3] => { results := [.lit (.bool false)], args := [d1, d2, d3] }
  | _ => none }
def GaussUnitsWrongFalsely : Prop := gaussUnitsRow.holds Try.pinned (OpenSpec.ofChange gaussUnitsWrong)

/- THE SECOND FORM. 'bulk': how many values and letters a reading holds, each counted each time it is reached (what is shared counts as often as it is met; a slice's spare places count too). A statement '..UptoSaid' is the law's where the arguments, and the package variables that the reading takes, are together of bulk at most 1048576: NARROWER than '..Said'. Prove '..Said' where nothing that the law and all that it calls make is longer than what came in: it says more and counts as full. Else prove '..UptoSaid'. A law counts once. -/
mutual
def uptoBulk {H : Type} : DataW H → Nat
  | .lit (.string bytes) => bytes.length + 1
  | .lit _ => 1
  | .nil => 1
  | .ptr d => uptoBulk d + 1
  | .slice elems spare => uptoBulkAll elems + uptoBulkAll spare + 1
  | .agg parts => uptoBulkAll parts + 1
  | .iface _ d => uptoBulk d + 1
  | .map entries => uptoBulkEntries entries + 1
  | .held _ => 1
def uptoBulkAll {H : Type} : List (DataW H) → Nat
  | [] => 0
  | d :: r => uptoBulk d + uptoBulkAll r
def uptoBulkEntries {H : Type} : List (Lit × DataW H) → Nat
  | [] => 0
  | x :: r => uptoBulkEntry x + uptoBulkEntries r
def uptoBulkEntry {H : Type} : Lit × DataW H → Nat
  | (.string bytes, d) => bytes.length + uptoBulk d + 1
  | (_, d) => uptoBulk d + 1
 end
def uptoSmall : (H : Type) → List (DataW H) → Bool := fun _ ds => decide (uptoBulkAll ds ≤ 1048576)
def OpenSpec.upto (s : _root_.Go.ChangeSpec) : _root_.Go.OpenSpec := { _root_.Go.OpenSpec.ofChange s with cond := some uptoSmall }

/-- 'demesnelaw1.GaussRests', WHERE WHAT IT READS IS OF BULK AT MOST 1048576: true; the input reads as it did. -/
def gaussRestsUptoRow : OpenClaim := { program := "ytobmgeklccagfab", sum := "4edf9701658664bb3aba466f00656710f8cb5b7108d9f65727ea46d5d0b176fc", func := "demesne/demesnelaw1.GaussRests", spec := "gaussRests", inPlace := ["math.Float64bits", "math.Float64frombits", "math.archTrunc"], apart := false, narrowed := true }
def GaussRestsUptoSaid : Prop := gaussRestsUptoRow.holds Try.pinned (OpenSpec.upto gaussRestsSpec)

/-- 'demesnelaw1.GaussLine', WHERE WHAT IT READS IS OF BULK AT MOST 1048576: true; the input reads as it did. -/
def gaussLineUptoRow : OpenClaim := { program := "ytobmgeklccagfab", sum := "4edf9701658664bb3aba466f00656710f8cb5b7108d9f65727ea46d5d0b176fc", func := "demesne/demesnelaw1.GaussLine", spec := "gaussLine", inPlace := ["math.Float64bits", "math.Float64frombits", "math.archTrunc"], apart := false, narrowed := true }
def GaussLineUptoSaid : Prop := gaussLineUptoRow.holds Try.pinned (OpenSpec.upto gaussLineSpec)

/-- 'demesnelaw1.GaussTurns', WHERE WHAT IT READS IS OF BULK AT MOST 1048576: true; the input reads as it did. -/
def gaussTurnsUptoRow : OpenClaim := { program := "ytobmgeklccagfab", sum := "4edf9701658664bb3aba466f00656710f8cb5b7108d9f65727ea46d5d0b176fc", func := "demesne/demesnelaw1.GaussTurns", spec := "gaussTurns", inPlace := ["math.Float64bits", "math.Float64frombits", "math.archTrunc"], apart := false, narrowed := true }
def GaussTurnsUptoSaid : Prop := gaussTurnsUptoRow.holds Try.pinned (OpenSpec.upto gaussTurnsSpec)

/-- 'demesnelaw1.GaussUnits', WHERE WHAT IT READS IS OF BULK AT MOST 1048576: true; the input reads as it did. -/
def gaussUnitsUptoRow : OpenClaim := { program := "ytobmgeklccagfab", sum := "4edf9701658664bb3aba466f00656710f8cb5b7108d9f65727ea46d5d0b176fc", func := "demesne/demesnelaw1.GaussUnits", spec := "gaussUnits", inPlace := ["math.Float64bits", "math.Float64frombits", "math.archTrunc"], apart := false, narrowed := true }
def GaussUnitsUptoSaid : Prop := gaussUnitsUptoRow.holds Try.pinned (OpenSpec.upto gaussUnitsSpec)

end Rows
end Go.Proofs.Ytobmgeklccagfab
