/-
  No cell of these rows narrows 'for every input' (looked for: loops, veiled, ifaces, maps, wideKeys, modest, calm, conditions, laid).
  DERIVED. THE GIVEN ROWS OF THIS SEAT. 5 by the template 'for every input the law returns true; each argument reads behind the call as it read before'; 0 by the template 'total and deterministic' (their statements: YtggmldickiehbaaTotals.lean).
  GIVEN WITH THE SEED: the statements are not yours to turn. If you find one false, say at which input.
  Laid BY PROGRAM, IN A SANDBOX (cutbox-rows.mjs): the forced cells as the released guide's own fill.sh prints them over the translation 3514a892ab0af591… (all of the seat's roots in one cut). By AI agents, Wed Nov 11 2026. No macro, syntax, notation, axiom, sorry.
-/
import Derived.Test.YtggmldickiehbaaChecked
import GoSem.Claim
import GoSem.ClaimJoined
import GoSem.ClaimMapViews
import Derived.JoinedTies
import Derived.KernelRfl
namespace Go.Proofs.Ytggmldickiehbaa
/- THE CELL 'sum', in the pinned program and in every row, IS THE sha256 OF THE DUMP (.gsa) THAT YtggmldickiehbaaProg.lean LOADS. Nothing in Lean hashes anything: it is a label: what it is worth is what the hold of that sum in a sandbox is worth. -/
noncomputable def Try.pinned : Pinned := { name := "ytggmldickiehbaa", sum := "3514a892ab0af5916a9d6ab3347c65f797e07ba1a93e98ddb8b0916fabf82000", checked := Try.checked }
namespace Rows
def none {H : Type} : Left H := { results := [], args := [] }

/-- 'demesnelaw9.DescCodes': WHATEVER THE INPUT: true; the input reads as it did. -/
def descCodesSpec : ChangeSpec := { name := "descCodes", fn := fun _ => fun
  | [d1, d2, d3] => { results := [.lit (.bool true)], args := [d1, d2, d3] }
  | _ => none }
def descCodesRow : OpenClaim := { program := "ytggmldickiehbaa", sum := "3514a892ab0af5916a9d6ab3347c65f797e07ba1a93e98ddb8b0916fabf82000", func := "demesne/demesnelaw9.DescCodes", spec := "descCodes", apart := false }
def DescCodesSaid : Prop := descCodesRow.holds Try.pinned (OpenSpec.ofChange descCodesSpec)

/-- ITS FALSE NEIGHBOUR: 'it returns false'. Refute it at one input. -/
def descCodesWrong : ChangeSpec := { name := "descCodes", fn := fun _ => fun
  | [d1, d2, d3] => { results := [.lit (.bool false)], args := [d1, d2, d3] }
  | _ => none }
def DescCodesWrongFalsely : Prop := descCodesRow.holds Try.pinned (OpenSpec.ofChange descCodesWrong)

/-- 'demesnelaw9.DescReads': WHATEVER THE INPUT: true; the input reads as it did. -/
def descReadsSpec : ChangeSpec := { name := "descReads", fn := fun _ => fun
  | [d1, d2, d3, d4, d5] => { results := [.lit (.bool true)], args := [d1, d2, d3, d4, d5] }
  | _ => none }
def descReadsRow : OpenClaim := { program := "ytggmldickiehbaa", sum := "3514a892ab0af5916a9d6ab3347c65f797e07ba1a93e98ddb8b0916fabf82000", func := "demesne/demesnelaw9.DescReads", spec := "descReads", apart := false }
def DescReadsSaid : Prop := descReadsRow.holds Try.pinned (OpenSpec.ofChange descReadsSpec)

/-- ITS FALSE NEIGHBOUR: 'it returns false'. Refute it at one input. -/
def descReadsWrong : ChangeSpec := { name := "descReads", fn := fun _ => fun
  | [d1, d2, d3, d4, d5] => { results := [.lit (.bool false)], args := [d1, d2, d3, d4, d5] }
  | _ => none }
def DescReadsWrongFalsely : Prop := descReadsRow.holds Try.pinned (OpenSpec.ofChange descReadsWrong)

/-- 'demesnelaw9.DescBack': WHATEVER THE INPUT: true; the input reads as it did. -/
def descBackSpec : ChangeSpec := { name := "descBack", fn := fun _ => fun
  | [d1, d2, d3, d4] => { results := [.lit (.bool true)], args := [d1, d2, d3, d4] }
  | _ => none }
def descBackRow : OpenClaim := { program := "ytggmldickiehbaa", sum := "3514a892ab0af5916a9d6ab3347c65f797e07ba1a93e98ddb8b0916fabf82000", func := "demesne/demesnelaw9.DescBack", spec := "descBack", apart := false }
def DescBackSaid : Prop := descBackRow.holds Try.pinned (OpenSpec.ofChange descBackSpec)

/-- ITS FALSE NEIGHBOUR: 'it returns false'. Refute it at one input. -/
def descBackWrong : ChangeSpec := { name := "descBack", fn := fun _ => fun
  | [d1, d2, d3, d4] => { results := [.lit (.bool false)], args := [d1, d2, d3, d4] }
  | _ => none }
def DescBackWrongFalsely : Prop := descBackRow.holds Try.pinned (OpenSpec.ofChange descBackWrong)

/-- 'demesnelaw9.DescUnlike': WHATEVER THE INPUT: true; the input reads as it did. -/
def descUnlikeSpec : ChangeSpec := { name := "descUnlike", fn := fun _ => fun
  | [d1, d2, d3, d4] => { results := [.lit (.bool true)], args := [d1, d2, d3, d4] }
  | _ => none }
def descUnlikeRow : OpenClaim := { program := "ytggmldickiehbaa", sum := "3514a892ab0af5916a9d6ab3347c65f797e07ba1a93e98ddb8b0916fabf82000", func := "demesne/demesnelaw9.DescUnlike", spec := "descUnlike", apart := false }
def DescUnlikeSaid : Prop := descUnlikeRow.holds Try.pinned (OpenSpec.ofChange descUnlikeSpec)

/-- ITS FALSE NEIGHBOUR: 'it returns false'. Refute it at one input. -/
def descUnlikeWrong : ChangeSpec := { name := "descUnlike", fn := fun _ => fun
  | [d1, d2, d3, d4] => { results := [.lit (.bool false)], args := [d1, d2, d3, d4] }
  | _ => none }
def DescUnlikeWrongFalsely : Prop := descUnlikeRow.holds Try.pinned (OpenSpec.ofChange descUnlikeWrong)

/-- 'demesnelaw9.DescStages': WHATEVER THE INPUT: true; the input reads as it did. -/
def descStagesSpec : ChangeSpec := { name := "descStages", fn := fun _ => fun
  | [d1, d2] => { results := [.lit (.bool true)], args := [d1, d2] }
  | _ => none }
def descStagesRow : OpenClaim := { program := "ytggmldickiehbaa", sum := "3514a892ab0af5916a9d6ab3347c65f797e07ba1a93e98ddb8b0916fabf82000", func := "demesne/demesnelaw9.DescStages", spec := "descStages", apart := false }
def DescStagesSaid : Prop := descStagesRow.holds Try.pinned (OpenSpec.ofChange descStagesSpec)

/-- ITS FALSE NEIGHBOUR: 'it returns false'. Refute it at one input. -/
def descStagesWrong : ChangeSpec := { name := "descStages", fn := fun _ => fun
  | [d1, d2] => { results := [.lit (.bool false)], args := [d1, d2] }
  | _ => none }
def DescStagesWrongFalsely : Prop := descStagesRow.holds Try.pinned (OpenSpec.ofChange descStagesWrong)

/- THE SECOND FORM. 'bulk': how many values and letters a reading holds, each counted each time it is reached (what is shared counts as often as it is met; a slice's spare places count too). A statement '..UptoSaid' is the law's where the arguments, and the package variables that the reading takes, are together of bulk at most 1048576: NARROWER than '..Said'. Prove '..Said' where nothing that the law and all that it calls make is longer than what came in: it says more and counts as full. Else prove '..UptoSaid'. A law counts once. -/
mutual
def uptoBulk {H : Type} : DataW H → Nat
  | .lit (.string bytes) => bytes.length + 1
  | .lit _ => 1
  | .nil => 1
  | .ptr d => uptoBulk d + 1
  | .slice elems spare => uptoBulkAll elems + uptoBulkAll spare + 1
  | .agg parts => uptoBulkAll parts + 1
  | .iface _ d => uptoBulk d + 1
  | .map entries => uptoBulkEntries entries + 1
  | .held _ => 1
def uptoBulkAll {H : Type} : List (DataW H) → Nat
  | [] => 0
  | d :: r => uptoBulk d + uptoBulkAll r
def uptoBulkEntries {H : Type} : List (Lit × DataW H) → Nat
  | [] => 0
  | x :: r => uptoBulkEntry x + uptoBulkEntries r
def uptoBulkEntry {H : Type} : Lit × DataW H → Nat
  | (.string bytes, d) => bytes.length + uptoBulk d + 1
  | (_, d) => uptoBulk d + 1
 end
def uptoSmall : (H : Type) → List (DataW H) → Bool := fun _ ds => decide (uptoBulkAll ds ≤ 1048576)
def OpenSpec.upto (s : _root_.Go.ChangeSpec) : _root_.Go.OpenSpec := { _root_.Go.OpenSpec.ofChange s with cond := some uptoSmall }

/-- 'demesnelaw9.DescCodes', WHERE WHAT IT READS IS OF BULK AT MOST 1048576: true; the input reads as it did. -/
def descCodesUptoRow : OpenClaim := { program := "ytggmldickiehbaa", sum := "3514a892ab0af5916a9d6ab3347c65f797e07ba1a93e98ddb8b0916fabf82000", func := "demesne/demesnelaw9.DescCodes", spec := "descCodes", apart := false, narrowed := true }
def DescCodesUptoSaid : Prop := descCodesUptoRow.holds Try.pinned (OpenSpec.upto descCodesSpec)

/-- 'demesnelaw9.DescReads', WHERE WHAT IT READS IS OF BULK AT MOST 1048576: true; the input reads as it did. -/
def descReadsUptoRow : OpenClaim := { program := "ytggmldickiehbaa", sum := "3514a892ab0af5916a9d6ab3347c65f797e07ba1a93e98ddb8b0916fabf82000", func := "demesne/demesnelaw9.DescReads", spec := "descReads", apart := false, narrowed := true }
def DescReadsUptoSaid : Prop := descReadsUptoRow.holds Try.pinned (OpenSpec.upto descReadsSpec)

/-- 'demesnelaw9.DescBack', WHERE WHAT IT READS IS OF BULK AT MOST 1048576: true; the input reads as it did. -/
def descBackUptoRow : OpenClaim := { program := "ytggmldickiehbaa", sum := "3514a892ab0af5916a9d6ab3347c65f797e07ba1a93e98ddb8b0916fabf82000", func := "demesne/demesnelaw9.DescBack", spec := "descBack", apart := false, narrowed := true }
def DescBackUptoSaid : Prop := descBackUptoRow.holds Try.pinned (OpenSpec.upto descBackSpec)

/-- 'demesnelaw9.DescUnlike', WHERE WHAT IT READS IS OF BULK AT MOST 1048576: true; the input reads as it did. -/
def descUnlikeUptoRow : OpenClaim := { program := "ytggmldickiehbaa", sum := "3514a892ab0af5916a9d6ab3347c65f797e07ba1a93e98ddb8b0916fabf82000", func := "demesne/demesnelaw9.DescUnlike", spec := "descUnlike", apart := false, narrowed := true }
def DescUnlikeUptoSaid : Prop := descUnlikeUptoRow.holds Try.pinned (OpenSpec.upto descUnlikeSpec)

/-- 'demesnelaw9.DescStages', WHERE WHAT IT READS IS OF BULK AT MOST 1048576: true; the input reads as it did. -/
def descStagesUptoRow : OpenClaim := { program := "ytggmldickiehbaa", sum := "3514a892ab0af5916a9d6ab3347c65f797e07ba1a93e98ddb8b0916fabf82000", func := "demesne/demesnelaw9.DescStages", spec := "descStages", apart := false, narrowed := true }
def DescStagesUptoSaid : Prop := descStagesUptoRow.holds Try.pinned (OpenSpec.upto descStagesSpec)

end Rows
end Go.Proofs.Ytggmldickiehbaa
