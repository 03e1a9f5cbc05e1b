/-
  No cell of these rows narrows 'for every input' (looked for: loops, veiled, ifaces, maps, wideKeys, modest, calm, conditions, laid).
  DERIVED. THE GIVEN ROWS OF THIS SEAT. 4 by the template 'for every input the law returns true; each argument reads behind the call as it read before'; 0 by the template 'total and deterministic' (their statements: YtndlkkacnpjlmaaTotals.lean).
  GIVEN WITH THE SEED: the statements are not yours to turn. If you find one false, say at which input.
  Laid BY PROGRAM, IN A SANDBOX (cutbox-rows.mjs): the forced cells as the released guide's own fill.sh prints them over the translation c50f339b82c44618… (all of the seat's roots in one cut). By AI agents, Wed Nov 11 2026. No macro, syntax, notation, axiom, sorry.
-/
import Derived.Test.YtndlkkacnpjlmaaChecked
import GoSem.Claim
import GoSem.ClaimJoined
import GoSem.ClaimMapViews
import Derived.JoinedTies
import Derived.KernelRfl
namespace Go.Proofs.Ytndlkkacnpjlmaa
/- THE CELL 'sum', in the pinned program and in every row, IS THE sha256 OF THE DUMP (.gsa) THAT YtndlkkacnpjlmaaProg.lean LOADS. Nothing in Lean hashes anything: it is a label: what it is worth is what the hold of that sum in a sandbox is worth. -/
noncomputable def Try.pinned : Pinned := { name := "ytndlkkacnpjlmaa", sum := "c50f339b82c44618a26396a9e9763a82495fbd4d17eb41383e9ee7f0d28a5265", checked := Try.checked }
namespace Rows
def none {H : Type} : Left H := { results := [], args := [] }

/-- 'demesnelaw5.PhysPlays': WHATEVER THE INPUT: true; the input reads as it did. -/
def physPlaysSpec : ChangeSpec := { name := "physPlays", fn := fun _ => fun
  | [d1, d2, d3, d4] => { results := [.lit (.bool true)], args := [d1, d2, d3, d4] }
  | _ => none }
def physPlaysRow : OpenClaim := { program := "ytndlkkacnpjlmaa", sum := "c50f339b82c44618a26396a9e9763a82495fbd4d17eb41383e9ee7f0d28a5265", func := "demesne/demesnelaw5.PhysPlays", spec := "physPlays", apart := false }
def PhysPlaysSaid : Prop := physPlaysRow.holds Try.pinned (OpenSpec.ofChange physPlaysSpec)

/-- ITS FALSE NEIGHBOUR: 'it returns false'. Refute it at one input. -/
def physPlaysWrong : ChangeSpec := { name := "physPlays", fn := fun _ => fun
  | [d1, d2, d3, d4] => { results := [.lit (.bool false)], args := [d1, d2, d3, d4] }
  | _ => none }
def PhysPlaysWrongFalsely : Prop := physPlaysRow.holds Try.pinned (OpenSpec.ofChange physPlaysWrong)

/-- 'demesnelaw5.PhysKeeps': WHATEVER THE INPUT: true; the input reads as it did. -/
def physKeepsSpec : ChangeSpec := { name := "physKeeps", fn := fun _ => fun
  | [d1, d2, d3, d4] => { results := [.lit (.bool true)], args := [d1, d2, d3, d4] }
  | _ => none }
def physKeepsRow : OpenClaim := { program := "ytndlkkacnpjlmaa", sum := "c50f339b82c44618a26396a9e9763a82495fbd4d17eb41383e9ee7f0d28a5265", func := "demesne/demesnelaw5.PhysKeeps", spec := "physKeeps", apart := false }
def PhysKeepsSaid : Prop := physKeepsRow.holds Try.pinned (OpenSpec.ofChange physKeepsSpec)

/-- ITS FALSE NEIGHBOUR: 'it returns false'. Refute it at one input. -/
def physKeepsWrong : ChangeSpec := { name := "physKeeps", fn := fun _ => fun
  | [d1, d2, d3, d4] => { results := [.lit (.bool false)], args := [d1, d2, d3, d4] }
  | _ => none }
def PhysKeepsWrongFalsely : Prop := physKeepsRow.holds Try.pinned (OpenSpec.ofChange physKeepsWrong)

/-- 'demesnelaw5.PhysEnds': WHATEVER THE INPUT: true; the input reads as it did. -/
def physEndsSpec : ChangeSpec := { name := "physEnds", fn := fun _ => fun
  | [d1, d2, d3] => { results := [.lit (.bool true)], args := [d1, d2, d3] }
  | _ => none }
def physEndsRow : OpenClaim := { program := "ytndlkkacnpjlmaa", sum := "c50f339b82c44618a26396a9e9763a82495fbd4d17eb41383e9ee7f0d28a5265", func := "demesne/demesnelaw5.PhysEnds", spec := "physEnds", apart := false }
def PhysEndsSaid : Prop := physEndsRow.holds Try.pinned (OpenSpec.ofChange physEndsSpec)

/-- ITS FALSE NEIGHBOUR: 'it returns false'. Refute it at one input. -/
def physEndsWrong : ChangeSpec := { name := "physEnds", fn := fun _ => fun
  | [d1, d2, d3] => { results := [.lit (.bool false)], args := [d1, d2, d3] }
  | _ => none }
def PhysEndsWrongFalsely : Prop := physEndsRow.holds Try.pinned (OpenSpec.ofChange physEndsWrong)

/-- 'demesnelaw5.PhysApart': WHATEVER THE INPUT: true; the input reads as it did. -/
def physApartSpec : ChangeSpec := { name := "physApart", fn := fun _ => fun
  | [d1, d2, d3] => { results := [.lit (.bool true)], args := [d1, d2, d3] }
  | _ => none }
def physApartRow : OpenClaim := { program := "ytndlkkacnpjlmaa", sum := "c50f339b82c44618a26396a9e9763a82495fbd4d17eb41383e9ee7f0d28a5265", func := "demesne/demesnelaw5.PhysApart", spec := "physApart", apart := false }
def PhysApartSaid : Prop := physApartRow.holds Try.pinned (OpenSpec.ofChange physApartSpec)

/-- ITS FALSE NEIGHBOUR: 'it returns false'. Refute it at one input. -/
def physApartWrong : ChangeSpec := { name := "physApart", fn := fun _ => fun
  | [d1, d2, d3] => { results := [.lit (.bool false)], args := [d1, d2, d3] }
  | _ => none }
def PhysApartWrongFalsely : Prop := physApartRow.holds Try.pinned (OpenSpec.ofChange physApartWrong)

/- THE SECOND FORM. 'bulk': how many values and letters a reading holds, each counted each time it is reached (what is shared counts as often as it is met; a slice's spare places count too). A statement '..UptoSaid' is the law's where the arguments, and the package variables that the reading takes, are together of bulk at most 1048576: NARROWER than '..Said'. Prove '..Said' where nothing that the law and all that it calls make is longer than what came in: it says more and counts as full. Else prove '..UptoSaid'. A law counts once. -/
mutual
def uptoBulk {H : Type} : DataW H → Nat
  | .lit (.string bytes) => bytes.length + 1
  | .lit _ => 1
  | .nil => 1
  | .ptr d => uptoBulk d + 1
  | .slice elems spare => uptoBulkAll elems + uptoBulkAll spare + 1
  | .agg parts => uptoBulkAll parts + 1
  | .iface _ d => uptoBulk d + 1
  | .map entries => uptoBulkEntries entries + 1
  | .held _ => 1
def uptoBulkAll {H : Type} : List (DataW H) → Nat
  | [] => 0
  | d :: r => uptoBulk d + uptoBulkAll r
def uptoBulkEntries {H : Type} : List (Lit × DataW H) → Nat
  | [] => 0
  | x :: r => uptoBulkEntry x + uptoBulkEntries r
def uptoBulkEntry {H : Type} : Lit × DataW H → Nat
  | (.string bytes, d) => bytes.length + uptoBulk d + 1
  | (_, d) => uptoBulk d + 1
 end
def uptoSmall : (H : Type) → List (DataW H) → Bool := fun _ ds => decide (uptoBulkAll ds ≤ 1048576)
def OpenSpec.upto (s : _root_.Go.ChangeSpec) : _root_.Go.OpenSpec := { _root_.Go.OpenSpec.ofChange s with cond := some uptoSmall }

/-- 'demesnelaw5.PhysPlays', WHERE WHAT IT READS IS OF BULK AT MOST 1048576: true; the input reads as it did. -/
def physPlaysUptoRow : OpenClaim := { program := "ytndlkkacnpjlmaa", sum := "c50f339b82c44618a26396a9e9763a82495fbd4d17eb41383e9ee7f0d28a5265", func := "demesne/demesnelaw5.PhysPlays", spec := "physPlays", apart := false, narrowed := true }
def PhysPlaysUptoSaid : Prop := physPlaysUptoRow.holds Try.pinned (OpenSpec.upto physPlaysSpec)

/-- 'demesnelaw5.PhysKeeps', WHERE WHAT IT READS IS OF BULK AT MOST 1048576: true; the input reads as it did. -/
def physKeepsUptoRow : OpenClaim := { program := "ytndlkkacnpjlmaa", sum := "c50f339b82c44618a26396a9e9763a82495fbd4d17eb41383e9ee7f0d28a5265", func := "demesne/demesnelaw5.PhysKeeps", spec := "physKeeps", apart := false, narrowed := true }
def PhysKeepsUptoSaid : Prop := physKeepsUptoRow.holds Try.pinned (OpenSpec.upto physKeepsSpec)

/-- 'demesnelaw5.PhysEnds', WHERE WHAT IT READS IS OF BULK AT MOST 1048576: true; the input reads as it did. -/
def physEndsUptoRow : OpenClaim := { program := "ytndlkkacnpjlmaa", sum := "c50f339b82c44618a26396a9e9763a82495fbd4d17eb41383e9ee7f0d28a5265", func := "demesne/demesnelaw5.PhysEnds", spec := "physEnds", apart := false, narrowed := true }
def PhysEndsUptoSaid : Prop := physEndsUptoRow.holds Try.pinned (OpenSpec.upto physEndsSpec)

/-- 'demesnelaw5.PhysApart', WHERE WHAT IT READS IS OF BULK AT MOST 1048576: true; the input reads as it did. -/
def physApartUptoRow : OpenClaim := { program := "ytndlkkacnpjlmaa", sum := "c50f339b82c44618a26396a9e9763a82495fbd4d17eb41383e9ee7f0d28a5265", func := "demesne/demesnelaw5.PhysApart", spec := "physApart", apart := false, narrowed := true }
def PhysApartUptoSaid : Prop := physApartUptoRow.holds Try.pinned (OpenSpec.upto physApartSpec)

end Rows
end Go.Proofs.Ytndlkkacnpjlmaa
