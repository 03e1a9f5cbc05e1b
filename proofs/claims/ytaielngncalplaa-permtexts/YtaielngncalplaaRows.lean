/-
  No cell of these rows narrows 'for every input' (looked for: loops, veiled, ifaces, maps, wideKeys, modest, calm, conditions, laid).
  DERIVED. THE GIVEN ROWS OF THIS SEAT. 4 by the template 'for every input the law returns true; each argument reads behind the call as it read before'; 0 by the template 'total and deterministic' (their statements: YtaielngncalplaaTotals.lean).
  GIVEN WITH THE SEED: the statements are not yours to turn. If you find one false, say at which input.
  Laid BY PROGRAM, IN A SANDBOX (cutbox-rows.mjs): the forced cells as the released guide's own fill.sh prints them over the translation fede38dd90501917… (all of the seat's roots in one cut). By AI agents, Wed Nov 11 2026. No macro, syntax, notation, axiom, sorry.
-/
import Derived.Test.YtaielngncalplaaChecked
import GoSem.Claim
import GoSem.ClaimJoined
import GoSem.ClaimMapViews
import Derived.JoinedTies
import Derived.KernelRfl
namespace Go.Proofs.Ytaielngncalplaa
/- THE CELL 'sum', in the pinned program and in every row, IS THE sha256 OF THE DUMP (.gsa) THAT YtaielngncalplaaProg.lean LOADS. Nothing in Lean hashes anything: it is a label: what it is worth is what the hold of that sum in a sandbox is worth. -/
noncomputable def Try.pinned : Pinned := { name := "ytaielngncalplaa", sum := "fede38dd905019172b88315be3ed2bc8cfefbf5931a9fc4673eab5dbbcb47097", checked := Try.checked }
namespace Rows
def none {H : Type} : Left H := { results := [], args := [] }

/-- 'demesnelaw10.PermAsks': WHATEVER THE INPUT: true; the input reads as it did. -/
def permAsksSpec : ChangeSpec := { name := "permAsks", fn := fun _ => fun
  | [d1, d2, d3] => { results := [.lit (.bool true)], args := [d1, d2, d3] }
  | _ => none }
def permAsksRow : OpenClaim := { program := "ytaielngncalplaa", sum := "fede38dd905019172b88315be3ed2bc8cfefbf5931a9fc4673eab5dbbcb47097", func := "demesne/demesnelaw10.PermAsks", spec := "permAsks", apart := false }
def PermAsksSaid : Prop := permAsksRow.holds Try.pinned (OpenSpec.ofChange permAsksSpec)

/-- ITS FALSE NEIGHBOUR: 'it returns false'. Refute it at one input. -/
def permAsksWrong : ChangeSpec := { name := "permAsks", fn := fun _ => fun
  | [d1, d2, d3] => { results := [.lit (.bool false)], args := [d1, d2, d3] }
  | _ => none }
def PermAsksWrongFalsely : Prop := permAsksRow.holds Try.pinned (OpenSpec.ofChange permAsksWrong)

/-- 'demesnelaw10.PermTexts': WHATEVER THE INPUT: true; the input reads as it did. -/
def permTextsSpec : ChangeSpec := { name := "permTexts", fn := fun _ => fun
  | [d1, d2] => { results := [.lit (.bool true)], args := [d1, d2] }
  | _ => none }
def permTextsRow : OpenClaim := { program := "ytaielngncalplaa", sum := "fede38dd905019172b88315be3ed2bc8cfefbf5931a9fc4673eab5dbbcb47097", func := "demesne/demesnelaw10.PermTexts", spec := "permTexts", apart := false }
def PermTextsSaid : Prop := permTextsRow.holds Try.pinned (OpenSpec.ofChange permTextsSpec)

/-- ITS FALSE NEIGHBOUR: 'it returns false'. Refute it at one input. -/
def permTextsWrong : ChangeSpec := { name := "permTexts", fn := fun _ => fun
  | [d1, d2] => { results := [.lit (.bool false)], args := [d1, d2] }
  | _ => none }
def PermTextsWrongFalsely : Prop := permTextsRow.holds Try.pinned (OpenSpec.ofChange permTextsWrong)

/-- 'demesnelaw10.PermLeast': WHATEVER THE INPUT: true; the input reads as it did. -/
def permLeastSpec : ChangeSpec := { name := "permLeast", fn := fun _ => fun
  | [d1, d2, d3, d4] => { results := [.lit (.bool true)], args := [d1, d2, d3, d4] }
  | _ => none }
def permLeastRow : OpenClaim := { program := "ytaielngncalplaa", sum := "fede38dd905019172b88315be3ed2bc8cfefbf5931a9fc4673eab5dbbcb47097", func := "demesne/demesnelaw10.PermLeast", spec := "permLeast", apart := false }
def PermLeastSaid : Prop := permLeastRow.holds Try.pinned (OpenSpec.ofChange permLeastSpec)

/-- ITS FALSE NEIGHBOUR: 'it returns false'. Refute it at one input. -/
def permLeastWrong : ChangeSpec := { name := "permLeast", fn := fun _ => fun
  | [d1, d2, d3, d4] => { results := [.lit (.bool false)], args := [d1, d2, d3, d4] }
  | _ => none }
def PermLeastWrongFalsely : Prop := permLeastRow.holds Try.pinned (OpenSpec.ofChange permLeastWrong)

/-- 'demesnelaw10.PermOrder': WHATEVER THE INPUT: true; the input reads as it did. -/
def permOrderSpec : ChangeSpec := { name := "permOrder", fn := fun _ => fun
  | [d1, d2, d3] => { results := [.lit (.bool true)], args := [d1, d2, d3] }
  | _ => none }
def permOrderRow : OpenClaim := { program := "ytaielngncalplaa", sum := "fede38dd905019172b88315be3ed2bc8cfefbf5931a9fc4673eab5dbbcb47097", func := "demesne/demesnelaw10.PermOrder", spec := "permOrder", apart := false }
def PermOrderSaid : Prop := permOrderRow.holds Try.pinned (OpenSpec.ofChange permOrderSpec)

/-- ITS FALSE NEIGHBOUR: 'it returns false'. Refute it at one input. -/
def permOrderWrong : ChangeSpec := { name := "permOrder", fn := fun _ => fun
  | [d1, d2, d3] => { results := [.lit (.bool false)], args := [d1, d2, d3] }
  | _ => none }
def PermOrderWrongFalsely : Prop := permOrderRow.holds Try.pinned (OpenSpec.ofChange permOrderWrong)

/- THE SECOND FORM. 'bulk': how many values and letters a reading holds, each counted each time it is reached (what is shared counts as often as it is met; a slice's spare places count too). A statement '..UptoSaid' is the law's where the arguments, and the package variables that the reading takes, are together of bulk at most 1048576: NARROWER than '..Said'. Prove '..Said' where nothing that the law and all that it calls make is longer than what came in: it says more and counts as full. Else prove '..UptoSaid'. A law counts once. -/
mutual
def uptoBulk {H : Type} : DataW H → Nat
  | .lit (.string bytes) => bytes.length + 1
  | .lit _ => 1
  | .nil => 1
  | .ptr d => uptoBulk d + 1
  | .slice elems spare => uptoBulkAll elems + uptoBulkAll spare + 1
  | .agg parts => uptoBulkAll parts + 1
  | .iface _ d => uptoBulk d + 1
  | .map entries => uptoBulkEntries entries + 1
  | .held _ => 1
def uptoBulkAll {H : Type} : List (DataW H) → Nat
  | [] => 0
  | d :: r => uptoBulk d + uptoBulkAll r
def uptoBulkEntries {H : Type} : List (Lit × DataW H) → Nat
  | [] => 0
  | x :: r => uptoBulkEntry x + uptoBulkEntries r
def uptoBulkEntry {H : Type} : Lit × DataW H → Nat
  | (.string bytes, d) => bytes.length + uptoBulk d + 1
  | (_, d) => uptoBulk d + 1
 end
def uptoSmall : (H : Type) → List (DataW H) → Bool := fun _ ds => decide (uptoBulkAll ds ≤ 1048576)
def OpenSpec.upto (s : _root_.Go.ChangeSpec) : _root_.Go.OpenSpec := { _root_.Go.OpenSpec.ofChange s with cond := some uptoSmall }

/-- 'demesnelaw10.PermAsks', WHERE WHAT IT READS IS OF BULK AT MOST 1048576: true; the input reads as it did. -/
def permAsksUptoRow : OpenClaim := { program := "ytaielngncalplaa", sum := "fede38dd905019172b88315be3ed2bc8cfefbf5931a9fc4673eab5dbbcb47097", func := "demesne/demesnelaw10.PermAsks", spec := "permAsks", apart := false, narrowed := true }
def PermAsksUptoSaid : Prop := permAsksUptoRow.holds Try.pinned (OpenSpec.upto permAsksSpec)

/-- 'demesnelaw10.PermTexts', WHERE WHAT IT READS IS OF BULK AT MOST 1048576: true; the input reads as it did. -/
def permTextsUptoRow : OpenClaim := { program := "ytaielngncalplaa", sum := "fede38dd905019172b88315be3ed2bc8cfefbf5931a9fc4673eab5dbbcb47097", func := "demesne/demesnelaw10.PermTexts", spec := "permTexts", apart := false, narrowed := true }
def PermTextsUptoSaid : Prop := permTextsUptoRow.holds Try.pinned (OpenSpec.upto permTextsSpec)

/-- 'demesnelaw10.PermLeast', WHERE WHAT IT READS IS OF BULK AT MOST 1048576: true; the input reads as it did. -/
def permLeastUptoRow : OpenClaim := { program := "ytaielngncalplaa", sum := "fede38dd905019172b88315be3ed2bc8cfefbf5931a9fc4673eab5dbbcb47097", func := "demesne/demesnelaw10.PermLeast", spec := "permLeast", apart := false, narrowed := true }
def PermLeastUptoSaid : Prop := permLeastUptoRow.holds Try.pinned (OpenSpec.upto permLeastSpec)

/-- 'demesnelaw10.PermOrder', WHERE WHAT IT READS IS OF BULK AT MOST 1048576: true; the input reads as it did. -/
def permOrderUptoRow : OpenClaim := { program := "ytaielngncalplaa", sum := "fede38dd905019172b88315be3ed2bc8cfefbf5931a9fc4673eab5dbbcb47097", func := "demesne/demesnelaw10.PermOrder", spec := "permOrder", apart := false, narrowed := true }
def PermOrderUptoSaid : Prop := permOrderUptoRow.holds Try.pinned (OpenSpec.upto permOrderSpec)

end Rows
end Go.Proofs.Ytaielngncalplaa
