/-
  No cell of these rows narrows 'for every input' (looked for: loops, veiled, ifaces, maps, wideKeys, modest, calm, conditions, laid).
  DERIVED. THE GIVEN ROWS OF THIS SEAT. 3 by the template 'for every input the law returns true; each argument reads behind the call as it read before'; 0 by the template 'total and deterministic' (their statements: YtclheedcdogkbaaTotals.lean).
  GIVEN WITH THE SEED: the statements are not yours to turn. If you find one false, say at which input.
  Laid BY PROGRAM, IN A SANDBOX (cutbox-rows.mjs): the forced cells as the released guide's own fill.sh prints them over the translation 91d0837efc4c1eec… (all of the seat's roots in one cut). By AI agents, Wed Nov 11 2026. No macro, syntax, notation, axiom, sorry.
-/
import Derived.Test.YtclheedcdogkbaaChecked
import GoSem.Claim
import GoSem.ClaimJoined
import GoSem.ClaimMapViews
import Derived.JoinedTies
import Derived.KernelRfl
namespace Go.Proofs.Ytclheedcdogkbaa
/- THE CELL 'sum', in the pinned program and in every row, IS THE sha256 OF THE DUMP (.gsa) THAT YtclheedcdogkbaaProg.lean LOADS. Nothing in Lean hashes anything: it is a label: what it is worth is what the hold of that sum in a sandbox is worth. -/
noncomputable def Try.pinned : Pinned := { name := "ytclheedcdogkbaa", sum := "91d0837efc4c1eecf6d78ca8f152da672ce059bd4f2175fcae47aa59bb4dd1f9", checked := Try.checked }
namespace Rows
def none {H : Type} : Left H := { results := [], args := [] }

/-- 'demesnelaw16.VmidPlays': WHATEVER THE INPUT: true; the input reads as it did. -/
def vmidPlaysSpec : ChangeSpec := { name := "vmidPlays", fn := fun _ => fun
  | [d1, d2] => { results := [.lit (.bool true)], args := [d1, d2] }
  | _ => none }
def vmidPlaysRow : OpenClaim := { program := "ytclheedcdogkbaa", sum := "91d0837efc4c1eecf6d78ca8f152da672ce059bd4f2175fcae47aa59bb4dd1f9", func := "demesne/demesnelaw16.VmidPlays", spec := "vmidPlays", apart := false }
def VmidPlaysSaid : Prop := vmidPlaysRow.holds Try.pinned (OpenSpec.ofChange vmidPlaysSpec)

/-- ITS FALSE NEIGHBOUR: 'it returns false'. Refute it at one input. -/
def vmidPlaysWrong : ChangeSpec := { name := "vmidPlays", fn := fun _ => fun
  | [d1, d2] => { results := [.lit (.bool false)], args := [d1, d2] }
  | _ => none }
def VmidPlaysWrongFalsely : Prop := vmidPlaysRow.holds Try.pinned (OpenSpec.ofChange vmidPlaysWrong)

/-- 'demesnelaw16.VmidOnce': WHATEVER THE INPUT: true; the input reads as it did. -/
def vmidOnceSpec : ChangeSpec := { name := "vmidOnce", fn := fun _ => fun
  | [d1, d2] => { results := [.lit (.bool true)], args := [d1, d2] }
  | _ => none }
def vmidOnceRow : OpenClaim := { program := "ytclheedcdogkbaa", sum := "91d0837efc4c1eecf6d78ca8f152da672ce059bd4f2175fcae47aa59bb4dd1f9", func := "demesne/demesnelaw16.VmidOnce", spec := "vmidOnce", apart := false }
def VmidOnceSaid : Prop := vmidOnceRow.holds Try.pinned (OpenSpec.ofChange vmidOnceSpec)

/-- ITS FALSE NEIGHBOUR: 'it returns false'. Refute it at one input. -/
def vmidOnceWrong : ChangeSpec := { name := "vmidOnce", fn := fun _ => fun
  | [d1, d2] => { results := [.lit (.bool false)], args := [d1, d2] }
  | _ => none }
def VmidOnceWrongFalsely : Prop := vmidOnceRow.holds Try.pinned (OpenSpec.ofChange vmidOnceWrong)

/-- 'demesnelaw16.VmidTurns': WHATEVER THE INPUT: true; the input reads as it did. -/
def vmidTurnsSpec : ChangeSpec := { name := "vmidTurns", fn := fun _ => fun
  | [d1, d2, d3] => { results := [.lit (.bool true)], args := [d1, d2, d3] }
  | _ => none }
def vmidTurnsRow : OpenClaim := { program := "ytclheedcdogkbaa", sum := "91d0837efc4c1eecf6d78ca8f152da672ce059bd4f2175fcae47aa59bb4dd1f9", func := "demesne/demesnelaw16.VmidTurns", spec := "vmidTurns", apart := false }
def VmidTurnsSaid : Prop := vmidTurnsRow.holds Try.pinned (OpenSpec.ofChange vmidTurnsSpec)

/-- ITS FALSE NEIGHBOUR: 'it returns false'. Refute it at one input. -/
def vmidTurnsWrong : ChangeSpec := { name := "vmidTurns", fn := fun _ => fun
  | [d1, d2, d3] => { results := [.lit (.bool false)], args := [d1, d2, d3] }
  | _ => none }
def VmidTurnsWrongFalsely : Prop := vmidTurnsRow.holds Try.pinned (OpenSpec.ofChange vmidTurnsWrong)

/- THE SECOND FORM. 'bulk': how many values and letters a reading holds, each counted each time it is reached (what is shared counts as often as it is met; a slice's spare places count too). A statement '..UptoSaid' is the law's where the arguments, and the package variables that the reading takes, are together of bulk at most 1048576: NARROWER than '..Said'. Prove '..Said' where nothing that the law and all that it calls make is longer than what came in: it says more and counts as full. Else prove '..UptoSaid'. A law counts once. -/
mutual
def uptoBulk {H : Type} : DataW H → Nat
  | .lit (.string bytes) => bytes.length + 1
  | .lit _ => 1
  | .nil => 1
  | .ptr d => uptoBulk d + 1
  | .slice elems spare => uptoBulkAll elems + uptoBulkAll spare + 1
  | .agg parts => uptoBulkAll parts + 1
  | .iface _ d => uptoBulk d + 1
  | .map entries => uptoBulkEntries entries + 1
  | .held _ => 1
def uptoBulkAll {H : Type} : List (DataW H) → Nat
  | [] => 0
  | d :: r => uptoBulk d + uptoBulkAll r
def uptoBulkEntries {H : Type} : List (Lit × DataW H) → Nat
  | [] => 0
  | x :: r => uptoBulkEntry x + uptoBulkEntries r
def uptoBulkEntry {H : Type} : Lit × DataW H → Nat
  | (.string bytes, d) => bytes.length + uptoBulk d + 1
  | (_, d) => uptoBulk d + 1
 end
def uptoSmall : (H : Type) → List (DataW H) → Bool := fun _ ds => decide (uptoBulkAll ds ≤ 1048576)
def OpenSpec.upto (s : _root_.Go.ChangeSpec) : _root_.Go.OpenSpec := { _root_.Go.OpenSpec.ofChange s with cond := some uptoSmall }

/-- 'demesnelaw16.VmidPlays', WHERE WHAT IT READS IS OF BULK AT MOST 1048576: true; the input reads as it did. -/
def vmidPlaysUptoRow : OpenClaim := { program := "ytclheedcdogkbaa", sum := "91d0837efc4c1eecf6d78ca8f152da672ce059bd4f2175fcae47aa59bb4dd1f9", func := "demesne/demesnelaw16.VmidPlays", spec := "vmidPlays", apart := false, narrowed := true }
def VmidPlaysUptoSaid : Prop := vmidPlaysUptoRow.holds Try.pinned (OpenSpec.upto vmidPlaysSpec)

/-- 'demesnelaw16.VmidOnce', WHERE WHAT IT READS IS OF BULK AT MOST 1048576: true; the input reads as it did. -/
def vmidOnceUptoRow : OpenClaim := { program := "ytclheedcdogkbaa", sum := "91d0837efc4c1eecf6d78ca8f152da672ce059bd4f2175fcae47aa59bb4dd1f9", func := "demesne/demesnelaw16.VmidOnce", spec := "vmidOnce", apart := false, narrowed := true }
def VmidOnceUptoSaid : Prop := vmidOnceUptoRow.holds Try.pinned (OpenSpec.upto vmidOnceSpec)

/-- 'demesnelaw16.VmidTurns', WHERE WHAT IT READS IS OF BULK AT MOST 1048576: true; the input reads as it did. -/
def vmidTurnsUptoRow : OpenClaim := { program := "ytclheedcdogkbaa", sum := "91d0837efc4c1eecf6d78ca8f152da672ce059bd4f2175fcae47aa59bb4dd1f9", func := "demesne/demesnelaw16.VmidTurns", spec := "vmidTurns", apart := false, narrowed := true }
def VmidTurnsUptoSaid : Prop := vmidTurnsUptoRow.holds Try.pinned (OpenSpec.upto vmidTurnsSpec)

end Rows
end Go.Proofs.Ytclheedcdogkbaa
