/-
  No cell of these rows narrows 'for every input' (looked for: loops, veiled, ifaces, maps, wideKeys, modest, calm, conditions, laid).
  DERIVED. THE GIVEN ROWS OF THIS SEAT. 4 by the template 'for every input the law returns true; each argument reads behind the call as it read before'; 0 by the template 'total and deterministic' (their statements: YtheahkfgmbmdcaaTotals.lean).
  GIVEN WITH THE SEED: the statements are not yours to turn. If you find one false, say at which input.
  Laid BY PROGRAM, IN A SANDBOX (cutbox-rows.mjs): the forced cells as the released guide's own fill.sh prints them over the translation f247ddb54fe14d58… (all of the seat's roots in one cut). By AI agents, Wed Nov 11 2026. No macro, syntax, notation, axiom, sorry.
-/
import Derived.Test.YtheahkfgmbmdcaaChecked
import GoSem.Claim
import GoSem.ClaimJoined
import GoSem.ClaimMapViews
import Derived.JoinedTies
import Derived.KernelRfl
namespace Go.Proofs.Ytheahkfgmbmdcaa
/- THE CELL 'sum', in the pinned program and in every row, IS THE sha256 OF THE DUMP (.gsa) THAT YtheahkfgmbmdcaaProg.lean LOADS. Nothing in Lean hashes anything: it is a label: what it is worth is what the hold of that sum in a sandbox is worth. -/
noncomputable def Try.pinned : Pinned := { name := "ytheahkfgmbmdcaa", sum := "f247ddb54fe14d58ce5f13a13dda068c84889825c174a0469016a9ec9185a61e", checked := Try.checked }
namespace Rows
def none {H : Type} : Left H := { results := [], args := [] }

/-- 'demesnelaw15.TlbPlays': WHATEVER THE INPUT: true; the input reads as it did. -/
def tlbPlaysSpec : ChangeSpec := { name := "tlbPlays", fn := fun _ => fun
  | [d1, d2, d3] => { results := [.lit (.bool true)], args := [d1, d2, d3] }
  | _ => none }
def tlbPlaysRow : OpenClaim := { program := "ytheahkfgmbmdcaa", sum := "f247ddb54fe14d58ce5f13a13dda068c84889825c174a0469016a9ec9185a61e", func := "demesne/demesnelaw15.TlbPlays", spec := "tlbPlays", unfollowed := true, recurses := true, apart := false }
def TlbPlaysSaid : Prop := tlbPlaysRow.holds Try.pinned (OpenSpec.ofChange tlbPlaysSpec)

/-- ITS FALSE NEIGHBOUR: 'it returns false'. Refute it at one input. -/
def tlbPlaysWrong : ChangeSpec := { name := "tlbPlays", fn := fun _ => fun
  | [d1, d2, d3] => { results := [.lit (.bool false)], args := [d1, d2, d3] }
  | _ => none }
def TlbPlaysWrongFalsely : Prop := tlbPlaysRow.holds Try.pinned (OpenSpec.ofChange tlbPlaysWrong)

/-- 'demesnelaw15.TlbHolds': WHATEVER THE INPUT: true; the input reads as it did. -/
def tlbHoldsSpec : ChangeSpec := { name := "tlbHolds", fn := fun _ => fun
  | [d1, d2, d3] => { results := [.lit (.bool true)], args := [d1, d2, d3] }
  | _ => none }
def tlbHoldsRow : OpenClaim := { program := "ytheahkfgmbmdcaa", sum := "f247ddb54fe14d58ce5f13a13dda068c84889825c174a0469016a9ec9185a61e", func := "demesne/demesnelaw15.TlbHolds", spec := "tlbHolds", unfollowed := true, recurses := true, apart := false }
def TlbHoldsSaid : Prop := tlbHoldsRow.holds Try.pinned (OpenSpec.ofChange tlbHoldsSpec)

/-- ITS FALSE NEIGHBOUR: 'it returns false'. Refute it at one input. -/
def tlbHoldsWrong : ChangeSpec := { name := "tlbHolds", fn := fun _ => fun
  | [d1, d2, d3] => { results := [.lit (.bool false)], args := [d1, d2, d3] }
  | _ => none }
def TlbHoldsWrongFalsely : Prop := tlbHoldsRow.holds Try.pinned (OpenSpec.ofChange tlbHoldsWrong)

/-- 'demesnelaw15.TlbApart': WHATEVER THE INPUT: true; the input reads as it did. -/
def tlbApartSpec : ChangeSpec := { name := "tlbApart", fn := fun _ => fun
  | [d1, d2, d3] => { results := [.lit (.bool true)], args := [d1, d2, d3] }
  | _ => none }
def tlbApartRow : OpenClaim := { program := "ytheahkfgmbmdcaa", sum := "f247ddb54fe14d58ce5f13a13dda068c84889825c174a0469016a9ec9185a61e", func := "demesne/demesnelaw15.TlbApart", spec := "tlbApart", unfollowed := true, recurses := true, apart := false }
def TlbApartSaid : Prop := tlbApartRow.holds Try.pinned (OpenSpec.ofChange tlbApartSpec)

/-- ITS FALSE NEIGHBOUR: 'it returns false'. Refute it at one input. -/
def tlbApartWrong : ChangeSpec := { name := "tlbApart", fn := fun _ => fun
  | [d1, d2, d3] => { results := [.lit (.bool false)], args := [d1, d2, d3] }
  | _ => none }
def TlbApartWrongFalsely : Prop := tlbApartRow.holds Try.pinned (OpenSpec.ofChange tlbApartWrong)

/-- 'demesnelaw15.TlbFirst': WHATEVER THE INPUT: true; the input reads as it did. -/
def tlbFirstSpec : ChangeSpec := { name := "tlbFirst", fn := fun _ => fun
  | [d1, d2, d3] => { results := [.lit (.bool true)], args := [d1, d2, d3] }
  | _ => none }
def tlbFirstRow : OpenClaim := { program := "ytheahkfgmbmdcaa", sum := "f247ddb54fe14d58ce5f13a13dda068c84889825c174a0469016a9ec9185a61e", func := "demesne/demesnelaw15.TlbFirst", spec := "tlbFirst", unfollowed := true, recurses := true, apart := false }
def TlbFirstSaid : Prop := tlbFirstRow.holds Try.pinned (OpenSpec.ofChange tlbFirstSpec)

/-- ITS FALSE NEIGHBOUR: 'it returns false'. Refute it at one input. -/
def tlbFirstWrong : ChangeSpec := { name := "tlbFirst", fn := fun _ => fun
  | [d1, d2, d3] => { results := [.lit (.bool false)], args := [d1, d2, d3] }
  | _ => none }
def TlbFirstWrongFalsely : Prop := tlbFirstRow.holds Try.pinned (OpenSpec.ofChange tlbFirstWrong)

/- THE SECOND FORM. 'bulk': how many values and letters a reading holds, each counted each time it is reached (what is shared counts as often as it is met; a slice's spare places count too). A statement '..UptoSaid' is the law's where the arguments, and the package variables that the reading takes, are together of bulk at most 1048576: NARROWER than '..Said'. Prove '..Said' where nothing that the law and all that it calls make is longer than what came in: it says more and counts as full. Else prove '..UptoSaid'. A law counts once. -/
mutual
def uptoBulk {H : Type} : DataW H → Nat
  | .lit (.string bytes) => bytes.length + 1
  | .lit _ => 1
  | .nil => 1
  | .ptr d => uptoBulk d + 1
  | .slice elems spare => uptoBulkAll elems + uptoBulkAll spare + 1
  | .agg parts => uptoBulkAll parts + 1
  | .iface _ d => uptoBulk d + 1
  | .map entries => uptoBulkEntries entries + 1
  | .held _ => 1
def uptoBulkAll {H : Type} : List (DataW H) → Nat
  | [] => 0
  | d :: r => uptoBulk d + uptoBulkAll r
def uptoBulkEntries {H : Type} : List (Lit × DataW H) → Nat
  | [] => 0
  | x :: r => uptoBulkEntry x + uptoBulkEntries r
def uptoBulkEntry {H : Type} : Lit × DataW H → Nat
  | (.string bytes, d) => bytes.length + uptoBulk d + 1
  | (_, d) => uptoBulk d + 1
 end
def uptoSmall : (H : Type) → List (DataW H) → Bool := fun _ ds => decide (uptoBulkAll ds ≤ 1048576)
def OpenSpec.upto (s : _root_.Go.ChangeSpec) : _root_.Go.OpenSpec := { _root_.Go.OpenSpec.ofChange s with cond := some uptoSmall }

/-- 'demesnelaw15.TlbPlays', WHERE WHAT IT READS IS OF BULK AT MOST 1048576: true; the input reads as it did. -/
def tlbPlaysUptoRow : OpenClaim := { program := "ytheahkfgmbmdcaa", sum := "f247ddb54fe14d58ce5f13a13dda068c84889825c174a0469016a9ec9185a61e", func := "demesne/demesnelaw15.TlbPlays", spec := "tlbPlays", unfollowed := true, recurses := true, apart := false, narrowed := true }
def TlbPlaysUptoSaid : Prop := tlbPlaysUptoRow.holds Try.pinned (OpenSpec.upto tlbPlaysSpec)

/-- 'demesnelaw15.TlbHolds', WHERE WHAT IT READS IS OF BULK AT MOST 1048576: true; the input reads as it did. -/
def tlbHoldsUptoRow : OpenClaim := { program := "ytheahkfgmbmdcaa", sum := "f247ddb54fe14d58ce5f13a13dda068c84889825c174a0469016a9ec9185a61e", func := "demesne/demesnelaw15.TlbHolds", spec := "tlbHolds", unfollowed := true, recurses := true, apart := false, narrowed := true }
def TlbHoldsUptoSaid : Prop := tlbHoldsUptoRow.holds Try.pinned (OpenSpec.upto tlbHoldsSpec)

/-- 'demesnelaw15.TlbApart', WHERE WHAT IT READS IS OF BULK AT MOST 1048576: true; the input reads as it did. -/
def tlbApartUptoRow : OpenClaim := { program := "ytheahkfgmbmdcaa", sum := "f247ddb54fe14d58ce5f13a13dda068c84889825c174a0469016a9ec9185a61e", func := "demesne/demesnelaw15.TlbApart", spec := "tlbApart", unfollowed := true, recurses := true, apart := false, narrowed := true }
def TlbApartUptoSaid : Prop := tlbApartUptoRow.holds Try.pinned (OpenSpec.upto tlbApartSpec)

/-- 'demesnelaw15.TlbFirst', WHERE WHAT IT READS IS OF BULK AT MOST 1048576: true; the input reads as it did. -/
def tlbFirstUptoRow : OpenClaim := { program := "ytheahkfgmbmdcaa", sum := "f247ddb54fe14d58ce5f13a13dda068c84889825c174a0469016a9ec9185a61e", func := "demesne/demesnelaw15.TlbFirst", spec := "tlbFirst", unfollowed := true, recurses := true, apart := false, narrowed := true }
def TlbFirstUptoSaid : Prop := tlbFirstUptoRow.holds Try.pinned (OpenSpec.upto tlbFirstSpec)

end Rows
end Go.Proofs.Ytheahkfgmbmdcaa
