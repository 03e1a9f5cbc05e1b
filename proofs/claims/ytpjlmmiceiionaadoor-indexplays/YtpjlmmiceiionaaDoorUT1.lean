/- The table of math/bits lies where the row lists it (rows that list the one of 64 alone). -/
import Derived.Test.YtpjlmmiceiionaaDoorU1
import Derived.Test.YtpjlmmiceiionaaDoorTie
import Derived.Test.YtpjlmmiceiionaaDoorCards
import Derived.Deep.DeepHandedRow
import Derived.Lib.LaidTab
import Derived.Stop.LaidErr
namespace Go.Proofs.YtpjlmmiceiionaaDoor
open Go.RowKit

def numsOf (d : DataW Unit) : List Int := match d with
  | .agg l => l.map fun
    | .lit (.int _ n) => n
    | _ => 0
  | _ => []
def tab64 : List Int := numsOf Rows.laid_math_bits_deBruijn64tab
theorem gTab : Tryd.prog.globalNamed "math/bits.deBruijn64tab" = some 0 := by kernel_rfl
theorem gTabType : (Tryd.prog.globals[0]?).map (·.type) = some 124 := by kernel_rfl
theorem cells64 : Tryd.prog.cellsOf 124 = 64 := by kernel_rfl
theorem cells8 : Tryd.prog.cellsOf 5 = 1 := by kernel_rfl
theorem tab_at : ∀ i, i < 64 → tab64[i]? = some (tabAt i) := by
  have h : (List.range 64).all (fun i => tab64[i]? == some (tabAt i)) = true := by decide +kernel
  intro i hi
  exact eq_of_beq (List.all_eq_true.1 h i (List.mem_range.2 hi))
theorem len64 : tab64.length = 64 := of_decide_eq_true (by kernel_rfl)
/-- What the rows list. -/
def laidBoth : List (String × DataW Unit) := [("math/bits.deBruijn64tab", Lib.tabData .u8 tab64)]
theorem laid_both : ([("math/bits.deBruijn64tab", Rows.laid_math_bits_deBruijn64tab)] : List (String × DataW Unit)) = laidBoth := by kernel_rfl
theorem tab_of {W : World} (h : laidMetH Tryd.prog laidBoth W) : TAB W := by
  rw [MakeChecks.laidMetH_plain _ _ _ (by kernel_rfl)] at h
  have h64 := Lib.tabIs_of_head gTab gTabType Tryd.underlying124 Tryd.underlying5 cells8 cells64 h
  refine ⟨block_lt_of_cell (h64.cell gTab 0 (by rw [len64]; decide)), fun i hi => ?_⟩
  rw [h64.cell gTab i (by rw [len64]; exact hi), List.getD, tab_at i hi]; rfl

def putTab (l : List Int) : Obj → Obj
  | .cells _ t frozen => .cells (l.map fun n => Value.int .u8 n).toArray t frozen
  | o => o
end Go.Proofs.YtpjlmmiceiionaaDoor
