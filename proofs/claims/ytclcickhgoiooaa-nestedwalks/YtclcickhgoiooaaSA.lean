/- A scope that is left to its one label again and again. -/
import Derived.Test.YtclcickhgoiooaaK0
import Derived.Deep.QuietTactic
namespace Go.Proofs.Ytclcickhgoiooaa
open Go.RowKit

theorem jump_mono {P : Program} {c : Code} {l : Nat} {J J' : Act → World → Prop} {Q : Exit → Act → World → Prop} {a : Act} {w : World} (hJ : ∀ a w, J' a w → J a w) (h : c.wp P (Exit.jump l J' Q) a w) : c.wp P (Exit.jump l J Q) a w :=
  Code.wp_mono (fun e a w => by
    cases e with
    | goto l' => exact fun hq => ⟨hq.1, hJ _ _ hq.2⟩
    | _ => exact id) h
/-- A scope that is left to its one label again and again: the rest behind the label is walked once. -/
theorem scope_again {P : Program} {c X : Code} {a : Act} {w : World} {Q : Exit → Act → World → Prop} (l : Nat) (J : Act → World → Prop) (μ : Act → World → Nat) (hf : findLabel c l = some (Code.skip.seq X))
    (first : (∀ a w, J a w → X.wp P (Exit.jump l J Q) a w) → c.wp P (Exit.jump l J Q) a w)
    (pass : ∀ a w, J a w → X.wp P (Exit.jump l (fun a' w' => J a' w' ∧ μ a' w' < μ a w) Q) a w) : (Code.scope c).wp P Q a w :=
  wp_scope_jumps l J μ hf (first fun a w hJ => jump_mono (fun _ _ h => h.1) (pass a w hJ)) (fun a w hJ => wp_seq (wp_skip (pass a w hJ)))

end Go.Proofs.Ytclcickhgoiooaa
