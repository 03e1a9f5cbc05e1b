/- A scope that is left to its one label again and again, by a count that is no part of the frame. -/
import Derived.Test.YtclheedcdogkbaaSA
namespace Go.Proofs.Ytclheedcdogkbaa
open Go.RowKit

theorem least_of {p : Nat → Prop} (h : ∃ n, p n) : ∃ n, p n ∧ ∀ m, p m → n ≤ m := by
  obtain ⟨n, hn⟩ := h
  induction n using Nat.strongRecOn with
  | _ n ih =>
    by_cases c : ∃ m, m < n ∧ p m
    · obtain ⟨m, h1, h2⟩ := c
      exact ih m h1 h2
    · refine ⟨n, hn, fun m hm => ?_⟩
      by_cases d : m < n
      · exact absurd ⟨m, d, hm⟩ c
      · omega
theorem scope_again_g {P : Program} {c X : Code} {a : Act} {w : World} {Q : Exit → Act → World → Prop} (l : Nat) (J : Nat → Act → World → Prop) (hf : findLabel c l = some (Code.skip.seq X))
    (first : (∀ p a w, J p a w → X.wp P (Exit.jump l (fun a w => ∃ p, J p a w) Q) a w) → c.wp P (Exit.jump l (fun a w => ∃ p, J p a w) Q) a w)
    (pass : ∀ p a w, J p a w → X.wp P (Exit.jump l (fun a' w' => ∃ q, q < p ∧ J q a' w') Q) a w) : (Code.scope c).wp P Q a w := by
  have key : ∃ μ : Act → World → Nat, ∀ a w, (∃ p, J p a w) → J (μ a w) a w ∧ ∀ q, J q a w → μ a w ≤ q := by
    have : ∀ (x : Act × World), ∃ n, (∃ p, J p x.1 x.2) → J n x.1 x.2 ∧ ∀ q, J q x.1 x.2 → n ≤ q := fun x => by
      by_cases h : ∃ p, J p x.1 x.2
      · obtain ⟨n, h1, h2⟩ := least_of h
        exact ⟨n, fun _ => ⟨h1, h2⟩⟩
      · exact ⟨0, fun c => absurd c h⟩
    exact ⟨fun a w => Classical.choose (this (a, w)), fun a w h => Classical.choose_spec (this (a, w)) h⟩
  obtain ⟨μ, hμ⟩ := key
  refine scope_again l (fun a w => ∃ p, J p a w) μ hf (fun h => first fun p a w hJ => h a w ⟨p, hJ⟩) fun a w hJ => ?_
  obtain ⟨h1, h2⟩ := hμ a w hJ
  refine jump_mono (fun a' w' h => ?_) (pass (μ a w) a w h1)
  obtain ⟨q, hq, hJ'⟩ := h
  exact ⟨⟨q, hJ'⟩, Nat.lt_of_le_of_lt ((hμ a' w' ⟨q, hJ'⟩).2 q hJ') hq⟩

end Go.Proofs.Ytclheedcdogkbaa
