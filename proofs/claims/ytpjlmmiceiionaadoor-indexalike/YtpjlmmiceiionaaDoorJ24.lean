/- Joined: KB, EM. -/
import Derived.Test.YtpjlmmiceiionaaDoorU0
import Derived.BigQuiet
import Derived.Orders
/- Regions that draw their order and only read, whose callees lay blocks of their own. -/
namespace Go.Proofs.YtpjlmmiceiionaaDoor
open Go.RowKit

theorem mixed : Tryd.prog.follows .mixedOrders = true := by kernel_rfl
/-- A world in which all that lay in w lies. -/
structure KeptBy (w : World) where
  v : World
  k : Kp w v

theorem KeptBy.some {w : World} : Nonempty (KeptBy w) := ⟨⟨w, Kp.refl w⟩⟩

theorem wp_region_kept {P : Program} {id : Nat} {Q : Exit → Act → World → Prop} {a : Act} {w : World} {l : List Oper} (hm : P.follows .mixedOrders = true) (hB : Region.lexB .any l.toArray = true)
    (h : wpQuiet P l.toArray (fun w' => ∃ p : KeptBy w, w' = p.v) (fun a' => ∀ w', (∃ p : KeptBy w, w' = p.v) → Q .normal a' w') l a) : (Code.region id l.toArray true).wp P Q a w :=
  wp_region_quiet (C := fun w' => ∃ p : KeptBy w, w' = p.v) hm hB ⟨⟨w.drew, (Kp.refl w).drew⟩, rfl⟩ (by simpa using h)
theorem Calls.kept_of {P : Program} {f : FuncId} {args : Array Value} {w : World} {p : KeptBy w} {v : Value}
    (h : Calls P f args p.v fun e w' => e = .returned v ∧ Kp p.v w') : Calls P f args p.v fun e w'' => e = .returned v ∧ ∃ q : KeptBy w, w'' = q.v :=
  h.mono fun _ w' ⟨he, hk⟩ => ⟨he, ⟨w', p.k.trans hk⟩, rfl⟩

end Go.Proofs.YtpjlmmiceiionaaDoor

/- A region that draws its order, by what holds once some of its operations are done. -/
namespace Go.Proofs.YtpjlmmiceiionaaDoor
open Go.RowKit

/-- How many are not done. -/
def undone (n : Nat) (listed : Array Bool) : Nat := ((List.range n).filter fun i => !listed.getD i true).length
theorem undone_lt {n i : Nat} {listed : Array Bool} (hi : i < n) (h : listed.getD i true = false) : undone n (listed.setIfInBounds i true) < undone n listed := by
  have hs : i < listed.size := by
    by_cases c : i < listed.size
    · exact c
    · simp [Array.getD, c] at h
  have e : ((List.range n).filter fun j => !(listed.setIfInBounds i true).getD j true) = ((List.range n).filter fun j => !listed.getD j true).filter fun j => decide (j ≠ i) := by
    rw [List.filter_filter]
    apply List.filter_congr
    intro j _
    by_cases c : j = i
    · subst c
      simp [Array.getD, hs]
    · rw [getD_set_ne true (fun e => c e.symm)]
      simp [c]
  unfold undone
  rw [e]
  rw [List.length_filter_lt_length_iff_exists]
  exact ⟨i, by simp [List.mem_filter, hi]; simpa using h, by simp⟩
theorem wpAny_inv {P : Program} {ops : Array Oper} {Q : Exit → Act → World → Prop} (Inv : Array Bool → Act → World → Prop)
    (step : ∀ listed a w i, Inv listed a w → i ∈ Region.ready .any ops listed → wpOp P ops Q i (Inv (listed.setIfInBounds i true)) a w)
    (done : ∀ listed a w, Inv listed a w → Region.ready .any ops listed = [] → Q .normal a w) :
    ∀ fuel listed a w, undone ops.size listed ≤ fuel → Inv listed a w → wpAny P .any ops Q fuel listed a w
  | 0, listed, a, w, hf, h => by
    have hr : Region.ready .any ops listed = [] := by
      unfold Region.ready
      rw [List.filter_eq_nil_iff]
      intro i hi
      unfold undone at hf
      have h0 := List.length_eq_zero_iff.1 (Nat.le_zero.1 hf)
      rw [List.filter_eq_nil_iff] at h0
      have := h0 i hi
      simp at this
      simp [this]
    exact ⟨hr, done listed a w h hr⟩
  | fuel + 1, listed, a, w, hf, h => by
    refine ⟨done listed a w h, fun i hi => ?_⟩
    refine wpOp_mono (fun a' w' h' => ?_) (step listed a w i h hi)
    have hm : i < ops.size ∧ listed.getD i true = false := by
      unfold Region.ready at hi
      rw [List.mem_filter] at hi
      refine ⟨by simpa using hi.1, ?_⟩
      have := hi.2
      simp only [Bool.and_eq_true, Bool.not_eq_true'] at this
      exact this.1
    have := undone_lt hm.1 hm.2
    exact wpAny_inv Inv step done fuel _ a' w' (by omega) h'
theorem wp_region_inv {P : Program} {id : Nat} {ops : Array Oper} {Q : Exit → Act → World → Prop} {a : Act} {w : World} (hm : P.follows .mixedOrders = true) (Inv : Array Bool → Act → World → Prop)
    (h0 : Inv (Array.replicate ops.size false) a w.drew)
    (step : ∀ listed a w i, Inv listed a w → i ∈ Region.ready .any ops listed → wpOp P ops Q i (Inv (listed.setIfInBounds i true)) a w)
    (done : ∀ listed a w, Inv listed a w → Region.ready .any ops listed = [] → Q .normal a w) : (Code.region id ops true).wp P Q a w := by
  refine wp_region_any hm (wpAny_inv Inv step done _ _ _ _ ?_ h0)
  unfold undone
  exact Nat.le_trans (List.length_filter_le _ _) (by simp)
theorem wpOp_of {P : Program} {ops : Array Oper} {Q : Exit → Act → World → Prop} {i : Nat} {K : Act → World → Prop} {a : Act} {w : World} {o : Oper} (ho : ops[i]? = some o) (hg : o.guard = none) (h : o.wp P a w K Q) : wpOp P ops Q i K a w := by
  unfold wpOp
  rw [ho]
  simp only [Region.wanted, hg]
  exact .inl h

end Go.Proofs.YtpjlmmiceiionaaDoor
