/- The ground of maps with int keys. -/
import Derived.Test.YtfpmakmemmnbkaaU0
import Derived.Maps.OwnSet
namespace Go.Proofs.Ytfpmakmemmnbkaa
open Go.RowKit Go.Maps

theorem keyed_int : Keyed Try.prog 3 := int_keyed Try.underlying3
theorem tally (N : Nat) : ∀ (l : List Int), l.Pairwise (· ≠ ·) → (∀ x ∈ l, 0 ≤ x ∧ x < (N : Int)) → l.length ≤ N := by
  induction N with
  | zero =>
    intro l _ h
    match l with
    | [] => exact Nat.le_refl _
    | x :: r => have := h x (by simp); omega
  | succ N ih =>
    intro l hp h
    have h1 : (l.filter (fun x => decide (x ≠ (N : Int)))).length ≤ N := ih _ (hp.filter _) (fun x hx => by
      have hx' := List.mem_filter.1 hx
      have := h x hx'.1
      have := of_decide_eq_true hx'.2
      omega)
    have h2 : ∀ (l : List Int), l.Pairwise (· ≠ ·) → l.length ≤ (l.filter (fun x => decide (x ≠ (N : Int)))).length + 1 := by
      intro l
      induction l with
      | nil => intro _; simp
      | cons x r ihr =>
        intro hp
        obtain ⟨q1, q2⟩ := List.pairwise_cons.1 hp
        by_cases e : x = (N : Int)
        · subst e
          have : r.filter (fun x => decide (x ≠ (N : Int))) = r := List.filter_eq_self.2 (fun y hy => decide_eq_true (fun e => q1 y hy e.symm))
          rw [List.filter_cons, if_neg (by simp), this]; simp
        · have := ihr q2
          rw [List.filter_cons, if_pos (decide_eq_true e)]
          simp only [List.length_cons]
          omega
    have := h2 l hp
    omega
theorem lit_ne {x y : Int} (h : y ≠ x) : (Lit.int .i64 y) ≠ .int .i64 x := fun e => h (by cases e; rfl)
theorem isKey_int (x : Int) (hx : (Lit.int .i64 x).wf = true) : WideAt.IsKeyLit (.int .i64 x) := keyed_int.key (keyOf_int_mk Try.underlying3 hx)

/-- As many entries as keys from 0 to N - 1, whatever the elements are. -/
theorem map_sized {R : Value → Option (DataW Unit × List MemPlace)} {w : World} {bm n N : Nat} {D : DataW Unit} (h : w.ownsMap Try.prog 3 R bm n D) (hh : ∀ x, Maps.has D (.int .i64 x) = true → 0 ≤ x ∧ x < (N : Int)) :
    w.ownsMap Try.prog 3 R bm N D := by
  obtain ⟨es, clock, hb, F, hs, rfl⟩ := h
  refine ⟨es, clock, hb, F, ?_, rfl⟩
  have hk := fit_keys F
  have ha := fit_apart keyed_int F
  have ei : ∀ p ∈ es.toList.map (WideElems.rg Try.prog 3 R), ∃ y, p.1 = .int .i64 y := fun p hp => by
    obtain ⟨v, hv⟩ := hk p hp
    rw [keyOf_int Try.underlying3] at hv
    cases v <;> simp [mapKey, Try.underlying3] at hv
    exact ⟨_, hv.2.symm⟩
  have hl : (es.toList.map (WideElems.rg Try.prog 3 R)).length = es.size := by simp
  generalize es.toList.map (WideElems.rg Try.prog 3 R) = L at ha ei hh hl
  rw [← hl]
  have t := tally N (L.map fun p => match p.1 with | .int _ y => y | _ => 0) (by
    rw [List.pairwise_map]
    have : L.Pairwise (fun x y => x ∈ L ∧ y ∈ L ∧ x.1 ≠ y.1) := List.Pairwise.imp_of_mem (fun {a b} h1 h2 h3 => ⟨h1, h2, h3⟩) ha
    refine this.imp (fun {a b} h => ?_)
    obtain ⟨h1, h2, h3⟩ := h
    obtain ⟨y, hy⟩ := ei a h1
    obtain ⟨z, hz⟩ := ei b h2
    rw [hy, hz] at h3 ⊢
    exact fun e => h3 (by simpa using e)) (fun x hx => by
    obtain ⟨p, hp, rfl⟩ := List.mem_map.1 hx
    obtain ⟨y, hy⟩ := ei p hp
    have e1 : Maps.has (DataW.map (L.foldr DataW.insert [])) (.int .i64 y) = true := by
      rw [has_eq, List.any_eq_true]
      exact ⟨p, (WideShapes.sorted_perm L).mem_iff.2 hp, by rw [hy]; simp [Lit.sameKey]⟩
    simp only [hy]
    exact hh y e1)
  simpa using t

end Go.Proofs.Ytfpmakmemmnbkaa
