/- index: the document's list, by reckoning. -/
import Derived.Test.YtpjlmmiceiionaaDoorJ34
import Derived.Test.YtpjlmmiceiionaaDoorJ36
import Derived.Test.YtpjlmmiceiionaaDoorJ31
namespace Go.Proofs.YtpjlmmiceiionaaDoor
open Go.RowKit Go.Maps
set_option maxRecDepth 10000

/-! ### rising lists, by keys -/
section
variable {α : Type} {f : α → Nat} {L : List α} {k : Nat} {x : Int}
theorem upK_all (hr : L.Pairwise (fun a b => f a < f b)) (hi : ∀ y, L[k]? = some y → x ≤ (f y : Int)) : ∀ y ∈ L.drop k, x ≤ (f y : Int) ∧ (L[k]? = some y ∨ x < (f y : Int)) := by
  intro y hy
  obtain ⟨j, hj⟩ := List.mem_iff_getElem?.1 hy
  rw [List.getElem?_drop] at hj
  have h1 := (List.getElem?_eq_some_iff.1 hj).1
  obtain ⟨z, hz⟩ : ∃ z, L[k]? = some z := ⟨_, List.getElem?_eq_getElem (by omega)⟩
  have hx := hi z hz
  by_cases c : j = 0
  · subst c
    rw [Nat.add_zero] at hj
    rw [hj] at hz
    cases hz
    exact ⟨hx, .inl hj⟩
  · have h2 := List.pairwise_iff_getElem.1 hr k (k + j) (by omega) h1 (by omega)
    have e1 := (List.getElem?_eq_some_iff.1 hz).2
    have e2 := (List.getElem?_eq_some_iff.1 hj).2
    rw [e1, e2] at h2
    exact ⟨by omega, .inr (by omega)⟩
theorem lowK_all (lo : ∀ j y, j < k → L[j]? = some y → (f y : Int) < x) : ∀ y ∈ L.take k, (f y : Int) < x := by
  intro y hy
  obtain ⟨j, hj⟩ := List.mem_iff_getElem?.1 hy
  rw [List.getElem?_take] at hj
  split at hj
  · exact lo j y (by assumption) hj
  · cases hj
theorem memK_at (hr : L.Pairwise (fun a b => f a < f b)) (lo : ∀ j y, j < k → L[j]? = some y → (f y : Int) < x) (hi : ∀ y, L[k]? = some y → x ≤ (f y : Int)) (y : α) (hy : y ∈ L) (e : (f y : Int) = x) : L[k]? = some y := by
  rw [← List.take_append_drop k L, List.mem_append] at hy
  rcases hy with c | c
  · have := lowK_all lo y c; omega
  · rcases (upK_all hr hi y c).2 with q | q
    · exact q
    · omega
theorem insK_rise (hr : L.Pairwise (fun a b => f a < f b)) (lo : ∀ j y, j < k → L[j]? = some y → (f y : Int) < x) (hi : ∀ y, L[k]? = some y → x ≤ (f y : Int)) (hn : ∀ y ∈ L, (f y : Int) ≠ x) (a : α) (ha : (f a : Int) = x) :
    (L.take k ++ [a] ++ L.drop k).Pairwise (fun a b => f a < f b) ∧ ∀ q, q ∈ L.take k ++ [a] ++ L.drop k ↔ q ∈ L ∨ q = a := by
  have h0 : (L.take k ++ L.drop k).Pairwise (fun a b => f a < f b) := by rw [List.take_append_drop]; exact hr
  obtain ⟨h1, h2, h3⟩ := List.pairwise_append.1 h0
  have a1 := lowK_all lo
  have a2 : ∀ y ∈ L.drop k, x < (f y : Int) := fun y hy => by
    have h4 := (upK_all hr hi y hy).1
    have h5 := hn y (List.mem_of_mem_drop hy)
    omega
  refine ⟨?_, fun q => ?_⟩
  · rw [List.append_assoc]
    refine List.pairwise_append.2 ⟨h1, List.pairwise_append.2 ⟨by simp, h2, fun b hb c hc => ?_⟩, fun b hb c hc => ?_⟩
    · rw [List.mem_singleton] at hb; rw [hb]; have := a2 c hc; omega
    · rcases List.mem_append.1 hc with d | d
      · rw [List.mem_singleton] at d; rw [d]; have := a1 b hb; omega
      · exact h3 b hb c d
  · have e : q ∈ L ↔ q ∈ L.take k ∨ q ∈ L.drop k := by rw [← List.mem_append, List.take_append_drop]
    rw [e, List.mem_append, List.mem_append, List.mem_singleton]
    constructor
    · rintro ((c | c) | c)
      · exact .inl (.inl c)
      · exact .inr c
      · exact .inl (.inr c)
    · rintro ((c | c) | c)
      · exact .inl (.inl c)
      · exact .inr c
      · exact .inl (.inr c)
theorem cutK_rise (hr : L.Pairwise (fun a b => f a < f b)) {a : α} (hx : L[k]? = some a) : (L.take k ++ L.drop (k + 1)).Pairwise (fun a b => f a < f b) ∧ ∀ q, q ∈ L.take k ++ L.drop (k + 1) ↔ q ∈ L ∧ f q ≠ f a := by
  have hk := (List.getElem?_eq_some_iff.1 hx).1
  have hd : L.drop k = a :: L.drop (k + 1) := by
    rw [List.drop_eq_getElem_cons hk, (List.getElem?_eq_some_iff.1 hx).2]
  have e0 : L = L.take k ++ a :: L.drop (k + 1) := by rw [← hd, List.take_append_drop]
  have h0 := hr
  rw [e0] at h0
  obtain ⟨h1, h2, h3⟩ := List.pairwise_append.1 h0
  obtain ⟨h4, h5⟩ := List.pairwise_cons.1 h2
  refine ⟨List.pairwise_append.2 ⟨h1, h5, fun b hb c hc => h3 b hb c (List.mem_cons_of_mem _ hc)⟩, fun q => ?_⟩
  have e : q ∈ L ↔ q ∈ L.take k ∨ q = a ∨ q ∈ L.drop (k + 1) := by
    conv => lhs; rw [e0]
    rw [List.mem_append, List.mem_cons]
  rw [e, List.mem_append]
  constructor
  · rintro (c | c)
    · exact ⟨.inl c, by have := h3 q c a (List.mem_cons_self ..); omega⟩
    · exact ⟨.inr (.inr c), by have := h4 q c; omega⟩
  · rintro ⟨c | c | c, n⟩
    · exact .inl c
    · exact absurd (by rw [c]) n
    · exact .inr c
end

/-! ### the frames that are in, and their digests -/
def inL (Sg : Nat → Option CN) : List (Nat × CN) := (List.range 12).filterMap fun i => (Sg i).map fun d => (i, d)
theorem inL_mem (Sg : Nat → Option CN) (y : Nat × CN) : y ∈ inL Sg ↔ y.1 < 12 ∧ Sg y.1 = some y.2 := by
  unfold inL
  rw [List.mem_filterMap]
  constructor
  · rintro ⟨i, hi, h⟩
    rw [List.mem_range] at hi
    obtain ⟨d, hd, rfl⟩ := Option.map_eq_some_iff.1 h
    exact ⟨hi, hd⟩
  · rintro ⟨h1, h2⟩
    exact ⟨y.1, List.mem_range.2 h1, by rw [h2]; rfl⟩
theorem inL_rise (Sg : Nat → Option CN) : (inL Sg).Pairwise (fun a b => a.1 < b.1) := by
  unfold inL
  rw [List.pairwise_filterMap]
  refine List.Pairwise.imp ?_ (List.pairwise_lt_range (n := 12))
  intro a b hab x hx y hy
  obtain ⟨d, _, rfl⟩ := Option.map_eq_some_iff.1 hx
  obtain ⟨e, _, rfl⟩ := Option.map_eq_some_iff.1 hy
  exact hab
theorem inL_len (Sg : Nat → Option CN) : (inL Sg).length ≤ 12 := by
  have := List.length_filterMap_le (fun i => (Sg i).map fun d => (i, d)) (List.range 12)
  rwa [List.length_range] at this
theorem inL_none : inL (fun _ => none) = [] := by
  refine List.eq_nil_iff_forall_not_mem.2 fun y hy => ?_
  have := ((inL_mem _ y).1 hy).2
  cases this
/-- Whether the place k has the frame x. -/
def isAt (L : List (Nat × CN)) (k : Nat) (x : Int) : Bool := match L[k]? with | some y => (y.1 : Int) == x | none => false
section
variable {Sg : Nat → Option CN} {k : Nat} {x : Int}
theorem isAt_sg (hS : ∀ i d, Sg i = some d → i < 12) (lo : ∀ j y, j < k → (inL Sg)[j]? = some y → (y.1 : Int) < x) (hi : ∀ y, (inL Sg)[k]? = some y → x ≤ (y.1 : Int)) : isAt (inL Sg) k x = (sgI Sg x).isSome := by
  unfold isAt sgI
  by_cases c : 0 ≤ x
  · rw [if_pos c, Option.isSome_map]
    cases e : Sg x.toNat with
    | some d =>
      have := memK_at (f := Prod.fst) (inL_rise Sg) lo hi (x.toNat, d) ((inL_mem _ _).2 ⟨hS _ _ e, e⟩) (by show ((x.toNat : Nat) : Int) = x; omega)
      rw [this]
      show ((x.toNat : Int) == x) = true
      simp; omega
    | none =>
      cases h : (inL Sg)[k]? with
      | none => rfl
      | some y =>
        have hm := ((inL_mem _ _).1 (List.mem_of_getElem? h)).2
        show ((y.1 : Int) == x) = false
        have : (y.1 : Int) ≠ x := fun q => by
          rw [← q, Int.toNat_natCast, hm] at e; cases e
        simpa using this
  · rw [if_neg c]
    cases h : (inL Sg)[k]? with
    | none => rfl
    | some y =>
      show ((y.1 : Int) == x) = false
      have : (y.1 : Int) ≠ x := by omega
      simpa using this
theorem inL_ins (lo : ∀ j y, j < k → (inL Sg)[j]? = some y → (y.1 : Int) < x) (hi : ∀ y, (inL Sg)[k]? = some y → x ≤ (y.1 : Int)) {f : Nat} (hx : x = (f : Int)) (hf : f < 12) (hn : Sg f = none) (d : CN) : (inL Sg).take k ++ [(f, d)] ++ (inL Sg).drop k = inL (setS Sg f (some d)) := by
  obtain ⟨h1, h2⟩ := insK_rise (f := Prod.fst) (inL_rise Sg) lo hi (fun y hy e => by
    have := ((inL_mem _ _).1 hy).2
    rw [show y.1 = f by omega, hn] at this; cases this) (f, d) hx.symm
  refine list_uniq Prod.fst _ _ h1 (inL_rise _) fun q => ?_
  rw [h2, inL_mem, inL_mem]
  constructor
  · rintro (⟨c1, c2⟩ | c)
    · refine ⟨c1, ?_⟩
      rw [setS_other _ _ (fun e => by rw [e, hn] at c2; cases c2)]
      exact c2
    · rw [c]; exact ⟨hf, setS_same _ _ _⟩
  · rintro ⟨c1, c2⟩
    by_cases e : q.1 = f
    · rw [e, setS_same] at c2
      cases c2
      exact .inr (Prod.ext e rfl)
    · rw [setS_other _ _ e] at c2
      exact .inl ⟨c1, c2⟩
theorem inL_cut {a : Nat × CN} (h : (inL Sg)[k]? = some a) : (inL Sg).take k ++ (inL Sg).drop (k + 1) = inL (setS Sg a.1 none) := by
  obtain ⟨h1, h2⟩ := cutK_rise (f := Prod.fst) (inL_rise Sg) h
  refine list_uniq Prod.fst _ _ h1 (inL_rise _) fun q => ?_
  rw [h2, inL_mem, inL_mem]
  constructor
  · rintro ⟨⟨c1, c2⟩, c3⟩
    exact ⟨c1, by rw [setS_other _ _ c3]; exact c2⟩
  · rintro ⟨c1, c2⟩
    by_cases e : q.1 = a.1
    · rw [e, setS_same] at c2; cases c2
    · rw [setS_other _ _ e] at c2; exact ⟨⟨c1, c2⟩, e⟩
/-- What a count is. -/
theorem inL_count (hS : ∀ i d, Sg i = some d → i < 12) {Ks : List Int} (nd : Ks.Nodup) (h : ∀ x, x ∈ Ks ↔ (sgI Sg x).isSome = true) : Ks.length = (inL Sg).length := by
  have hp : Ks.Perm ((inL Sg).map fun y => (y.1 : Int)) := by
    refine (List.perm_ext_iff_of_nodup nd ?_).2 fun x => ?_
    · rw [List.Nodup, List.pairwise_map]
      exact (inL_rise Sg).imp fun h e => by omega
    · rw [h x, List.mem_map]
      unfold sgI
      constructor
      · intro q
        split at q
        · rw [Option.isSome_map, Option.isSome_iff_exists] at q
          obtain ⟨d, hd⟩ := q
          exact ⟨(x.toNat, d), (inL_mem _ _).2 ⟨hS _ _ hd, hd⟩, by show ((x.toNat : Nat) : Int) = x; omega⟩
        · cases q
      · rintro ⟨y, hy, rfl⟩
        rw [if_pos (by omega), Option.isSome_map, Int.toNat_natCast, ((inL_mem _ _).1 hy).2]; rfl
  rw [hp.length_eq, List.length_map]
/-- The frames of a digest, out of the list. -/
theorem inL_fr (Sg : Nat → Option CN) (d : CN) : ((inL Sg).filter fun y => decide (y.2 = d)).map Prod.fst = blF (mkD Sg 12 d) := by
  rw [blF_mk]
  refine list_uniq id _ _ ?_ ?_ fun x => ?_
  · rw [List.pairwise_map]
    exact (inL_rise Sg).sublist List.filter_sublist
  · exact (List.pairwise_lt_range (n := 12)).sublist List.filter_sublist
  · rw [List.mem_map, List.mem_filter]
    constructor
    · rintro ⟨y, hy, rfl⟩
      rw [List.mem_filter] at hy
      obtain ⟨h1, h2⟩ := (inL_mem _ _).1 hy.1
      have h3 := of_decide_eq_true hy.2
      exact ⟨List.mem_range.2 h1, decide_eq_true (by rw [h2, h3])⟩
    · rintro ⟨h1, h2⟩
      exact ⟨(x, d), List.mem_filter.2 ⟨(inL_mem _ _).2 ⟨List.mem_range.1 h1, of_decide_eq_true h2⟩, decide_eq_true rfl⟩, rfl⟩
/-- What is found, out of the list. -/
theorem inL_find (Sg : Nat → Option CN) (F : Nat → Nat → Nat) (f : Nat → Nat) (notv : Int) : fndR Sg 12 F f notv = ((inL Sg).find? fun y => (decide ((y.1 : Int) ≠ notv) && decide (y.2 = dgt f)) && alike (F y.1) f 4096).map Prod.fst := by
  unfold fndR
  rw [← inL_fr]
  induction inL Sg with
  | nil => rfl
  | cons y l ih =>
    rw [List.filter_cons, List.find?_cons]
    by_cases c : y.2 = dgt f
    · rw [if_pos (decide_eq_true c), List.map_cons, List.find?_cons]
      rw [decide_eq_true c, Bool.and_true]
      cases e : (decide ((y.1 : Int) ≠ notv) && alike (F y.1) f 4096) with
      | true => rfl
      | false => exact ih
    · rw [if_neg (by rw [decide_eq_false c]; decide), decide_eq_false c, Bool.and_false, Bool.false_and]
      exact ih
end

end Go.Proofs.YtpjlmmiceiionaaDoor
