/- A region that draws its order: its front only reads, its tail stands in one order. -/
import Derived.Test.YtpjlmmiceiionaaDoorJ20
namespace Go.Proofs.YtpjlmmiceiionaaDoor
open Go.RowKit

/-- Does the operation k wait for j? -/
def waitsB (ops : Array Oper) (k j : Nat) : Bool := ((ops[k]?).map fun o => o.after.any fun e => e.on == j && Region.binds .any e).getD false
/-- From m on each waits, in the end, for all ahead of it. -/
def tailB (ops : Array Oper) (m : Nat) : Bool := (List.range ops.size).all fun i => decide (i < m) || (List.range i).all fun j => (List.range (i + 1)).any fun k => decide (j < k) && waitsB ops k j
/-- Each waits for earlier ones alone. -/
def backB (ops : Array Oper) : Bool := (List.range ops.size).all fun i => ((ops[i]?).map fun q => q.after.all fun e => decide (e.on < i) || !Region.binds .any e).getD true
/-- The guards of the front look at the front. -/
def guardB (front : List Oper) : Bool := front.all fun o => match o.guard with | none => true | some (g, _) => decide (g < front.length)

theorem ready_waits {ops : Array Oper} {t : Array Bool} {k j : Nat} (h : k ∈ Region.ready .any ops t) (hd : waitsB ops k j = true) : t.getD j false = true := by
  obtain ⟨_, q, hq, ha⟩ := mem_ready.1 h
  unfold waitsB at hd
  rw [hq] at hd
  simp only [Option.map_some, Option.getD_some] at hd
  rw [Array.any_eq_true] at hd
  obtain ⟨i, hi, h2⟩ := hd
  have he : q.after[i] ∈ q.after := Array.getElem_mem hi
  rw [Bool.and_eq_true, beq_iff_eq] at h2
  rw [← h2.1]
  exact ha _ he h2.2
theorem ready_done {ops : Array Oper} {t : Array Bool} (hd : backB ops = true) (hs : t.size = ops.size) (hr : Region.ready .any ops t = []) : ∀ i, i < ops.size → t.getD i false = true := by
  intro i
  induction i using Nat.strongRecOn with
  | _ i ih =>
    intro hi
    cases c : t.getD i false
    · have hq : ops[i]? = some ops[i] := Array.getElem?_eq_getElem hi
      have hm : i ∈ Region.ready .any ops t := by
        refine mem_ready.2 ⟨?_, _, hq, fun e he hb => ?_⟩
        · rw [Array.getD_eq_getD_getElem?, Array.getElem?_eq_getElem (by omega)] at c ⊢
          exact c
        · unfold backB at hd
          rw [List.all_eq_true] at hd
          have := hd i (List.mem_range.2 hi)
          rw [hq] at this
          simp only [Option.map_some, Option.getD_some, Array.all_eq_true_iff_forall_mem] at this
          have l := this e he
          rw [hb, Bool.not_true, Bool.or_false, decide_eq_true_eq] at l
          exact ih e.on l (by omega)
      rw [hr] at hm
      cases hm
    · rfl
/-- What is done waits for nothing that is not. -/
def closedT (ops : Array Oper) (t : Array Bool) : Prop := ∀ k j, t.getD k false = true → waitsB ops k j = true → t.getD j false = true
theorem tail_all {ops : Array Oper} {m i : Nat} {t : Array Bool} (hB : tailB ops m = true) (hm : m ≤ i) (hc : closedT ops t) (hi : i ∈ Region.ready .any ops t) : ∀ d j, j + d + 1 = i → t.getD j false = true := by
  have hlt : i < ops.size := by obtain ⟨_, q, hq, _⟩ := mem_ready.1 hi; exact (Array.getElem?_eq_some_iff.1 hq).1
  unfold tailB at hB
  rw [List.all_eq_true] at hB
  have h0 := hB i (List.mem_range.2 hlt)
  rw [decide_eq_false (by omega), Bool.false_or, List.all_eq_true] at h0
  intro d
  induction d using Nat.strongRecOn with
  | _ d ih =>
    intro j hj
    have h1 := h0 j (List.mem_range.2 (by omega))
    rw [List.any_eq_true] at h1
    obtain ⟨k, hk, h2⟩ := h1
    rw [Bool.and_eq_true, decide_eq_true_eq] at h2
    have hk' := List.mem_range.1 hk
    by_cases e : k = i
    · subst e; exact ready_waits hi h2.2
    · exact hc k j (ih (i - k - 1) (by omega) k (by omega)) h2.2

section
variable {P : Program} {C : World → Prop} {Q : Exit → Act → World → Prop}
theorem qOp_front {front tail : List Oper} {i : Nat} {K : Act → Prop} {a : Act} (hi : i < front.length) (hg : guardB front = true) (h : qOp P front.toArray C i K a) : qOp P (front ++ tail).toArray C i K a := by
  have e : (front ++ tail).toArray[i]? = front.toArray[i]? := by simp [List.getElem?_append_left hi]
  unfold qOp at *
  rw [e]
  cases ho : front.toArray[i]? with
  | none => rw [ho] at h; exact h
  | some o =>
    rw [ho] at h
    have hw : Region.wanted o (yielded (front ++ tail).toArray a.tmps) = Region.wanted o (yielded front.toArray a.tmps) := by
      unfold guardB at hg
      rw [List.all_eq_true] at hg
      have hm : o ∈ front := by
        rw [List.getElem?_toArray] at ho
        exact List.mem_of_getElem? ho
      have := hg o hm
      unfold Region.wanted
      cases hgd : o.guard with
      | none => rfl
      | some p =>
        obtain ⟨g, b⟩ := p
        rw [hgd] at this
        have hl : g < front.length := by simpa using this
        have : yielded (front ++ tail).toArray a.tmps g = yielded front.toArray a.tmps g := by
          unfold yielded
          simp [List.getElem?_append_left hl]
        simp only [this]
    simp only [hw]
    exact h
theorem getD_take {t : Array Bool} {m i : Nat} {d : Bool} (h : i < m) : (t.extract 0 m).getD i d = t.getD i d := by
  rw [Array.getD_eq_getD_getElem?, Array.getD_eq_getD_getElem?, Array.getElem?_extract]
  by_cases c : i < t.size
  · rw [if_pos (by omega), Nat.zero_add]
  · rw [if_neg (by omega)]; simp [c]
theorem set_mark {t : Array Bool} {i : Nat} (h : i < t.size) : (t.setIfInBounds i true).getD i false = true := by
  rw [Array.getD_eq_getD_getElem?, Array.getElem?_setIfInBounds, if_pos rfl, if_pos h]; rfl
theorem getD_tf {t : Array Bool} {j : Nat} (hj : j < t.size) : t.getD j true = t.getD j false := by
  rw [Array.getD_eq_getD_getElem?, Array.getD_eq_getD_getElem?, Array.getElem?_eq_getElem hj]; rfl
theorem closedT.step {ops : Array Oper} {t : Array Bool} {i : Nat} (h : closedT ops t) (hi : i ∈ Region.ready .any ops t) : closedT ops (t.setIfInBounds i true) := fun k j hk hw => by
  have up : t.getD j false = true → (t.setIfInBounds i true).getD j false = true := fun hj => by
    by_cases e : i = j
    · subst e
      refine set_mark ?_
      by_cases c : i < t.size
      · exact c
      · rw [Array.getD_eq_getD_getElem?] at hj; simp [c] at hj
    · rw [getD_set_ne false e]; exact hj
  by_cases e : i = k
  · subst e; exact up (ready_waits hi hw)
  · rw [getD_set_ne false e] at hk
    exact up (h k j hk hw)
theorem take_set {t : Array Bool} {m i : Nat} (hi : i < m) (hm : m ≤ t.size) : (t.setIfInBounds i true).extract 0 m = (t.extract 0 m).setIfInBounds i true := by
  apply Array.ext_getElem?
  intro j
  rw [Array.getElem?_extract, Array.getElem?_setIfInBounds, Array.getElem?_setIfInBounds, Array.getElem?_extract]
  simp only [Array.size_setIfInBounds, Array.size_extract, Nat.zero_add, Nat.sub_zero]
  rw [Nat.min_eq_left hm]
  by_cases e : i = j
  · subst e; rw [if_pos rfl, if_pos rfl, if_pos hi, if_pos hi, if_pos (by omega)]
  · rw [if_neg e, if_neg e]
/-- The front is walked once, in the text's order; the tail behind it. -/
theorem wp_region_tail {front tail : List Oper} {id : Nat} {a : Act} {w : World} (hm : P.follows .mixedOrders = true) (hF : Region.lexB .any front.toArray = true) (hT : tailB (front ++ tail).toArray front.length = true) (hB : backB (front ++ tail).toArray = true) (hg : guardB front = true) (hne : tail ≠ [])
    (hC : C w.drew) (h : wpQuiet P front.toArray C (fun a' => ∀ w', C w' → wpOps P (front ++ tail).toArray Q (List.range' front.length tail.length) a' w') front a) : (Code.region id (front ++ tail).toArray true).wp P Q a w := by
  simp only [Region.lexB, Bool.and_eq_true] at hF
  have hA := wpAnyQ_lex (P := P) (C := C) (md := .any) hF.1 front 0 (Array.replicate front.length false) a (by simp) (by simpa using hF.2) h
  obtain ⟨ops, hops⟩ : ∃ ops, ops = (front ++ tail).toArray := ⟨_, rfl⟩
  have hsz : ops.size = front.length + tail.length := by rw [hops]; simp
  have hlo : ∀ i, i < front.length → ops[i]? = front.toArray[i]? := fun i hi => by rw [hops]; simp [List.getElem?_append_left hi]
  have htl : 0 < tail.length := List.length_pos_iff.2 hne
  have hfront : ∀ {i : Nat} {K : Act → Prop} {a : Act}, i < front.length → qOp P front.toArray C i K a → qOp P ops C i K a := fun hi hq => by rw [hops]; exact qOp_front hi hg hq
  rw [← hops] at hT hB hA ⊢
  clear h
  obtain ⟨m, hmm⟩ : ∃ m, m = front.length := ⟨_, rfl⟩
  rw [← hmm] at hT hsz hlo
  rw [← hmm] at hA
  have hfr : ∀ {i : Nat} {K : Act → Prop} {a : Act}, i < m → qOp P front.toArray C i K a → qOp P ops C i K a := fun hi hq => hfront (by omega) hq
  clear hfront
  obtain ⟨R, hR⟩ : ∃ R : Act → Prop, R = fun a' => ∀ w', C w' → wpOps P ops Q (List.range' m tail.length) a' w' := ⟨_, rfl⟩
  rw [← hR] at hA
  have ready_lt : ∀ {t : Array Bool} {i : Nat}, i ∈ Region.ready .any ops t → i < ops.size ∧ t.getD i true = false := fun {t i} hi => by
    obtain ⟨h1, q, hq, _⟩ := mem_ready.1 hi
    exact ⟨(Array.getElem?_eq_some_iff.1 hq).1, h1⟩
  have tB : ∀ (t : Array Bool) (a : Act) (w : World) (i k : Nat), closedT ops t → t.size = ops.size → m ≤ k → (∀ j, j < k → t.getD j false = true) → (∀ j, k ≤ j → t.getD j false = false) → wpOps P ops Q (List.range' k (ops.size - k)) a w → i ∈ Region.ready .any ops t →
      i = k ∧ wpOp P ops Q i (wpOps P ops Q (List.range' (k + 1) (ops.size - (k + 1)))) a w := fun t a w i k hc hs hk hy hn hw hi => by
    obtain ⟨hlt, hun⟩ := ready_lt hi
    rw [getD_tf (by omega)] at hun
    have hki : k ≤ i := by
      by_cases c : i < k
      · have := hy i c; rw [hun] at this; cases this
      · omega
    have hall := tail_all hT (by omega) hc hi
    have e : i = k := by
      by_cases c : i = k
      · exact c
      · have := hall (i - k - 1) k (by omega)
        rw [hn k (Nat.le_refl _)] at this
        cases this
    subst e
    refine ⟨rfl, ?_⟩
    rw [show ops.size - i = (ops.size - (i + 1)) + 1 by omega, List.range'_succ, wpOps_cons] at hw
    exact hw
  have mkB : ∀ (t : Array Bool) (k : Nat), t.size = ops.size → k < ops.size → (∀ j, j < k → t.getD j false = true) → (∀ j, k ≤ j → t.getD j false = false) → (∀ j, j < k + 1 → (t.setIfInBounds k true).getD j false = true) ∧ (∀ j, k + 1 ≤ j → (t.setIfInBounds k true).getD j false = false) := fun t k hs hk hy hn => by
    refine ⟨fun j hj => ?_, fun j hj => ?_⟩
    · by_cases e : k = j
      · subst e; exact set_mark (by omega)
      · rw [getD_set_ne false e]; exact hy j (by omega)
    · rw [getD_set_ne false (by omega)]; exact hn j (by omega)
  refine wp_region_inv hm (fun t a w => t.size = ops.size ∧ closedT ops t ∧ ((∃ fuel, C w ∧ wpAnyQ P .any front.toArray C R fuel (t.extract 0 m) a ∧ ∀ j, m ≤ j → t.getD j false = false) ∨ (∃ k, m ≤ k ∧ k ≤ ops.size ∧ (∀ j, j < k → t.getD j false = true) ∧ (∀ j, k ≤ j → t.getD j false = false) ∧ wpOps P ops Q (List.range' k (ops.size - k)) a w))) ?_ ?_ ?_
  · have nn : ∀ j, (Array.replicate ops.size false).getD j false = false := fun j => by
      rw [Array.getD_eq_getD_getElem?, Array.getElem?_replicate]; split <;> rfl
    have hc0 : closedT ops (Array.replicate ops.size false) := fun k j hk _ => by rw [nn] at hk; cases hk
    refine ⟨by simp, hc0, .inl ⟨m, hC, ?_, fun j _ => nn j⟩⟩
    have e : (Array.replicate ops.size false).extract 0 m = Array.replicate m false := by
      apply Array.ext_getElem?
      intro j
      rw [Array.getElem?_extract, Array.getElem?_replicate, Array.getElem?_replicate]
      simp only [Array.size_replicate, Nat.zero_add, Nat.sub_zero, hsz]
      by_cases c : j < m
      · rw [if_pos (by omega), if_pos (by omega), if_pos c]
      · rw [if_neg (by omega), if_neg c]
    rw [e]
    exact hA
  · rintro t a w i ⟨hs, hc, h⟩ hi
    obtain ⟨hlt, hun⟩ := ready_lt hi
    rcases h with ⟨fuel, hw, hq, hn⟩ | ⟨k, k1, k2, hy, hn, ho⟩
    · by_cases him : i < m
      · have hr : i ∈ Region.ready .any front.toArray (t.extract 0 m) := by
          obtain ⟨_, o, ho, hd⟩ := mem_ready.1 hi
          refine mem_ready.2 ⟨by rw [getD_take him]; exact hun, o, by rw [← hlo i him]; exact ho, fun e he hb => ?_⟩
          have hl : e.on < i := by
            unfold backB at hB
            rw [List.all_eq_true] at hB
            have := hB i (List.mem_range.2 hlt)
            rw [ho] at this
            simp only [Option.map_some, Option.getD_some, Array.all_eq_true_iff_forall_mem] at this
            have l := this e he
            rw [hb, Bool.not_true, Bool.or_false, decide_eq_true_eq] at l
            exact l
          rw [getD_take (by omega)]
          exact hd e he hb
        cases fuel with
        | zero => have := hq.1; rw [this] at hr; cases hr
        | succ fuel =>
          have h2 := wpOp_of_qOp (Q' := Q) (K' := fun a' w' => C w' ∧ wpAnyQ P .any front.toArray C R fuel ((t.extract 0 m).setIfInBounds i true) a') hw (fun a' w' hw' hk => ⟨hw', hk⟩) (hfr him (hq.2 i hr))
          refine wpOp_mono (fun a' w' hk => ⟨by rw [Array.size_setIfInBounds]; exact hs, hc.step hi, .inl ⟨fuel, hk.1, ?_, fun j hj => ?_⟩⟩) h2
          · rw [take_set him (by omega)]; exact hk.2
          · rw [getD_set_ne false (by omega)]; exact hn j hj
      · have hall := tail_all hT (by omega) hc hi
        have him2 : i = m := by
          by_cases c : i = m
          · exact c
          · have := hall (i - m - 1) m (by omega)
            rw [hn m (Nat.le_refl _)] at this
            cases this
        have hy : ∀ j, j < m → t.getD j false = true := fun j hj => hall (i - j - 1) j (by omega)
        have hr : Region.ready .any front.toArray (t.extract 0 m) = [] := by
          rw [List.eq_nil_iff_forall_not_mem]
          intro j hj
          obtain ⟨h1, q, hq', _⟩ := mem_ready.1 hj
          have hjm : j < m := by
            have := (Array.getElem?_eq_some_iff.1 hq').1
            rw [List.size_toArray] at this
            omega
          rw [getD_take hjm, getD_tf (by omega), hy j hjm] at h1
          cases h1
        have hRa : R a := by
          cases fuel with
          | zero => exact hq.2
          | succ fuel => exact hq.1 hr
        rw [hR] at hRa
        have ho := hRa w hw
        rw [show tail.length = ops.size - m by omega] at ho
        obtain ⟨rfl, h2⟩ := tB t a w i m hc hs (Nat.le_refl _) hy hn ho hi
        obtain ⟨m1, m2⟩ := mkB t i hs (by omega) hy hn
        exact wpOp_mono (fun a' w' hk => ⟨by rw [Array.size_setIfInBounds]; exact hs, hc.step hi, .inr ⟨i + 1, by omega, by omega, m1, m2, hk⟩⟩) h2
    · obtain ⟨rfl, h2⟩ := tB t a w i k hc hs k1 hy hn ho hi
      obtain ⟨m1, m2⟩ := mkB t i hs (by omega) hy hn
      exact wpOp_mono (fun a' w' hk => ⟨by rw [Array.size_setIfInBounds]; exact hs, hc.step hi, .inr ⟨i + 1, by omega, by omega, m1, m2, hk⟩⟩) h2
  · rintro t a w ⟨hs, hc, h⟩ hr
    have hall := ready_done hB hs hr
    rcases h with ⟨fuel, hw, hq, hn⟩ | ⟨k, k1, k2, hy, hn, ho⟩
    · have := hall m (by omega)
      rw [hn m (Nat.le_refl _)] at this
      cases this
    · have e : k = ops.size := by
        by_cases c : k = ops.size
        · exact c
        · have := hall k (by omega)
          rw [hn k (Nat.le_refl _)] at this
          cases this
      rw [e, Nat.sub_self] at ho
      exact ho
/-- The same over a region that is written out: m operations are the front. -/
theorem wp_region_last {l : List Oper} {id : Nat} {a : Act} {w : World} (m : Nat) (hm : P.follows .mixedOrders = true) (hF : Region.lexB .any (l.take m).toArray = true) (hT : (tailB l.toArray m && backB l.toArray && guardB (l.take m) && decide (m < l.length)) = true)
    (h : wpQuiet P (l.take m).toArray (fun w' => ∃ n, w' = w.drewN n) (fun a' => ∀ w', (∃ n, w' = w.drewN n) → wpOps P l.toArray Q (List.range' m (l.length - m)) a' w') (l.take m) a) : (Code.region id l.toArray true).wp P Q a w := by
  simp only [Bool.and_eq_true, decide_eq_true_eq] at hT
  obtain ⟨⟨⟨h1, h2⟩, h3⟩, h4⟩ := hT
  have e : l.take m ++ l.drop m = l := List.take_append_drop m l
  have hl : (l.take m).length = m := by rw [List.length_take]; omega
  have := wp_region_tail (P := P) (C := fun w' => ∃ n, w' = w.drewN n) (Q := Q) (front := l.take m) (tail := l.drop m) (id := id) (a := a) (w := w) hm hF (by rw [e, hl]; exact h1) (by rw [e]; exact h2) h3 (by intro c; have := congrArg List.length c; rw [List.length_drop, List.length_nil] at this; omega) ⟨1, rfl⟩ (by rw [e, hl, List.length_drop]; exact h)
  rw [e] at this
  exact this
theorem wpOps_nil {ops : Array Oper} {a : Act} {w : World} (h : Q .normal a w) : wpOps P ops Q [] a w := h
theorem wpOps_one {ops : Array Oper} {i : Nat} {rest : List Nat} {o : Oper} {a : Act} {w : World} (hi : ops[i]? = some o) (hg : o.guard = none) (h : o.wp P a w (wpOps P ops Q rest) Q) : wpOps P ops Q (i :: rest) a w := by
  rw [wpOps_cons]
  exact wpOp_of hi hg h
theorem wpQuiet_buildv_of {ops : Array Oper} {rest : List Oper} {o : Oper} {a : Act} {R : Act → Prop} {v : Value} {vs : Array (Nat × Value)} (t : TypeId) (hr : ∀ w, (Instr.build t vs).run P w = .ok v w) (ps : Array (Nat × Operand)) (hg : o.guard = none) (ho : o.op = .build t ps) (hx : (ps.map fun (i, x) => (i, a.eval x)) = vs) (h : wpQuiet P ops C R rest (a.put o.dst v)) : wpQuiet P ops C R (o :: rest) a := by
  unfold wpQuiet
  rw [if_pos (by simp [Region.wanted, hg])]
  refine ⟨v, fun w hw => ?_, h⟩
  subst hx
  unfold Oper.quietAt execOp
  simp only [ho, Sem.run_bind, hr, Result.andThen_ok, Sem.run_pure]
  exact ⟨rfl, rfl⟩
end

end Go.Proofs.YtpjlmmiceiionaaDoor
