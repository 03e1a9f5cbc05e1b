/- Joined: LQ, RV. -/
import Derived.Test.YtclcickhgoiooaaEM
import Derived.Test.YtclcickhgoiooaaLA
import Derived.Test.YtclcickhgoiooaaRXG
import Derived.Laws.Tables
import Derived.Deep.WholeRow
/- A region that draws its order: its front only reads, its tail stands in one order. -/
namespace Go.Proofs.Ytclcickhgoiooaa
open Go.RowKit

/-- Does the operation k wait for j? -/
def waitsB (ops : Array Oper) (k j : Nat) : Bool := ((ops[k]?).map fun o => o.after.any fun e => e.on == j && Region.binds .any e).getD false
/-- From m on each waits, in the end, for all ahead of it. -/
def tailB (ops : Array Oper) (m : Nat) : Bool := (List.range ops.size).all fun i => decide (i < m) || (List.range i).all fun j => (List.range (i + 1)).any fun k => decide (j < k) && waitsB ops k j
/-- Each waits for earlier ones alone. -/
def backB (ops : Array Oper) : Bool := (List.range ops.size).all fun i => ((ops[i]?).map fun q => q.after.all fun e => decide (e.on < i) || !Region.binds .any e).getD true
/-- The guards of the front look at the front. -/
def guardB (front : List Oper) : Bool := front.all fun o => match o.guard with | none => true | some (g, _) => decide (g < front.length)

theorem ready_waits {ops : Array Oper} {t : Array Bool} {k j : Nat} (h : k ∈ Region.ready .any ops t) (hd : waitsB ops k j = true) : t.getD j false = true := by
  obtain ⟨_, q, hq, ha⟩ := mem_ready.1 h
  unfold waitsB at hd
  rw [hq] at hd
  simp only [Option.map_some, Option.getD_some] at hd
  rw [Array.any_eq_true] at hd
  obtain ⟨i, hi, h2⟩ := hd
  have he : q.after[i] ∈ q.after := Array.getElem_mem hi
  rw [Bool.and_eq_true, beq_iff_eq] at h2
  rw [← h2.1]
  exact ha _ he h2.2
theorem ready_done {ops : Array Oper} {t : Array Bool} (hd : backB ops = true) (hs : t.size = ops.size) (hr : Region.ready .any ops t = []) : ∀ i, i < ops.size → t.getD i false = true := by
  intro i
  induction i using Nat.strongRecOn with
  | _ i ih =>
    intro hi
    cases c : t.getD i false
    · have hq : ops[i]? = some ops[i] := Array.getElem?_eq_getElem hi
      have hm : i ∈ Region.ready .any ops t := by
        refine mem_ready.2 ⟨?_, _, hq, fun e he hb => ?_⟩
        · rw [Array.getD_eq_getD_getElem?, Array.getElem?_eq_getElem (by omega)] at c ⊢
          exact c
        · unfold backB at hd
          rw [List.all_eq_true] at hd
          have := hd i (List.mem_range.2 hi)
          rw [hq] at this
          simp only [Option.map_some, Option.getD_some, Array.all_eq_true_iff_forall_mem] at this
          have l := this e he
          rw [hb, Bool.not_true, Bool.or_false, decide_eq_true_eq] at l
          exact ih e.on l (by omega)
      rw [hr] at hm
      cases hm
    · rfl
/-- What is done waits for nothing that is not. -/
def closedT (ops : Array Oper) (t : Array Bool) : Prop := ∀ k j, t.getD k false = true → waitsB ops k j = true → t.getD j false = true
theorem tail_all {ops : Array Oper} {m i : Nat} {t : Array Bool} (hB : tailB ops m = true) (hm : m ≤ i) (hc : closedT ops t) (hi : i ∈ Region.ready .any ops t) : ∀ d j, j + d + 1 = i → t.getD j false = true := by
  have hlt : i < ops.size := by obtain ⟨_, q, hq, _⟩ := mem_ready.1 hi; exact (Array.getElem?_eq_some_iff.1 hq).1
  unfold tailB at hB
  rw [List.all_eq_true] at hB
  have h0 := hB i (List.mem_range.2 hlt)
  rw [decide_eq_false (by omega), Bool.false_or, List.all_eq_true] at h0
  intro d
  induction d using Nat.strongRecOn with
  | _ d ih =>
    intro j hj
    have h1 := h0 j (List.mem_range.2 (by omega))
    rw [List.any_eq_true] at h1
    obtain ⟨k, hk, h2⟩ := h1
    rw [Bool.and_eq_true, decide_eq_true_eq] at h2
    have hk' := List.mem_range.1 hk
    by_cases e : k = i
    · subst e; exact ready_waits hi h2.2
    · exact hc k j (ih (i - k - 1) (by omega) k (by omega)) h2.2

section
variable {P : Program} {C : World → Prop} {Q : Exit → Act → World → Prop}
theorem qOp_front {front tail : List Oper} {i : Nat} {K : Act → Prop} {a : Act} (hi : i < front.length) (hg : guardB front = true) (h : qOp P front.toArray C i K a) : qOp P (front ++ tail).toArray C i K a := by
  have e : (front ++ tail).toArray[i]? = front.toArray[i]? := by simp [List.getElem?_append_left hi]
  unfold qOp at *
  rw [e]
  cases ho : front.toArray[i]? with
  | none => rw [ho] at h; exact h
  | some o =>
    rw [ho] at h
    have hw : Region.wanted o (yielded (front ++ tail).toArray a.tmps) = Region.wanted o (yielded front.toArray a.tmps) := by
      unfold guardB at hg
      rw [List.all_eq_true] at hg
      have hm : o ∈ front := by
        rw [List.getElem?_toArray] at ho
        exact List.mem_of_getElem? ho
      have := hg o hm
      unfold Region.wanted
      cases hgd : o.guard with
      | none => rfl
      | some p =>
        obtain ⟨g, b⟩ := p
        rw [hgd] at this
        have hl : g < front.length := by simpa using this
        have : yielded (front ++ tail).toArray a.tmps g = yielded front.toArray a.tmps g := by
          unfold yielded
          simp [List.getElem?_append_left hl]
        simp only [this]
    simp only [hw]
    exact h
theorem getD_take {t : Array Bool} {m i : Nat} {d : Bool} (h : i < m) : (t.extract 0 m).getD i d = t.getD i d := by
  rw [Array.getD_eq_getD_getElem?, Array.getD_eq_getD_getElem?, Array.getElem?_extract]
  by_cases c : i < t.size
  · rw [if_pos (by omega), Nat.zero_add]
  · rw [if_neg (by omega)]; simp [c]
theorem set_mark {t : Array Bool} {i : Nat} (h : i < t.size) : (t.setIfInBounds i true).getD i false = true := by
  rw [Array.getD_eq_getD_getElem?, Array.getElem?_setIfInBounds, if_pos rfl, if_pos h]; rfl
theorem getD_tf {t : Array Bool} {j : Nat} (hj : j < t.size) : t.getD j true = t.getD j false := by
  rw [Array.getD_eq_getD_getElem?, Array.getD_eq_getD_getElem?, Array.getElem?_eq_getElem hj]; rfl
theorem closedT.step {ops : Array Oper} {t : Array Bool} {i : Nat} (h : closedT ops t) (hi : i ∈ Region.ready .any ops t) : closedT ops (t.setIfInBounds i true) := fun k j hk hw => by
  have up : t.getD j false = true → (t.setIfInBounds i true).getD j false = true := fun hj => by
    by_cases e : i = j
    · subst e
      refine set_mark ?_
      by_cases c : i < t.size
      · exact c
      · rw [Array.getD_eq_getD_getElem?] at hj; simp [c] at hj
    · rw [getD_set_ne false e]; exact hj
  by_cases e : i = k
  · subst e; exact up (ready_waits hi hw)
  · rw [getD_set_ne false e] at hk
    exact up (h k j hk hw)
theorem take_set {t : Array Bool} {m i : Nat} (hi : i < m) (hm : m ≤ t.size) : (t.setIfInBounds i true).extract 0 m = (t.extract 0 m).setIfInBounds i true := by
  apply Array.ext_getElem?
  intro j
  rw [Array.getElem?_extract, Array.getElem?_setIfInBounds, Array.getElem?_setIfInBounds, Array.getElem?_extract]
  simp only [Array.size_setIfInBounds, Array.size_extract, Nat.zero_add, Nat.sub_zero]
  rw [Nat.min_eq_left hm]
  by_cases e : i = j
  · subst e; rw [if_pos rfl, if_pos rfl, if_pos hi, if_pos hi, if_pos (by omega)]
  · rw [if_neg e, if_neg e]
/-- The front is walked once, in the text's order; the tail behind it. -/
theorem wp_region_tail {front tail : List Oper} {id : Nat} {a : Act} {w : World} (hm : P.follows .mixedOrders = true) (hF : Region.lexB .any front.toArray = true) (hT : tailB (front ++ tail).toArray front.length = true) (hB : backB (front ++ tail).toArray = true) (hg : guardB front = true) (hne : tail ≠ [])
    (hC : C w.drew) (h : wpQuiet P front.toArray C (fun a' => ∀ w', C w' → wpOps P (front ++ tail).toArray Q (List.range' front.length tail.length) a' w') front a) : (Code.region id (front ++ tail).toArray true).wp P Q a w := by
  simp only [Region.lexB, Bool.and_eq_true] at hF
  have hA := wpAnyQ_lex (P := P) (C := C) (md := .any) hF.1 front 0 (Array.replicate front.length false) a (by simp) (by simpa using hF.2) h
  obtain ⟨ops, hops⟩ : ∃ ops, ops = (front ++ tail).toArray := ⟨_, rfl⟩
  have hsz : ops.size = front.length + tail.length := by rw [hops]; simp
  have hlo : ∀ i, i < front.length → ops[i]? = front.toArray[i]? := fun i hi => by rw [hops]; simp [List.getElem?_append_left hi]
  have htl : 0 < tail.length := List.length_pos_iff.2 hne
  have hfront : ∀ {i : Nat} {K : Act → Prop} {a : Act}, i < front.length → qOp P front.toArray C i K a → qOp P ops C i K a := fun hi hq => by rw [hops]; exact qOp_front hi hg hq
  rw [← hops] at hT hB hA ⊢
  clear h
  obtain ⟨m, hmm⟩ : ∃ m, m = front.length := ⟨_, rfl⟩
  rw [← hmm] at hT hsz hlo
  rw [← hmm] at hA
  have hfr : ∀ {i : Nat} {K : Act → Prop} {a : Act}, i < m → qOp P front.toArray C i K a → qOp P ops C i K a := fun hi hq => hfront (by omega) hq
  clear hfront
  obtain ⟨R, hR⟩ : ∃ R : Act → Prop, R = fun a' => ∀ w', C w' → wpOps P ops Q (List.range' m tail.length) a' w' := ⟨_, rfl⟩
  rw [← hR] at hA
  have ready_lt : ∀ {t : Array Bool} {i : Nat}, i ∈ Region.ready .any ops t → i < ops.size ∧ t.getD i true = false := fun {t i} hi => by
    obtain ⟨h1, q, hq, _⟩ := mem_ready.1 hi
    exact ⟨(Array.getElem?_eq_some_iff.1 hq).1, h1⟩
  have tB : ∀ (t : Array Bool) (a : Act) (w : World) (i k : Nat), closedT ops t → t.size = ops.size → m ≤ k → (∀ j, j < k → t.getD j false = true) → (∀ j, k ≤ j → t.getD j false = false) → wpOps P ops Q (List.range' k (ops.size - k)) a w → i ∈ Region.ready .any ops t →
      i = k ∧ wpOp P ops Q i (wpOps P ops Q (List.range' (k + 1) (ops.size - (k + 1)))) a w := fun t a w i k hc hs hk hy hn hw hi => by
    obtain ⟨hlt, hun⟩ := ready_lt hi
    rw [getD_tf (by omega)] at hun
    have hki : k ≤ i := by
      by_cases c : i < k
      · have := hy i c; rw [hun] at this; cases this
      · omega
    have hall := tail_all hT (by omega) hc hi
    have e : i = k := by
      by_cases c : i = k
      · exact c
      · have := hall (i - k - 1) k (by omega)
        rw [hn k (Nat.le_refl _)] at this
        cases this
    subst e
    refine ⟨rfl, ?_⟩
    rw [show ops.size - i = (ops.size - (i + 1)) + 1 by omega, List.range'_succ, wpOps_cons] at hw
    exact hw
  have mkB : ∀ (t : Array Bool) (k : Nat), t.size = ops.size → k < ops.size → (∀ j, j < k → t.getD j false = true) → (∀ j, k ≤ j → t.getD j false = false) → (∀ j, j < k + 1 → (t.setIfInBounds k true).getD j false = true) ∧ (∀ j, k + 1 ≤ j → (t.setIfInBounds k true).getD j false = false) := fun t k hs hk hy hn => by
    refine ⟨fun j hj => ?_, fun j hj => ?_⟩
    · by_cases e : k = j
      · subst e; exact set_mark (by omega)
      · rw [getD_set_ne false e]; exact hy j (by omega)
    · rw [getD_set_ne false (by omega)]; exact hn j (by omega)
  refine wp_region_inv hm (fun t a w => t.size = ops.size ∧ closedT ops t ∧ ((∃ fuel, C w ∧ wpAnyQ P .any front.toArray C R fuel (t.extract 0 m) a ∧ ∀ j, m ≤ j → t.getD j false = false) ∨ (∃ k, m ≤ k ∧ k ≤ ops.size ∧ (∀ j, j < k → t.getD j false = true) ∧ (∀ j, k ≤ j → t.getD j false = false) ∧ wpOps P ops Q (List.range' k (ops.size - k)) a w))) ?_ ?_ ?_
  · have nn : ∀ j, (Array.replicate ops.size false).getD j false = false := fun j => by
      rw [Array.getD_eq_getD_getElem?, Array.getElem?_replicate]; split <;> rfl
    have hc0 : closedT ops (Array.replicate ops.size false) := fun k j hk _ => by rw [nn] at hk; cases hk
    refine ⟨by simp, hc0, .inl ⟨m, hC, ?_, fun j _ => nn j⟩⟩
    have e : (Array.replicate ops.size false).extract 0 m = Array.replicate m false := by
      apply Array.ext_getElem?
      intro j
      rw [Array.getElem?_extract, Array.getElem?_replicate, Array.getElem?_replicate]
      simp only [Array.size_replicate, Nat.zero_add, Nat.sub_zero, hsz]
      by_cases c : j < m
      · rw [if_pos (by omega), if_pos (by omega), if_pos c]
      · rw [if_neg (by omega), if_neg c]
    rw [e]
    exact hA
  · rintro t a w i ⟨hs, hc, h⟩ hi
    obtain ⟨hlt, hun⟩ := ready_lt hi
    rcases h with ⟨fuel, hw, hq, hn⟩ | ⟨k, k1, k2, hy, hn, ho⟩
    · by_cases him : i < m
      · have hr : i ∈ Region.ready .any front.toArray (t.extract 0 m) := by
          obtain ⟨_, o, ho, hd⟩ := mem_ready.1 hi
          refine mem_ready.2 ⟨by rw [getD_take him]; exact hun, o, by rw [← hlo i him]; exact ho, fun e he hb => ?_⟩
          have hl : e.on < i := by
            unfold backB at hB
            rw [List.all_eq_true] at hB
            have := hB i (List.mem_range.2 hlt)
            rw [ho] at this
            simp only [Option.map_some, Option.getD_some, Array.all_eq_true_iff_forall_mem] at this
            have l := this e he
            rw [hb, Bool.not_true, Bool.or_false, decide_eq_true_eq] at l
            exact l
          rw [getD_take (by omega)]
          exact hd e he hb
        cases fuel with
        | zero => have := hq.1; rw [this] at hr; cases hr
        | succ fuel =>
          have h2 := wpOp_of_qOp (Q' := Q) (K' := fun a' w' => C w' ∧ wpAnyQ P .any front.toArray C R fuel ((t.extract 0 m).setIfInBounds i true) a') hw (fun a' w' hw' hk => ⟨hw', hk⟩) (hfr him (hq.2 i hr))
          refine wpOp_mono (fun a' w' hk => ⟨by rw [Array.size_setIfInBounds]; exact hs, hc.step hi, .inl ⟨fuel, hk.1, ?_, fun j hj => ?_⟩⟩) h2
          · rw [take_set him (by omega)]; exact hk.2
          · rw [getD_set_ne false (by omega)]; exact hn j hj
      · have hall := tail_all hT (by omega) hc hi
        have him2 : i = m := by
          by_cases c : i = m
          · exact c
          · have := hall (i - m - 1) m (by omega)
            rw [hn m (Nat.le_refl _)] at this
            cases this
        have hy : ∀ j, j < m → t.getD j false = true := fun j hj => hall (i - j - 1) j (by omega)
        have hr : Region.ready .any front.toArray (t.extract 0 m) = [] := by
          rw [List.eq_nil_iff_forall_not_mem]
          intro j hj
          obtain ⟨h1, q, hq', _⟩ := mem_ready.1 hj
          have hjm : j < m := by
            have := (Array.getElem?_eq_some_iff.1 hq').1
            rw [List.size_toArray] at this
            omega
          rw [getD_take hjm, getD_tf (by omega), hy j hjm] at h1
          cases h1
        have hRa : R a := by
          cases fuel with
          | zero => exact hq.2
          | succ fuel => exact hq.1 hr
        rw [hR] at hRa
        have ho := hRa w hw
        rw [show tail.length = ops.size - m by omega] at ho
        obtain ⟨rfl, h2⟩ := tB t a w i m hc hs (Nat.le_refl _) hy hn ho hi
        obtain ⟨m1, m2⟩ := mkB t i hs (by omega) hy hn
        exact wpOp_mono (fun a' w' hk => ⟨by rw [Array.size_setIfInBounds]; exact hs, hc.step hi, .inr ⟨i + 1, by omega, by omega, m1, m2, hk⟩⟩) h2
    · obtain ⟨rfl, h2⟩ := tB t a w i k hc hs k1 hy hn ho hi
      obtain ⟨m1, m2⟩ := mkB t i hs (by omega) hy hn
      exact wpOp_mono (fun a' w' hk => ⟨by rw [Array.size_setIfInBounds]; exact hs, hc.step hi, .inr ⟨i + 1, by omega, by omega, m1, m2, hk⟩⟩) h2
  · rintro t a w ⟨hs, hc, h⟩ hr
    have hall := ready_done hB hs hr
    rcases h with ⟨fuel, hw, hq, hn⟩ | ⟨k, k1, k2, hy, hn, ho⟩
    · have := hall m (by omega)
      rw [hn m (Nat.le_refl _)] at this
      cases this
    · have e : k = ops.size := by
        by_cases c : k = ops.size
        · exact c
        · have := hall k (by omega)
          rw [hn k (Nat.le_refl _)] at this
          cases this
      rw [e, Nat.sub_self] at ho
      exact ho
/-- The same over a region that is written out: m operations are the front. -/
theorem wp_region_last {l : List Oper} {id : Nat} {a : Act} {w : World} (m : Nat) (hm : P.follows .mixedOrders = true) (hF : Region.lexB .any (l.take m).toArray = true) (hT : (tailB l.toArray m && backB l.toArray && guardB (l.take m) && decide (m < l.length)) = true)
    (h : wpQuiet P (l.take m).toArray (fun w' => ∃ n, w' = w.drewN n) (fun a' => ∀ w', (∃ n, w' = w.drewN n) → wpOps P l.toArray Q (List.range' m (l.length - m)) a' w') (l.take m) a) : (Code.region id l.toArray true).wp P Q a w := by
  simp only [Bool.and_eq_true, decide_eq_true_eq] at hT
  obtain ⟨⟨⟨h1, h2⟩, h3⟩, h4⟩ := hT
  have e : l.take m ++ l.drop m = l := List.take_append_drop m l
  have hl : (l.take m).length = m := by rw [List.length_take]; omega
  have := wp_region_tail (P := P) (C := fun w' => ∃ n, w' = w.drewN n) (Q := Q) (front := l.take m) (tail := l.drop m) (id := id) (a := a) (w := w) hm hF (by rw [e, hl]; exact h1) (by rw [e]; exact h2) h3 (by intro c; have := congrArg List.length c; rw [List.length_drop, List.length_nil] at this; omega) ⟨1, rfl⟩ (by rw [e, hl, List.length_drop]; exact h)
  rw [e] at this
  exact this
theorem wpOps_nil {ops : Array Oper} {a : Act} {w : World} (h : Q .normal a w) : wpOps P ops Q [] a w := h
theorem wpOps_one {ops : Array Oper} {i : Nat} {rest : List Nat} {o : Oper} {a : Act} {w : World} (hi : ops[i]? = some o) (hg : o.guard = none) (h : o.wp P a w (wpOps P ops Q rest) Q) : wpOps P ops Q (i :: rest) a w := by
  rw [wpOps_cons]
  exact wpOp_of hi hg h
theorem wpQuiet_buildv_of {ops : Array Oper} {rest : List Oper} {o : Oper} {a : Act} {R : Act → Prop} {v : Value} {vs : Array (Nat × Value)} (t : TypeId) (hr : ∀ w, (Instr.build t vs).run P w = .ok v w) (ps : Array (Nat × Operand)) (hg : o.guard = none) (ho : o.op = .build t ps) (hx : (ps.map fun (i, x) => (i, a.eval x)) = vs) (h : wpQuiet P ops C R rest (a.put o.dst v)) : wpQuiet P ops C R (o :: rest) a := by
  unfold wpQuiet
  rw [if_pos (by simp [Region.wanted, hg])]
  refine ⟨v, fun w hw => ?_, h⟩
  subst hx
  unfold Oper.quietAt execOp
  simp only [ho, Sem.run_bind, hr, Result.andThen_ok, Sem.run_pure]
  exact ⟨rfl, rfl⟩
end

end Go.Proofs.Ytclcickhgoiooaa

/- A region that draws its order, by values, boxes and what is put into them. -/
namespace Go.Proofs.Ytclcickhgoiooaa
open Go.RowKit

/-! ### frames with two ranges laid anew -/
theorem act_ext {a b : Act} (h1 : a.tmps = b.tmps) (h2 : a.defers = b.defers) : a = b := by cases a; cases b; cases h1; cases h2; rfl
def fr2 (a : Act) (s1 n1 s2 n2 : Nat) (U : Nat → Value) : Act := layA (layA a s1 n1 (fun i => U (s1 + i))) s2 n2 (fun i => U (s2 + i))
def in2 (s1 n1 s2 n2 d : Nat) : Prop := (s1 ≤ d ∧ d < s1 + n1) ∨ (s2 ≤ d ∧ d < s2 + n2)
theorem layA_size (a : Act) (s n : Nat) (u : Nat → Value) : (layA a s n u).tmps.size = a.tmps.size := lays_size s u a.tmps n
theorem fr2_size (a : Act) (s1 n1 s2 n2 : Nat) (U : Nat → Value) : (fr2 a s1 n1 s2 n2 U).tmps.size = a.tmps.size := by unfold fr2; rw [layA_size, layA_size]
theorem fr2_get (a : Act) (s1 n1 s2 n2 : Nat) (U : Nat → Value) (i : Nat) : (fr2 a s1 n1 s2 n2 U).tmps[i]? = if ((s1 ≤ i ∧ i < s1 + n1) ∨ (s2 ≤ i ∧ i < s2 + n2)) ∧ i < a.tmps.size then some (U i) else a.tmps[i]? := by
  show (lays s2 _ n2 (lays s1 _ n1 a.tmps))[i]? = _
  rw [lays_get, lays_get, lays_size]
  by_cases c2 : s2 ≤ i ∧ i < s2 + n2 ∧ i < a.tmps.size
  · rw [if_pos c2, if_pos ⟨.inr ⟨c2.1, c2.2.1⟩, c2.2.2⟩, show s2 + (i - s2) = i by omega]
  · rw [if_neg c2]
    by_cases c1 : s1 ≤ i ∧ i < s1 + n1 ∧ i < a.tmps.size
    · rw [if_pos c1, if_pos ⟨.inl ⟨c1.1, c1.2.1⟩, c1.2.2⟩, show s1 + (i - s1) = i by omega]
    · rw [if_neg c1, if_neg (by omega)]
section
variable {a : Act} {s1 n1 s2 n2 : Nat} {U : Nat → Value}
theorem fr2_in {d : Nat} (h : in2 s1 n1 s2 n2 d) (hs : d < a.tmps.size) : (fr2 a s1 n1 s2 n2 U).eval (.tmp d) = U d := by
  show (fr2 a s1 n1 s2 n2 U).tmps.getD d undef = _
  rw [Array.getD_eq_getD_getElem?, fr2_get, if_pos ⟨h, hs⟩]; rfl
theorem fr2_out {d : Nat} (h : ¬ in2 s1 n1 s2 n2 d) : (fr2 a s1 n1 s2 n2 U).eval (.tmp d) = a.eval (.tmp d) := by
  show (fr2 a s1 n1 s2 n2 U).tmps.getD d undef = a.tmps.getD d undef
  rw [Array.getD_eq_getD_getElem?, fr2_get, if_neg (fun c => h c.1), Array.getD_eq_getD_getElem?]
theorem fr2_put {d : Nat} (h : in2 s1 n1 s2 n2 d) (hs : d < a.tmps.size) (v : Value) : (fr2 a s1 n1 s2 n2 U).put (some d) v = fr2 a s1 n1 s2 n2 (updV U d v) := by
  have e : ((fr2 a s1 n1 s2 n2 U).put (some d) v).tmps = (fr2 a s1 n1 s2 n2 (updV U d v)).tmps := by
    apply Array.ext_getElem?
    intro i
    show ((fr2 a s1 n1 s2 n2 U).tmps.setIfInBounds d v)[i]? = _
    rw [Array.getElem?_setIfInBounds, fr2_get, fr2_get, fr2_size]
    unfold updV
    by_cases c : d = i
    · subst c
      rw [if_pos rfl, if_pos hs, if_pos ⟨h, hs⟩, if_pos rfl]
    · rw [if_neg c, if_neg (show ¬ i = d from fun e => c e.symm)]
  exact act_ext e rfl
theorem fr2_self : fr2 a s1 n1 s2 n2 (fun d => a.eval (.tmp d)) = a := by
  have e : (fr2 a s1 n1 s2 n2 (fun d => a.eval (.tmp d))).tmps = a.tmps := by
    apply Array.ext_getElem?
    intro i
    rw [fr2_get]
    split
    · rename_i c
      show some (a.tmps.getD i undef) = _
      rw [Array.getD_eq_getD_getElem?, Array.getElem?_eq_getElem c.2]; rfl
    · rfl
  exact act_ext e rfl
end

/-! ### the region -/
/-- What an operation does: a value into a slot; a box with a row; a row put into the box that operation j makes. -/
abbrev RK : Type := (Nat × (Value → World → Prop)) ⊕ (Nat × TypeId × List Value) ⊕ (Nat × TypeId × List Value)
abbrev RK.val (d : Nat) (V : Value → World → Prop) : RK := Sum.inl (d, V)
abbrev RK.box (d : Nat) (t : TypeId) (Z : List Value) : RK := Sum.inr (Sum.inl (d, t, Z))
abbrev RK.put (j : Nat) (t : TypeId) (Z : List Value) : RK := Sum.inr (Sum.inr (j, t, Z))
def RK.isPut : RK → Bool
  | Sum.inr (Sum.inr _) => true
  | _ => false
/-- What is early is done ahead of all that is put. -/
def earlyB (ops : Array Oper) (isP E : Nat → Bool) : Bool := (List.range ops.size).all fun p => !isP p || (List.range ops.size).all fun j => !E j || (List.range (p + 1)).any fun k => decide (j < k) && (decide (k = p) || E k) && waitsB ops k j
theorem early_done {ops : Array Oper} {isP E : Nat → Bool} {t : Array Bool} (hB : earlyB ops isP E = true) (hc : closedT ops t) {p : Nat} (hp : p < ops.size) (hip : isP p = true) (hd : t.getD p false = true) : ∀ j, j < ops.size → E j = true → t.getD j false = true := by
  unfold earlyB at hB
  rw [List.all_eq_true] at hB
  have h0 := hB p (List.mem_range.2 hp)
  rw [hip, Bool.not_true, Bool.false_or, List.all_eq_true] at h0
  have key : ∀ m j, j < ops.size → E j = true → p - j = m → t.getD j false = true := by
    intro m
    induction m using Nat.strongRecOn with
    | _ m ih =>
      intro j hj he hm
      have h1 := h0 j (List.mem_range.2 hj)
      rw [he, Bool.not_true, Bool.false_or, List.any_eq_true] at h1
      obtain ⟨k, hk, h2⟩ := h1
      simp only [Bool.and_eq_true, Bool.or_eq_true, decide_eq_true_eq] at h2
      have hk' := List.mem_range.1 hk
      obtain ⟨⟨hjk, hkp⟩, hw⟩ := h2
      refine hc k j ?_ hw
      by_cases e : k = p
      · rw [e]; exact hd
      · rcases hkp with c | c
        · exact absurd c e
        · exact ih (p - k) (by omega) k (by omega) c rfl
  exact fun j hj he => key _ j hj he rfl

structure RVG (ops : Array Oper) (kd : Nat → RK) (E : Nat → Bool) (D : Nat → List Nat) (a0 : Act) (w0 : World) (s1 n1 s2 n2 : Nat) : Prop where
  slot : ∀ k d, k < ops.size → ((∃ V, kd k = .val d V) ∨ (∃ t Z, kd k = .box d t Z)) → in2 s1 n1 s2 n2 d ∧ d < a0.tmps.size
  one : ∀ k k' d, k < ops.size → k' < ops.size → ((∃ V, kd k = .val d V) ∨ (∃ t Z, kd k = .box d t Z)) → ((∃ V, kd k' = .val d V) ∨ (∃ t Z, kd k' = .box d t Z)) → k = k'
  keep : ∀ k d V, k < ops.size → kd k = .val d V → ∀ v w w', V v w → Kp w w' → V v w'
  early : earlyB ops (fun p => (kd p).isPut) E = true
  back : backB ops = true
  dep : ∀ k d V, k < ops.size → kd k = .val d V → E k = true ∨ ∀ j dj Vj, j ∈ D k → kd j = .val dj Vj → ∀ v w w', Vj v w → Vj v w'
  need : ((List.range ops.size).all fun k => (D k).all fun j => waitsB ops k j) = true
  vals : ∀ k d V, k < ops.size → kd k = .val d V → ∃ o, ops[k]? = some o ∧ o.guard = none ∧ ∀ U w K Q, Kp w0 w → (∀ j dj Vj, j ∈ D k → kd j = .val dj Vj → Vj (U dj) w) → (∀ v w', Kp w w' → V v w' → K ((fr2 a0 s1 n1 s2 n2 U).put (some d) v) w') → o.wp Try.prog (fr2 a0 s1 n1 s2 n2 U) w K Q
  boxes : ∀ k d t Z, k < ops.size → kd k = .box d t Z → ∃ o, ops[k]? = some o ∧ o.guard = none ∧ o.op = .alloc t ∧ o.dst = some d ∧ ∀ w, (Instr.alloc t true (.tuple #[])).run Try.prog w = .ok (.pointer (some ⟨w.heap.size, 0, none⟩)) (w.alloc (.cells Z.toArray t))
  puts : ∀ k j t Z, k < ops.size → kd k = .put j t Z → ∃ o dj Zj i di Vi, ops[k]? = some o ∧ o.guard = none ∧ o.op = .store t (.tmp dj) (.tmp di) ∧ o.dst = none ∧ j < ops.size ∧ kd j = .box dj t Zj ∧ waitsB ops k j = true ∧ i < ops.size ∧ kd i = .val di Vi ∧ waitsB ops k i = true ∧ (∀ v w, Vi v w → v = .agg Z.toArray) ∧ (∀ v w w', Vi v w → Vi v w') ∧ (Try.prog.info? t).map (·.size) = some Z.length ∧ Zj.length = Z.length ∧ Z.all (·.oneCell') = true
  once : ∀ k k' j t t' Z Z', k < ops.size → k' < ops.size → kd k = .put j t Z → kd k' = .put j t' Z' → k = k'
/-- What holds on the way. -/
structure RJ (ops : Array Oper) (kd : Nat → RK) (w0 : World) (t : Array Bool) (U : Nat → Value) (w : World) : Prop where
  sz : t.size = ops.size
  cl : closedT ops t
  kp : Kp w0 w
  vs : ∀ k d V, k < ops.size → kd k = .val d V → t.getD k false = true → ((∀ p j T Z, p < ops.size → kd p = .put j T Z → t.getD p false = false) ∨ ∀ v w w', V v w → V v w') → V (U d) w
  bs : ∀ k d T Z, k < ops.size → kd k = .box d T Z → t.getD k false = true → ∃ b, U d = .pointer (some ⟨b, 0, none⟩) ∧ w0.heap.size ≤ b ∧ ((∀ p T' Z', p < ops.size → kd p = .put k T' Z' → t.getD p false = false) → RX w b T Z) ∧ (∀ p T' Z', p < ops.size → kd p = .put k T' Z' → t.getD p false = true → RX w b T Z') ∧ b < w.heap.size
  df : ∀ k k' d d' T T' Z Z', k < ops.size → k' < ops.size → kd k = .box d T Z → kd k' = .box d' T' Z' → t.getD k false = true → t.getD k' false = true → k ≠ k' → U d ≠ U d'

def isV (r : RK) (d : Nat) : Prop := (∃ V, r = .val d V) ∨ (∃ t Z, r = .box d t Z)
section
variable {ops : Array Oper} {kd : Nat → RK} {E : Nat → Bool} {D : Nat → List Nat} {a0 : Act} {w0 : World} {s1 n1 s2 n2 : Nat} {t : Array Bool} {U : Nat → Value} {w w' : World}
theorem waits_lt (hB : backB ops = true) {k j : Nat} (h : waitsB ops k j = true) : j < k ∧ k < ops.size := by
  unfold waitsB at h
  cases ho : ops[k]? with
  | none => rw [ho] at h; cases h
  | some o =>
    have hk := (Array.getElem?_eq_some_iff.1 ho).1
    rw [ho] at h
    simp only [Option.map_some, Option.getD_some, Array.any_eq_true] at h
    obtain ⟨i, hi, h2⟩ := h
    rw [Bool.and_eq_true, beq_iff_eq] at h2
    unfold backB at hB
    rw [List.all_eq_true] at hB
    have := hB k (List.mem_range.2 hk)
    rw [ho] at this
    simp only [Option.map_some, Option.getD_some, Array.all_eq_true_iff_forall_mem] at this
    have l := this _ (Array.getElem_mem hi)
    rw [h2.2, Bool.not_true, Bool.or_false, decide_eq_true_eq] at l
    exact ⟨by omega, hk⟩
/-- No put is done. -/
def noPut (ops : Array Oper) (kd : Nat → RK) (t : Array Bool) : Prop := ∀ p j T Z, p < ops.size → kd p = .put j T Z → t.getD p false = false
theorem RJ.more (G : RVG ops kd E D a0 w0 s1 n1 s2 n2) (J : RJ ops kd w0 t U w) {i d : Nat} (hi : i ∈ Region.ready .any ops t) (hl : i < ops.size) (hk : isV (kd i) d) (hp : ∀ j T Z, kd i ≠ .put j T Z) (v : Value) (k : Kp w w')
    (hv : ∀ V, kd i = .val d V → V v w') (hb : ∀ T Z, kd i = .box d T Z → v = .pointer (some ⟨w.heap.size, 0, none⟩) ∧ RX w' w.heap.size T Z) : RJ ops kd w0 (t.setIfInBounds i true) (updV U d v) w' := by
  have ne : ∀ p j T Z, kd p = .put j T Z → (t.setIfInBounds i true).getD p false = t.getD p false := fun p j T Z h => getD_set_ne false (fun e => hp j T Z (e ▸ h))
  have other : ∀ k' d', k' < ops.size → isV (kd k') d' → k' ≠ i → updV U d v d' = U d' ∧ (t.setIfInBounds i true).getD k' false = t.getD k' false := fun k' d' h1 h2 h3 => by
    refine ⟨?_, getD_set_ne false (fun e => h3 e.symm)⟩
    unfold updV
    by_cases e : d' = d
    · exact absurd (G.one k' i d' h1 hl h2 (by rw [e]; exact hk)) h3
    · rw [if_neg e]
  have same : updV U d v d = v := by unfold updV; rw [if_pos rfl]
  refine ⟨by rw [Array.size_setIfInBounds]; exact J.sz, J.cl.step hi, J.kp.trans k, fun k' d' V' h1 h2 h3 h4 => ?_, fun k' d' T Z h1 h2 h3 => ?_, fun k1 k2 d1 d2 T T' Z Z' h1 h2 h3 h4 h5 h6 h7 => ?_⟩
  · by_cases e : k' = i
    · subst e
      have ed : d' = d := by
        rcases hk with ⟨V, hV⟩ | ⟨T, Z, hV⟩
        · rw [h2] at hV; cases hV; rfl
        · rw [h2] at hV; cases hV
      subst ed
      rw [same]
      exact hv V' h2
    · obtain ⟨e1, e2⟩ := other k' d' h1 (.inl ⟨V', h2⟩) e
      rw [e1]
      rw [e2] at h3
      refine G.keep k' d' V' h1 h2 _ w w' (J.vs k' d' V' h1 h2 h3 ?_) k
      rcases h4 with c | c
      · exact .inl fun p j T Z hp1 hp2 => by rw [← ne p j T Z hp2]; exact c p j T Z hp1 hp2
      · exact .inr c
  · by_cases e : k' = i
    · subst e
      have ed : d' = d := by
        rcases hk with ⟨V, hV⟩ | ⟨T, Z, hV⟩
        · rw [h2] at hV; cases hV
        · rw [h2] at hV; cases hV; rfl
      subst ed
      obtain ⟨b1, b2⟩ := hb T Z h2
      refine ⟨w.heap.size, by rw [same]; exact b1, J.kp.size, fun _ => b2, fun p T' Z' hp1 hp2 hp3 => ?_, b2.lt⟩
      rw [ne p _ T' Z' hp2] at hp3
      obtain ⟨o, dj, Zj, i2, di, Vi, q1, q2, q3, q4, q5, q6, q7, _⟩ := G.puts p k' T' Z' hp1 hp2
      have hc := J.cl p k' hp3 q7
      have hu := (mem_ready.1 hi).1
      rw [getD_tf (by rw [J.sz]; exact hl), hc] at hu
      cases hu
    · obtain ⟨e1, e2⟩ := other k' d' h1 (.inr ⟨T, Z, h2⟩) e
      rw [e2] at h3
      obtain ⟨b, b1, b2, b3, b4, b5⟩ := J.bs k' d' T Z h1 h2 h3
      exact ⟨b, by rw [e1]; exact b1, b2, fun c => (b3 fun p T' Z' hp1 hp2 => by rw [← ne p _ T' Z' hp2]; exact c p T' Z' hp1 hp2).kp k, fun p T' Z' hp1 hp2 hp3 => (b4 p T' Z' hp1 hp2 (by rw [← ne p _ T' Z' hp2]; exact hp3)).kp k, Nat.lt_of_lt_of_le b5 k.size⟩
  · by_cases e1 : k1 = i
    · by_cases e2 : k2 = i
      · exact absurd (e1.trans e2.symm) h7
      · obtain ⟨f1, f2⟩ := other k2 d2 h2 (.inr ⟨T', Z', h4⟩) e2
        rw [f2] at h6
        obtain ⟨b, b1, _, _, _, b5⟩ := J.bs k2 d2 T' Z' h2 h4 h6
        subst e1
        have ed : d1 = d := by
          rcases hk with ⟨V, hV⟩ | ⟨T1, Z1, hV⟩
          · rw [h3] at hV; cases hV
          · rw [h3] at hV; cases hV; rfl
        subst ed
        rw [same, f1, b1, (hb T Z h3).1]
        intro c
        simp only [Value.pointer.injEq, Option.some.injEq, Addr.mk.injEq] at c
        omega
    · obtain ⟨f1, f2⟩ := other k1 d1 h1 (.inr ⟨T, Z, h3⟩) e1
      rw [f2] at h5
      by_cases e2 : k2 = i
      · obtain ⟨b, b1, _, _, _, b5⟩ := J.bs k1 d1 T Z h1 h3 h5
        subst e2
        have ed : d2 = d := by
          rcases hk with ⟨V, hV⟩ | ⟨T1, Z1, hV⟩
          · rw [h4] at hV; cases hV
          · rw [h4] at hV; cases hV; rfl
        subst ed
        rw [same, f1, b1, (hb T' Z' h4).1]
        intro c
        simp only [Value.pointer.injEq, Option.some.injEq, Addr.mk.injEq] at c
        omega
      · obtain ⟨g1, g2⟩ := other k2 d2 h2 (.inr ⟨T', Z', h4⟩) e2
        rw [g2] at h6
        rw [f1, g1]
        exact J.df k1 k2 d1 d2 T T' Z Z' h1 h2 h3 h4 h5 h6 h7
theorem RJ.store (G : RVG ops kd E D a0 w0 s1 n1 s2 n2) (J : RJ ops kd w0 t U w) {i j dj b : Nat} {T : TypeId} {Z Zj : List Value} (hi : i ∈ Region.ready .any ops t) (hl : i < ops.size) (hk : kd i = .put j T Z) (hj : j < ops.size) (hkj : kd j = .box dj T Zj) (hdj : t.getD j false = true) (hb : U dj = .pointer (some ⟨b, 0, none⟩)) (hR : RX w b T Zj) :
    RJ ops kd w0 (t.setIfInBounds i true) U (w.setRow b Z.toArray) := by
  have f : Fr (· = b) w (w.setRow b Z.toArray) := ⟨rfl, rfl, rfl, by simp [World.setRow], fun k hk hS => setRow_other _ _ _ _ hS⟩
  obtain ⟨b', b1, b2, _, _, _⟩ := J.bs j dj T Zj hj hkj hdj
  have eb : b' = b := by
    rw [b1] at hb
    simp only [Value.pointer.injEq, Option.some.injEq, Addr.mk.injEq] at hb
    exact hb.1
  subst eb
  have ne : ∀ k, k ≠ i → (t.setIfInBounds i true).getD k false = t.getD k false := fun k h => getD_set_ne false (fun e => h e.symm)
  refine ⟨by rw [Array.size_setIfInBounds]; exact J.sz, J.cl.step hi, f.kp J.kp (fun x hx => by have e : x = b' := hx; omega), fun k d V h1 h2 h3 h4 => ?_, fun k d T' Z' h1 h2 h3 => ?_, fun k1 k2 d1 d2 T1 T2 Z1 Z2 h1 h2 h3 h4 h5 h6 h7 => ?_⟩
  · have e : k ≠ i := fun e => by rw [e, hk] at h2; cases h2
    rw [ne k e] at h3
    rcases h4 with c | c
    · have := c i j T Z hl hk
      rw [set_mark (by rw [J.sz]; exact hl)] at this
      cases this
    · exact c _ w _ (J.vs k d V h1 h2 h3 (.inr c))
  · have e : k ≠ i := fun e => by rw [e, hk] at h2; cases h2
    rw [ne k e] at h3
    obtain ⟨bk, c1, c2, c3, c4, c5⟩ := J.bs k d T' Z' h1 h2 h3
    by_cases ej : k = j
    · subst ej
      rw [hkj] at h2
      cases h2
      rw [b1] at c1
      simp only [Value.pointer.injEq, Option.some.injEq, Addr.mk.injEq] at c1
      obtain ⟨rfl, _⟩ := c1
      refine ⟨b', b1, c2, fun c => ?_, fun p T2 Z2 hp1 hp2 hp3 => ?_, Nat.lt_of_lt_of_le c5 f.size⟩
      · have := c i T Z hl hk
        rw [set_mark (by rw [J.sz]; exact hl)] at this
        cases this
      · have := G.once p i k _ _ _ _ hp1 hl hp2 hk
        subst this
        rw [hk] at hp2
        cases hp2
        exact setRow_heap w b' _ _ _ _ hR
    · have nb : ¬ bk = b' := fun c => by
        have := J.df k j d dj _ _ _ _ h1 hj h2 hkj h3 hdj ej
        rw [c1, b1, c] at this
        exact this rfl
      refine ⟨bk, c1, c2, fun c => (c3 fun p T2 Z2 hp1 hp2 => ?_).fr f nb, fun p T2 Z2 hp1 hp2 hp3 => (c4 p T2 Z2 hp1 hp2 ?_).fr f nb, Nat.lt_of_lt_of_le c5 f.size⟩
      · have e2 : p ≠ i := fun e2 => by rw [e2, hk] at hp2; cases hp2; exact ej rfl
        rw [← ne p e2]; exact c p T2 Z2 hp1 hp2
      · have e2 : p ≠ i := fun e2 => by rw [e2, hk] at hp2; cases hp2; exact ej rfl
        rw [ne p e2] at hp3; exact hp3
  · have e1 : k1 ≠ i := fun e => by rw [e, hk] at h3; cases h3
    have e2 : k2 ≠ i := fun e => by rw [e, hk] at h4; cases h4
    rw [ne k1 e1] at h5
    rw [ne k2 e2] at h6
    exact J.df k1 k2 d1 d2 T1 T2 Z1 Z2 h1 h2 h3 h4 h5 h6 h7

set_option maxHeartbeats 1000000 in
theorem wp_region_vals {id : Nat} {Q : Exit → Act → World → Prop} (hm : Try.prog.follows .mixedOrders = true) (G : RVG ops kd E D a0 w0 s1 n1 s2 n2) (hw : Kp w0 w.drew)
    (done : ∀ U v, Kp w0 v → (∀ k d V, k < ops.size → kd k = .val d V → (∀ v w w', V v w → V v w') → V (U d) v) →
      (∀ k d T Z, k < ops.size → kd k = .box d T Z → ∃ b, U d = .pointer (some ⟨b, 0, none⟩) ∧ w0.heap.size ≤ b ∧ b < v.heap.size ∧ ∀ p T' Z', p < ops.size → kd p = .put k T' Z' → RX v b T Z') →
      (∀ k k' d d' T T' Z Z', k < ops.size → k' < ops.size → kd k = .box d T Z → kd k' = .box d' T' Z' → k ≠ k' → U d ≠ U d') → Q .normal (fr2 a0 s1 n1 s2 n2 U) v) :
    (Code.region id ops true).wp Try.prog Q a0 w := by
  refine wp_region_inv hm (fun t a v => ∃ U, a = fr2 a0 s1 n1 s2 n2 U ∧ RJ ops kd w0 t U v) ?_ ?_ ?_
  · have nn : ∀ j, (Array.replicate ops.size false).getD j false = false := fun j => by
      rw [Array.getD_eq_getD_getElem?, Array.getElem?_replicate]; split <;> rfl
    refine ⟨fun d => a0.eval (.tmp d), fr2_self.symm, ⟨by simp, fun k j hk _ => ?_, hw, fun k d V _ _ h => ?_, fun k d T Z _ _ h => ?_, fun k1 k2 d1 d2 T1 T2 Z1 Z2 _ _ _ _ h _ _ => ?_⟩⟩
    · rw [nn] at hk; cases hk
    · rw [nn] at h; cases h
    · rw [nn] at h; cases h
    · rw [nn] at h; cases h
  · rintro t a v i ⟨U, rfl, J⟩ hi
    have hl : i < ops.size := by obtain ⟨_, q, hq, _⟩ := mem_ready.1 hi; exact (Array.getElem?_eq_some_iff.1 hq).1
    have hun : t.getD i false = false := by have := (mem_ready.1 hi).1; rwa [getD_tf (by rw [J.sz]; exact hl)] at this
    rcases hk : kd i with ⟨d, V⟩ | ⟨d, T, Z⟩ | ⟨j, T, Z⟩
    ·
      obtain ⟨o, ho, hg, hwp⟩ := G.vals i d V hl hk
      obtain ⟨hs1, hs2⟩ := G.slot i d hl (.inl ⟨V, hk⟩)
      refine wpOp_of ho hg (hwp U v _ Q J.kp (fun j dj Vj hD hj => ?_) (fun x v' k hx => ?_))
      · have hwt : waitsB ops i j = true := by
          have := G.need
          rw [List.all_eq_true] at this
          have := this i (List.mem_range.2 hl)
          rw [List.all_eq_true] at this
          exact this j hD
        have hlt := waits_lt G.back hwt
        refine J.vs j dj Vj (by omega) hj (ready_waits hi hwt) ?_
        rcases G.dep i d V hl hk with c | c
        · refine .inl fun p j' T Z hp1 hp2 => ?_
          cases hpp : t.getD p false
          · rfl
          · have := early_done G.early J.cl hp1 (by show (kd p).isPut = true; rw [hp2]; rfl) hpp i hl c
            rw [hun] at this
            cases this
        · exact .inr (c j dj Vj hD hj)
      · exact ⟨updV U d x, fr2_put hs1 hs2 x, J.more G hi hl (.inl ⟨V, hk⟩) (fun j T Z e => by rw [hk] at e; cases e) x k (fun V' e => by rw [hk] at e; cases e; exact hx) (fun T Z e => by rw [hk] at e; cases e)⟩
    ·
      obtain ⟨o, ho, hg, hop, hd, hr⟩ := G.boxes i d T Z hl hk
      obtain ⟨hs1, hs2⟩ := G.slot i d hl (.inr ⟨T, Z, hk⟩)
      refine wpOp_of ho hg ?_
      unfold Oper.wp execOp
      simp only [hop, Sem.run_bind, hr v, Result.andThen_ok, Sem.run_pure]
      show ∃ U', (fr2 a0 s1 n1 s2 n2 U).put o.dst _ = fr2 a0 s1 n1 s2 n2 U' ∧ _
      rw [hd]
      exact ⟨updV U d _, fr2_put hs1 hs2 _, J.more G hi hl (.inr ⟨T, Z, hk⟩) (fun j T Z e => by rw [hk] at e; cases e) _ ((Kp.refl v).alloc _) (fun V' e => by rw [hk] at e; cases e) (fun T' Z' e => by rw [hk] at e; cases e; exact ⟨rfl, RX.made v T Z⟩)⟩
    ·
      obtain ⟨o, dj, Zj, i2, di, Vi, ho, hg, hop, hd, hj, hkj, hwj, hi2, hki, hwi, hv1, hv2, hsz, hlen, hone⟩ := G.puts i j T Z hl hk
      refine wpOp_of ho hg ?_
      obtain ⟨b, b1, b2, b3, b4, b5⟩ := J.bs j dj T Zj hj hkj (ready_waits hi hwj)
      have hR : RX v b T Zj := b3 fun p T' Z' hp1 hp2 => by
        have := G.once p i j _ _ _ _ hp1 hl hp2 hk
        rw [this]; exact hun
      obtain ⟨hs1, hs2⟩ := G.slot j dj hj (.inr ⟨T, Zj, hkj⟩)
      obtain ⟨hs3, hs4⟩ := G.slot i2 di hi2 (.inl ⟨Vi, hki⟩)
      have hval := hv1 _ _ (J.vs i2 di Vi hi2 hki (ready_waits hi hwi) (.inr hv2))
      refine wp_store_row T (.tmp dj) (.tmp di) hop b Z.toArray ((fr2_in hs1 hs2).trans b1) ((fr2_in hs3 hs4).trans hval) T Zj.toArray hR (by rw [List.size_toArray]; exact hsz) (by rw [List.size_toArray, List.size_toArray]; exact hlen) (by rw [List.all_toArray]; exact hone) ?_
      rw [hd]
      exact ⟨U, rfl, J.store G hi hl hk hj hkj (ready_waits hi hwj) b1 hR⟩
  · rintro t a v ⟨U, rfl, J⟩ hr
    have hall := ready_done G.back J.sz hr
    refine done U v J.kp (fun k d V h1 h2 h3 => J.vs k d V h1 h2 (hall k h1) (.inr h3)) (fun k d T Z h1 h2 => ?_) (fun k k' d d' T T' Z Z' h1 h2 h3 h4 h5 => J.df k k' d d' T T' Z Z' h1 h2 h3 h4 (hall k h1) (hall k' h2) h5)
    obtain ⟨b, b1, b2, b3, b4, b5⟩ := J.bs k d T Z h1 h2 (hall k h1)
    exact ⟨b, b1, b2, b5, fun p T' Z' hp1 hp2 => b4 p T' Z' hp1 hp2 (hall p hp1)⟩
end

/-! ### single operations -/
section
variable {o : Oper} {a : Act} {w : World} {K : Act → World → Prop} {Q : Exit → Act → World → Prop} {d : Nat}
theorem ov_move {y : Operand} {v : Value} (ho : o.op = .move y) (hd : o.dst = some d) (hy : a.eval y = v) (h : K (a.put (some d) v) w) : o.wp Try.prog a w K Q := by
  subst hy
  unfold Oper.wp execOp
  simp only [ho, Sem.run_pure]
  show K (a.put o.dst _) w
  rw [hd]; exact h
theorem ov_assign {y : Operand} {v : Value} (ho : o.op = .assign y) (hd : o.dst = some d) (hy : a.eval y = v) (h : K (a.put (some d) v) w) : o.wp Try.prog a w K Q := by
  subst hy
  unfold Oper.wp execOp
  simp only [ho, Sem.run_pure]
  show K (a.put o.dst _) w
  rw [hd]; exact h
theorem ov_extract {y : Operand} {vs : Array Value} {i : Nat} {v : Value} (ho : o.op = .extract y i) (hd : o.dst = some d) (hx : a.eval y = .tuple vs) (hv : vs[i]? = some v) (h : K (a.put (some d) v) w) : o.wp Try.prog a w K Q := by
  have h : K (a.put o.dst v) w := by rw [hd]; exact h
  unfold Oper.wp execOp
  generalize a.eval = ρ at hx ⊢
  simp [ho, hx, go_sem, hv]
  exact h
/-- An operation that reads, whose run is known. -/
theorem ov_run {v : Value} (hr : (execOp a.eval o).run Try.prog w = .ok (.value v) w) (hd : o.dst = some d) (h : K (a.put (some d) v) w) : o.wp Try.prog a w K Q := by
  unfold Oper.wp
  rw [hr]
  show K (a.put o.dst v) w
  rw [hd]; exact h
theorem ov_call {g : FuncId} {fn : Func} {ys : Array Operand} {ts : Array TypeId} {vs : Array Value} {Φ : Value → World → Prop} (ho : o.op = .call { callee := .value (.func g), args := ys, argTypes := ts }) (hd : o.dst = some d) (hf : Try.prog.funcs[g]? = some fn) (hb : fn.body.isSome = true) (hn : ¬ fn.name = "runtime.NumGoroutine") (hv : ys.map a.eval = vs)
    (hc : Calls Try.prog g vs w fun e w' => ∃ v, e = .returned v ∧ Φ v w') (h : ∀ v w', Φ v w' → K (a.put (some d) v) w') : o.wp Try.prog a w K Q := by
  obtain ⟨c, hb⟩ := Option.isSome_iff_exists.1 hb
  have e : (callFunc g vs).run Try.prog w = .ok (.enter g vs) w := by simp [callFunc, go_sem, hf, hb, hn]
  have e2 : execOp a.eval o = callFunc g vs := by
    obtain ⟨dst, op, type, pos, after, guard⟩ := o
    simp only at ho
    subst ho
    have e3 : execOp a.eval { dst, op := .call { callee := .value (.func g), args := ys, argTypes := ts }, type, pos, after, guard } = callFunc g (#[] ++ ys.map a.eval ++ #[]) := rfl
    rw [e3, hv]
    simp
  unfold Oper.wp
  rw [e2, e]
  refine hc.mono ?_
  rintro e w' ⟨v, rfl, k⟩
  show K (a.put o.dst v) w'
  rw [hd]
  exact h v w' k
end

end Go.Proofs.Ytclcickhgoiooaa
