/- Lists of one's own, whatever the elements: append, a part, what is laid. -/
import Derived.Test.YtpjlmmiceiionaaDoorUS
namespace Go.Proofs.YtpjlmmiceiionaaDoor
open Go.RowKit

/-- How a list's elements lie: their cells, their type, the list's type. -/
structure LT (α : Type) where
  enc : α → List Value
  sz : Nat
  e : TypeId
  t : TypeId
structure LTok {α : Type} (T : LT α) : Prop where
  E : Enc T.enc T.sz
  ht : Tryd.prog.underlying T.t = some (.slice T.e)
  hi : ∃ i z, Tryd.prog.info? T.e = some i ∧ i.zero = some z ∧ i.size = T.sz ∧ i.bytes ≤ 10000 ∧ z.cells.size = T.sz
  hs : ∀ w, (sizeOf T.e).run Tryd.prog w = .ok T.sz w

/-- v is a list of one's own in a block at or above b. -/
structure AX {α : Type} (T : LT α) (w : World) (b : Nat) (v : Value) (L : List α) : Prop where
  ol : OL T.enc T.e T.sz w v L
  up : ∀ g, v.ownBlock = some g → b ≤ g ∧ g < w.heap.size
/-- A list that may be read, from a place on. -/
def AS {α : Type} (T : LT α) (w : World) (na : Option Addr) (M : List α) : Prop := (na = none ∧ M = []) ∨ ∃ b o, na = some ⟨b, o, none⟩ ∧ b < w.heap.size ∧ ∀ j u, (M.flatMap T.enc)[j]? = some u → w.cell? ⟨b, o + j, none⟩ = some u
section
variable {α : Type} {T : LT α} {w w' : World} {b : Nat} {v : Value} {L M : List α}
theorem AX.nil (w : World) (b : Nat) : AX T w b (.slice none 0 0) [] := ⟨OL.nil _ w, fun g h => by cases h⟩
theorem AX.fr (h : AX T w b v L) {S : Nat → Prop} (k : Fr S w w') (hS : ∀ g, b ≤ g → g < w.heap.size → v.ownBlock = some g → S g → False) : AX T w' b v L :=
  ⟨h.ol.fr k (fun g hg s => by have := h.up g hg; exact hS g this.1 this.2 hg s), fun g hg => ⟨(h.up g hg).1, Nat.lt_of_lt_of_le (h.up g hg).2 k.size⟩⟩
theorem AX.kp (h : AX T w b v L) (k : Kp w w') : AX T w' b v L := h.fr (k.fr (fun _ => False)) (fun _ _ _ _ => id)
theorem AX.low (h : AX T w b v L) {c : Nat} (hc : c ≤ b) : AX T w c v L := ⟨h.ol, fun g hg => ⟨Nat.le_trans hc (h.up g hg).1, (h.up g hg).2⟩⟩
theorem AS.kp {na : Option Addr} (h : AS T w na M) (k : Kp w w') : AS T w' na M :=
  h.imp id fun ⟨b, o, e, hb, hc⟩ => ⟨b, o, e, Nat.lt_of_lt_of_le hb k.size, fun j u hu => by rw [k.cell (p := ⟨b, o + j, none⟩) hb]; exact hc j u hu⟩
theorem AS.fr {na : Option Addr} (h : AS T w na M) {S : Nat → Prop} (k : Fr S w w') (hS : ∀ g, (∃ o, na = some ⟨g, o, none⟩) → ¬ S g) : AS T w' na M :=
  h.imp id fun ⟨b, o, e, hb, hc⟩ => ⟨b, o, e, Nat.lt_of_lt_of_le hb k.size, fun j u hu => by rw [k.cell (a := ⟨b, o + j, none⟩) hb (hS b ⟨o, e⟩)]; exact hc j u hu⟩
theorem AX.form (K : LTok T) (h : AX T w b v L) : ∃ na cap, v = .slice na L.length cap ∧ L.length ≤ cap ∧ ((na = none ∧ cap = 0 ∧ L = []) ∨ ∃ g, na = some ⟨g, 0, none⟩ ∧ b ≤ g ∧ g < w.heap.size) ∧ ∀ i x, L[i]? = some x → ∃ g, na = some ⟨g, 0, none⟩ ∧ g < w.heap.size ∧ b ≤ g ∧ ∀ j y, (T.enc x)[j]? = some y → w.cell? ⟨g, i * T.sz + j, none⟩ = some y := by
  obtain ⟨na, cap, e, l, hc⟩ := h.ol.form
  refine ⟨na, cap, e, l, ?_, fun i x hx => ?_⟩
  · rcases hc with c | ⟨g, rfl, hg⟩
    · exact .inl c
    · exact .inr ⟨g, rfl, (h.up g (by rw [e]; rfl)).1, hg⟩
  · rcases hc with ⟨_, _, rfl⟩ | ⟨g, rfl, hg⟩
    · simp at hx
    · have h1 := h.ol
      rw [e] at h1
      exact ⟨g, rfl, hg, (h.up g (by rw [e]; rfl)).1, fun j y hy => OL.cell K.E h1 hx hy⟩
/-- Its own cells, whole, as they are read. -/
theorem AX.src (K : LTok T) {na : Option Addr} {n cap : Nat} (h : AX T w b (.slice na n cap) L) : AS T w na L := by
  obtain ⟨na', cap', e, _, hc, _⟩ := h.form K
  cases e
  rcases hc with ⟨rfl, _, rfl⟩ | ⟨g, rfl, _, hg⟩
  · exact .inl ⟨rfl, rfl⟩
  · refine .inr ⟨g, 0, rfl, hg, fun j u hu => ?_⟩
    have hj := (List.getElem?_eq_some_iff.1 hu).1
    rw [flat_len K.E] at hj
    rw [Nat.zero_add, World.ownsRow.cellAt h.ol j hj, ← hu]
theorem AX.len {na : Option Addr} {n cap : Nat} (h : AX T w b (.slice na n cap) L) : n = L.length ∧ L.length ≤ cap := by
  obtain ⟨na', cap', e, l, _⟩ := h.ol.form
  cases e
  exact ⟨rfl, l⟩
/-- append(v, M...). -/
theorem AX.app (K : LTok T) (h : AX T w b v L) (hb : b ≤ w.heap.size) {na : Option Addr} {m c : Nat} (hs : AS T w na M) (hm : m = M.length) (hc : M = [] → na = none → c = 0) (hl : L.length + M.length ≤ 2000000) (ty : TypeId) :
    ∃ na' n' cap' w', (Builtin.append_ #[T.t, T.t] ty #[v, .slice na m c]).run Tryd.prog w = .ok (.slice na' n' cap') w' ∧ n' = (L ++ M).length ∧ AX T w' b (.slice na' n' cap') (L ++ M) ∧ Fr (fun g => v.ownBlock = some g) w w' ∧ (∀ W : World, W.heap.size ≤ b → Kp W w → Kp W w') ∧ ((Value.slice na' n' cap').ownBlock = v.ownBlock ∨ (Value.slice na' n' cap').ownBlock = some w.heap.size) := by
  obtain ⟨i0, z, hi, hz0, hz1, hz2, hz3⟩ := K.hi
  obtain ⟨v', w', r1, r2, r3, r4⟩ := OL.append K.E (P := Tryd.prog) (t := T.t) K.ht hi hz0 hz1 rfl hz3 h.ol M na m c hm (by
    rcases hs with ⟨rfl, rfl⟩ | ⟨b, o, e, _, hc⟩
    · exact .inl ⟨rfl, hm, hc rfl rfl⟩
    · exact .inr ⟨b, o, e, hc⟩) (by omega) hz2 ty
  obtain ⟨na', cap', e, _, hf⟩ := r2.form
  subst e
  have fr1 : Fr (fun g => v.ownBlock = some g) w w' := Fr.grown r3 (fun g hg => hg)
  refine ⟨na', _, cap', w', r1, rfl, ⟨r2, fun g hg => ?_⟩, fr1, fun W hW kW => fr1.kp kW (fun g hg => Nat.le_trans hW (h.up g hg).1), r4⟩
  have hlt : g < w'.heap.size := by
    rcases hf with ⟨rfl, _, _⟩ | ⟨g', rfl, hg'⟩
    · cases hg
    · cases hg; exact hg'
  refine ⟨?_, hlt⟩
  rcases r4 with e | e
  · exact (h.up g (by rw [← e]; exact hg)).1
  · rw [hg] at e; cases e; exact hb
/-- []T{}. -/
theorem AX.empty (w : World) : AX T (w.alloc (.cells #[] T.e)) w.heap.size (.slice (some ⟨w.heap.size, 0, none⟩) 0 0) [] :=
  ⟨⟨(by simp), .inr ⟨w.heap.size, 0, #[], rfl, Nat.zero_le _, heap_alloc_new w _, Nat.le_refl _, Nat.zero_le _, (by simp), (by simp)⟩⟩, fun g hg => by cases hg; exact ⟨Nat.le_refl _, by simp⟩⟩
/-- A row laid for M. -/
theorem AS.made (w : World) (M : List α) : AS T (w.alloc (.cells (M.flatMap T.enc).toArray T.e)) (some ⟨w.heap.size, 0, none⟩) M :=
  .inr ⟨w.heap.size, 0, rfl, by simp, fun j u hu => by
    rw [Nat.zero_add, cell_of_row _ _ j _ _ _ (heap_alloc_new w _), List.getElem?_toArray]
    exact hu⟩
theorem elem_of (K : LTok T) : Tryd.prog.elem T.t = T.e := by unfold Program.elem; rw [K.ht]
theorem sliced_at {na : Option Addr} (h : AS T w na L) (l h m s : Nat) : ∃ na', sliced na l h m s = .slice na' (h - l) (m - l) ∧ (na = none → na' = none) ∧ ∀ g o, na = some ⟨g, o, none⟩ → (m = l ∧ na' = na) ∨ (m ≠ l ∧ na' = some ⟨g, o + l * s, none⟩) := by
  refine ⟨_, rfl, fun e => by subst e; split <;> rfl, fun g o e => ?_⟩
  subst e
  by_cases c : m = l
  · rw [if_pos c]; exact .inl ⟨c, rfl⟩
  · rw [if_neg c]; exact .inr ⟨c, by show some ((Addr.mk g o none).add (l * s)) = _; rw [add_at]⟩
/-- l[:k]. -/
theorem AS.take (K : LTok T) {na : Option Addr} (h : AS T w na L) {n cap k : Nat} (hn : n = L.length) (hc : n ≤ cap) (hz : na = none → cap = 0) (hk : k ≤ n) :
    ∃ na' cap', (Instr.sliceAt T.t (.slice na n cap) none (some (.int .i64 (k : Int))) none).run Tryd.prog w = .ok (.slice na' k cap') w ∧ AS T w na' (L.take k) ∧ k = (L.take k).length ∧ (L.take k = [] → na' = none → cap' = 0) := by
  obtain ⟨na', e1, e2, e3⟩ := sliced_at h 0 k cap T.sz
  refine ⟨na', cap, ?_, ?_, by rw [List.length_take]; omega, fun _ e => ?_⟩
  · rw [run_sliceAt_slice w T.t _ _ _ _ (by rw [elem_of K]; exact K.ht), run_slice_h w T.t na n cap (by rw [elem_of K]; exact K.ht) .i64 (k : Int) (by omega) (by omega), elem_of K, K.hs w, Result.andThen_ok, Int.toNat_natCast, e1]
    rfl
  · rcases h with ⟨h1, h2⟩ | ⟨b, o, h1, hb, h2⟩
    · exact .inl ⟨e2 h1, by rw [h2]; simp⟩
    · have e4 : na' = some ⟨b, o, none⟩ := by
        rcases e3 b o h1 with ⟨_, e⟩ | ⟨_, e⟩
        · rw [e, h1]
        · rw [e]; simp
      refine .inr ⟨b, o, e4, hb, fun j u hu => h2 j u ?_⟩
      rw [← flat_take K.E, List.getElem?_take] at hu
      split at hu
      · exact hu
      · cases hu
  · cases c : na with
    | none => exact hz c
    | some a =>
      obtain ⟨g, o, s⟩ := a
      rcases h with ⟨h1, _⟩ | ⟨b, o, h1, hb, h2⟩
      · rw [h1] at c; cases c
      · rcases e3 b o h1 with ⟨q, _⟩ | ⟨_, e5⟩
        · exact q
        · rw [e5] at e; cases e
/-- l[k:]. -/
theorem AS.drop (K : LTok T) {na : Option Addr} (h : AS T w na L) {n cap k : Nat} (hn : n = L.length) (hc : n ≤ cap) (hz : na = none → cap = 0) (hk : k ≤ n) :
    ∃ na' n' cap', (Instr.sliceAt T.t (.slice na n cap) (some (.int .i64 (k : Int))) none none).run Tryd.prog w = .ok (.slice na' n' cap') w ∧ AS T w na' (L.drop k) ∧ n' = (L.drop k).length ∧ (L.drop k = [] → na' = none → cap' = 0) := by
  obtain ⟨na', e1, e2, e3⟩ := sliced_at h k n cap T.sz
  refine ⟨na', n - k, cap - k, ?_, ?_, by rw [List.length_drop]; omega, fun _ e => ?_⟩
  · rw [run_sliceAt_slice w T.t _ _ _ _ (by rw [elem_of K]; exact K.ht), run_slice_l w T.t na n cap (by rw [elem_of K]; exact K.ht) .i64 (k : Int) (by omega) (by omega), elem_of K, K.hs w, Result.andThen_ok, Int.toNat_natCast, e1]
  · rcases h with ⟨h1, h2⟩ | ⟨b, o, h1, hb, h2⟩
    · exact .inl ⟨e2 h1, by rw [h2]; simp⟩
    · rcases e3 b o h1 with ⟨q, e⟩ | ⟨_, e⟩
      · refine .inr ⟨b, o, by rw [e, h1], hb, fun j u hu => ?_⟩
        rw [List.drop_of_length_le (by omega)] at hu
        simp at hu
      · refine .inr ⟨b, o + k * T.sz, e, hb, fun j u hu => ?_⟩
        rw [← flat_drop K.E, List.getElem?_drop] at hu
        rw [Nat.add_assoc]
        exact h2 _ u hu
  · cases c : na with
    | none => have := hz c; omega
    | some a =>
      obtain ⟨g, o, s⟩ := a
      rcases h with ⟨h1, _⟩ | ⟨b, o, h1, hb, h2⟩
      · rw [h1] at c; cases c
      · rcases e3 b o h1 with ⟨q, _⟩ | ⟨_, e5⟩
        · omega
        · rw [e5] at e; cases e
end
theorem wp_hi_of {P : Program} {w : World} {o : Oper} {a : Act} {K : Act → World → Prop} {Q : Exit → Act → World → Prop} {t : TypeId} {vx vh v' : Value}
    (hr : (Instr.sliceAt t vx none (some vh) none).run P w = .ok v' w) (x h : Operand) (ho : o.op = .slice t x none (some h) none) (hx : a.eval x = vx) (hh : a.eval h = vh)
    (hK : K (a.put o.dst v') w) : o.wp P a w K Q := by
  unfold Oper.wp execOp
  simp only [ho, Sem.run_bind, Option.map_some, Option.map_none, hx, hh, hr, Result.andThen_ok, Sem.run_pure]
  exact hK
theorem wp_lo_of {P : Program} {w : World} {o : Oper} {a : Act} {K : Act → World → Prop} {Q : Exit → Act → World → Prop} {t : TypeId} {vx vh v' : Value}
    (hr : (Instr.sliceAt t vx (some vh) none none).run P w = .ok v' w) (x h : Operand) (ho : o.op = .slice t x (some h) none none) (hx : a.eval x = vx) (hh : a.eval h = vh)
    (hK : K (a.put o.dst v') w) : o.wp P a w K Q := by
  unfold Oper.wp execOp
  simp only [ho, Sem.run_bind, Option.map_some, Option.map_none, hx, hh, hr, Result.andThen_ok, Sem.run_pure]
  exact hK

end Go.Proofs.YtpjlmmiceiionaaDoor
