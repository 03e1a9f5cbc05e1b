/- dirty: the document's log: its rising list; at, Has. -/
import Derived.Test.YthkkcnnlfjchaaaDoorL9
import Derived.Test.YthkkcnnlfjchaaaDoorLB
namespace Go.Proofs.YthkkcnnlfjchaaaDoor
open Go.RowKit Go.Maps
set_option maxRecDepth 10000

theorem step_appw {P : Program} {w : World} {ops : Array Oper} {o : Oper} {a : Act} {K : Act → World → Prop} {Q : Exit → Act → World → Prop} {E : Prop} {t ty : TypeId} {vs vx v' : Value} {w' : World}
    (hr : (Builtin.append_ #[t, t] ty #[vs, vx]).run P w = .ok v' w') (hgd : o.guard = none) (s x : Operand) (ho : o.op = .call { callee := .builtin .append, args := #[s, x], argTypes := #[t, t] }) (hty : o.type = ty) (hs : a.eval s = vs) (hx : a.eval x = vx)
    (h : K (a.put o.dst v') w') : if Region.wanted o (yielded ops a.tmps) = true then Oper.wp P o a w K Q else E := by
  rw [if_pos (by simp [Region.wanted, hgd])]
  exact wp_append_of hr s x ho hty hs hx h


section
variable {α : Type} {T : LT α} {w : World} {L : List α}
/-- l[:k], l[k:], in whatever world. -/
theorem part_hiw (K : LTok T) (na : Option Addr) (n cap k : Nat) (hk : k ≤ cap) : ∃ na', (∀ w, (Instr.slice T.t (.slice na n cap) none (some (.int .i64 (k : Int))) none).run Tryd.prog w = .ok (.slice na' k cap) w) ∧ (na = none → na' = none) ∧ ∀ g o, na = some ⟨g, o, none⟩ → na' = some ⟨g, o, none⟩ := by
  refine ⟨(if cap = 0 then na else na.map (·.add (0 * T.sz))), fun w => ?_, fun e => ?_, fun g o e => ?_⟩
  · rw [run_slice_h w T.t na n cap (by rw [elem_of K]; exact K.ht) .i64 (k : Int) (by omega) (by omega), elem_of K, K.hs w, Result.andThen_ok, Int.toNat_natCast]
    rfl
  · subst e; split <;> rfl
  · subst e
    split
    · rfl
    · show some ((Addr.mk g o none).add (0 * T.sz)) = _
      rw [add_at]; simp
theorem part_low (K : LTok T) (na : Option Addr) (n cap k : Nat) (hk : k ≤ n) : ∃ na', (∀ w, (Instr.slice T.t (.slice na n cap) (some (.int .i64 (k : Int))) none none).run Tryd.prog w = .ok (.slice na' (n - k) (cap - k)) w) ∧ (na = none → na' = none) ∧ ∀ g o, na = some ⟨g, o, none⟩ → (cap = k ∧ na' = some ⟨g, o, none⟩) ∨ (cap ≠ k ∧ na' = some ⟨g, o + k * T.sz, none⟩) := by
  refine ⟨(if cap = k then na else na.map (·.add (k * T.sz))), fun w => ?_, fun e => ?_, fun g o e => ?_⟩
  · rw [run_slice_l w T.t na n cap (by rw [elem_of K]; exact K.ht) .i64 (k : Int) (by omega) (by omega), elem_of K, K.hs w, Result.andThen_ok, Int.toNat_natCast]
    rfl
  · subst e; split <;> rfl
  · subst e
    by_cases c : cap = k
    · rw [if_pos c]; exact .inl ⟨c, rfl⟩
    · rw [if_neg c]
      refine .inr ⟨c, ?_⟩
      show some ((Addr.mk g o none).add (k * T.sz)) = _
      rw [add_at]
/-- What lies ahead of a place, what from it on. -/
theorem AS.hiw (K : LTok T) {na na' : Option Addr} (h : AS T w na L) (k : Nat) (e2 : na = none → na' = none) (e3 : ∀ g o, na = some ⟨g, o, none⟩ → na' = some ⟨g, o, none⟩) : AS T w na' (L.take k) := by
  rcases h with ⟨h1, h2⟩ | ⟨b, o, h1, hb, h2⟩
  · exact .inl ⟨e2 h1, by rw [h2]; simp⟩
  · refine .inr ⟨b, o, e3 b o h1, hb, fun j u hu => h2 j u ?_⟩
    rw [← flat_take K.E, List.getElem?_take] at hu
    split at hu
    · exact hu
    · cases hu
theorem AS.loww (K : LTok T) {na na' : Option Addr} (h : AS T w na L) {cap : Nat} (k : Nat) (hl : L.length ≤ cap) (e2 : na = none → na' = none) (e3 : ∀ g o, na = some ⟨g, o, none⟩ → (cap = k ∧ na' = some ⟨g, o, none⟩) ∨ (cap ≠ k ∧ na' = some ⟨g, o + k * T.sz, none⟩)) : AS T w na' (L.drop k) := by
  rcases h with ⟨h1, h2⟩ | ⟨b, o, h1, hb, h2⟩
  · exact .inl ⟨e2 h1, by rw [h2]; simp⟩
  · rcases e3 b o h1 with ⟨q, e⟩ | ⟨_, e⟩
    · refine .inr ⟨b, o, e, hb, fun j u hu => ?_⟩
      rw [List.drop_of_length_le (by omega)] at hu
      simp at hu
    · refine .inr ⟨b, o + k * T.sz, e, hb, fun j u hu => ?_⟩
      rw [← flat_drop K.E, List.getElem?_drop] at hu
      rw [Nat.add_assoc]
      exact h2 _ u hu
theorem part_nilw {na na' : Option Addr} (e3 : ∀ g o, na = some ⟨g, o, none⟩ → na' = some ⟨g, o, none⟩) (h : AS T w na L) (e : na' = none) : na = none := by
  rcases h with ⟨h1, _⟩ | ⟨b, o, h1, _⟩
  · exact h1
  · rw [e3 b o h1] at e; cases e
theorem part_nilw2 {na na' : Option Addr} {cap k : Nat} (e3 : ∀ g o, na = some ⟨g, o, none⟩ → (cap = k ∧ na' = some ⟨g, o, none⟩) ∨ (cap ≠ k ∧ na' = some ⟨g, o + k * T.sz, none⟩)) (h : AS T w na L) (e : na' = none) : na = none := by
  rcases h with ⟨h1, _⟩ | ⟨b, o, h1, _⟩
  · exact h1
  · rcases e3 b o h1 with ⟨_, q⟩ | ⟨_, q⟩ <;> rw [q] at e <;> cases e
end

section
variable {α : Type} {T : LT α} {W : World} {A B : List α} {x : α} {na1 na2 : Option Addr} {k c1 m c2 : Nat}
/-- What the three appends leave: the worlds behind each, the list. -/
def InsW (T : LT α) (W : World) (L : List α) (v : Value) (w6 w7 w8 : World) : Prop := AX T w8 W.heap.size v L ∧ Kp W w6 ∧ Kp W w7 ∧ Kp W w8
theorem ins_gow (K : LTok T) {w0 : World} {e : Nat} (kE : Kp W w0) (hE : AX T w0 W.heap.size (.slice (some ⟨e, 0, none⟩) 0 0) []) (h1 : AS T W na1 A) (l1 : k = A.length) (z1 : A = [] → na1 = none → c1 = 0) (hl : A.length + 1 + B.length ≤ 1000000) (ty : TypeId) :
    ∃ na6 n6 c6 w6, (Builtin.append_ #[T.t, T.t] ty #[.slice (some ⟨e, 0, none⟩) 0 0, .slice na1 k c1]).run Tryd.prog w0 = .ok (.slice na6 n6 c6) w6 ∧ AX T w6 W.heap.size (.slice na6 n6 c6) A ∧ Kp W w6 ∧ Fr (fun g => g = e) w0 w6 := by
  obtain ⟨na6, n6, c6, w6, r6, _, o6, f6, k6, _⟩ := hE.app K kE.size (h1.kp kE) l1 z1 (by simp; omega) ty
  rw [List.nil_append] at o6
  exact ⟨na6, n6, c6, w6, r6, o6, k6 W (Nat.le_refl _) kE, f6.mono (fun g _ e => by have e := e; simp [Value.ownBlock] at e; exact e.symm)⟩
theorem ins_endw (K : LTok T) {w6 : World} {na6 : Option Addr} {n6 c6 e : Nat} (k6 : Kp W w6) (o6 : AX T w6 W.heap.size (.slice na6 n6 c6) A) (hx : AS T w6 (some ⟨e, 0, none⟩) [x]) (h2 : AS T W na2 B) (l2 : m = B.length) (z2 : B = [] → na2 = none → c2 = 0) (hl : A.length + 1 + B.length ≤ 1000000) (ty : TypeId) :
    ∃ na7 n7 c7 w7 na8 n8 c8 w8, (Builtin.append_ #[T.t, T.t] ty #[.slice na6 n6 c6, .slice (some ⟨e, 0, none⟩) 1 1]).run Tryd.prog w6 = .ok (.slice na7 n7 c7) w7 ∧
      (Builtin.append_ #[T.t, T.t] ty #[.slice na7 n7 c7, .slice na2 m c2]).run Tryd.prog w7 = .ok (.slice na8 n8 c8) w8 ∧ AX T w8 W.heap.size (.slice na8 n8 c8) (A ++ [x] ++ B) ∧ Kp W w7 ∧ Kp W w8 := by
  obtain ⟨na7, n7, c7, w7, r7, _, o7, f7, k7, _⟩ := o6.app K k6.size hx (m := 1) (c := 1) rfl (fun e => by cases e) (by simp; omega) ty
  have K7 := k7 W (Nat.le_refl _) k6
  obtain ⟨na8, n8, c8, w8, r8, _, o8, f8, k8, _⟩ := o7.app K K7.size (h2.kp K7) l2 z2 (by simp; omega) ty
  exact ⟨na7, n7, c7, w7, na8, n8, c8, w8, r7, r8, o8, K7, k8 W (Nat.le_refl _) K7⟩
theorem row_madew (w : World) (x : α) : AS T (w.alloc (.cells (T.enc x).toArray T.e)) (some ⟨w.heap.size, 0, none⟩) [x] := by
  have := AS.made (T := T) w [x]
  rwa [show [x].flatMap T.enc = T.enc x by simp] at this
/-- The empty row, what is ahead, then the one. -/
theorem ins_Aw (K : LTok T) (h1 : AS T W na1 A) (l1 : k = A.length) (z1 : A = [] → na1 = none → c1 = 0) (h2 : AS T W na2 B) (l2 : m = B.length) (z2 : B = [] → na2 = none → c2 = 0) (x : α) (hl : A.length + 1 + B.length ≤ 1000000) (ty : TypeId) :
    ∃ na6 n6 c6 w6 na7 n7 c7 w7 na8 n8 c8 w8, (Builtin.append_ #[T.t, T.t] ty #[.slice (some ⟨W.heap.size, 0, none⟩) 0 0, .slice na1 k c1]).run Tryd.prog (W.alloc (.cells #[] T.e)) = .ok (.slice na6 n6 c6) w6 ∧
      (Builtin.append_ #[T.t, T.t] ty #[.slice na6 n6 c6, .slice (some ⟨w6.heap.size, 0, none⟩) 1 1]).run Tryd.prog (w6.alloc (.cells (T.enc x).toArray T.e)) = .ok (.slice na7 n7 c7) w7 ∧
      (Builtin.append_ #[T.t, T.t] ty #[.slice na7 n7 c7, .slice na2 m c2]).run Tryd.prog w7 = .ok (.slice na8 n8 c8) w8 ∧ InsW T W (A ++ [x] ++ B) (.slice na8 n8 c8) w6 w7 w8 := by
  obtain ⟨na6, n6, c6, w6, r6, o6, k6, _⟩ := ins_gow (B := B) K ((Kp.refl W).alloc (.cells #[] T.e)) (AX.empty W) h1 l1 z1 hl ty
  have ka : Kp w6 (w6.alloc (.cells (T.enc x).toArray T.e)) := (Kp.refl w6).alloc _
  obtain ⟨na7, n7, c7, w7, na8, n8, c8, w8, r7, r8, o8, k7, k8⟩ := ins_endw K (k6.trans ka) (o6.kp ka) (row_madew w6 x) h2 l2 z2 hl ty
  exact ⟨na6, n6, c6, w6, na7, n7, c7, w7, na8, n8, c8, w8, r6, r7, r8, o8, k6, k7, k8⟩
/-- The empty row, the one, then what is ahead. -/
theorem ins_Bw (K : LTok T) (h1 : AS T W na1 A) (l1 : k = A.length) (z1 : A = [] → na1 = none → c1 = 0) (h2 : AS T W na2 B) (l2 : m = B.length) (z2 : B = [] → na2 = none → c2 = 0) (x : α) (hl : A.length + 1 + B.length ≤ 1000000) (ty : TypeId) :
    ∃ na6 n6 c6 w6 na7 n7 c7 w7 na8 n8 c8 w8, (Builtin.append_ #[T.t, T.t] ty #[.slice (some ⟨W.heap.size, 0, none⟩) 0 0, .slice na1 k c1]).run Tryd.prog ((W.alloc (.cells #[] T.e)).alloc (.cells (T.enc x).toArray T.e)) = .ok (.slice na6 n6 c6) w6 ∧
      (Builtin.append_ #[T.t, T.t] ty #[.slice na6 n6 c6, .slice (some ⟨W.heap.size + 1, 0, none⟩) 1 1]).run Tryd.prog w6 = .ok (.slice na7 n7 c7) w7 ∧
      (Builtin.append_ #[T.t, T.t] ty #[.slice na7 n7 c7, .slice na2 m c2]).run Tryd.prog w7 = .ok (.slice na8 n8 c8) w8 ∧ InsW T W (A ++ [x] ++ B) (.slice na8 n8 c8) w6 w7 w8 := by
  have ke : Kp W (W.alloc (.cells #[] T.e)) := (Kp.refl W).alloc _
  have kp : Kp (W.alloc (.cells #[] T.e)) ((W.alloc (.cells #[] T.e)).alloc (.cells (T.enc x).toArray T.e)) := (Kp.refl _).alloc _
  have rx := row_madew (T := T) (W.alloc (.cells #[] T.e)) x
  rw [World.size_alloc] at rx
  obtain ⟨na6, n6, c6, w6, r6, o6, k6, f6⟩ := ins_gow (B := B) K (ke.trans kp) ((AX.empty W).kp kp) h1 l1 z1 hl ty
  have rx6 : AS T w6 (some ⟨W.heap.size + 1, 0, none⟩) [x] := rx.fr f6 (fun g ⟨o, e⟩ => by simp at e; intro c; omega)
  obtain ⟨na7, n7, c7, w7, na8, n8, c8, w8, r7, r8, o8, k7, k8⟩ := ins_endw K k6 o6 rx6 h2 l2 z2 hl ty
  exact ⟨na6, n6, c6, w6, na7, n7, c7, w7, na8, n8, c8, w8, r6, r7, r8, o8, k6, k7, k8⟩
/-- The one, the empty row, then what is ahead. -/
theorem ins_Cw (K : LTok T) (h1 : AS T W na1 A) (l1 : k = A.length) (z1 : A = [] → na1 = none → c1 = 0) (h2 : AS T W na2 B) (l2 : m = B.length) (z2 : B = [] → na2 = none → c2 = 0) (x : α) (hl : A.length + 1 + B.length ≤ 1000000) (ty : TypeId) :
    ∃ na6 n6 c6 w6 na7 n7 c7 w7 na8 n8 c8 w8, (Builtin.append_ #[T.t, T.t] ty #[.slice (some ⟨W.heap.size + 1, 0, none⟩) 0 0, .slice na1 k c1]).run Tryd.prog ((W.alloc (.cells (T.enc x).toArray T.e)).alloc (.cells #[] T.e)) = .ok (.slice na6 n6 c6) w6 ∧
      (Builtin.append_ #[T.t, T.t] ty #[.slice na6 n6 c6, .slice (some ⟨W.heap.size, 0, none⟩) 1 1]).run Tryd.prog w6 = .ok (.slice na7 n7 c7) w7 ∧
      (Builtin.append_ #[T.t, T.t] ty #[.slice na7 n7 c7, .slice na2 m c2]).run Tryd.prog w7 = .ok (.slice na8 n8 c8) w8 ∧ InsW T W (A ++ [x] ++ B) (.slice na8 n8 c8) w6 w7 w8 := by
  have ke : Kp W (W.alloc (.cells (T.enc x).toArray T.e)) := (Kp.refl W).alloc _
  have kp : Kp (W.alloc (.cells (T.enc x).toArray T.e)) ((W.alloc (.cells (T.enc x).toArray T.e)).alloc (.cells #[] T.e)) := (Kp.refl _).alloc _
  have rx := (row_madew (T := T) W x).kp kp
  have re := AX.empty (T := T) (W.alloc (.cells (T.enc x).toArray T.e))
  rw [World.size_alloc] at re
  obtain ⟨na6, n6, c6, w6, r6, o6, k6, f6⟩ := ins_gow (B := B) K (ke.trans kp) (re.low (by omega)) h1 l1 z1 hl ty
  have rx6 : AS T w6 (some ⟨W.heap.size, 0, none⟩) [x] := rx.fr f6 (fun g ⟨o, e⟩ => by simp at e; intro c; omega)
  obtain ⟨na7, n7, c7, w7, na8, n8, c8, w8, r7, r8, o8, k7, k8⟩ := ins_endw K k6 o6 rx6 h2 l2 z2 hl ty
  exact ⟨na6, n6, c6, w6, na7, n7, c7, w7, na8, n8, c8, w8, r6, r7, r8, o8, k6, k7, k8⟩
end


/-! ### rising lists -/
theorem upT_all {L : List Nat} {k x : Nat} (hr : L.Pairwise (· < ·)) (hi : ∀ y, L[k]? = some y → x ≤ y) : ∀ y ∈ L.drop k, x ≤ y := by
  intro y hy
  obtain ⟨j, hj⟩ := List.mem_iff_getElem?.1 hy
  rw [List.getElem?_drop] at hj
  have h1 := (List.getElem?_eq_some_iff.1 hj).1
  obtain ⟨z, hz⟩ : ∃ z, L[k]? = some z := ⟨_, List.getElem?_eq_getElem (by omega)⟩
  have hx := hi z hz
  by_cases c : j = 0
  · subst c
    rw [Nat.add_zero, hz] at hj
    cases hj; exact hx
  · have := List.pairwise_iff_getElem.1 hr k (k + j) (by omega) h1 (by omega)
    have e1 := (List.getElem?_eq_some_iff.1 hz).2
    have e2 := (List.getElem?_eq_some_iff.1 hj).2
    omega
theorem lowT_all {L : List Nat} {k x : Nat} (lo : ∀ j y, j < k → L[j]? = some y → y < x) : ∀ y ∈ L.take k, y < x := by
  intro y hy
  obtain ⟨j, hj⟩ := List.mem_iff_getElem?.1 hy
  rw [List.getElem?_take] at hj
  split at hj
  · exact lo j y (by assumption) hj
  · cases hj
theorem memT_at {L : List Nat} {k x : Nat} (hr : L.Pairwise (· < ·)) (lo : ∀ j y, j < k → L[j]? = some y → y < x) (hi : ∀ y, L[k]? = some y → x ≤ y) : x ∈ L ↔ L[k]? = some x := by
  constructor
  · intro hm
    rw [← List.take_append_drop k L, List.mem_append] at hm
    rcases hm with c | c
    · have := lowT_all lo x c; omega
    · obtain ⟨j, hj⟩ := List.mem_iff_getElem?.1 c
      rw [List.getElem?_drop] at hj
      by_cases e : j = 0
      · rw [e] at hj; exact hj
      · have h1 := (List.getElem?_eq_some_iff.1 hj).1
        obtain ⟨z, hz⟩ : ∃ z, L[k]? = some z := ⟨_, List.getElem?_eq_getElem (by omega)⟩
        have hx := hi z hz
        have := List.pairwise_iff_getElem.1 hr k (k + j) (by omega) h1 (by omega)
        have e1 := (List.getElem?_eq_some_iff.1 hz).2
        have e2 := (List.getElem?_eq_some_iff.1 hj).2
        omega
  · intro h
    exact List.mem_of_getElem? h
theorem insT_rise {L : List Nat} {k x : Nat} (hr : L.Pairwise (· < ·)) (lo : ∀ j y, j < k → L[j]? = some y → y < x) (hi : ∀ y, L[k]? = some y → x ≤ y) (hn : x ∉ L) : (L.take k ++ [x] ++ L.drop k).Pairwise (· < ·) ∧ ∀ q, q ∈ L.take k ++ [x] ++ L.drop k ↔ q ∈ L ∨ q = x := by
  have h0 : (L.take k ++ L.drop k).Pairwise (· < ·) := by rw [List.take_append_drop]; exact hr
  obtain ⟨h1, h2, h3⟩ := List.pairwise_append.1 h0
  have a1 := lowT_all lo
  have a2 : ∀ y ∈ L.drop k, x < y := fun y hy => by
    have := upT_all hr hi y hy
    have hy' : y ∈ L := List.mem_of_mem_drop hy
    have : y ≠ x := fun e => hn (by rw [← e]; exact hy')
    omega
  refine ⟨?_, fun q => ?_⟩
  · rw [List.append_assoc]
    refine List.pairwise_append.2 ⟨h1, List.pairwise_append.2 ⟨by simp, h2, fun a ha b hb => ?_⟩, fun a ha b hb => ?_⟩
    · rw [List.mem_singleton] at ha; rw [ha]; exact a2 b hb
    · rcases List.mem_append.1 hb with c | c
      · rw [List.mem_singleton] at c; rw [c]; exact a1 a ha
      · exact h3 a ha b c
  · have e : q ∈ L ↔ q ∈ L.take k ∨ q ∈ L.drop k := by rw [← List.mem_append, List.take_append_drop]
    rw [e, List.mem_append, List.mem_append, List.mem_singleton]
    constructor
    · rintro ((c | c) | c)
      · exact .inl (.inl c)
      · exact .inr c
      · exact .inl (.inr c)
    · rintro ((c | c) | c)
      · exact .inl (.inl c)
      · exact .inr c
      · exact .inl (.inr c)
theorem cutT_rise {L : List Nat} {k x : Nat} (hr : L.Pairwise (· < ·)) (hx : L[k]? = some x) : (L.take k ++ L.drop (k + 1)).Pairwise (· < ·) ∧ ∀ q, q ∈ L.take k ++ L.drop (k + 1) ↔ q ∈ L ∧ q ≠ x := by
  have hk := (List.getElem?_eq_some_iff.1 hx).1
  have hd : L.drop k = x :: L.drop (k + 1) := by
    rw [List.drop_eq_getElem_cons hk, (List.getElem?_eq_some_iff.1 hx).2]
  have e0 : L = L.take k ++ x :: L.drop (k + 1) := by rw [← hd, List.take_append_drop]
  have h0 := hr
  rw [e0] at h0
  obtain ⟨h1, h2, h3⟩ := List.pairwise_append.1 h0
  obtain ⟨h4, h5⟩ := List.pairwise_cons.1 h2
  refine ⟨List.pairwise_append.2 ⟨h1, h5, fun a ha b hb => h3 a ha b (List.mem_cons_of_mem _ hb)⟩, fun q => ?_⟩
  have e : q ∈ L ↔ q ∈ L.take k ∨ q = x ∨ q ∈ L.drop (k + 1) := by
    conv => lhs; rw [e0]
    rw [List.mem_append, List.mem_cons]
  rw [e, List.mem_append]
  constructor
  · rintro (c | c)
    · exact ⟨.inl c, by have := h3 q c x (List.mem_cons_self ..); omega⟩
    · exact ⟨.inr (.inr c), by have := h4 q c; omega⟩
  · rintro ⟨c | c | c, n⟩
    · exact .inl c
    · exact absurd c n
    · exact .inr c

/-- The document's log at r: on or not, its list v (L, rising) in blocks at or above b. -/
structure RLg (w : World) (r b : Nat) (on : Bool) (v : Value) (L : List Nat) : Prop where
  c : w.heap[r]? = some (.cells #[.bool on, v] 28 (0, 0))
  ax : AX LTw w b v L
  ne : ∀ g, v.ownBlock = some g → g ≠ r
  rise : L.Pairwise (· < ·)
section
variable {w w' : World} {r b : Nat} {on : Bool} {v : Value} {L : List Nat}
theorem RLg.lt (h : RLg w r b on v L) : r < w.heap.size := (Array.getElem?_eq_some_iff.1 h.c).1
theorem RLg.fr (h : RLg w r b on v L) {S : Nat → Prop} (k : Fr S w w') (h1 : ¬ S r) (h2 : ∀ g, v.ownBlock = some g → ¬ S g) : RLg w' r b on v L := ⟨(k.block r h.lt h1).trans h.c, h.ax.fr k (fun g _ _ e s => h2 g e s), h.ne, h.rise⟩
theorem RLg.kp (h : RLg w r b on v L) (k : Kp w w') : RLg w' r b on v L := h.fr (k.fr (fun _ => False)) id (fun _ _ => id)
theorem RLg.c0 (h : RLg w r b on v L) : w.cell? ⟨r, 0, none⟩ = some (.bool on) := by rw [cell_of_row w r 0 _ _ _ h.c]; rfl
theorem RLg.c1 (h : RLg w r b on v L) : w.cell? ⟨r, 1, none⟩ = some v := by rw [cell_of_row w r 1 _ _ _ h.c]; rfl
theorem RLg.fz (h : RLg w r b on v L) (j : Nat) : w.frozen? ⟨r, j, none⟩ = false := frozen_of_row w r j _ _ h.c
set_option maxHeartbeats 8000000 in
theorem rlat_any (h : RLg w r b on v L) (hl : L.length ≤ 100000) (x : Nat) :
    Calls Tryd.prog 23 #[.pointer (some ⟨r, 0, none⟩), .int .u64 (x : Int)] w fun e w' => ∃ k : Nat, e = .returned (.tuple #[.int .i64 (k : Int), .bool (decide (x ∈ L))]) ∧ k ≤ L.length ∧ (∀ j y, j < k → L[j]? = some y → y < x) ∧ (∀ y, L[k]? = some y → x ≤ y) ∧ ∃ n, w' = w.drewN n := by
  obtain ⟨na, cap, rfl, _, _, hc⟩ := h.ax.form okT_w64
  have c1 := h.c1
  obtain ⟨n, hn⟩ : ∃ n, n = L.length := ⟨_, rfl⟩
  rw [← hn] at c1
  have HN : Hid (n = L.length ∧ L.Pairwise (· < ·) ∧ ∀ i x, L[i]? = some x → ∃ g, na = some ⟨g, 0, none⟩ ∧ g < w.heap.size ∧ b ≤ g ∧ ∀ j y, (LTw.enc x)[j]? = some y → w.cell? ⟨g, i * LTw.sz + j, none⟩ = some y) := ⟨hn, h.rise, hc⟩
  have bn : (n : Int) ≤ 100000 := by omega
  obtain ⟨m, hm⟩ : ∃ m, m = decide (x ∈ L) := ⟨_, rfl⟩
  rw [← hm]
  have HM : Hid (m = decide (x ∈ L)) := hm
  clear h hn hc hm hl
  go_enter Tryd.func23, Tryd.ntmps23
  go_wp2_with fail
  go_loopg [6] (n + 1) (fun gg v6 wr => ∃ i : Nat, v6 = .int .i64 (i : Int) ∧ i ≤ n ∧ n + 1 - i ≤ gg ∧ wr = w ∧ Hid (∀ j y, j < i → L[j]? = some y → y < x))
  case atStart => exact ⟨0, rfl, by omega, by omega, rfl, (show ∀ j y, j < 0 → _ from fun j y hj => by omega)⟩
  case round =>
    obtain ⟨i, rfl, hi, hg, ew, HI⟩ := hrel
    subst ew
    by_cases hlt : i < n
    · have z1 : (i : Int) < (n : Int) := by omega
      obtain ⟨y, hy⟩ : ∃ y, L[i]? = some y := ⟨_, List.getElem?_eq_getElem (by have := HN.out.1; omega)⟩
      obtain ⟨g, rfl, _, _, hc⟩ := HN.out.2.2 i y hy
      have e0 := hc 0 _ rfl
      simp only [show LTw.sz = 1 from rfl, Nat.add_zero, Nat.mul_one] at e0
      have Hy : Hid (L[i]? = some y) := hy
      clear hc hy
      by_cases c : y < x
      · have z2 : (y : Int) < (x : Int) := by omega
        have HX : Hid (∀ j z, j < i + 1 → L[j]? = some z → z < x) := fun j z hj hz => by
          by_cases ej : j = i
          · rw [ej, Hy.out] at hz; cases hz; exact c
          · exact HI.out j z (by omega) hz
        clear HI c
        go_wp2_with fail
        go_roundg (n + 1 - (i + 1))
        case measure => omega
        case rel => exact ⟨i + 1, by go_num, by omega, by omega, rfl, HX⟩
      · have z2 : ¬ (y : Int) < (x : Int) := by omega
        have d1 : decide ((i : Int) < (n : Int)) = true := decide_eq_true z1
        have HE : Hid (∀ y, L[i]? = some y → x ≤ y) := fun z hz => by rw [Hy.out] at hz; cases hz; omega
        have HB : Hid (m = decide (x = y)) := by
          show m = _
          rw [HM.out]
          have := memT_at HN.out.2.1 HI.out HE.out
          rw [Hy.out] at this
          by_cases q : x = y
          · rw [decide_eq_true q]; exact decide_eq_true (this.2 (by rw [q]))
          · rw [decide_eq_false q]; exact decide_eq_false (fun s => q (by have := this.1 s; cases this; rfl))
        have HL : Hid (i ≤ L.length) := by show i ≤ _; have := HN.out.1; omega
        by_cases q : x = y
        · have z3 : ((y : Int) == (x : Int)) = true := by simp; omega
          have HB2 : Hid (m = true) := by show m = true; rw [HB.out]; exact decide_eq_true q
          clear q c HB
          go_wp2_with fail
          go_quiet (fail)
          go_wp2_with fail
          go_ret2
          exact ⟨i, by rw [HB2.out]; rfl, HL.out, HI.out, HE.out, _, rfl⟩
        · have z3 : ((y : Int) == (x : Int)) = false := by simp; omega
          have HB2 : Hid (m = false) := by show m = false; rw [HB.out]; exact decide_eq_false q
          clear q c HB
          go_wp2_with fail
          go_quiet (fail)
          go_wp2_with fail
          go_ret2
          exact ⟨i, by rw [HB2.out]; rfl, HL.out, HI.out, HE.out, _, rfl⟩
    · have z1 : ¬ (i : Int) < (n : Int) := by omega
      have d1 : decide ((i : Int) < (n : Int)) = false := decide_eq_false z1
      have hno : L[i]? = none := List.getElem?_eq_none (by have := HN.out.1; omega)
      have HE : Hid (∀ y, L[i]? = some y → x ≤ y) := fun z hz => by rw [hno] at hz; cases hz
      have HB2 : Hid (m = false) := by
        show m = false
        rw [HM.out]
        exact decide_eq_false (fun s => by have := (memT_at HN.out.2.1 HI.out HE.out).1 s; rw [hno] at this; cases this)
      have HL : Hid (i ≤ L.length) := by show i ≤ _; have := HN.out.1; omega
      clear hno
      go_wp2_with fail
      go_quiet (fail)
      go_wp2_with fail
      go_ret2
      exact ⟨i, by rw [HB2.out]; rfl, HL.out, HI.out, HE.out, _, rfl⟩
set_option maxHeartbeats 4000000 in
theorem rlhas_any (h : RLg w r b on v L) (hl : L.length ≤ 100000) (x : Nat) :
    Calls Tryd.prog 20 #[.pointer (some ⟨r, 0, none⟩), .int .u64 (x : Int)] w fun e w' => e = .returned (.bool (decide (x ∈ L))) ∧ ∃ n, w' = w.drewN n := by
  have ca := rlat_any h hl x
  clear h hl
  generalize decide (x ∈ L) = m at *
  go_enter Tryd.func20, Tryd.ntmps20
  go_wp2_with fail
  with_reducible refine ca.mono ?_
  rintro e w1 ⟨k, rfl, _, _, _, n, rfl⟩
  clear ca
  go_wp2_with fail
  go_ret
  exact ⟨rfl, n, rfl⟩
end

end Go.Proofs.YthkkcnnlfjchaaaDoor
