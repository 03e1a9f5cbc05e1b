/- append(append(append([]T{}, l[:k]...), x), l[k:]...), in each order of its rows; l[:k], l[k:] (cut out of LF). -/
import Derived.Test.YtpjlmmiceiionaaDoorJ00
import Derived.Test.YtpjlmmiceiionaaDoorAL
namespace Go.Proofs.YtpjlmmiceiionaaDoor
open Go.RowKit Go.Maps
set_option maxRecDepth 10000

theorem step_appw {P : Program} {w : World} {ops : Array Oper} {o : Oper} {a : Act} {K : Act → World → Prop} {Q : Exit → Act → World → Prop} {E : Prop} {t ty : TypeId} {vs vx v' : Value} {w' : World}
    (hr : (Builtin.append_ #[t, t] ty #[vs, vx]).run P w = .ok v' w') (hgd : o.guard = none) (s x : Operand) (ho : o.op = .call { callee := .builtin .append, args := #[s, x], argTypes := #[t, t] }) (hty : o.type = ty) (hs : a.eval s = vs) (hx : a.eval x = vx)
    (h : K (a.put o.dst v') w') : if Region.wanted o (yielded ops a.tmps) = true then Oper.wp P o a w K Q else E := by
  rw [if_pos (by simp [Region.wanted, hgd])]
  exact wp_append_of hr s x ho hty hs hx h


section
variable {α : Type} {T : LT α} {w : World} {L : List α}
/-- l[:k], l[k:], in whatever world. -/
theorem part_hiw (K : LTok T) (na : Option Addr) (n cap k : Nat) (hk : k ≤ cap) : ∃ na', (∀ w, (Instr.slice T.t (.slice na n cap) none (some (.int .i64 (k : Int))) none).run Tryd.prog w = .ok (.slice na' k cap) w) ∧ (na = none → na' = none) ∧ ∀ g o, na = some ⟨g, o, none⟩ → na' = some ⟨g, o, none⟩ := by
  refine ⟨(if cap = 0 then na else na.map (·.add (0 * T.sz))), fun w => ?_, fun e => ?_, fun g o e => ?_⟩
  · rw [run_slice_h w T.t na n cap (by rw [elem_of K]; exact K.ht) .i64 (k : Int) (by omega) (by omega), elem_of K, K.hs w, Result.andThen_ok, Int.toNat_natCast]
    rfl
  · subst e; split <;> rfl
  · subst e
    split
    · rfl
    · show some ((Addr.mk g o none).add (0 * T.sz)) = _
      rw [add_at]; simp
theorem part_low (K : LTok T) (na : Option Addr) (n cap k : Nat) (hk : k ≤ n) : ∃ na', (∀ w, (Instr.slice T.t (.slice na n cap) (some (.int .i64 (k : Int))) none none).run Tryd.prog w = .ok (.slice na' (n - k) (cap - k)) w) ∧ (na = none → na' = none) ∧ ∀ g o, na = some ⟨g, o, none⟩ → (cap = k ∧ na' = some ⟨g, o, none⟩) ∨ (cap ≠ k ∧ na' = some ⟨g, o + k * T.sz, none⟩) := by
  refine ⟨(if cap = k then na else na.map (·.add (k * T.sz))), fun w => ?_, fun e => ?_, fun g o e => ?_⟩
  · rw [run_slice_l w T.t na n cap (by rw [elem_of K]; exact K.ht) .i64 (k : Int) (by omega) (by omega), elem_of K, K.hs w, Result.andThen_ok, Int.toNat_natCast]
    rfl
  · subst e; split <;> rfl
  · subst e
    by_cases c : cap = k
    · rw [if_pos c]; exact .inl ⟨c, rfl⟩
    · rw [if_neg c]
      refine .inr ⟨c, ?_⟩
      show some ((Addr.mk g o none).add (k * T.sz)) = _
      rw [add_at]
/-- What lies ahead of a place, what from it on. -/
theorem AS.hiw (K : LTok T) {na na' : Option Addr} (h : AS T w na L) (k : Nat) (e2 : na = none → na' = none) (e3 : ∀ g o, na = some ⟨g, o, none⟩ → na' = some ⟨g, o, none⟩) : AS T w na' (L.take k) := by
  rcases h with ⟨h1, h2⟩ | ⟨b, o, h1, hb, h2⟩
  · exact .inl ⟨e2 h1, by rw [h2]; simp⟩
  · refine .inr ⟨b, o, e3 b o h1, hb, fun j u hu => h2 j u ?_⟩
    rw [← flat_take K.E, List.getElem?_take] at hu
    split at hu
    · exact hu
    · cases hu
theorem AS.loww (K : LTok T) {na na' : Option Addr} (h : AS T w na L) {cap : Nat} (k : Nat) (hl : L.length ≤ cap) (e2 : na = none → na' = none) (e3 : ∀ g o, na = some ⟨g, o, none⟩ → (cap = k ∧ na' = some ⟨g, o, none⟩) ∨ (cap ≠ k ∧ na' = some ⟨g, o + k * T.sz, none⟩)) : AS T w na' (L.drop k) := by
  rcases h with ⟨h1, h2⟩ | ⟨b, o, h1, hb, h2⟩
  · exact .inl ⟨e2 h1, by rw [h2]; simp⟩
  · rcases e3 b o h1 with ⟨q, e⟩ | ⟨_, e⟩
    · refine .inr ⟨b, o, e, hb, fun j u hu => ?_⟩
      rw [List.drop_of_length_le (by omega)] at hu
      simp at hu
    · refine .inr ⟨b, o + k * T.sz, e, hb, fun j u hu => ?_⟩
      rw [← flat_drop K.E, List.getElem?_drop] at hu
      rw [Nat.add_assoc]
      exact h2 _ u hu
theorem part_nilw {na na' : Option Addr} (e3 : ∀ g o, na = some ⟨g, o, none⟩ → na' = some ⟨g, o, none⟩) (h : AS T w na L) (e : na' = none) : na = none := by
  rcases h with ⟨h1, _⟩ | ⟨b, o, h1, _⟩
  · exact h1
  · rw [e3 b o h1] at e; cases e
theorem part_nilw2 {na na' : Option Addr} {cap k : Nat} (e3 : ∀ g o, na = some ⟨g, o, none⟩ → (cap = k ∧ na' = some ⟨g, o, none⟩) ∨ (cap ≠ k ∧ na' = some ⟨g, o + k * T.sz, none⟩)) (h : AS T w na L) (e : na' = none) : na = none := by
  rcases h with ⟨h1, _⟩ | ⟨b, o, h1, _⟩
  · exact h1
  · rcases e3 b o h1 with ⟨_, q⟩ | ⟨_, q⟩ <;> rw [q] at e <;> cases e
end

section
variable {α : Type} {T : LT α} {W : World} {A B : List α} {x : α} {na1 na2 : Option Addr} {k c1 m c2 : Nat}
/-- What the three appends leave: the worlds behind each, the list. -/
def InsW (T : LT α) (W : World) (L : List α) (v : Value) (w6 w7 w8 : World) : Prop := AX T w8 W.heap.size v L ∧ Kp W w6 ∧ Kp W w7 ∧ Kp W w8
theorem ins_gow (K : LTok T) {w0 : World} {e : Nat} (kE : Kp W w0) (hE : AX T w0 W.heap.size (.slice (some ⟨e, 0, none⟩) 0 0) []) (h1 : AS T W na1 A) (l1 : k = A.length) (z1 : A = [] → na1 = none → c1 = 0) (hl : A.length + 1 + B.length ≤ 1000000) (ty : TypeId) :
    ∃ na6 n6 c6 w6, (Builtin.append_ #[T.t, T.t] ty #[.slice (some ⟨e, 0, none⟩) 0 0, .slice na1 k c1]).run Tryd.prog w0 = .ok (.slice na6 n6 c6) w6 ∧ AX T w6 W.heap.size (.slice na6 n6 c6) A ∧ Kp W w6 ∧ Fr (fun g => g = e) w0 w6 := by
  obtain ⟨na6, n6, c6, w6, r6, _, o6, f6, k6, _⟩ := hE.app K kE.size (h1.kp kE) l1 z1 (by simp; omega) ty
  rw [List.nil_append] at o6
  exact ⟨na6, n6, c6, w6, r6, o6, k6 W (Nat.le_refl _) kE, f6.mono (fun g _ e => by have e := e; simp [Value.ownBlock] at e; exact e.symm)⟩
theorem ins_endw (K : LTok T) {w6 : World} {na6 : Option Addr} {n6 c6 e : Nat} (k6 : Kp W w6) (o6 : AX T w6 W.heap.size (.slice na6 n6 c6) A) (hx : AS T w6 (some ⟨e, 0, none⟩) [x]) (h2 : AS T W na2 B) (l2 : m = B.length) (z2 : B = [] → na2 = none → c2 = 0) (hl : A.length + 1 + B.length ≤ 1000000) (ty : TypeId) :
    ∃ na7 n7 c7 w7 na8 n8 c8 w8, (Builtin.append_ #[T.t, T.t] ty #[.slice na6 n6 c6, .slice (some ⟨e, 0, none⟩) 1 1]).run Tryd.prog w6 = .ok (.slice na7 n7 c7) w7 ∧
      (Builtin.append_ #[T.t, T.t] ty #[.slice na7 n7 c7, .slice na2 m c2]).run Tryd.prog w7 = .ok (.slice na8 n8 c8) w8 ∧ AX T w8 W.heap.size (.slice na8 n8 c8) (A ++ [x] ++ B) ∧ Kp W w7 ∧ Kp W w8 := by
  obtain ⟨na7, n7, c7, w7, r7, _, o7, f7, k7, _⟩ := o6.app K k6.size hx (m := 1) (c := 1) rfl (fun e => by cases e) (by simp; omega) ty
  have K7 := k7 W (Nat.le_refl _) k6
  obtain ⟨na8, n8, c8, w8, r8, _, o8, f8, k8, _⟩ := o7.app K K7.size (h2.kp K7) l2 z2 (by simp; omega) ty
  exact ⟨na7, n7, c7, w7, na8, n8, c8, w8, r7, r8, o8, K7, k8 W (Nat.le_refl _) K7⟩
theorem row_madew (w : World) (x : α) : AS T (w.alloc (.cells (T.enc x).toArray T.e)) (some ⟨w.heap.size, 0, none⟩) [x] := by
  have := AS.made (T := T) w [x]
  rwa [show [x].flatMap T.enc = T.enc x by simp] at this
/-- The empty row, what is ahead, then the one. -/
theorem ins_Aw (K : LTok T) (h1 : AS T W na1 A) (l1 : k = A.length) (z1 : A = [] → na1 = none → c1 = 0) (h2 : AS T W na2 B) (l2 : m = B.length) (z2 : B = [] → na2 = none → c2 = 0) (x : α) (hl : A.length + 1 + B.length ≤ 1000000) (ty : TypeId) :
    ∃ na6 n6 c6 w6 na7 n7 c7 w7 na8 n8 c8 w8, (Builtin.append_ #[T.t, T.t] ty #[.slice (some ⟨W.heap.size, 0, none⟩) 0 0, .slice na1 k c1]).run Tryd.prog (W.alloc (.cells #[] T.e)) = .ok (.slice na6 n6 c6) w6 ∧
      (Builtin.append_ #[T.t, T.t] ty #[.slice na6 n6 c6, .slice (some ⟨w6.heap.size, 0, none⟩) 1 1]).run Tryd.prog (w6.alloc (.cells (T.enc x).toArray T.e)) = .ok (.slice na7 n7 c7) w7 ∧
      (Builtin.append_ #[T.t, T.t] ty #[.slice na7 n7 c7, .slice na2 m c2]).run Tryd.prog w7 = .ok (.slice na8 n8 c8) w8 ∧ InsW T W (A ++ [x] ++ B) (.slice na8 n8 c8) w6 w7 w8 := by
  obtain ⟨na6, n6, c6, w6, r6, o6, k6, _⟩ := ins_gow (B := B) K ((Kp.refl W).alloc (.cells #[] T.e)) (AX.empty W) h1 l1 z1 hl ty
  have ka : Kp w6 (w6.alloc (.cells (T.enc x).toArray T.e)) := (Kp.refl w6).alloc _
  obtain ⟨na7, n7, c7, w7, na8, n8, c8, w8, r7, r8, o8, k7, k8⟩ := ins_endw K (k6.trans ka) (o6.kp ka) (row_madew w6 x) h2 l2 z2 hl ty
  exact ⟨na6, n6, c6, w6, na7, n7, c7, w7, na8, n8, c8, w8, r6, r7, r8, o8, k6, k7, k8⟩
/-- The empty row, the one, then what is ahead. -/
theorem ins_Bw (K : LTok T) (h1 : AS T W na1 A) (l1 : k = A.length) (z1 : A = [] → na1 = none → c1 = 0) (h2 : AS T W na2 B) (l2 : m = B.length) (z2 : B = [] → na2 = none → c2 = 0) (x : α) (hl : A.length + 1 + B.length ≤ 1000000) (ty : TypeId) :
    ∃ na6 n6 c6 w6 na7 n7 c7 w7 na8 n8 c8 w8, (Builtin.append_ #[T.t, T.t] ty #[.slice (some ⟨W.heap.size, 0, none⟩) 0 0, .slice na1 k c1]).run Tryd.prog ((W.alloc (.cells #[] T.e)).alloc (.cells (T.enc x).toArray T.e)) = .ok (.slice na6 n6 c6) w6 ∧
      (Builtin.append_ #[T.t, T.t] ty #[.slice na6 n6 c6, .slice (some ⟨W.heap.size + 1, 0, none⟩) 1 1]).run Tryd.prog w6 = .ok (.slice na7 n7 c7) w7 ∧
      (Builtin.append_ #[T.t, T.t] ty #[.slice na7 n7 c7, .slice na2 m c2]).run Tryd.prog w7 = .ok (.slice na8 n8 c8) w8 ∧ InsW T W (A ++ [x] ++ B) (.slice na8 n8 c8) w6 w7 w8 := by
  have ke : Kp W (W.alloc (.cells #[] T.e)) := (Kp.refl W).alloc _
  have kp : Kp (W.alloc (.cells #[] T.e)) ((W.alloc (.cells #[] T.e)).alloc (.cells (T.enc x).toArray T.e)) := (Kp.refl _).alloc _
  have rx := row_madew (T := T) (W.alloc (.cells #[] T.e)) x
  rw [World.size_alloc] at rx
  obtain ⟨na6, n6, c6, w6, r6, o6, k6, f6⟩ := ins_gow (B := B) K (ke.trans kp) ((AX.empty W).kp kp) h1 l1 z1 hl ty
  have rx6 : AS T w6 (some ⟨W.heap.size + 1, 0, none⟩) [x] := rx.fr f6 (fun g ⟨o, e⟩ => by simp at e; intro c; omega)
  obtain ⟨na7, n7, c7, w7, na8, n8, c8, w8, r7, r8, o8, k7, k8⟩ := ins_endw K k6 o6 rx6 h2 l2 z2 hl ty
  exact ⟨na6, n6, c6, w6, na7, n7, c7, w7, na8, n8, c8, w8, r6, r7, r8, o8, k6, k7, k8⟩
/-- The one, the empty row, then what is ahead. -/
theorem ins_Cw (K : LTok T) (h1 : AS T W na1 A) (l1 : k = A.length) (z1 : A = [] → na1 = none → c1 = 0) (h2 : AS T W na2 B) (l2 : m = B.length) (z2 : B = [] → na2 = none → c2 = 0) (x : α) (hl : A.length + 1 + B.length ≤ 1000000) (ty : TypeId) :
    ∃ na6 n6 c6 w6 na7 n7 c7 w7 na8 n8 c8 w8, (Builtin.append_ #[T.t, T.t] ty #[.slice (some ⟨W.heap.size + 1, 0, none⟩) 0 0, .slice na1 k c1]).run Tryd.prog ((W.alloc (.cells (T.enc x).toArray T.e)).alloc (.cells #[] T.e)) = .ok (.slice na6 n6 c6) w6 ∧
      (Builtin.append_ #[T.t, T.t] ty #[.slice na6 n6 c6, .slice (some ⟨W.heap.size, 0, none⟩) 1 1]).run Tryd.prog w6 = .ok (.slice na7 n7 c7) w7 ∧
      (Builtin.append_ #[T.t, T.t] ty #[.slice na7 n7 c7, .slice na2 m c2]).run Tryd.prog w7 = .ok (.slice na8 n8 c8) w8 ∧ InsW T W (A ++ [x] ++ B) (.slice na8 n8 c8) w6 w7 w8 := by
  have ke : Kp W (W.alloc (.cells (T.enc x).toArray T.e)) := (Kp.refl W).alloc _
  have kp : Kp (W.alloc (.cells (T.enc x).toArray T.e)) ((W.alloc (.cells (T.enc x).toArray T.e)).alloc (.cells #[] T.e)) := (Kp.refl _).alloc _
  have rx := (row_madew (T := T) W x).kp kp
  have re := AX.empty (T := T) (W.alloc (.cells (T.enc x).toArray T.e))
  rw [World.size_alloc] at re
  obtain ⟨na6, n6, c6, w6, r6, o6, k6, f6⟩ := ins_gow (B := B) K (ke.trans kp) (re.low (by omega)) h1 l1 z1 hl ty
  have rx6 : AS T w6 (some ⟨W.heap.size, 0, none⟩) [x] := rx.fr f6 (fun g ⟨o, e⟩ => by simp at e; intro c; omega)
  obtain ⟨na7, n7, c7, w7, na8, n8, c8, w8, r7, r8, o8, k7, k8⟩ := ins_endw K k6 o6 rx6 h2 l2 z2 hl ty
  exact ⟨na6, n6, c6, w6, na7, n7, c7, w7, na8, n8, c8, w8, r6, r7, r8, o8, k6, k7, k8⟩
end

end Go.Proofs.YtpjlmmiceiionaaDoor
