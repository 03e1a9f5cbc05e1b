/- append(append(append([]T{}, l[:k]...), x), l[k:]...), in each order of its rows; what it lays, sorted. -/
import Derived.Test.YtfpmakmemmnbkaaAH
import Derived.Test.YtfpmakmemmnbkaaA7
namespace Go.Proofs.Ytfpmakmemmnbkaa
open Go.RowKit Go.Sort Go.Shelf

section
variable {α : Type} {T : LT α} {W : World} {A B : List α} {x : α} {na1 na2 : Option Addr} {k c1 m c2 : Nat}
/-- What the three appends leave: the worlds behind each, the list. -/
def Ins (T : LT α) (W : World) (L : List α) (v : Value) (w6 w7 w8 : World) : Prop := AX T w8 W.heap.size v L ∧ Kp W w6 ∧ Kp W w7 ∧ Kp W w8
theorem ins_go (K : LTok T) {w0 : World} {e : Nat} (kE : Kp W w0) (hE : AX T w0 W.heap.size (.slice (some ⟨e, 0, none⟩) 0 0) []) (h1 : AS T W na1 A) (l1 : k = A.length) (z1 : A = [] → na1 = none → c1 = 0) (hl : A.length + 1 + B.length ≤ 1000000) (ty : TypeId) :
    ∃ na6 n6 c6 w6, (Builtin.append_ #[T.t, T.t] ty #[.slice (some ⟨e, 0, none⟩) 0 0, .slice na1 k c1]).run Try.prog w0 = .ok (.slice na6 n6 c6) w6 ∧ AX T w6 W.heap.size (.slice na6 n6 c6) A ∧ Kp W w6 ∧ Fr (fun g => g = e) w0 w6 := by
  obtain ⟨na6, n6, c6, w6, r6, _, o6, f6, k6, _⟩ := hE.app K kE.size (h1.kp kE) l1 z1 (by simp; omega) ty
  rw [List.nil_append] at o6
  exact ⟨na6, n6, c6, w6, r6, o6, k6 W (Nat.le_refl _) kE, f6.mono (fun g _ e => by have e := e; simp [Value.ownBlock] at e; exact e.symm)⟩
theorem ins_end (K : LTok T) {w6 : World} {na6 : Option Addr} {n6 c6 e : Nat} (k6 : Kp W w6) (o6 : AX T w6 W.heap.size (.slice na6 n6 c6) A) (hx : AS T w6 (some ⟨e, 0, none⟩) [x]) (h2 : AS T W na2 B) (l2 : m = B.length) (z2 : B = [] → na2 = none → c2 = 0) (hl : A.length + 1 + B.length ≤ 1000000) (ty : TypeId) :
    ∃ na7 n7 c7 w7 na8 n8 c8 w8, (Builtin.append_ #[T.t, T.t] ty #[.slice na6 n6 c6, .slice (some ⟨e, 0, none⟩) 1 1]).run Try.prog w6 = .ok (.slice na7 n7 c7) w7 ∧
      (Builtin.append_ #[T.t, T.t] ty #[.slice na7 n7 c7, .slice na2 m c2]).run Try.prog w7 = .ok (.slice na8 n8 c8) w8 ∧ AX T w8 W.heap.size (.slice na8 n8 c8) (A ++ [x] ++ B) ∧ Kp W w7 ∧ Kp W w8 := by
  obtain ⟨na7, n7, c7, w7, r7, _, o7, f7, k7, _⟩ := o6.app K k6.size hx (m := 1) (c := 1) rfl (fun e => by cases e) (by simp; omega) ty
  have K7 := k7 W (Nat.le_refl _) k6
  obtain ⟨na8, n8, c8, w8, r8, _, o8, f8, k8, _⟩ := o7.app K K7.size (h2.kp K7) l2 z2 (by simp; omega) ty
  exact ⟨na7, n7, c7, w7, na8, n8, c8, w8, r7, r8, o8, K7, k8 W (Nat.le_refl _) K7⟩
theorem row_made (w : World) (x : α) : AS T (w.alloc (.cells (T.enc x).toArray T.e)) (some ⟨w.heap.size, 0, none⟩) [x] := by
  have := AS.made (T := T) w [x]
  rwa [show [x].flatMap T.enc = T.enc x by simp] at this
/-- The empty row, what is ahead, then the one. -/
theorem ins_A (K : LTok T) (h1 : AS T W na1 A) (l1 : k = A.length) (z1 : A = [] → na1 = none → c1 = 0) (h2 : AS T W na2 B) (l2 : m = B.length) (z2 : B = [] → na2 = none → c2 = 0) (x : α) (hl : A.length + 1 + B.length ≤ 1000000) (ty : TypeId) :
    ∃ na6 n6 c6 w6 na7 n7 c7 w7 na8 n8 c8 w8, (Builtin.append_ #[T.t, T.t] ty #[.slice (some ⟨W.heap.size, 0, none⟩) 0 0, .slice na1 k c1]).run Try.prog (W.alloc (.cells #[] T.e)) = .ok (.slice na6 n6 c6) w6 ∧
      (Builtin.append_ #[T.t, T.t] ty #[.slice na6 n6 c6, .slice (some ⟨w6.heap.size, 0, none⟩) 1 1]).run Try.prog (w6.alloc (.cells (T.enc x).toArray T.e)) = .ok (.slice na7 n7 c7) w7 ∧
      (Builtin.append_ #[T.t, T.t] ty #[.slice na7 n7 c7, .slice na2 m c2]).run Try.prog w7 = .ok (.slice na8 n8 c8) w8 ∧ Ins T W (A ++ [x] ++ B) (.slice na8 n8 c8) w6 w7 w8 := by
  obtain ⟨na6, n6, c6, w6, r6, o6, k6, _⟩ := ins_go (B := B) K ((Kp.refl W).alloc (.cells #[] T.e)) (AX.empty W) h1 l1 z1 hl ty
  have ka : Kp w6 (w6.alloc (.cells (T.enc x).toArray T.e)) := (Kp.refl w6).alloc _
  obtain ⟨na7, n7, c7, w7, na8, n8, c8, w8, r7, r8, o8, k7, k8⟩ := ins_end K (k6.trans ka) (o6.kp ka) (row_made w6 x) h2 l2 z2 hl ty
  exact ⟨na6, n6, c6, w6, na7, n7, c7, w7, na8, n8, c8, w8, r6, r7, r8, o8, k6, k7, k8⟩
/-- The empty row, the one, then what is ahead. -/
theorem ins_B (K : LTok T) (h1 : AS T W na1 A) (l1 : k = A.length) (z1 : A = [] → na1 = none → c1 = 0) (h2 : AS T W na2 B) (l2 : m = B.length) (z2 : B = [] → na2 = none → c2 = 0) (x : α) (hl : A.length + 1 + B.length ≤ 1000000) (ty : TypeId) :
    ∃ na6 n6 c6 w6 na7 n7 c7 w7 na8 n8 c8 w8, (Builtin.append_ #[T.t, T.t] ty #[.slice (some ⟨W.heap.size, 0, none⟩) 0 0, .slice na1 k c1]).run Try.prog ((W.alloc (.cells #[] T.e)).alloc (.cells (T.enc x).toArray T.e)) = .ok (.slice na6 n6 c6) w6 ∧
      (Builtin.append_ #[T.t, T.t] ty #[.slice na6 n6 c6, .slice (some ⟨W.heap.size + 1, 0, none⟩) 1 1]).run Try.prog w6 = .ok (.slice na7 n7 c7) w7 ∧
      (Builtin.append_ #[T.t, T.t] ty #[.slice na7 n7 c7, .slice na2 m c2]).run Try.prog w7 = .ok (.slice na8 n8 c8) w8 ∧ Ins T W (A ++ [x] ++ B) (.slice na8 n8 c8) w6 w7 w8 := by
  have ke : Kp W (W.alloc (.cells #[] T.e)) := (Kp.refl W).alloc _
  have kp : Kp (W.alloc (.cells #[] T.e)) ((W.alloc (.cells #[] T.e)).alloc (.cells (T.enc x).toArray T.e)) := (Kp.refl _).alloc _
  have rx := row_made (T := T) (W.alloc (.cells #[] T.e)) x
  rw [World.size_alloc] at rx
  obtain ⟨na6, n6, c6, w6, r6, o6, k6, f6⟩ := ins_go (B := B) K (ke.trans kp) ((AX.empty W).kp kp) h1 l1 z1 hl ty
  have rx6 : AS T w6 (some ⟨W.heap.size + 1, 0, none⟩) [x] := rx.fr f6 (fun g ⟨o, e⟩ => by simp at e; intro c; omega)
  obtain ⟨na7, n7, c7, w7, na8, n8, c8, w8, r7, r8, o8, k7, k8⟩ := ins_end K k6 o6 rx6 h2 l2 z2 hl ty
  exact ⟨na6, n6, c6, w6, na7, n7, c7, w7, na8, n8, c8, w8, r6, r7, r8, o8, k6, k7, k8⟩
/-- The one, the empty row, then what is ahead. -/
theorem ins_C (K : LTok T) (h1 : AS T W na1 A) (l1 : k = A.length) (z1 : A = [] → na1 = none → c1 = 0) (h2 : AS T W na2 B) (l2 : m = B.length) (z2 : B = [] → na2 = none → c2 = 0) (x : α) (hl : A.length + 1 + B.length ≤ 1000000) (ty : TypeId) :
    ∃ na6 n6 c6 w6 na7 n7 c7 w7 na8 n8 c8 w8, (Builtin.append_ #[T.t, T.t] ty #[.slice (some ⟨W.heap.size + 1, 0, none⟩) 0 0, .slice na1 k c1]).run Try.prog ((W.alloc (.cells (T.enc x).toArray T.e)).alloc (.cells #[] T.e)) = .ok (.slice na6 n6 c6) w6 ∧
      (Builtin.append_ #[T.t, T.t] ty #[.slice na6 n6 c6, .slice (some ⟨W.heap.size, 0, none⟩) 1 1]).run Try.prog w6 = .ok (.slice na7 n7 c7) w7 ∧
      (Builtin.append_ #[T.t, T.t] ty #[.slice na7 n7 c7, .slice na2 m c2]).run Try.prog w7 = .ok (.slice na8 n8 c8) w8 ∧ Ins T W (A ++ [x] ++ B) (.slice na8 n8 c8) w6 w7 w8 := by
  have ke : Kp W (W.alloc (.cells (T.enc x).toArray T.e)) := (Kp.refl W).alloc _
  have kp : Kp (W.alloc (.cells (T.enc x).toArray T.e)) ((W.alloc (.cells (T.enc x).toArray T.e)).alloc (.cells #[] T.e)) := (Kp.refl _).alloc _
  have rx := (row_made (T := T) W x).kp kp
  have re := AX.empty (T := T) (W.alloc (.cells (T.enc x).toArray T.e))
  rw [World.size_alloc] at re
  obtain ⟨na6, n6, c6, w6, r6, o6, k6, f6⟩ := ins_go (B := B) K (ke.trans kp) (re.low (by omega)) h1 l1 z1 hl ty
  have rx6 : AS T w6 (some ⟨W.heap.size, 0, none⟩) [x] := rx.fr f6 (fun g ⟨o, e⟩ => by simp at e; intro c; omega)
  obtain ⟨na7, n7, c7, w7, na8, n8, c8, w8, r7, r8, o8, k7, k8⟩ := ins_end K k6 o6 rx6 h2 l2 z2 hl ty
  exact ⟨na6, n6, c6, w6, na7, n7, c7, w7, na8, n8, c8, w8, r6, r7, r8, o8, k6, k7, k8⟩
end

/-! ### places in their order -/
theorem ins_perm {α : Type} (L : List α) (k : Nat) (x : α) : (L.take k ++ [x] ++ L.drop k).Perm (L ++ [x]) := by
  rw [List.append_assoc]
  have h : (L.take k ++ ([x] ++ L.drop k)).Perm (L.take k ++ (L.drop k ++ [x])) := (List.perm_append_comm).append_left _
  refine h.trans ?_
  rw [← List.append_assoc, List.take_append_drop]
theorem ins_sort {L : List PLc} {k : Nat} {x : PLc} (hk : k ≤ L.length) (hs : L.Pairwise fun x y => ltOf cfP y x = false) (hi : ∀ j y, k ≤ j → L[j]? = some y → ltP x y) (lo : k = 0 ∨ ∃ y, L[k - 1]? = some y ∧ ¬ ltP x y) :
    L.take k ++ [x] ++ L.drop k = srtP (L ++ [x]) := by
  refine srtP_of (ins_perm L k x) ?_
  have hL : L.take k ++ L.drop k = L := List.take_append_drop k L
  have hs' := hs
  rw [← hL] at hs'
  obtain ⟨p1, p2, p3⟩ := List.pairwise_append.1 hs'
  have ht : ∀ a ∈ L.take k, ¬ ltP x a := fun a ha => by
    obtain ⟨i, hi', ea⟩ := List.mem_iff_getElem.1 ha
    rw [List.length_take] at hi'
    have hia : L[i]? = some a := by
      rw [← ea, List.getElem_take]
      exact List.getElem?_eq_getElem (by omega)
    rcases lo with rfl | ⟨y, hy, hn⟩
    · omega
    · by_cases e : i = k - 1
      · rw [e, hy] at hia; cases hia; exact hn
      · have h1 := List.getElem?_eq_some_iff.1 hia
        have h2 := List.getElem?_eq_some_iff.1 hy
        have := List.pairwise_iff_getElem.1 hs i (k - 1) h1.1 h2.1 (by omega)
        rw [h1.2, h2.2] at this
        exact (cf_nlt x a).1 (cf_swo.ntrans x y a ((cf_nlt x y).2 hn) this)
  have hd : ∀ c ∈ L.drop k, ltP x c := fun c hc => by
    obtain ⟨i, hi', ec⟩ := List.mem_iff_getElem.1 hc
    rw [List.length_drop] at hi'
    refine hi (k + i) c (by omega) ?_
    rw [← ec, List.getElem_drop]
    exact List.getElem?_eq_getElem (by omega)
  refine List.pairwise_append.2 ⟨List.pairwise_append.2 ⟨p1, by simp, fun a ha c hc => ?_⟩, p2, fun a ha c hc => ?_⟩
  · simp at hc
    rw [hc]
    exact (cf_nlt x a).2 (ht a ha)
  · rcases List.mem_append.1 ha with q | q
    · exact p3 a q c hc
    · simp at q
      rw [q]
      have := hd c hc
      exact (cf_nlt c x).2 (by unfold ltP at *; omega)

/-! ### frames, rising -/
theorem frT_of {T : List UC} {M : List Int} (h : M.Pairwise (· < ·)) (hm : ∀ x, x ∈ M ↔ x ∈ T.map (·.1)) : M = frT T := by
  have nd : M.Nodup := h.imp (fun h e => by omega)
  exact srtI_of ((List.perm_ext_iff_of_nodup nd (ddI_nodup _)).2 fun x => by rw [ddI_mem]; exact hm x) (h.imp (fun h => by omega))
theorem ins_rise {L : List Int} {k : Nat} {x : Int} (hk : k ≤ L.length) (hs : L.Pairwise (· < ·)) (hi : ∀ j y, k ≤ j → L[j]? = some y → x < y) (lo : k = 0 ∨ ∃ y, L[k - 1]? = some y ∧ y < x) :
    (L.take k ++ [x] ++ L.drop k).Pairwise (· < ·) := by
  have hL : L.take k ++ L.drop k = L := List.take_append_drop k L
  have hs' := hs
  rw [← hL] at hs'
  obtain ⟨p1, p2, p3⟩ := List.pairwise_append.1 hs'
  have ht : ∀ a ∈ L.take k, a < x := fun a ha => by
    obtain ⟨i, hi', ea⟩ := List.mem_iff_getElem.1 ha
    rw [List.length_take] at hi'
    have hia : L[i]? = some a := by
      rw [← ea, List.getElem_take]
      exact List.getElem?_eq_getElem (by omega)
    rcases lo with rfl | ⟨y, hy, hn⟩
    · omega
    · by_cases e : i = k - 1
      · rw [e, hy] at hia; cases hia; exact hn
      · have h1 := List.getElem?_eq_some_iff.1 hia
        have h2 := List.getElem?_eq_some_iff.1 hy
        have := List.pairwise_iff_getElem.1 hs i (k - 1) h1.1 h2.1 (by omega)
        rw [h1.2, h2.2] at this
        omega
  have hd : ∀ c ∈ L.drop k, x < c := fun c hc => by
    obtain ⟨i, hi', ec⟩ := List.mem_iff_getElem.1 hc
    rw [List.length_drop] at hi'
    refine hi (k + i) c (by omega) ?_
    rw [← ec, List.getElem_drop]
    exact List.getElem?_eq_getElem (by omega)
  refine List.pairwise_append.2 ⟨List.pairwise_append.2 ⟨p1, by simp, fun a ha c hc => ?_⟩, p2, fun a ha c hc => ?_⟩
  · simp at hc
    rw [hc]
    exact ht a ha
  · rcases List.mem_append.1 ha with q | q
    · exact p3 a q c hc
    · simp at q
      rw [q]
      exact hd c hc

end Go.Proofs.Ytfpmakmemmnbkaa
