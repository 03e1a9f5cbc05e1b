/- Slices of structs of one's own: lists. -/
import Derived.Test.YtpjlmmiceiionaaDoorJ00
import Derived.Maps.AppendAt
import Derived.Deep.AppendLies
namespace Go.Proofs.YtpjlmmiceiionaaDoor
open Go.RowKit

/-- enc writes an element as sz cells. -/
structure Enc {α : Type} (enc : α → List Value) (sz : Nat) : Prop where
  len : ∀ x, (enc x).length = sz
  one : ∀ x, ∀ u ∈ enc x, u.oneCell' = true
  pos : 0 < sz

section
variable {α : Type} {enc : α → List Value} {sz : Nat}

theorem flat_len (E : Enc enc sz) : ∀ L : List α, (L.flatMap enc).length = L.length * sz
  | [] => by simp
  | x :: r => by rw [List.flatMap_cons, List.length_append, E.len, flat_len E r, List.length_cons, Nat.add_mul]; omega
theorem flat_take (E : Enc enc sz) : ∀ (L : List α) (i : Nat), (L.flatMap enc).take (i * sz) = (L.take i).flatMap enc
  | [], i => by simp
  | x :: r, 0 => by simp
  | x :: r, i + 1 => by
    rw [List.take_succ_cons, List.flatMap_cons, List.flatMap_cons, List.take_append, E.len, List.take_of_length_le (by rw [E.len, Nat.add_mul]; omega)]
    rw [show (i + 1) * sz - sz = i * sz by rw [Nat.add_mul]; omega, flat_take E r i]
theorem flat_drop (E : Enc enc sz) : ∀ (L : List α) (i : Nat), (L.flatMap enc).drop (i * sz) = (L.drop i).flatMap enc
  | [], i => by simp
  | x :: r, 0 => by simp
  | x :: r, i + 1 => by
    rw [List.drop_succ_cons, List.flatMap_cons, List.drop_append, E.len, List.drop_of_length_le (by rw [E.len, Nat.add_mul]; omega), List.nil_append]
    rw [show (i + 1) * sz - sz = i * sz by rw [Nat.add_mul]; omega, flat_drop E r i]
theorem flat_get (E : Enc enc sz) : ∀ (L : List α) (i j : Nat) (x : α), L[i]? = some x → j < sz → (L.flatMap enc)[i * sz + j]? = (enc x)[j]?
  | y :: r, 0, j, x, h, hj => by
    simp at h; subst h
    rw [List.flatMap_cons, Nat.zero_mul, Nat.zero_add, List.getElem?_append_left (by rw [E.len]; exact hj)]
  | y :: r, i + 1, j, x, h, hj => by
    rw [List.flatMap_cons, List.getElem?_append_right (by rw [E.len, Nat.add_mul]; omega), E.len]
    rw [show (i + 1) * sz + j - sz = i * sz + j by rw [Nat.add_mul]; omega]
    exact flat_get E r i j x (by simpa using h) hj
theorem flat_one (E : Enc enc sz) (L : List α) : ∀ u ∈ L.flatMap enc, u.oneCell' = true := by
  intro u hu
  obtain ⟨x, _, hx⟩ := List.mem_flatMap.1 hu
  exact E.one x u hx
theorem flat_set (E : Enc enc sz) : ∀ (L : List α) (i j : Nat) (x x' : α) (u : Value), L[i]? = some x → j < sz → enc x' = (enc x).set j u → (L.flatMap enc).set (i * sz + j) u = (L.set i x').flatMap enc
  | y :: r, 0, j, x, x', u, h, hj, he => by
    simp at h; subst h
    rw [List.flatMap_cons, List.set_cons_zero, List.flatMap_cons, Nat.zero_mul, Nat.zero_add, List.set_append_left _ _ (by rw [E.len]; exact hj), he]
  | y :: r, i + 1, j, x, x', u, h, hj, he => by
    rw [List.flatMap_cons, List.set_cons_succ, List.flatMap_cons, List.set_append_right _ _ (by rw [E.len, Nat.add_mul]; omega), E.len]
    rw [show (i + 1) * sz + j - sz = i * sz + j by rw [Nat.add_mul]; omega, flat_set E r i j x x' u (by simpa using h) hj he]

/-- v is a list of one's own. -/
def OL (enc : α → List Value) (e : TypeId) (sz : Nat) (w : World) (v : Value) (L : List α) : Prop := w.ownsRow 0 e sz v L.length (L.flatMap enc)
variable {e : TypeId} {w : World} {v : Value} {L : List α}

theorem OL.nil (e : TypeId) (w : World) : OL enc e sz w (.slice none 0 0) ([] : List α) := World.ownsRow_nil w 0 e sz
theorem OL.form (h : OL enc e sz w v L) : ∃ na cap, v = .slice na L.length cap ∧ L.length ≤ cap ∧ ((na = none ∧ cap = 0 ∧ L = []) ∨ ∃ g, na = some ⟨g, 0, none⟩ ∧ g < w.heap.size) := by
  rcases h.2 with ⟨h1, h2⟩ | ⟨g, cap, cur, h1, _, h3, h4, _⟩
  · have : L = [] := List.eq_nil_of_length_eq_zero h2
    subst this
    exact ⟨none, 0, h1, Nat.le_refl _, .inl ⟨rfl, rfl, rfl⟩⟩
  · exact ⟨_, cap, h1, h4, .inr ⟨g, rfl, (Array.getElem?_eq_some_iff.1 h3).1⟩⟩
theorem OL.cell (E : Enc enc sz) {g n cap : Nat} (h : OL enc e sz w (.slice (some ⟨g, 0, none⟩) n cap) L) {i j : Nat} {x : α} {u : Value} (hi : L[i]? = some x) (hu : (enc x)[j]? = some u) : w.cell? ⟨g, i * sz + j, none⟩ = some u := by
  have hj : j < sz := by have := (List.getElem?_eq_some_iff.1 hu).1; rwa [E.len] at this
  have hn : n = L.length := by
    obtain ⟨_, _, e, _⟩ := h.form
    cases e; rfl
  subst hn
  have hil := (List.getElem?_eq_some_iff.1 hi).1
  rw [World.ownsRow.cellAt h (i * sz + j) (by have := Nat.mul_le_mul_right sz (show i + 1 ≤ L.length from hil); rw [Nat.add_mul] at this; omega), flat_get E L i j x hi hj, hu]
theorem OL.frz {g n cap : Nat} (h : OL enc e sz w (.slice (some ⟨g, 0, none⟩) n cap) L) (j : Nat) : w.frozen? ⟨g, j, none⟩ = false := by
  have hn : n = L.length := by
    obtain ⟨_, _, e, _⟩ := h.form
    cases e; rfl
  subst hn
  exact World.ownsRow.frozenAt h j
theorem OL.fr {w' : World} (h : OL enc e sz w v L) {S : Nat → Prop} (k : Fr S w w') (hS : ∀ g, v.ownBlock = some g → ¬ S g) : OL enc e sz w' v L := by
  rcases h.2 with ⟨h1, h2⟩ | ⟨g, cap, cur, h1, h2, h3, h4⟩
  · exact ⟨h.1, .inl ⟨h1, h2⟩⟩
  · exact ⟨h.1, .inr ⟨g, cap, cur, h1, h2, (k.block g (Array.getElem?_eq_some_iff.1 h3).1 (hS g (by rw [h1]; rfl))).trans h3, h4⟩⟩
theorem OL.set (E : Enc enc sz) {g n cap : Nat} (h : OL enc e sz w (.slice (some ⟨g, 0, none⟩) n cap) L) {i j : Nat} {x x' : α} {u : Value} (hi : L[i]? = some x) (hj : j < sz) (he : enc x' = (enc x).set j u) :
    OL enc e sz (w.setCell ⟨g, i * sz + j, none⟩ u) (.slice (some ⟨g, 0, none⟩) n cap) (L.set i x') ∧ Fr (· = g) w (w.setCell ⟨g, i * sz + j, none⟩ u) := by
  have hn : n = L.length := by
    obtain ⟨_, _, e, _⟩ := h.form
    cases e; rfl
  subst hn
  obtain ⟨h1, h2⟩ := World.ownsRow.stored h (i * sz + j) u
  rw [flat_set E L i j x x' u hi hj he] at h1
  exact ⟨by unfold OL; rw [List.length_set]; exact h1, Fr.grown h2 (fun k hk => by cases hk; rfl)⟩

/-- append(v, src...), src being the elements M. -/
theorem OL.append (E : Enc enc sz) {P : Program} {t : TypeId} {i : TypeInfo} {z : Value} {bytes : Nat} (ht : P.underlying t = some (.slice e)) (hi : P.info? e = some i) (hz : i.zero = some z) (hsize : i.size = sz) (hby : i.bytes = bytes) (hzs : z.cells.size = sz)
    (h : OL enc e sz w v L) (M : List α) (na : Option Addr) (m c : Nat) (hm : m = M.length) (hsrc : (na = none ∧ m = 0 ∧ c = 0) ∨ ∃ b o, na = some ⟨b, o, none⟩ ∧ ∀ j u, (M.flatMap enc)[j]? = some u → w.cell? ⟨b, o + j, none⟩ = some u)
    (hl : L.length + M.length ≤ 8000000000) (hb : bytes ≤ 10000) (ty : TypeId) :
    ∃ v' w', (Builtin.append_ #[t, t] ty #[v, .slice na m c]).run P w = .ok v' w' ∧ OL enc e sz w' v' (L ++ M) ∧ w.grownBy w' v.ownBlock ∧ (v'.ownBlock = v.ownBlock ∨ v'.ownBlock = some w.heap.size) := by
  subst hm
  rcases hsrc with ⟨rfl, h2, rfl⟩ | ⟨b, o, rfl, h2⟩
  · have e0 : M = [] := List.eq_nil_of_length_eq_zero h2
    subst e0
    refine ⟨v, w, run_append_owned_none (P := P) w 0 t ty e i sz ht hi v _ _ h, by rw [List.append_nil]; exact h, ⟨rfl, rfl, rfl, Nat.le_refl _, fun _ _ _ => rfl⟩, .inl rfl⟩
  · have hadd : ∀ j, (⟨b, o, none⟩ : Addr).add j = ⟨b, o + j, none⟩ := fun j => add_at b o j
    obtain ⟨v', w', r1, r2, r3, _, r5⟩ := run_append_own_at (P := P) w 0 t ty e i z sz bytes ht hi hz hsize hby hzs E.pos v L.length (L.flatMap enc) h ⟨b, o, none⟩ M.length c (M.flatMap enc) (flat_len E M) (fun j u hu => by rw [hadd]; exact h2 j u hu) (flat_one E M) (by unfold maxLen; omega) (by
        have := Nat.mul_le_mul hl hb
        omega) (Nat.zero_le _)
    refine ⟨v', w', r1, ?_, r3, r5⟩
    unfold OL
    rw [List.length_append, List.flatMap_append]
    exact r2
end

end Go.Proofs.YtpjlmmiceiionaaDoor
