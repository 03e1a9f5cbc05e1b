/- Joined: EG, US, Z1, SA. -/
import Derived.Test.YtanlcmdnhhdhaaaGreatDoorJ02
import Derived.Test.YtanlcmdnhhdhaaaGreatDoorJ00
import Derived.Maps.AppendAt
import Derived.Deep.AppendLies
import Derived.Defers
import Derived.Recover
import Derived.Laws.Pointers
import Derived.Deep.QuietTactic
/- desc: what was encoded is decoded; the stages. -/
namespace Go.Proofs.YtanlcmdnhhdhaaaGreatDoor
open Go.RowKit

theorem one_cases (b : Bool) : (b = false ∧ oneN b = 0) ∨ (b = true ∧ oneN b = 1) := by cases b <;> simp [oneN]
theorem bt_of {u i : Nat} {b : Bool} (h : u / 2 ^ i % 2 = oneN b) : btN u i = b := by
  have := bt_one u i
  rw [h] at this
  rcases one_cases (btN u i) with ⟨h1, h2⟩ | ⟨h1, h2⟩ <;> rcases one_cases b with ⟨h3, h4⟩ | ⟨h3, h4⟩
  · rw [h1, h3]
  · omega
  · omega
  · rw [h1, h3]

/-- The parts of the word of a descriptor that may be, but none. -/
theorem wrd_back {s l k : Int} {a : Nat} {r q x : Bool} {f : Int} (h : dchk s l k a r q x f = 0) (hk : k ≠ 0) :
    wrd k a r q x f < 18446744073709551616 ∧ btN (wrd k a r q x f) 0 = true ∧ btN (wrd k a r q x f) 1 = (k != 2) ∧ adN (wrd k a r q x f) = a ∧ btN (wrd k a r q x f) 6 = r ∧ btN (wrd k a r q x f) 7 = q ∧ btN (wrd k a r q x f) 8 = x ∧
      ((fieldN (wrd k a r q x f) 55 4 : Nat) : Int) = f := by
  obtain ⟨c, ha, hc⟩ := chk_addr h
  obtain ⟨_, _, ⟨hf0, hf1⟩, _⟩ := chk_ok h
  have o1 := one_lt (k != 2)
  have o2 := one_lt r
  have o3 := one_lt q
  have o4 := one_lt x
  obtain ⟨u, hu⟩ : ∃ u, wrd k a r q x f = u := ⟨_, rfl⟩
  have hu' := hu
  unfold wrd at hu'
  rw [if_neg hk] at hu'
  rw [hu]
  obtain ⟨g, rfl⟩ : ∃ g : Nat, f = g := ⟨f.toNat, by omega⟩
  rw [Int.toNat_natCast] at hu'
  clear h hu hk
  refine ⟨by omega, bt_of (b := true) (by show u / 2 ^ 0 % 2 = 1; omega), bt_of (by omega), ?_, bt_of (by omega), bt_of (by omega), bt_of (by omega), ?_⟩
  · unfold adN fieldN; omega
  · unfold fieldN; omega
theorem kd_back {s l k : Int} {a : Nat} {r q x : Bool} {f : Int} (h : dchk s l k a r q x f = 0) (hk : k ≠ 0) (u : Nat) (hu : btN u 1 = (k != 2)) : kdN l u = k := by
  obtain ⟨_, h2, _, h4, _⟩ := chk_ok h
  have h2 := isKd_iff.1 h2
  unfold kdN
  rw [hu]
  unfold fm at h4
  split at h4
  · cases h4
  rcases (by omega : k = 1 ∨ k = 2 ∨ k = 3) with rfl | rfl | rfl
  · rw [if_neg (by decide)]
    rw [if_pos rfl] at h4
    simp only [Bool.and_eq_true, decide_eq_true_eq] at h4
    rw [if_neg h4.1]
  · rw [if_pos (by decide)]
  · rw [if_neg (by decide)]
    rw [if_neg (by decide), if_neg (by decide), if_pos rfl] at h4
    rw [if_pos (of_decide_eq_true h4)]
/-- Of the kind None all is 0. -/
theorem none_zero {s l : Int} {a : Nat} {r q x : Bool} {f : Int} (h : dchk s l 0 a r q x f = 0) : a = 0 ∧ r = false ∧ q = false ∧ x = false ∧ f = 0 := by
  obtain ⟨_, _, _, h4, _⟩ := chk_ok h
  unfold fm at h4
  split at h4
  · cases h4
  rw [if_neg (by decide), if_neg (by decide), if_neg (by decide)] at h4
  simp only [Bool.and_eq_true, decide_eq_true_eq, Bool.not_eq_true'] at h4
  obtain ⟨⟨⟨_, h5⟩, ⟨⟨h6, h7⟩, h8⟩⟩, h9⟩ := h4
  exact ⟨by omega, h6, h7, h8, h9⟩
/-- What was encoded is decoded. -/
theorem dec_back {s l k : Int} {a : Nat} {r q x : Bool} {f : Int} (h : dchk s l k a r q x f = 0) :
    ∃ u, wrd k a r q x f = u ∧ u < 18446744073709551616 ∧ decE s l u = 0 ∧ (btN u 0 = (k != 0)) ∧ cond (decG s l u) (kdN l u) 0 = k ∧ cond (decG s l u) (adN u) 0 = a ∧ cond (decG s l u) (btN u 6) false = r ∧ cond (decG s l u) (btN u 7) false = q ∧ cond (decG s l u) (btN u 8) false = x ∧ ((cond (decG s l u) (fieldN u 55 4) 0 : Nat) : Int) = f := by
  obtain ⟨hp, _⟩ := chk_ok h
  refine ⟨_, rfl, ?_⟩
  by_cases hk : k = 0
  · subst hk
    obtain ⟨rfl, rfl, rfl, rfl, rfl⟩ := none_zero h
    rw [show wrd 0 0 false false false 0 = 0 from rfl]
    have d := dec_not s l 0 hp (by decide)
    rw [d.1, d.2]
    exact ⟨by decide, rfl, by decide, rfl, rfl, rfl, rfl, rfl, rfl⟩
  · obtain ⟨b1, b2, b3, b4, b5, b6, b7, b8⟩ := wrd_back h hk
    have b9 := kd_back h hk _ b3
    have hw : wrd k a r q x f = dencN s l k a r q x f := by unfold dencN; rw [if_pos h]
    have e1 : dchk s l (kdN l (wrd k a r q x f)) (adN (wrd k a r q x f)) (btN (wrd k a r q x f) 6) (btN (wrd k a r q x f) 7) (btN (wrd k a r q x f) 8) (fieldN (wrd k a r q x f) 55 4 : Nat) = 0 := by rw [b4, b5, b6, b7, b8, b9]; exact h
    have e2 : dencN s l (kdN l (wrd k a r q x f)) (adN (wrd k a r q x f)) (btN (wrd k a r q x f) 6) (btN (wrd k a r q x f) 7) (btN (wrd k a r q x f) 8) (fieldN (wrd k a r q x f) 55 4 : Nat) = wrd k a r q x f := by rw [b4, b5, b6, b7, b8, b9]; exact hw.symm
    have g := (dec_iff s l _ b1 hp b2).1 ⟨e1, e2⟩
    have g2 := dec_good s l _ g
    rw [g, g2.1, b2]
    refine ⟨b1, rfl, ?_, b9, b4, b5, b6, b7, b8⟩
    symm
    rw [bne_iff_ne]; exact hk
/-- Two unlike ones have unlike words. -/
theorem wrd_like {s l k a r q x f k' a' r' q' x' f'} (h : dchk s l k a r q x f = 0) (h' : dchk s l k' a' r' q' x' f' = 0) :
    (((wrd k a r q x f : Nat) : Int) == ((wrd k' a' r' q' x' f' : Nat) : Int)) = ((k == k') && ((a : Int) == (a' : Int)) && ((r == r') && (q == q') && (x == x')) && (f == f')) := by
  by_cases c : wrd k a r q x f = wrd k' a' r' q' x' f'
  · obtain ⟨u, e, _, _, _, a1, a2, a3, a4, a5, a6⟩ := dec_back h
    obtain ⟨u', e', _, _, _, b1, b2, b3, b4, b5, b6⟩ := dec_back h'
    have : u = u' := by rw [← e, ← e', c]
    subst this
    rw [← a1, ← a2, ← a3, ← a4, ← a5, ← a6, ← b1, ← b2, ← b3, ← b4, ← b5, ← b6]
    have c' : wrd (cond (decG s l u) (kdN l u) 0) (cond (decG s l u) (adN u) 0) (cond (decG s l u) (btN u 6) false) (cond (decG s l u) (btN u 7) false) (cond (decG s l u) (btN u 8) false) ((cond (decG s l u) (fieldN u 55 4) 0 : Nat) : Int) = wrd (cond (decG s l u) (kdN l u) 0) (cond (decG s l u) (adN u) 0) (cond (decG s l u) (btN u 6) false) (cond (decG s l u) (btN u 7) false) (cond (decG s l u) (btN u 8) false) ((cond (decG s l u) (fieldN u 55 4) 0 : Nat) : Int) := rfl
    simp
  · have c1 : (((wrd k a r q x f : Nat) : Int) == ((wrd k' a' r' q' x' f' : Nat) : Int)) = false := by rw [beq_eq_false_iff_ne]; omega
    rw [c1]
    symm
    rw [Bool.eq_false_iff]
    intro e
    simp only [Bool.and_eq_true, beq_iff_eq] at e
    obtain ⟨⟨⟨e1, e2⟩, ⟨⟨e3, e4⟩, e5⟩⟩, e6⟩ := e
    have e2' : a = a' := by omega
    exact c (by rw [e1, e2', e3, e4, e5, e6])

/-- A word with the lowest bit set, and without it. -/
theorem or_one (u : Nat) : btN (u ||| 1) 0 = true := by
  rw [bt_iff, Nat.pow_zero, Nat.div_one]
  have := Nat.or_mod_two_pow (a := u) (b := 1) (n := 1)
  rw [Nat.pow_one] at this
  rw [this]
  have h2 : u % 2 = 0 ∨ u % 2 = 1 := by omega
  rcases h2 with h | h <;> rw [h] <;> rfl
theorem or_one_lt (u : Nat) (hu : u < 18446744073709551616) : u ||| 1 < 18446744073709551616 := Nat.or_lt_two_pow (n := 64) hu (by decide)
theorem not_one (u : Nat) : btN (u &&& 18446744073709551614) 0 = false := by
  have h : (u &&& 18446744073709551614) % 2 ^ 1 = 0 := by
    rw [Nat.and_mod_two_pow, show (18446744073709551614 : Nat) % 2 ^ 1 = 0 from by decide, Nat.and_zero]
  have b := bt_iff (u &&& 18446744073709551614) 0
  cases hb : btN (u &&& 18446744073709551614) 0
  · rfl
  · have := b.1 hb
    rw [Nat.pow_zero, Nat.div_one] at this
    omega
/-- What Decode tells of a word with the lowest bit. -/
theorem dec_vals (s l : Int) (u : Nat) (hp : isPl s l = true) (h0 : btN u 0 = true) : (decG s l u = true ∧ decE s l u = 0) ∨ (decG s l u = false ∧ (decE s l u = 2 ∨ decE s l u = 4)) := by
  cases h : decG s l u
  · refine .inr ⟨rfl, ?_⟩
    rw [dec_bad s l u hp h0 h]
    split
    · exact .inl rfl
    · exact .inr rfl
  · exact .inl ⟨rfl, (dec_good s l u h).1⟩
theorem dec_stages (l : Int) (u : Nat) (h1 : 0 ≤ l) (h2 : l ≤ 3) (h0 : btN u 0 = true) : (decG 2 l u = true → decG 1 l u = true) ∧ (decG 1 l u = true → decG 2 l u = false → decE 2 l u = 2 ∧ topS 2 ≤ adN u) := by
  have p1 : isPl 1 l = true := isPl_iff.2 ⟨by decide, by decide, h1, h2⟩
  have p2 : isPl 2 l = true := isPl_iff.2 ⟨by decide, by decide, h1, h2⟩
  have t1 : topS 1 = 1099511627776 := rfl
  have t2 : topS 2 = 4294967296 := rfl
  refine ⟨fun g => ?_, fun g g' => ?_⟩
  · unfold decG outG at g ⊢
    rw [p2, h0] at g
    rw [p1, h0]
    simp only [Bool.and_eq_true, Bool.not_eq_true', decide_eq_false_iff_not] at g ⊢
    obtain ⟨⟨⟨⟨_, g1⟩, g2⟩, g3⟩, g4⟩ := g
    exact ⟨⟨⟨⟨⟨trivial, trivial⟩, g1⟩, g2⟩, by omega⟩, g4⟩
  · have b := dec_bad 2 l u p2 h0 g'
    unfold decG outG at g g'
    rw [p2, h0] at g'
    rw [p1, h0] at g
    simp only [Bool.and_eq_true, Bool.not_eq_true', decide_eq_false_iff_not] at g
    obtain ⟨⟨⟨⟨_, g1⟩, g2⟩, g3⟩, g4⟩ := g
    rw [g1, g2, decide_eq_false g4] at g'
    by_cases c : topS 2 ≤ adN u
    · rw [b, if_pos ⟨⟨g1, g2⟩, c⟩]; exact ⟨rfl, c⟩
    · rw [decide_eq_false c] at g'; cases g'

end Go.Proofs.YtanlcmdnhhdhaaaGreatDoor

/- Slices of structs of one's own: lists. -/
namespace Go.Proofs.YtanlcmdnhhdhaaaGreatDoor
open Go.RowKit

/-- enc writes an element as sz cells. -/
structure Enc {α : Type} (enc : α → List Value) (sz : Nat) : Prop where
  len : ∀ x, (enc x).length = sz
  one : ∀ x, ∀ u ∈ enc x, u.oneCell' = true
  pos : 0 < sz

section
variable {α : Type} {enc : α → List Value} {sz : Nat}

theorem flat_len (E : Enc enc sz) : ∀ L : List α, (L.flatMap enc).length = L.length * sz
  | [] => by simp
  | x :: r => by rw [List.flatMap_cons, List.length_append, E.len, flat_len E r, List.length_cons, Nat.add_mul]; omega
theorem flat_take (E : Enc enc sz) : ∀ (L : List α) (i : Nat), (L.flatMap enc).take (i * sz) = (L.take i).flatMap enc
  | [], i => by simp
  | x :: r, 0 => by simp
  | x :: r, i + 1 => by
    rw [List.take_succ_cons, List.flatMap_cons, List.flatMap_cons, List.take_append, E.len, List.take_of_length_le (by rw [E.len, Nat.add_mul]; omega)]
    rw [show (i + 1) * sz - sz = i * sz by rw [Nat.add_mul]; omega, flat_take E r i]
theorem flat_drop (E : Enc enc sz) : ∀ (L : List α) (i : Nat), (L.flatMap enc).drop (i * sz) = (L.drop i).flatMap enc
  | [], i => by simp
  | x :: r, 0 => by simp
  | x :: r, i + 1 => by
    rw [List.drop_succ_cons, List.flatMap_cons, List.drop_append, E.len, List.drop_of_length_le (by rw [E.len, Nat.add_mul]; omega), List.nil_append]
    rw [show (i + 1) * sz - sz = i * sz by rw [Nat.add_mul]; omega, flat_drop E r i]
theorem flat_get (E : Enc enc sz) : ∀ (L : List α) (i j : Nat) (x : α), L[i]? = some x → j < sz → (L.flatMap enc)[i * sz + j]? = (enc x)[j]?
  | y :: r, 0, j, x, h, hj => by
    simp at h; subst h
    rw [List.flatMap_cons, Nat.zero_mul, Nat.zero_add, List.getElem?_append_left (by rw [E.len]; exact hj)]
  | y :: r, i + 1, j, x, h, hj => by
    rw [List.flatMap_cons, List.getElem?_append_right (by rw [E.len, Nat.add_mul]; omega), E.len]
    rw [show (i + 1) * sz + j - sz = i * sz + j by rw [Nat.add_mul]; omega]
    exact flat_get E r i j x (by simpa using h) hj
theorem flat_one (E : Enc enc sz) (L : List α) : ∀ u ∈ L.flatMap enc, u.oneCell' = true := by
  intro u hu
  obtain ⟨x, _, hx⟩ := List.mem_flatMap.1 hu
  exact E.one x u hx
theorem flat_set (E : Enc enc sz) : ∀ (L : List α) (i j : Nat) (x x' : α) (u : Value), L[i]? = some x → j < sz → enc x' = (enc x).set j u → (L.flatMap enc).set (i * sz + j) u = (L.set i x').flatMap enc
  | y :: r, 0, j, x, x', u, h, hj, he => by
    simp at h; subst h
    rw [List.flatMap_cons, List.set_cons_zero, List.flatMap_cons, Nat.zero_mul, Nat.zero_add, List.set_append_left _ _ (by rw [E.len]; exact hj), he]
  | y :: r, i + 1, j, x, x', u, h, hj, he => by
    rw [List.flatMap_cons, List.set_cons_succ, List.flatMap_cons, List.set_append_right _ _ (by rw [E.len, Nat.add_mul]; omega), E.len]
    rw [show (i + 1) * sz + j - sz = i * sz + j by rw [Nat.add_mul]; omega, flat_set E r i j x x' u (by simpa using h) hj he]

/-- v is a list of one's own. -/
def OL (enc : α → List Value) (e : TypeId) (sz : Nat) (w : World) (v : Value) (L : List α) : Prop := w.ownsRow 0 e sz v L.length (L.flatMap enc)
variable {e : TypeId} {w : World} {v : Value} {L : List α}

theorem OL.nil (e : TypeId) (w : World) : OL enc e sz w (.slice none 0 0) ([] : List α) := World.ownsRow_nil w 0 e sz
theorem OL.form (h : OL enc e sz w v L) : ∃ na cap, v = .slice na L.length cap ∧ L.length ≤ cap ∧ ((na = none ∧ cap = 0 ∧ L = []) ∨ ∃ g, na = some ⟨g, 0, none⟩ ∧ g < w.heap.size) := by
  rcases h.2 with ⟨h1, h2⟩ | ⟨g, cap, cur, h1, _, h3, h4, _⟩
  · have : L = [] := List.eq_nil_of_length_eq_zero h2
    subst this
    exact ⟨none, 0, h1, Nat.le_refl _, .inl ⟨rfl, rfl, rfl⟩⟩
  · exact ⟨_, cap, h1, h4, .inr ⟨g, rfl, (Array.getElem?_eq_some_iff.1 h3).1⟩⟩
theorem OL.cell (E : Enc enc sz) {g n cap : Nat} (h : OL enc e sz w (.slice (some ⟨g, 0, none⟩) n cap) L) {i j : Nat} {x : α} {u : Value} (hi : L[i]? = some x) (hu : (enc x)[j]? = some u) : w.cell? ⟨g, i * sz + j, none⟩ = some u := by
  have hj : j < sz := by have := (List.getElem?_eq_some_iff.1 hu).1; rwa [E.len] at this
  have hn : n = L.length := by
    obtain ⟨_, _, e, _⟩ := h.form
    cases e; rfl
  subst hn
  have hil := (List.getElem?_eq_some_iff.1 hi).1
  rw [World.ownsRow.cellAt h (i * sz + j) (by have := Nat.mul_le_mul_right sz (show i + 1 ≤ L.length from hil); rw [Nat.add_mul] at this; omega), flat_get E L i j x hi hj, hu]
theorem OL.frz {g n cap : Nat} (h : OL enc e sz w (.slice (some ⟨g, 0, none⟩) n cap) L) (j : Nat) : w.frozen? ⟨g, j, none⟩ = false := by
  have hn : n = L.length := by
    obtain ⟨_, _, e, _⟩ := h.form
    cases e; rfl
  subst hn
  exact World.ownsRow.frozenAt h j
theorem OL.fr {w' : World} (h : OL enc e sz w v L) {S : Nat → Prop} (k : Fr S w w') (hS : ∀ g, v.ownBlock = some g → ¬ S g) : OL enc e sz w' v L := by
  rcases h.2 with ⟨h1, h2⟩ | ⟨g, cap, cur, h1, h2, h3, h4⟩
  · exact ⟨h.1, .inl ⟨h1, h2⟩⟩
  · exact ⟨h.1, .inr ⟨g, cap, cur, h1, h2, (k.block g (Array.getElem?_eq_some_iff.1 h3).1 (hS g (by rw [h1]; rfl))).trans h3, h4⟩⟩
theorem OL.set (E : Enc enc sz) {g n cap : Nat} (h : OL enc e sz w (.slice (some ⟨g, 0, none⟩) n cap) L) {i j : Nat} {x x' : α} {u : Value} (hi : L[i]? = some x) (hj : j < sz) (he : enc x' = (enc x).set j u) :
    OL enc e sz (w.setCell ⟨g, i * sz + j, none⟩ u) (.slice (some ⟨g, 0, none⟩) n cap) (L.set i x') ∧ Fr (· = g) w (w.setCell ⟨g, i * sz + j, none⟩ u) := by
  have hn : n = L.length := by
    obtain ⟨_, _, e, _⟩ := h.form
    cases e; rfl
  subst hn
  obtain ⟨h1, h2⟩ := World.ownsRow.stored h (i * sz + j) u
  rw [flat_set E L i j x x' u hi hj he] at h1
  exact ⟨by unfold OL; rw [List.length_set]; exact h1, Fr.grown h2 (fun k hk => by cases hk; rfl)⟩

/-- append(v, src...), src being the elements M. -/
theorem OL.append (E : Enc enc sz) {P : Program} {t : TypeId} {i : TypeInfo} {z : Value} {bytes : Nat} (ht : P.underlying t = some (.slice e)) (hi : P.info? e = some i) (hz : i.zero = some z) (hsize : i.size = sz) (hby : i.bytes = bytes) (hzs : z.cells.size = sz)
    (h : OL enc e sz w v L) (M : List α) (na : Option Addr) (m c : Nat) (hm : m = M.length) (hsrc : (na = none ∧ m = 0 ∧ c = 0) ∨ ∃ b o, na = some ⟨b, o, none⟩ ∧ ∀ j u, (M.flatMap enc)[j]? = some u → w.cell? ⟨b, o + j, none⟩ = some u)
    (hl : L.length + M.length ≤ 8000000000) (hb : bytes ≤ 10000) (ty : TypeId) :
    ∃ v' w', (Builtin.append_ #[t, t] ty #[v, .slice na m c]).run P w = .ok v' w' ∧ OL enc e sz w' v' (L ++ M) ∧ w.grownBy w' v.ownBlock ∧ (v'.ownBlock = v.ownBlock ∨ v'.ownBlock = some w.heap.size) := by
  subst hm
  rcases hsrc with ⟨rfl, h2, rfl⟩ | ⟨b, o, rfl, h2⟩
  · have e0 : M = [] := List.eq_nil_of_length_eq_zero h2
    subst e0
    refine ⟨v, w, run_append_owned_none (P := P) w 0 t ty e i sz ht hi v _ _ h, by rw [List.append_nil]; exact h, ⟨rfl, rfl, rfl, Nat.le_refl _, fun _ _ _ => rfl⟩, .inl rfl⟩
  · have hadd : ∀ j, (⟨b, o, none⟩ : Addr).add j = ⟨b, o + j, none⟩ := fun j => add_at b o j
    obtain ⟨v', w', r1, r2, r3, _, r5⟩ := run_append_own_at (P := P) w 0 t ty e i z sz bytes ht hi hz hsize hby hzs E.pos v L.length (L.flatMap enc) h ⟨b, o, none⟩ M.length c (M.flatMap enc) (flat_len E M) (fun j u hu => by rw [hadd]; exact h2 j u hu) (flat_one E M) (by unfold maxLen; omega) (by
        have := Nat.mul_le_mul hl hb
        omega) (Nat.zero_le _)
    refine ⟨v', w', r1, ?_, r3, r5⟩
    unfold OL
    rw [List.length_append, List.flatMap_append]
    exact r2
end

end Go.Proofs.YtanlcmdnhhdhaaaGreatDoor

/- walk: a descriptor, a step; a reader; ask. -/
namespace Go.Proofs.YtanlcmdnhhdhaaaGreatDoor
open Go.RowKit
set_option maxRecDepth 10000

/-- A descriptor. -/
structure DV where
  k : Int
  a : Nat
  r : Bool
  q : Bool
  x : Bool
  f : Int

/-- A step: the level, where the entry lies, the word, its descriptor. -/
structure SV where
  l : Nat
  p : Nat
  u : Nat
  d : DV

def encS (s : SV) : List Value := [.int .i64 (s.l : Int), .int .u64 (s.p : Int), .int .u64 (s.u : Int), .int .i64 s.d.k, .int .u64 (s.d.a : Int), .bool s.d.r, .bool s.d.q, .bool s.d.x, .int .i64 s.d.f]
theorem encS_ok : Enc encS 9 where
  len _ := rfl
  one s u h := by
    simp only [encS, List.mem_cons, List.not_mem_nil, or_false] at h
    rcases h with rfl | rfl | rfl | rfl | rfl | rfl | rfl | rfl | rfl <;> rfl
  pos := by decide

/-- What is below B stays, in any world that changes other blocks alone. -/
theorem Fr.below {S : Nat → Prop} {w w' : World} {B : Nat} (h : Fr S w w') (hB : B ≤ w.heap.size) (hS : ∀ b, S b → B ≤ b) : Go.RowKit.Below B w w' :=
  ⟨h.os, h.tape, h.output, h.size, fun k hk => h.block k (by omega) (fun s => by have := hS k s; omega)⟩
theorem Kp.below {w w' : World} {B : Nat} (h : Kp w w') (hB : B ≤ w.heap.size) : Go.RowKit.Below B w w' := Go.RowKit.Below.mono h hB

/-- A reader: what it tells of a place is rd; n of its calls have been made where I n holds; it touches the blocks of S alone, and leans on those below B alone. -/
structure RD (B : Nat) (g : FuncId) (fst cap : Array Value) (rd : Nat → Nat × Bool) (S : Nat → Prop) (I : Nat → World → Prop) : Prop where
  fn : ∃ fn, Tryz.prog.funcs[g]? = some fn ∧ fn.body.isSome = true ∧ ¬ fn.name = "runtime.NumGoroutine"
  lt : ∀ b, S b → b < B
  word : ∀ p, (rd p).1 < 18446744073709551616
  keep : ∀ n w w', I n w → Go.RowKit.Below B w w' → I n w'
  size : ∀ n w, I n w → B ≤ w.heap.size
  call : ∀ n w (p : Nat), I n w → n ≤ 100 → p < 18446744073709551616 → Calls Tryz.prog g (fst.push (.int .u64 (p : Int)) ++ cap) w fun e w' => e = .returned (.tuple #[.int .u64 ((rd p).1 : Int), .bool (rd p).2]) ∧ I (n + 1) w' ∧ Fr S w w'

/-- The deferred function of a frame that returns: nothing is recovered, nothing changes. -/
theorem catch_idle (p q : Addr) (w : World) :
    CallsD Tryz.prog 84 #[.pointer (some p), .pointer (some q)] .returning w fun e u' w' => e = .returned (.tuple #[]) ∧ u' = .returning ∧ w' = w := by
  refine callsD_of_wpS Tryz.func84 rfl fun c₀ cs hu => ?_
  apply wpS_seq
  apply wpS_region
  simp [wpOpsS, go_sem, recoverD, hu, Tryz.ntmps84, Exit.thenS]
  refine wpS_cond (t := false) (by simp [Act.eval, Array.replicate]) ?_
  simp only [Bool.false_eq_true, if_false]
  refine wpS_of_wp (wp_skip ?_)
  cases c₀
  simp_all [bodyPostS, results, Tryz.results84]

theorem ask_nil (p : Int) (w : World) :
    Calls Tryz.prog 48 #[.nilFunc, .int .u64 p] w fun e w' => e = .returned (.tuple #[.int .u64 0, .bool false]) ∧ Kp w w' := by
  have hnil : ∀ w : World, (binOp BinOp.eql 56 .nilFunc .nilFunc).run Tryz.prog w = .ok (.bool true) w := fun _ => by kernel_rfl
  go_enter_defers Tryz.func48, Tryz.ntmps48
  go_wp2
  refine ⟨_, ?_, rfl, ((Kp.refl w).alloc _).alloc _⟩
  simp [results, Tryz.results48, go_sem]

theorem ask_any {B : Nat} {g : FuncId} {fst cap : Array Value} {rd : Nat → Nat × Bool} {S : Nat → Prop} {I : Nat → World → Prop} (R : RD B g fst cap rd S I) (n p : Nat) (w : World) (hI : I n w) (hn : n ≤ 100) (hp : p < 18446744073709551616) :
    Calls Tryz.prog 48 #[.func (.func g) fst cap, .int .u64 (p : Int)] w fun e w' => e = .returned (.tuple #[.int .u64 ((rd p).1 : Int), .bool (rd p).2]) ∧ I (n + 1) w' ∧ Fr S w w' := by
  have hnil : ∀ w : World, (binOp BinOp.eql 56 (.func (.func g) fst cap) .nilFunc).run Tryz.prog w = .ok (.bool false) w := fun _ => by rfl
  have hmf : ∀ (fn : Fn) (first cap : Array Value) (w : World), (Instr.makeFunc fn first cap).run Tryz.prog w = .ok (.func fn first cap) w := fun _ _ _ _ => rfl
  have hcf : ∀ args w, (callFunc g args).run Tryz.prog w = .ok (.enter g args) w := by
    obtain ⟨fn, hf, hb, hnm⟩ := R.fn
    obtain ⟨c, hb⟩ := Option.isSome_iff_exists.1 hb
    intro args w
    simp [callFunc, go_sem, hf, hb, hnm]
  obtain ⟨w2, hw2⟩ : ∃ w2, w2 = (w.alloc (.cells #[.int .u64 0] 37)).alloc (.cells #[.bool false] 4) := ⟨_, rfl⟩
  have k2 : Kp w w2 := by rw [hw2]; exact ((Kp.refl w).alloc _).alloc _
  have b0 := R.size n w hI
  have e4 : w2.heap[w.heap.size]? = some (.cells #[.int .u64 0] 37) := by
    rw [hw2]; exact (((Kp.refl _).alloc _).block w.heap.size (by simp)).trans (heap_alloc_new w _)
  have e5 : w2.heap[w.heap.size + 1]? = some (.cells #[.bool false] 4) := by
    rw [hw2]; have := heap_alloc_new (w.alloc (.cells #[.int .u64 0] 37)) (.cells #[.bool false] 4); simpa using this
  have z2 : w2.heap.size = w.heap.size + 2 := by rw [hw2]; simp
  have hc := R.call n w2 p (R.keep n w w2 hI (k2.below b0)) hn hp
  generalize (rd p).1 = u at hc ⊢
  generalize (rd p).2 = ok at hc ⊢
  have hc : Aside (Calls Tryz.prog g (fst.push (.int .u64 (p : Int)) ++ cap) w2 fun e w' => e = .returned (.tuple #[.int .u64 (u : Int), .bool ok]) ∧ I (n + 1) w' ∧ Fr S w2 w') := hc
  have HW : Hid (Kp w w2) := k2
  clear k2
  go_enter_defers Tryz.func48, Tryz.ntmps48
  go_wp2_with fail
  rw [← hw2]
  with_reducible refine hc.out.mono ?_
  rintro e w3 ⟨rfl, I3, F3⟩
  have f4 : w3.heap[w.heap.size]? = some (.cells #[.int .u64 0] 37) := (F3.block _ (by omega) (fun s => by have := R.lt _ s; omega)).trans e4
  have f5 : w3.heap[w.heap.size + 1]? = some (.cells #[.bool false] 4) := (F3.block _ (by omega) (fun s => by have := R.lt _ s; omega)).trans e5
  have g4 : w3.frozen? ⟨w.heap.size, 0, none⟩ = false := frozen_of_row _ _ 0 _ _ f4
  have g5 : w3.frozen? ⟨w.heap.size + 1, 0, none⟩ = false := frozen_of_row _ _ 0 _ _ f5
  have h4 : w3.cell? ⟨w.heap.size, 0, none⟩ = some (.int .u64 0) := by rw [cell_of_row _ _ 0 _ _ _ f4]; rfl
  have h5 : w3.cell? ⟨w.heap.size + 1, 0, none⟩ = some (.bool false) := by rw [cell_of_row _ _ 0 _ _ _ f5]; rfl
  have HI : Hid (I (n + 1) w3) := I3
  have HF : Hid (Fr S w2 w3) := F3
  clear I3 F3 hc hI e4 e5
  go_wp2
  obtain ⟨w4, hw4⟩ : ∃ w4, w4 = (w3.setCell ⟨w.heap.size, 0, none⟩ (.int .u64 (u : Int))).setCell ⟨w.heap.size + 1, 0, none⟩ (.bool ok) := ⟨_, rfl⟩
  have x4 : w4.heap[w.heap.size]? = some (.cells #[.int .u64 (u : Int)] 37) := by
    rw [hw4, heap_setCell_other _ _ _ _ (by simp)]; exact heap_setCell_same w3 _ 0 _ _ _ f4
  have x5 : w4.heap[w.heap.size + 1]? = some (.cells #[.bool ok] 4) := by
    have f6 : (w3.setCell ⟨w.heap.size, 0, none⟩ (.int .u64 (u : Int))).heap[w.heap.size + 1]? = some (.cells #[.bool false] 4) := (heap_setCell_other w3 ⟨w.heap.size, 0, none⟩ (w.heap.size + 1) _ (by simp)).trans f5
    rw [hw4]; exact heap_setCell_same _ _ 0 _ _ _ f6
  have h3 := HF.out.size
  have F4 : Fr (fun b => w.heap.size ≤ b) w3 w4 := by rw [hw4]; exact ((Fr.refl _ w3).set _ _ (Nat.le_refl w.heap.size)).set _ _ (Nat.le_add_right w.heap.size 1)
  have I4 : I (n + 1) w4 := R.keep _ w3 w4 HI.out (F4.below (by omega) (fun b hb => by omega))
  have FF : Fr S w w4 := ((HW.out.fr S).trans HF.out).trans2 F4 (fun i hi t => by omega)
  rw [← hw4]
  refine leaves_cons (f := 84) (args := #[.pointer (some ⟨w.heap.size, 0, none⟩), .pointer (some ⟨w.heap.size + 1, 0, none⟩)]) (by simp) (by simp [go_sem]) ?_
  refine (catch_idle _ _ _).mono ?_
  rintro e u' w'' ⟨rfl, rfl, rfl⟩
  have c4 : w''.cell? ⟨w.heap.size, 0, none⟩ = some (.int .u64 (u : Int)) := by rw [cell_of_row _ _ 0 _ _ _ x4]; rfl
  have c5 : w''.cell? ⟨w.heap.size + 1, 0, none⟩ = some (.bool ok) := by rw [cell_of_row _ _ 0 _ _ _ x5]; rfl
  refine ⟨_, ?_, rfl, I4, FF⟩
  simp [results, Tryz.results48, go_sem, c4, c5]

end Go.Proofs.YtanlcmdnhhdhaaaGreatDoor

/- A scope that is left to its one label again and again. -/
namespace Go.Proofs.YtanlcmdnhhdhaaaGreatDoor
open Go.RowKit

theorem jump_mono {P : Program} {c : Code} {l : Nat} {J J' : Act → World → Prop} {Q : Exit → Act → World → Prop} {a : Act} {w : World} (hJ : ∀ a w, J' a w → J a w) (h : c.wp P (Exit.jump l J' Q) a w) : c.wp P (Exit.jump l J Q) a w :=
  Code.wp_mono (fun e a w => by
    cases e with
    | goto l' => exact fun hq => ⟨hq.1, hJ _ _ hq.2⟩
    | _ => exact id) h
/-- A scope that is left to its one label again and again: the rest behind the label is walked once. -/
theorem scope_again {P : Program} {c X : Code} {a : Act} {w : World} {Q : Exit → Act → World → Prop} (l : Nat) (J : Act → World → Prop) (μ : Act → World → Nat) (hf : findLabel c l = some (Code.skip.seq X))
    (first : (∀ a w, J a w → X.wp P (Exit.jump l J Q) a w) → c.wp P (Exit.jump l J Q) a w)
    (pass : ∀ a w, J a w → X.wp P (Exit.jump l (fun a' w' => J a' w' ∧ μ a' w' < μ a w) Q) a w) : (Code.scope c).wp P Q a w :=
  wp_scope_jumps l J μ hf (first fun a w hJ => jump_mono (fun _ _ h => h.1) (pass a w hJ)) (fun a w hJ => wp_seq (wp_skip (pass a w hJ)))

end Go.Proofs.YtanlcmdnhhdhaaaGreatDoor
