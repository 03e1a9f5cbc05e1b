/- Joined: EG, US, Z1, SA, Z2. -/
import Derived.Test.YtanlcmdnhhdhaaaGreatDoorJ02
import Derived.Test.YtanlcmdnhhdhaaaGreatDoorJ00
import Derived.Maps.AppendAt
import Derived.Deep.AppendLies
import Derived.Defers
import Derived.Recover
import Derived.Laws.Pointers
import Derived.Deep.QuietTactic
/- desc: what was encoded is decoded; the stages. -/
namespace Go.Proofs.YtanlcmdnhhdhaaaGreatDoor
open Go.RowKit

theorem one_cases (b : Bool) : (b = false ∧ oneN b = 0) ∨ (b = true ∧ oneN b = 1) := by cases b <;> simp [oneN]
theorem bt_of {u i : Nat} {b : Bool} (h : u / 2 ^ i % 2 = oneN b) : btN u i = b := by
  have := bt_one u i
  rw [h] at this
  rcases one_cases (btN u i) with ⟨h1, h2⟩ | ⟨h1, h2⟩ <;> rcases one_cases b with ⟨h3, h4⟩ | ⟨h3, h4⟩
  · rw [h1, h3]
  · omega
  · omega
  · rw [h1, h3]

/-- The parts of the word of a descriptor that may be, but none. -/
theorem wrd_back {s l k : Int} {a : Nat} {r q x : Bool} {f : Int} (h : dchk s l k a r q x f = 0) (hk : k ≠ 0) :
    wrd k a r q x f < 18446744073709551616 ∧ btN (wrd k a r q x f) 0 = true ∧ btN (wrd k a r q x f) 1 = (k != 2) ∧ adN (wrd k a r q x f) = a ∧ btN (wrd k a r q x f) 6 = r ∧ btN (wrd k a r q x f) 7 = q ∧ btN (wrd k a r q x f) 8 = x ∧
      ((fieldN (wrd k a r q x f) 55 4 : Nat) : Int) = f := by
  obtain ⟨c, ha, hc⟩ := chk_addr h
  obtain ⟨_, _, ⟨hf0, hf1⟩, _⟩ := chk_ok h
  have o1 := one_lt (k != 2)
  have o2 := one_lt r
  have o3 := one_lt q
  have o4 := one_lt x
  obtain ⟨u, hu⟩ : ∃ u, wrd k a r q x f = u := ⟨_, rfl⟩
  have hu' := hu
  unfold wrd at hu'
  rw [if_neg hk] at hu'
  rw [hu]
  obtain ⟨g, rfl⟩ : ∃ g : Nat, f = g := ⟨f.toNat, by omega⟩
  rw [Int.toNat_natCast] at hu'
  clear h hu hk
  refine ⟨by omega, bt_of (b := true) (by show u / 2 ^ 0 % 2 = 1; omega), bt_of (by omega), ?_, bt_of (by omega), bt_of (by omega), bt_of (by omega), ?_⟩
  · unfold adN fieldN; omega
  · unfold fieldN; omega
theorem kd_back {s l k : Int} {a : Nat} {r q x : Bool} {f : Int} (h : dchk s l k a r q x f = 0) (hk : k ≠ 0) (u : Nat) (hu : btN u 1 = (k != 2)) : kdN l u = k := by
  obtain ⟨_, h2, _, h4, _⟩ := chk_ok h
  have h2 := isKd_iff.1 h2
  unfold kdN
  rw [hu]
  unfold fm at h4
  split at h4
  · cases h4
  rcases (by omega : k = 1 ∨ k = 2 ∨ k = 3) with rfl | rfl | rfl
  · rw [if_neg (by decide)]
    rw [if_pos rfl] at h4
    simp only [Bool.and_eq_true, decide_eq_true_eq] at h4
    rw [if_neg h4.1]
  · rw [if_pos (by decide)]
  · rw [if_neg (by decide)]
    rw [if_neg (by decide), if_neg (by decide), if_pos rfl] at h4
    rw [if_pos (of_decide_eq_true h4)]
/-- Of the kind None all is 0. -/
theorem none_zero {s l : Int} {a : Nat} {r q x : Bool} {f : Int} (h : dchk s l 0 a r q x f = 0) : a = 0 ∧ r = false ∧ q = false ∧ x = false ∧ f = 0 := by
  obtain ⟨_, _, _, h4, _⟩ := chk_ok h
  unfold fm at h4
  split at h4
  · cases h4
  rw [if_neg (by decide), if_neg (by decide), if_neg (by decide)] at h4
  simp only [Bool.and_eq_true, decide_eq_true_eq, Bool.not_eq_true'] at h4
  obtain ⟨⟨⟨_, h5⟩, ⟨⟨h6, h7⟩, h8⟩⟩, h9⟩ := h4
  exact ⟨by omega, h6, h7, h8, h9⟩
/-- What was encoded is decoded. -/
theorem dec_back {s l k : Int} {a : Nat} {r q x : Bool} {f : Int} (h : dchk s l k a r q x f = 0) :
    ∃ u, wrd k a r q x f = u ∧ u < 18446744073709551616 ∧ decE s l u = 0 ∧ (btN u 0 = (k != 0)) ∧ cond (decG s l u) (kdN l u) 0 = k ∧ cond (decG s l u) (adN u) 0 = a ∧ cond (decG s l u) (btN u 6) false = r ∧ cond (decG s l u) (btN u 7) false = q ∧ cond (decG s l u) (btN u 8) false = x ∧ ((cond (decG s l u) (fieldN u 55 4) 0 : Nat) : Int) = f := by
  obtain ⟨hp, _⟩ := chk_ok h
  refine ⟨_, rfl, ?_⟩
  by_cases hk : k = 0
  · subst hk
    obtain ⟨rfl, rfl, rfl, rfl, rfl⟩ := none_zero h
    rw [show wrd 0 0 false false false 0 = 0 from rfl]
    have d := dec_not s l 0 hp (by decide)
    rw [d.1, d.2]
    exact ⟨by decide, rfl, by decide, rfl, rfl, rfl, rfl, rfl, rfl⟩
  · obtain ⟨b1, b2, b3, b4, b5, b6, b7, b8⟩ := wrd_back h hk
    have b9 := kd_back h hk _ b3
    have hw : wrd k a r q x f = dencN s l k a r q x f := by unfold dencN; rw [if_pos h]
    have e1 : dchk s l (kdN l (wrd k a r q x f)) (adN (wrd k a r q x f)) (btN (wrd k a r q x f) 6) (btN (wrd k a r q x f) 7) (btN (wrd k a r q x f) 8) (fieldN (wrd k a r q x f) 55 4 : Nat) = 0 := by rw [b4, b5, b6, b7, b8, b9]; exact h
    have e2 : dencN s l (kdN l (wrd k a r q x f)) (adN (wrd k a r q x f)) (btN (wrd k a r q x f) 6) (btN (wrd k a r q x f) 7) (btN (wrd k a r q x f) 8) (fieldN (wrd k a r q x f) 55 4 : Nat) = wrd k a r q x f := by rw [b4, b5, b6, b7, b8, b9]; exact hw.symm
    have g := (dec_iff s l _ b1 hp b2).1 ⟨e1, e2⟩
    have g2 := dec_good s l _ g
    rw [g, g2.1, b2]
    refine ⟨b1, rfl, ?_, b9, b4, b5, b6, b7, b8⟩
    symm
    rw [bne_iff_ne]; exact hk
/-- Two unlike ones have unlike words. -/
theorem wrd_like {s l k a r q x f k' a' r' q' x' f'} (h : dchk s l k a r q x f = 0) (h' : dchk s l k' a' r' q' x' f' = 0) :
    (((wrd k a r q x f : Nat) : Int) == ((wrd k' a' r' q' x' f' : Nat) : Int)) = ((k == k') && ((a : Int) == (a' : Int)) && ((r == r') && (q == q') && (x == x')) && (f == f')) := by
  by_cases c : wrd k a r q x f = wrd k' a' r' q' x' f'
  · obtain ⟨u, e, _, _, _, a1, a2, a3, a4, a5, a6⟩ := dec_back h
    obtain ⟨u', e', _, _, _, b1, b2, b3, b4, b5, b6⟩ := dec_back h'
    have : u = u' := by rw [← e, ← e', c]
    subst this
    rw [← a1, ← a2, ← a3, ← a4, ← a5, ← a6, ← b1, ← b2, ← b3, ← b4, ← b5, ← b6]
    have c' : wrd (cond (decG s l u) (kdN l u) 0) (cond (decG s l u) (adN u) 0) (cond (decG s l u) (btN u 6) false) (cond (decG s l u) (btN u 7) false) (cond (decG s l u) (btN u 8) false) ((cond (decG s l u) (fieldN u 55 4) 0 : Nat) : Int) = wrd (cond (decG s l u) (kdN l u) 0) (cond (decG s l u) (adN u) 0) (cond (decG s l u) (btN u 6) false) (cond (decG s l u) (btN u 7) false) (cond (decG s l u) (btN u 8) false) ((cond (decG s l u) (fieldN u 55 4) 0 : Nat) : Int) := rfl
    simp
  · have c1 : (((wrd k a r q x f : Nat) : Int) == ((wrd k' a' r' q' x' f' : Nat) : Int)) = false := by rw [beq_eq_false_iff_ne]; omega
    rw [c1]
    symm
    rw [Bool.eq_false_iff]
    intro e
    simp only [Bool.and_eq_true, beq_iff_eq] at e
    obtain ⟨⟨⟨e1, e2⟩, ⟨⟨e3, e4⟩, e5⟩⟩, e6⟩ := e
    have e2' : a = a' := by omega
    exact c (by rw [e1, e2', e3, e4, e5, e6])

/-- A word with the lowest bit set, and without it. -/
theorem or_one (u : Nat) : btN (u ||| 1) 0 = true := by
  rw [bt_iff, Nat.pow_zero, Nat.div_one]
  have := Nat.or_mod_two_pow (a := u) (b := 1) (n := 1)
  rw [Nat.pow_one] at this
  rw [this]
  have h2 : u % 2 = 0 ∨ u % 2 = 1 := by omega
  rcases h2 with h | h <;> rw [h] <;> rfl
theorem or_one_lt (u : Nat) (hu : u < 18446744073709551616) : u ||| 1 < 18446744073709551616 := Nat.or_lt_two_pow (n := 64) hu (by decide)
theorem not_one (u : Nat) : btN (u &&& 18446744073709551614) 0 = false := by
  have h : (u &&& 18446744073709551614) % 2 ^ 1 = 0 := by
    rw [Nat.and_mod_two_pow, show (18446744073709551614 : Nat) % 2 ^ 1 = 0 from by decide, Nat.and_zero]
  have b := bt_iff (u &&& 18446744073709551614) 0
  cases hb : btN (u &&& 18446744073709551614) 0
  · rfl
  · have := b.1 hb
    rw [Nat.pow_zero, Nat.div_one] at this
    omega
/-- What Decode tells of a word with the lowest bit. -/
theorem dec_vals (s l : Int) (u : Nat) (hp : isPl s l = true) (h0 : btN u 0 = true) : (decG s l u = true ∧ decE s l u = 0) ∨ (decG s l u = false ∧ (decE s l u = 2 ∨ decE s l u = 4)) := by
  cases h : decG s l u
  · refine .inr ⟨rfl, ?_⟩
    rw [dec_bad s l u hp h0 h]
    split
    · exact .inl rfl
    · exact .inr rfl
  · exact .inl ⟨rfl, (dec_good s l u h).1⟩
theorem dec_stages (l : Int) (u : Nat) (h1 : 0 ≤ l) (h2 : l ≤ 3) (h0 : btN u 0 = true) : (decG 2 l u = true → decG 1 l u = true) ∧ (decG 1 l u = true → decG 2 l u = false → decE 2 l u = 2 ∧ topS 2 ≤ adN u) := by
  have p1 : isPl 1 l = true := isPl_iff.2 ⟨by decide, by decide, h1, h2⟩
  have p2 : isPl 2 l = true := isPl_iff.2 ⟨by decide, by decide, h1, h2⟩
  have t1 : topS 1 = 1099511627776 := rfl
  have t2 : topS 2 = 4294967296 := rfl
  refine ⟨fun g => ?_, fun g g' => ?_⟩
  · unfold decG outG at g ⊢
    rw [p2, h0] at g
    rw [p1, h0]
    simp only [Bool.and_eq_true, Bool.not_eq_true', decide_eq_false_iff_not] at g ⊢
    obtain ⟨⟨⟨⟨_, g1⟩, g2⟩, g3⟩, g4⟩ := g
    exact ⟨⟨⟨⟨⟨trivial, trivial⟩, g1⟩, g2⟩, by omega⟩, g4⟩
  · have b := dec_bad 2 l u p2 h0 g'
    unfold decG outG at g g'
    rw [p2, h0] at g'
    rw [p1, h0] at g
    simp only [Bool.and_eq_true, Bool.not_eq_true', decide_eq_false_iff_not] at g
    obtain ⟨⟨⟨⟨_, g1⟩, g2⟩, g3⟩, g4⟩ := g
    rw [g1, g2, decide_eq_false g4] at g'
    by_cases c : topS 2 ≤ adN u
    · rw [b, if_pos ⟨⟨g1, g2⟩, c⟩]; exact ⟨rfl, c⟩
    · rw [decide_eq_false c] at g'; cases g'

end Go.Proofs.YtanlcmdnhhdhaaaGreatDoor

/- Slices of structs of one's own: lists. -/
namespace Go.Proofs.YtanlcmdnhhdhaaaGreatDoor
open Go.RowKit

/-- enc writes an element as sz cells. -/
structure Enc {α : Type} (enc : α → List Value) (sz : Nat) : Prop where
  len : ∀ x, (enc x).length = sz
  one : ∀ x, ∀ u ∈ enc x, u.oneCell' = true
  pos : 0 < sz

section
variable {α : Type} {enc : α → List Value} {sz : Nat}

theorem flat_len (E : Enc enc sz) : ∀ L : List α, (L.flatMap enc).length = L.length * sz
  | [] => by simp
  | x :: r => by rw [List.flatMap_cons, List.length_append, E.len, flat_len E r, List.length_cons, Nat.add_mul]; omega
theorem flat_take (E : Enc enc sz) : ∀ (L : List α) (i : Nat), (L.flatMap enc).take (i * sz) = (L.take i).flatMap enc
  | [], i => by simp
  | x :: r, 0 => by simp
  | x :: r, i + 1 => by
    rw [List.take_succ_cons, List.flatMap_cons, List.flatMap_cons, List.take_append, E.len, List.take_of_length_le (by rw [E.len, Nat.add_mul]; omega)]
    rw [show (i + 1) * sz - sz = i * sz by rw [Nat.add_mul]; omega, flat_take E r i]
theorem flat_drop (E : Enc enc sz) : ∀ (L : List α) (i : Nat), (L.flatMap enc).drop (i * sz) = (L.drop i).flatMap enc
  | [], i => by simp
  | x :: r, 0 => by simp
  | x :: r, i + 1 => by
    rw [List.drop_succ_cons, List.flatMap_cons, List.drop_append, E.len, List.drop_of_length_le (by rw [E.len, Nat.add_mul]; omega), List.nil_append]
    rw [show (i + 1) * sz - sz = i * sz by rw [Nat.add_mul]; omega, flat_drop E r i]
theorem flat_get (E : Enc enc sz) : ∀ (L : List α) (i j : Nat) (x : α), L[i]? = some x → j < sz → (L.flatMap enc)[i * sz + j]? = (enc x)[j]?
  | y :: r, 0, j, x, h, hj => by
    simp at h; subst h
    rw [List.flatMap_cons, Nat.zero_mul, Nat.zero_add, List.getElem?_append_left (by rw [E.len]; exact hj)]
  | y :: r, i + 1, j, x, h, hj => by
    rw [List.flatMap_cons, List.getElem?_append_right (by rw [E.len, Nat.add_mul]; omega), E.len]
    rw [show (i + 1) * sz + j - sz = i * sz + j by rw [Nat.add_mul]; omega]
    exact flat_get E r i j x (by simpa using h) hj
theorem flat_one (E : Enc enc sz) (L : List α) : ∀ u ∈ L.flatMap enc, u.oneCell' = true := by
  intro u hu
  obtain ⟨x, _, hx⟩ := List.mem_flatMap.1 hu
  exact E.one x u hx
theorem flat_set (E : Enc enc sz) : ∀ (L : List α) (i j : Nat) (x x' : α) (u : Value), L[i]? = some x → j < sz → enc x' = (enc x).set j u → (L.flatMap enc).set (i * sz + j) u = (L.set i x').flatMap enc
  | y :: r, 0, j, x, x', u, h, hj, he => by
    simp at h; subst h
    rw [List.flatMap_cons, List.set_cons_zero, List.flatMap_cons, Nat.zero_mul, Nat.zero_add, List.set_append_left _ _ (by rw [E.len]; exact hj), he]
  | y :: r, i + 1, j, x, x', u, h, hj, he => by
    rw [List.flatMap_cons, List.set_cons_succ, List.flatMap_cons, List.set_append_right _ _ (by rw [E.len, Nat.add_mul]; omega), E.len]
    rw [show (i + 1) * sz + j - sz = i * sz + j by rw [Nat.add_mul]; omega, flat_set E r i j x x' u (by simpa using h) hj he]

/-- v is a list of one's own. -/
def OL (enc : α → List Value) (e : TypeId) (sz : Nat) (w : World) (v : Value) (L : List α) : Prop := w.ownsRow 0 e sz v L.length (L.flatMap enc)
variable {e : TypeId} {w : World} {v : Value} {L : List α}

theorem OL.nil (e : TypeId) (w : World) : OL enc e sz w (.slice none 0 0) ([] : List α) := World.ownsRow_nil w 0 e sz
theorem OL.form (h : OL enc e sz w v L) : ∃ na cap, v = .slice na L.length cap ∧ L.length ≤ cap ∧ ((na = none ∧ cap = 0 ∧ L = []) ∨ ∃ g, na = some ⟨g, 0, none⟩ ∧ g < w.heap.size) := by
  rcases h.2 with ⟨h1, h2⟩ | ⟨g, cap, cur, h1, _, h3, h4, _⟩
  · have : L = [] := List.eq_nil_of_length_eq_zero h2
    subst this
    exact ⟨none, 0, h1, Nat.le_refl _, .inl ⟨rfl, rfl, rfl⟩⟩
  · exact ⟨_, cap, h1, h4, .inr ⟨g, rfl, (Array.getElem?_eq_some_iff.1 h3).1⟩⟩
theorem OL.cell (E : Enc enc sz) {g n cap : Nat} (h : OL enc e sz w (.slice (some ⟨g, 0, none⟩) n cap) L) {i j : Nat} {x : α} {u : Value} (hi : L[i]? = some x) (hu : (enc x)[j]? = some u) : w.cell? ⟨g, i * sz + j, none⟩ = some u := by
  have hj : j < sz := by have := (List.getElem?_eq_some_iff.1 hu).1; rwa [E.len] at this
  have hn : n = L.length := by
    obtain ⟨_, _, e, _⟩ := h.form
    cases e; rfl
  subst hn
  have hil := (List.getElem?_eq_some_iff.1 hi).1
  rw [World.ownsRow.cellAt h (i * sz + j) (by have := Nat.mul_le_mul_right sz (show i + 1 ≤ L.length from hil); rw [Nat.add_mul] at this; omega), flat_get E L i j x hi hj, hu]
theorem OL.frz {g n cap : Nat} (h : OL enc e sz w (.slice (some ⟨g, 0, none⟩) n cap) L) (j : Nat) : w.frozen? ⟨g, j, none⟩ = false := by
  have hn : n = L.length := by
    obtain ⟨_, _, e, _⟩ := h.form
    cases e; rfl
  subst hn
  exact World.ownsRow.frozenAt h j
theorem OL.fr {w' : World} (h : OL enc e sz w v L) {S : Nat → Prop} (k : Fr S w w') (hS : ∀ g, v.ownBlock = some g → ¬ S g) : OL enc e sz w' v L := by
  rcases h.2 with ⟨h1, h2⟩ | ⟨g, cap, cur, h1, h2, h3, h4⟩
  · exact ⟨h.1, .inl ⟨h1, h2⟩⟩
  · exact ⟨h.1, .inr ⟨g, cap, cur, h1, h2, (k.block g (Array.getElem?_eq_some_iff.1 h3).1 (hS g (by rw [h1]; rfl))).trans h3, h4⟩⟩
theorem OL.set (E : Enc enc sz) {g n cap : Nat} (h : OL enc e sz w (.slice (some ⟨g, 0, none⟩) n cap) L) {i j : Nat} {x x' : α} {u : Value} (hi : L[i]? = some x) (hj : j < sz) (he : enc x' = (enc x).set j u) :
    OL enc e sz (w.setCell ⟨g, i * sz + j, none⟩ u) (.slice (some ⟨g, 0, none⟩) n cap) (L.set i x') ∧ Fr (· = g) w (w.setCell ⟨g, i * sz + j, none⟩ u) := by
  have hn : n = L.length := by
    obtain ⟨_, _, e, _⟩ := h.form
    cases e; rfl
  subst hn
  obtain ⟨h1, h2⟩ := World.ownsRow.stored h (i * sz + j) u
  rw [flat_set E L i j x x' u hi hj he] at h1
  exact ⟨by unfold OL; rw [List.length_set]; exact h1, Fr.grown h2 (fun k hk => by cases hk; rfl)⟩

/-- append(v, src...), src being the elements M. -/
theorem OL.append (E : Enc enc sz) {P : Program} {t : TypeId} {i : TypeInfo} {z : Value} {bytes : Nat} (ht : P.underlying t = some (.slice e)) (hi : P.info? e = some i) (hz : i.zero = some z) (hsize : i.size = sz) (hby : i.bytes = bytes) (hzs : z.cells.size = sz)
    (h : OL enc e sz w v L) (M : List α) (na : Option Addr) (m c : Nat) (hm : m = M.length) (hsrc : (na = none ∧ m = 0 ∧ c = 0) ∨ ∃ b o, na = some ⟨b, o, none⟩ ∧ ∀ j u, (M.flatMap enc)[j]? = some u → w.cell? ⟨b, o + j, none⟩ = some u)
    (hl : L.length + M.length ≤ 8000000000) (hb : bytes ≤ 10000) (ty : TypeId) :
    ∃ v' w', (Builtin.append_ #[t, t] ty #[v, .slice na m c]).run P w = .ok v' w' ∧ OL enc e sz w' v' (L ++ M) ∧ w.grownBy w' v.ownBlock ∧ (v'.ownBlock = v.ownBlock ∨ v'.ownBlock = some w.heap.size) := by
  subst hm
  rcases hsrc with ⟨rfl, h2, rfl⟩ | ⟨b, o, rfl, h2⟩
  · have e0 : M = [] := List.eq_nil_of_length_eq_zero h2
    subst e0
    refine ⟨v, w, run_append_owned_none (P := P) w 0 t ty e i sz ht hi v _ _ h, by rw [List.append_nil]; exact h, ⟨rfl, rfl, rfl, Nat.le_refl _, fun _ _ _ => rfl⟩, .inl rfl⟩
  · have hadd : ∀ j, (⟨b, o, none⟩ : Addr).add j = ⟨b, o + j, none⟩ := fun j => add_at b o j
    obtain ⟨v', w', r1, r2, r3, _, r5⟩ := run_append_own_at (P := P) w 0 t ty e i z sz bytes ht hi hz hsize hby hzs E.pos v L.length (L.flatMap enc) h ⟨b, o, none⟩ M.length c (M.flatMap enc) (flat_len E M) (fun j u hu => by rw [hadd]; exact h2 j u hu) (flat_one E M) (by unfold maxLen; omega) (by
        have := Nat.mul_le_mul hl hb
        omega) (Nat.zero_le _)
    refine ⟨v', w', r1, ?_, r3, r5⟩
    unfold OL
    rw [List.length_append, List.flatMap_append]
    exact r2
end

end Go.Proofs.YtanlcmdnhhdhaaaGreatDoor

/- walk: a descriptor, a step; a reader; ask. -/
namespace Go.Proofs.YtanlcmdnhhdhaaaGreatDoor
open Go.RowKit
set_option maxRecDepth 10000

/-- A descriptor. -/
structure DV where
  k : Int
  a : Nat
  r : Bool
  q : Bool
  x : Bool
  f : Int

/-- A step: the level, where the entry lies, the word, its descriptor. -/
structure SV where
  l : Nat
  p : Nat
  u : Nat
  d : DV

def encS (s : SV) : List Value := [.int .i64 (s.l : Int), .int .u64 (s.p : Int), .int .u64 (s.u : Int), .int .i64 s.d.k, .int .u64 (s.d.a : Int), .bool s.d.r, .bool s.d.q, .bool s.d.x, .int .i64 s.d.f]
theorem encS_ok : Enc encS 9 where
  len _ := rfl
  one s u h := by
    simp only [encS, List.mem_cons, List.not_mem_nil, or_false] at h
    rcases h with rfl | rfl | rfl | rfl | rfl | rfl | rfl | rfl | rfl <;> rfl
  pos := by decide

/-- What is below B stays, in any world that changes other blocks alone. -/
theorem Fr.below {S : Nat → Prop} {w w' : World} {B : Nat} (h : Fr S w w') (hB : B ≤ w.heap.size) (hS : ∀ b, S b → B ≤ b) : Go.RowKit.Below B w w' :=
  ⟨h.os, h.tape, h.output, h.size, fun k hk => h.block k (by omega) (fun s => by have := hS k s; omega)⟩
theorem Kp.below {w w' : World} {B : Nat} (h : Kp w w') (hB : B ≤ w.heap.size) : Go.RowKit.Below B w w' := Go.RowKit.Below.mono h hB

/-- A reader: what it tells of a place is rd; n of its calls have been made where I n holds; it touches the blocks of S alone, and leans on those below B alone. -/
structure RD (B : Nat) (g : FuncId) (fst cap : Array Value) (rd : Nat → Nat × Bool) (S : Nat → Prop) (I : Nat → World → Prop) : Prop where
  fn : ∃ fn, Tryz.prog.funcs[g]? = some fn ∧ fn.body.isSome = true ∧ ¬ fn.name = "runtime.NumGoroutine"
  lt : ∀ b, S b → b < B
  word : ∀ p, (rd p).1 < 18446744073709551616
  keep : ∀ n w w', I n w → Go.RowKit.Below B w w' → I n w'
  size : ∀ n w, I n w → B ≤ w.heap.size
  call : ∀ n w (p : Nat), I n w → n ≤ 100 → p < 18446744073709551616 → Calls Tryz.prog g (fst.push (.int .u64 (p : Int)) ++ cap) w fun e w' => e = .returned (.tuple #[.int .u64 ((rd p).1 : Int), .bool (rd p).2]) ∧ I (n + 1) w' ∧ Fr S w w'

/-- The deferred function of a frame that returns: nothing is recovered, nothing changes. -/
theorem catch_idle (p q : Addr) (w : World) :
    CallsD Tryz.prog 84 #[.pointer (some p), .pointer (some q)] .returning w fun e u' w' => e = .returned (.tuple #[]) ∧ u' = .returning ∧ w' = w := by
  refine callsD_of_wpS Tryz.func84 rfl fun c₀ cs hu => ?_
  apply wpS_seq
  apply wpS_region
  simp [wpOpsS, go_sem, recoverD, hu, Tryz.ntmps84, Exit.thenS]
  refine wpS_cond (t := false) (by simp [Act.eval, Array.replicate]) ?_
  simp only [Bool.false_eq_true, if_false]
  refine wpS_of_wp (wp_skip ?_)
  cases c₀
  simp_all [bodyPostS, results, Tryz.results84]

theorem ask_nil (p : Int) (w : World) :
    Calls Tryz.prog 48 #[.nilFunc, .int .u64 p] w fun e w' => e = .returned (.tuple #[.int .u64 0, .bool false]) ∧ Kp w w' := by
  have hnil : ∀ w : World, (binOp BinOp.eql 56 .nilFunc .nilFunc).run Tryz.prog w = .ok (.bool true) w := fun _ => by kernel_rfl
  go_enter_defers Tryz.func48, Tryz.ntmps48
  go_wp2
  refine ⟨_, ?_, rfl, ((Kp.refl w).alloc _).alloc _⟩
  simp [results, Tryz.results48, go_sem]

theorem ask_any {B : Nat} {g : FuncId} {fst cap : Array Value} {rd : Nat → Nat × Bool} {S : Nat → Prop} {I : Nat → World → Prop} (R : RD B g fst cap rd S I) (n p : Nat) (w : World) (hI : I n w) (hn : n ≤ 100) (hp : p < 18446744073709551616) :
    Calls Tryz.prog 48 #[.func (.func g) fst cap, .int .u64 (p : Int)] w fun e w' => e = .returned (.tuple #[.int .u64 ((rd p).1 : Int), .bool (rd p).2]) ∧ I (n + 1) w' ∧ Fr S w w' := by
  have hnil : ∀ w : World, (binOp BinOp.eql 56 (.func (.func g) fst cap) .nilFunc).run Tryz.prog w = .ok (.bool false) w := fun _ => by rfl
  have hmf : ∀ (fn : Fn) (first cap : Array Value) (w : World), (Instr.makeFunc fn first cap).run Tryz.prog w = .ok (.func fn first cap) w := fun _ _ _ _ => rfl
  have hcf : ∀ args w, (callFunc g args).run Tryz.prog w = .ok (.enter g args) w := by
    obtain ⟨fn, hf, hb, hnm⟩ := R.fn
    obtain ⟨c, hb⟩ := Option.isSome_iff_exists.1 hb
    intro args w
    simp [callFunc, go_sem, hf, hb, hnm]
  obtain ⟨w2, hw2⟩ : ∃ w2, w2 = (w.alloc (.cells #[.int .u64 0] 37)).alloc (.cells #[.bool false] 4) := ⟨_, rfl⟩
  have k2 : Kp w w2 := by rw [hw2]; exact ((Kp.refl w).alloc _).alloc _
  have b0 := R.size n w hI
  have e4 : w2.heap[w.heap.size]? = some (.cells #[.int .u64 0] 37) := by
    rw [hw2]; exact (((Kp.refl _).alloc _).block w.heap.size (by simp)).trans (heap_alloc_new w _)
  have e5 : w2.heap[w.heap.size + 1]? = some (.cells #[.bool false] 4) := by
    rw [hw2]; have := heap_alloc_new (w.alloc (.cells #[.int .u64 0] 37)) (.cells #[.bool false] 4); simpa using this
  have z2 : w2.heap.size = w.heap.size + 2 := by rw [hw2]; simp
  have hc := R.call n w2 p (R.keep n w w2 hI (k2.below b0)) hn hp
  generalize (rd p).1 = u at hc ⊢
  generalize (rd p).2 = ok at hc ⊢
  have hc : Aside (Calls Tryz.prog g (fst.push (.int .u64 (p : Int)) ++ cap) w2 fun e w' => e = .returned (.tuple #[.int .u64 (u : Int), .bool ok]) ∧ I (n + 1) w' ∧ Fr S w2 w') := hc
  have HW : Hid (Kp w w2) := k2
  clear k2
  go_enter_defers Tryz.func48, Tryz.ntmps48
  go_wp2_with fail
  rw [← hw2]
  with_reducible refine hc.out.mono ?_
  rintro e w3 ⟨rfl, I3, F3⟩
  have f4 : w3.heap[w.heap.size]? = some (.cells #[.int .u64 0] 37) := (F3.block _ (by omega) (fun s => by have := R.lt _ s; omega)).trans e4
  have f5 : w3.heap[w.heap.size + 1]? = some (.cells #[.bool false] 4) := (F3.block _ (by omega) (fun s => by have := R.lt _ s; omega)).trans e5
  have g4 : w3.frozen? ⟨w.heap.size, 0, none⟩ = false := frozen_of_row _ _ 0 _ _ f4
  have g5 : w3.frozen? ⟨w.heap.size + 1, 0, none⟩ = false := frozen_of_row _ _ 0 _ _ f5
  have h4 : w3.cell? ⟨w.heap.size, 0, none⟩ = some (.int .u64 0) := by rw [cell_of_row _ _ 0 _ _ _ f4]; rfl
  have h5 : w3.cell? ⟨w.heap.size + 1, 0, none⟩ = some (.bool false) := by rw [cell_of_row _ _ 0 _ _ _ f5]; rfl
  have HI : Hid (I (n + 1) w3) := I3
  have HF : Hid (Fr S w2 w3) := F3
  clear I3 F3 hc hI e4 e5
  go_wp2
  obtain ⟨w4, hw4⟩ : ∃ w4, w4 = (w3.setCell ⟨w.heap.size, 0, none⟩ (.int .u64 (u : Int))).setCell ⟨w.heap.size + 1, 0, none⟩ (.bool ok) := ⟨_, rfl⟩
  have x4 : w4.heap[w.heap.size]? = some (.cells #[.int .u64 (u : Int)] 37) := by
    rw [hw4, heap_setCell_other _ _ _ _ (by simp)]; exact heap_setCell_same w3 _ 0 _ _ _ f4
  have x5 : w4.heap[w.heap.size + 1]? = some (.cells #[.bool ok] 4) := by
    have f6 : (w3.setCell ⟨w.heap.size, 0, none⟩ (.int .u64 (u : Int))).heap[w.heap.size + 1]? = some (.cells #[.bool false] 4) := (heap_setCell_other w3 ⟨w.heap.size, 0, none⟩ (w.heap.size + 1) _ (by simp)).trans f5
    rw [hw4]; exact heap_setCell_same _ _ 0 _ _ _ f6
  have h3 := HF.out.size
  have F4 : Fr (fun b => w.heap.size ≤ b) w3 w4 := by rw [hw4]; exact ((Fr.refl _ w3).set _ _ (Nat.le_refl w.heap.size)).set _ _ (Nat.le_add_right w.heap.size 1)
  have I4 : I (n + 1) w4 := R.keep _ w3 w4 HI.out (F4.below (by omega) (fun b hb => by omega))
  have FF : Fr S w w4 := ((HW.out.fr S).trans HF.out).trans2 F4 (fun i hi t => by omega)
  rw [← hw4]
  refine leaves_cons (f := 84) (args := #[.pointer (some ⟨w.heap.size, 0, none⟩), .pointer (some ⟨w.heap.size + 1, 0, none⟩)]) (by simp) (by simp [go_sem]) ?_
  refine (catch_idle _ _ _).mono ?_
  rintro e u' w'' ⟨rfl, rfl, rfl⟩
  have c4 : w''.cell? ⟨w.heap.size, 0, none⟩ = some (.int .u64 (u : Int)) := by rw [cell_of_row _ _ 0 _ _ _ x4]; rfl
  have c5 : w''.cell? ⟨w.heap.size + 1, 0, none⟩ = some (.bool ok) := by rw [cell_of_row _ _ 0 _ _ _ x5]; rfl
  refine ⟨_, ?_, rfl, I4, FF⟩
  simp [results, Tryz.results48, go_sem, c4, c5]

end Go.Proofs.YtanlcmdnhhdhaaaGreatDoor

/- A scope that is left to its one label again and again. -/
namespace Go.Proofs.YtanlcmdnhhdhaaaGreatDoor
open Go.RowKit

theorem jump_mono {P : Program} {c : Code} {l : Nat} {J J' : Act → World → Prop} {Q : Exit → Act → World → Prop} {a : Act} {w : World} (hJ : ∀ a w, J' a w → J a w) (h : c.wp P (Exit.jump l J' Q) a w) : c.wp P (Exit.jump l J Q) a w :=
  Code.wp_mono (fun e a w => by
    cases e with
    | goto l' => exact fun hq => ⟨hq.1, hJ _ _ hq.2⟩
    | _ => exact id) h
/-- A scope that is left to its one label again and again: the rest behind the label is walked once. -/
theorem scope_again {P : Program} {c X : Code} {a : Act} {w : World} {Q : Exit → Act → World → Prop} (l : Nat) (J : Act → World → Prop) (μ : Act → World → Nat) (hf : findLabel c l = some (Code.skip.seq X))
    (first : (∀ a w, J a w → X.wp P (Exit.jump l J Q) a w) → c.wp P (Exit.jump l J Q) a w)
    (pass : ∀ a w, J a w → X.wp P (Exit.jump l (fun a' w' => J a' w' ∧ μ a' w' < μ a w) Q) a w) : (Code.scope c).wp P Q a w :=
  wp_scope_jumps l J μ hf (first fun a w hJ => jump_mono (fun _ _ h => h.1) (pass a w hJ)) (fun a w hJ => wp_seq (wp_skip (pass a w hJ)))

end Go.Proofs.YtanlcmdnhhdhaaaGreatDoor

/- walk: where an entry lies, what a walk tells; Walk. -/
namespace Go.Proofs.YtanlcmdnhhdhaaaGreatDoor
open Go.RowKit
set_option maxRecDepth 10000

/-- How a walk ends at an entry that is no table. -/
def endN (k e : Int) : Int := if e = 2 then 3 else if e ≠ 0 then 4 else if k = 0 then 1 else 0
theorem endOf_any (k a : Int) (r q x : Bool) (f e : Int) (w : World) :
    Calls Tryz.prog 50 #[.agg #[.int .i64 k, .int .u64 a, .bool r, .bool q, .bool x, .int .i64 f], .int .i64 e] w fun y w' => y = .returned (.int .i64 (endN k e)) ∧ Kp w w' := by
  unfold endN
  by_cases c1 : e = 2
  · subst c1
    rw [if_pos rfl]
    go_enter Tryz.func50, Tryz.ntmps50
    go_wp2
    go_ret
    exact ⟨rfl, (Kp.refl _).alloc _⟩
  have d1 : (e == 2) = false := by rw [beq_eq_false_iff_ne]; exact c1
  rw [if_neg c1]
  by_cases c2 : e = 0
  · subst c2
    rw [if_neg (by decide)]
    by_cases c3 : k = 0
    · subst c3
      rw [if_pos rfl]
      go_enter Tryz.func50, Tryz.ntmps50
      go_wp2
      go_ret
      exact ⟨rfl, (Kp.refl _).alloc _⟩
    · have d3 : (k == 0) = false := by rw [beq_eq_false_iff_ne]; exact c3
      rw [if_neg c3]
      go_enter Tryz.func50, Tryz.ntmps50
      go_wp2
      go_ret
      exact ⟨rfl, (Kp.refl _).alloc _⟩
  · have d2 : (e != 0) = true := by rw [bne_iff_ne]; exact c2
    rw [if_pos c2]
    go_enter Tryz.func50, Tryz.ntmps50
    go_wp2
    go_ret
    exact ⟨rfl, (Kp.refl _).alloc _⟩

/-- Where the entry of a level lies. -/
def atN (t u l : Nat) : Nat := (t + 8 * idx u (l : Int)) % 18446744073709551616
/-- What a word is told to be. -/
def dvN (s : Int) (l u : Nat) : DV := ⟨cond (decG s l u) (kdN l u) 0, cond (decG s l u) (adN u) 0, cond (decG s l u) (btN u 6) false, cond (decG s l u) (btN u 7) false, cond (decG s l u) (btN u 8) false, ((cond (decG s l u) (fieldN u 55 4) 0 : Nat) : Int)⟩
/-- What a walk tells from a level on: its steps, how it ends, how often it reads. -/
def goW (s : Int) (u : Nat) (rd : Nat → Nat × Bool) : Nat → Nat → Nat → List SV × Int × Nat
  | 0, _, _ => ([], 0, 0)
  | n + 1, l, t =>
    if (rd (atN t u l)).2 = true then
      if (dvN s l (rd (atN t u l)).1).k = 1 then
        (⟨l, atN t u l, (rd (atN t u l)).1, dvN s l (rd (atN t u l)).1⟩ :: (goW s u rd n (l + 1) (dvN s l (rd (atN t u l)).1).a).1, (goW s u rd n (l + 1) (dvN s l (rd (atN t u l)).1).a).2.1, (goW s u rd n (l + 1) (dvN s l (rd (atN t u l)).1).a).2.2 + 1)
      else ([⟨l, atN t u l, (rd (atN t u l)).1, dvN s l (rd (atN t u l)).1⟩], endN (dvN s l (rd (atN t u l)).1).k (decE s l (rd (atN t u l)).1), 1)
    else ([], -1, 1)
theorem goW_stop {s : Int} {u : Nat} {rd : Nat → Nat × Bool} {n l t : Nat} (h : (rd (atN t u l)).2 = false) : goW s u rd (n + 1) l t = ([], -1, 1) := by
  rw [goW, if_neg (by rw [h]; decide)]
theorem goW_end {s : Int} {u : Nat} {rd : Nat → Nat × Bool} {n l t : Nat} (h : (rd (atN t u l)).2 = true) (hk : ¬ (dvN s l (rd (atN t u l)).1).k = 1) :
    goW s u rd (n + 1) l t = ([⟨l, atN t u l, (rd (atN t u l)).1, dvN s l (rd (atN t u l)).1⟩], endN (dvN s l (rd (atN t u l)).1).k (decE s l (rd (atN t u l)).1), 1) := by
  rw [goW, if_pos h, if_neg hk]
theorem goW_on {s : Int} {u : Nat} {rd : Nat → Nat × Bool} {n l t : Nat} (h : (rd (atN t u l)).2 = true) (hk : (dvN s l (rd (atN t u l)).1).k = 1) :
    goW s u rd (n + 1) l t = (⟨l, atN t u l, (rd (atN t u l)).1, dvN s l (rd (atN t u l)).1⟩ :: (goW s u rd n (l + 1) (dvN s l (rd (atN t u l)).1).a).1, (goW s u rd n (l + 1) (dvN s l (rd (atN t u l)).1).a).2.1, (goW s u rd n (l + 1) (dvN s l (rd (atN t u l)).1).a).2.2 + 1) := by
  rw [goW, if_pos h, if_pos hk]
/-- No word is a table at the last level. -/
theorem dv_last (s : Int) (u : Nat) : ¬ (dvN s 3 u).k = 1 := by
  unfold dvN kdN
  cases decG s ((3 : Nat) : Int) u
  · show ¬ (0 : Int) = 1; decide
  · show ¬ (if btN u 1 = false then (2 : Int) else if ((3 : Nat) : Int) = 3 then 3 else 1) = 1
    split
    · decide
    · rw [if_pos (by decide)]; decide
theorem at_lt (t u l : Nat) : atN t u l < 18446744073709551616 := Nat.mod_lt _ (by decide)
theorem dv_addr (s : Int) (l u : Nat) : (dvN s l u).a < 18446744073709551616 := by
  have h : adN u < 18446744073709551616 := by unfold adN fieldN; omega
  unfold dvN
  cases decG s (l : Int) u
  · show 0 < _; decide
  · exact h

/-- What was made of a walk by the level l: its steps so far, and what is left. -/
def sofar (s : Int) (root u : Nat) (rd : Nat → Nat × Bool) (L : List SV) (l t : Nat) : Prop :=
  L.length = l ∧ l ≤ 3 ∧ t < 18446744073709551616 ∧ goW s u rd 4 0 root = (L ++ (goW s u rd (4 - l) l t).1, (goW s u rd (4 - l) l t).2.1, l + (goW s u rd (4 - l) l t).2.2)

section
variable {s : Int} {root u : Nat} {rd : Nat → Nat × Bool} {L : List SV} {l t : Nat}
theorem sofar_left (h : sofar s root u rd L l t) : ∃ j, 4 - l = j + 1 := ⟨3 - l, by have := h.2.1; omega⟩
theorem sofar_stop (h : sofar s root u rd L l t) (hok : (rd (atN t u l)).2 = false) : goW s u rd 4 0 root = (L, -1, l + 1) := by
  obtain ⟨j, hj⟩ := sofar_left h
  have h4 := h.2.2.2
  rw [hj, goW_stop (n := j) (l := l) (t := t) hok, List.append_nil] at h4
  exact h4
theorem sofar_end (h : sofar s root u rd L l t) (hok : (rd (atN t u l)).2 = true) (hk : ¬ (dvN s l (rd (atN t u l)).1).k = 1) :
    goW s u rd 4 0 root = (L ++ [⟨l, atN t u l, (rd (atN t u l)).1, dvN s l (rd (atN t u l)).1⟩], endN (dvN s l (rd (atN t u l)).1).k (decE s l (rd (atN t u l)).1), l + 1) := by
  obtain ⟨j, hj⟩ := sofar_left h
  have h4 := h.2.2.2
  rw [hj, goW_end (n := j) (l := l) (t := t) hok hk] at h4
  exact h4
theorem sofar_on (h : sofar s root u rd L l t) (hok : (rd (atN t u l)).2 = true) (hk : (dvN s l (rd (atN t u l)).1).k = 1) :
    sofar s root u rd (L ++ [⟨l, atN t u l, (rd (atN t u l)).1, dvN s l (rd (atN t u l)).1⟩]) (l + 1) (dvN s l (rd (atN t u l)).1).a := by
  obtain ⟨j, hj⟩ := sofar_left h
  have h4 := h.2.2.2
  have h3 : l ≤ 2 := by
    have := h.2.1
    rcases (by omega : l ≤ 2 ∨ l = 3) with c | c
    · exact c
    · subst c; exact absurd hk (dv_last s _)
  rw [hj, goW_on (n := j) (l := l) (t := t) hok hk] at h4
  refine ⟨by rw [List.length_append, h.1]; rfl, by omega, dv_addr _ _ _, ?_⟩
  rw [show 4 - (l + 1) = j by omega, List.append_assoc, List.singleton_append, h4]
  simp only [Prod.mk.injEq, true_and]
  omega
end

/-- The list lies in the block b. -/
def WL (w : World) (b : Nat) (L : List SV) : Prop := OL encS 64 9 w (.slice (some ⟨b, 0, none⟩) L.length 4) L
theorem WL.kp {w w' : World} {b : Nat} {L : List SV} (h : WL w b L) (k : Kp w w') : WL w' b L := OL.fr h (k.fr (fun _ => False)) (fun _ _ => id)
theorem WL.fr {w w' : World} {b : Nat} {L : List SV} (h : WL w b L) {S : Nat → Prop} (k : Fr S w w') (hb : ¬ S b) : WL w' b L := OL.fr h k (fun g e => by cases e; exact hb)
theorem WL.lt {w : World} {b : Nat} {L : List SV} (h : WL w b L) : b < w.heap.size := by
  obtain ⟨na, cap, e, _, h2⟩ := OL.form h
  cases e
  rcases h2 with ⟨h3, _⟩ | ⟨g, h3, h4⟩
  · cases h3
  · cases h3; exact h4

/-- A row of four steps. -/
def rowS : Obj := .cells (madeCells #[.int .i64 0, .int .u64 0, .int .u64 0, .int .i64 0, .int .u64 0, .bool false, .bool false, .bool false, .int .i64 0] 36) 64
theorem make_steps (w : World) : (Instr.makeSlice 50 (.int .i64 0) (.int .i64 4)).run Tryz.prog w = .ok (.slice (some ⟨w.heap.size, 0, none⟩) 0 4) (w.alloc rowS) := by
  obtain ⟨i, hi, hz, hsz, hb⟩ : ∃ i : TypeInfo, Tryz.prog.info? 64 = some i ∧ i.zero = some (.agg #[.int .i64 0, .int .u64 0, .int .u64 0, .int .i64 0, .int .u64 0, .bool false, .bool false, .bool false, .int .i64 0]) ∧ i.size = 9 ∧ i.bytes ≤ 1000 := ⟨_, rfl, rfl, rfl, by decide⟩
  have hr := run_make (P := Tryz.prog) w 50 64 i _ Tryz.underlying50 hi hz .i64 .i64 0 4 (by decide) (by decide) (by omega) (by decide)
  rw [hsz] at hr
  exact hr
theorem WL.made (w : World) : WL (w.alloc rowS) w.heap.size [] := World.ownsRow_made w _ 4 (Nat.zero_le _) (by unfold maxLen; decide) (size_madeCells _ _)

/-- The world at the label: m reads have been made. -/
structure WJ (W : World) (B b m : Nat) (S : Nat → Prop) (I : Nat → World → Prop) (L : List SV) (w : World) : Prop where
  wl : WL w b L
  i : I m w
  fr : Fr S W w
  lo : W.heap.size ≤ b
  bl : B ≤ W.heap.size
section
variable {B : Nat} {g : FuncId} {fst cap : Array Value} {rd : Nat → Nat × Bool} {S : Nat → Prop} {I : Nat → World → Prop} {W v v' : World} {b m : Nat} {L : List SV}
theorem WJ.kp (J : WJ W B b m S I L v) (R : RD B g fst cap rd S I) (k : Kp v v') : WJ W B b m S I L v' :=
  ⟨J.wl.kp k, R.keep _ _ _ J.i (k.below (R.size _ _ J.i)), J.fr.trans (k.fr S), J.lo, J.bl⟩
theorem WJ.asked (J : WJ W B b m S I L v) (R : RD B g fst cap rd S I) (h : I (m + 1) v') (k : Fr S v v') : WJ W B b (m + 1) S I L v' :=
  ⟨J.wl.fr k (fun s => by have := R.lt _ s; have := J.lo; have := J.bl; omega), h, J.fr.trans k, J.lo, J.bl⟩
theorem WJ.snoc (J : WJ W B b m S I L v) (R : RD B g fst cap rd S I) (hL : L.length ≤ 3) (x : SV) (c : Nat) (hc : ∀ j y, (encS x)[j]? = some y → v.cell? ⟨c, j, none⟩ = some y) :
    ∃ v', (Builtin.append_ #[50, 50] 50 #[.slice (some ⟨b, 0, none⟩) L.length 4, .slice (some ⟨c, 0, none⟩) 1 1]).run Tryz.prog v = .ok (.slice (some ⟨b, 0, none⟩) (L.length + 1) 4) v' ∧ WJ W B b m S I (L ++ [x]) v' ∧ Fr (· = b) v v' := by
  obtain ⟨i, hi, hsz⟩ : ∃ i : TypeInfo, Tryz.prog.info? 64 = some i ∧ i.size = 9 := ⟨_, rfl, rfl⟩
  obtain ⟨v', h1, h2, h3⟩ := run_append_fits (P := Tryz.prog) v 0 50 50 64 i 9 Tryz.underlying50 hi hsz b L.length 4 (L.flatMap encS) J.wl ⟨c, 0, none⟩ 1 1 (encS x) rfl (fun j u hu => by rw [add_at, Nat.zero_add]; exact hc j u hu) (encS_ok.one x) (by omega)
  have f : Fr (· = b) v v' := Fr.grown h3 (fun g e => by cases e; rfl)
  have lo := J.lo
  have bl := J.bl
  have sz := J.fr.size
  refine ⟨v', h1, ⟨?_, R.keep _ _ _ J.i (f.below (by omega) (fun k e => by omega)), J.fr.trans2 f (fun i hi e => by omega), lo, bl⟩, f⟩
  unfold WL OL
  rw [List.length_append, List.flatMap_append, List.flatMap_singleton]
  exact h2
end

theorem decode_dv (s : Int) (l u : Nat) (w : World) (hu : u < 18446744073709551616) :
    Calls Tryz.prog 49 #[.int .i64 s, .int .i64 (l : Int), .int .u64 (u : Int)] w fun e w' => e = .returned (.tuple #[.agg #[.int .i64 (dvN s l u).k, .int .u64 ((dvN s l u).a : Int), .bool (dvN s l u).r, .bool (dvN s l u).q, .bool (dvN s l u).x, .int .i64 (dvN s l u).f], .int .i64 (decE s l u)]) ∧ Kp w w' := decode_any s l u w hu

def walkJ (W : World) (B : Nat) (s : Int) (root u : Nat) (g : FuncId) (fst cap : Array Value) (rd : Nat → Nat × Bool) (b n : Nat) (S : Nat → Prop) (I : Nat → World → Prop) : Act → World → Prop := fun a' w' => ∃ (l t : Nat) (L : List SV) (u4 u5 u6 u7 u12 u13 u14 u15 u16 u17 u18 u19 u20 u21 u22 u23 u24 u25 u26 u27 u28 u29 u30 u31 u32 u33 u34 u35 u36 u37 u38 u39 u40 u41 u42 u43 u44 u45 u46 u47 u48 u49 u50 u51 u52 u53 u54 u55 u56 u57 u58 u59 u60 u61 u62 u63 : Value),
  a' = { tmps := #[.int .i64 s, .int .u64 (root : Int), .int .u64 (u : Int), .func (.func g) fst cap, u4, u5, u6, u7, .slice (some ⟨b, 0, none⟩) l 4, .int .i64 0, .int .u64 (t : Int), .int .i64 (l : Int), u12, u13, u14, u15, u16, u17, u18, u19, u20, u21, u22, u23, u24, u25, u26, u27, u28, u29, u30, u31, u32, u33, u34, u35, u36, u37, u38, u39, u40, u41, u42, u43, u44, u45, u46, u47, u48, u49, u50, u51, u52, u53, u54, u55, u56, u57, u58, u59, u60, u61, u62, u63], defers := [] } ∧ sofar s root u rd L l t ∧ WJ W B b (n + l) S I L w'

set_option maxHeartbeats 4000000 in
set_option maxRecDepth 10000 in
theorem walk_any {B : Nat} {g : FuncId} {fst cap : Array Value} {rd : Nat → Nat × Bool} {S : Nat → Prop} {I : Nat → World → Prop} (R : RD B g fst cap rd S I) (s : Int) (hs : 1 ≤ s ∧ s ≤ 2) (root u n : Nat) (hr : root < 18446744073709551616) (hu : u < 18446744073709551616) (hn : n ≤ 50) (w : World) (hI : I n w) :
    Calls Tryz.prog 14 #[.int .i64 s, .int .u64 (root : Int), .int .u64 (u : Int), .func (.func g) fst cap] w fun e w' => e = .returned (.tuple #[.slice (some ⟨w.heap.size, 0, none⟩) (goW s u rd 4 0 root).1.length 4, .int .i64 (goW s u rd 4 0 root).2.1]) ∧ WL w' w.heap.size (goW s u rd 4 0 root).1 ∧ I (n + (goW s u rd 4 0 root).2.2) w' ∧ Fr S w w' := by
  have c1 := top_any s
  have t1 : ((topS s : Int) == 0) = false := by
    rw [beq_eq_false_iff_ne]; unfold topS
    rcases (by omega : s = 1 ∨ s = 2) with rfl | rfl <;> decide
  generalize topS s = tp at *
  have HR : Hid (RD B g fst cap rd S I) := R
  have HI : Hid (I n w) := hI
  clear R hI
  have hmk : ∀ w : World, (Instr.makeSlice 50 (.int .i64 0) (.int .i64 4)).run Tryz.prog w = .ok (.slice (some ⟨w.heap.size, 0, none⟩) 0 4) (w.alloc rowS) := make_steps
  go_enter Tryz.func14, Tryz.ntmps14
  go_wp2_with fail
  refine scope_again 0 (walkJ w B s root u g fst cap rd w.heap.size n S I) (fun a' _ => 4 - (intOf (a'.tmps.getD 11 undef)).toNat) rfl (fun pass => ?_) ?_
  · have PASS : Aside (∀ a v, walkJ w B s root u g fst cap rd w.heap.size n S I a v → _) := pass
    clear pass
    go_wp2_with (go_at_call 46; with_reducible refine (c1 _).mono ?_; rintro e w1 ⟨rfl, rfl⟩)
    go_step3
    rename_i hK
    refine hK _ _ (PASS.out _ _ ⟨0, root, [], _, _, _, _, _, _, _, _, _, _, _, _, _, _, _, _, _, _, _, _, _, _, _, _, _, _, _, _, _, _, _, _, _, _, _, _, _, _, _, _, _, _, _, _, _, _, _, _, _, _, _, _, _, _, _, _, rfl, ⟨rfl, by decide, hr, by simp⟩, WL.made _, ?_, (Fr.refl S _).alloc _, Nat.le_refl _, HR.out.size n _ HI.out⟩)
    exact HR.out.keep n _ _ HI.out (((Kp.refl _).alloc _).below (HR.out.size n _ HI.out))
  · rintro a' v ⟨l, t, L, u4, u5, u6, u7, u12, u13, u14, u15, u16, u17, u18, u19, u20, u21, u22, u23, u24, u25, u26, u27, u28, u29, u30, u31, u32, u33, u34, u35, u36, u37, u38, u39, u40, u41, u42, u43, u44, u45, u46, u47, u48, u49, u50, u51, u52, u53, u54, u55, u56, u57, u58, u59, u60, u61, u62, u63, rfl, hS, J⟩
    have hl : l ≤ 3 := hS.2.1
    have ht := hS.2.2.1
    have c2 := fun w => index_any u (l : Int) w hu
    have ei : idx u (l : Int) < 512 := idx_lt u l
    obtain ⟨p, hp⟩ : ∃ p, p = atN t u l := ⟨_, rfl⟩
    have hp' : p < 18446744073709551616 := by rw [hp]; exact at_lt t u l
    have e1 : IntKind.u64.wrap ((t : Int) + 8 * (idx u (l : Int) : Int)) = (p : Int) := by
      rw [hp]; unfold atN; simp [IntKind.wrap, IntKind.bits, IntKind.signed]
    have HS : Hid (sofar s root u rd L l t) := hS
    have HJ : Hid (WJ w B w.heap.size (n + l) S I L v) := J
    have y0 : (l : Int) ≤ 3 := by omega
    have HP : Hid (p = atN t u l) := hp
    have y1 : (idx u (l : Int) : Int) < 512 := by omega
    clear hS J hp c1 t1 ei
    generalize idx u (l : Int) = ix at *
    go_wp2_with fail
    with_reducible refine (c2 _).mono ?_
    rintro e v1 ⟨rfl, D⟩
    have HJ1 : Hid (WJ w B w.heap.size (n + l) S I L v1) := HJ.out.kp HR.out D.kp
    clear HJ D c2
    have c3 := ask_any HR.out (n + l) p v1 HJ1.out.i (by omega) hp'
    go_wp2_with fail
    with_reducible refine c3.mono ?_
    rintro e v2 ⟨rfl, I2, F2⟩
    have HJ2 : Hid (WJ w B w.heap.size (n + l + 1) S I L v2) := HJ1.out.asked HR.out I2 F2
    clear HJ1 I2 F2 c3
    have hwd := HR.out.word p
    obtain ⟨x, hx⟩ : ∃ x, x = (rd p).1 := ⟨_, rfl⟩
    rw [← hx] at hwd ⊢
    have HX : Hid (x = (rd p).1) := hx
    cases hok : (rd p).2
    · have e2 := sofar_stop HS.out (by rw [← HP.out]; exact hok)
      have e3 := HS.out.1
      have HE : Hid (goW s u rd 4 0 root = (L, -1, l + 1)) := e2
      have HL : Hid (L.length = l) := e3
      clear e2 e3 hx
      go_wp2_with fail
      simp only [Exit.jump]
      go_ret2
      rw [HE.out]
      have e3 := HL.out
      exact ⟨by subst e3; rfl, HJ2.out.wl, HJ2.out.i, HJ2.out.fr⟩
    have c4 := fun w => decode_dv s l x w hwd
    obtain ⟨d, hd⟩ : ∃ d, d = dvN s l x := ⟨_, rfl⟩
    obtain ⟨de, hde⟩ : ∃ de, de = decE s l x := ⟨_, rfl⟩
    simp only [← hd, ← hde] at c4
    have HD : Hid (d = dvN s l x) := hd
    have HE : Hid (de = decE s l x) := hde
    have HO : Hid ((rd p).2 = true) := hok
    obtain ⟨dk, da, dr, dq, dx, df⟩ := d
    clear hx hd hde hok
    go_wp2_with fail
    with_reducible refine (c4 _).mono ?_
    rintro e v3 ⟨rfl, K⟩
    have HJ3 : Hid (WJ w B w.heap.size (n + l + 1) S I L v3) := HJ2.out.kp HR.out K
    clear HJ2 K c4
    obtain ⟨v5, hv5⟩ : ∃ v5, v5 = (v3.alloc (.cells #[.int .i64 dk, .int .u64 (da : Int), .bool dr, .bool dq, .bool dx, .int .i64 df] 62)).alloc (.cells #[.int .i64 (l : Int), .int .u64 (p : Int), .int .u64 (x : Int), .int .i64 dk, .int .u64 (da : Int), .bool dr, .bool dq, .bool dx, .int .i64 df] 64) := ⟨_, rfl⟩
    have B5 : v5.heap[v3.heap.size]? = some (.cells #[.int .i64 dk, .int .u64 (da : Int), .bool dr, .bool dq, .bool dx, .int .i64 df] 62) := by rw [hv5]; exact (BX.made v3 dk da dr dq dx df).kp ((Kp.refl _).alloc _)
    have C5 : v5.heap[v3.heap.size + 1]? = some (.cells #[.int .i64 (l : Int), .int .u64 (p : Int), .int .u64 (x : Int), .int .i64 dk, .int .u64 (da : Int), .bool dr, .bool dq, .bool dx, .int .i64 df] 64) := by
      rw [hv5]
      have := heap_alloc_new (v3.alloc (.cells #[.int .i64 dk, .int .u64 (da : Int), .bool dr, .bool dq, .bool dx, .int .i64 df] 62)) (.cells #[.int .i64 (l : Int), .int .u64 (p : Int), .int .u64 (x : Int), .int .i64 dk, .int .u64 (da : Int), .bool dr, .bool dq, .bool dx, .int .i64 df] 64)
      simpa using this
    have J5 : WJ w B w.heap.size (n + l + 1) S I L v5 := HJ3.out.kp HR.out (by rw [hv5]; exact ((Kp.refl _).alloc _).alloc _)
    obtain ⟨v6, r1, J6, F6⟩ := J5.snoc HR.out (by rw [HS.out.1]; omega) ⟨l, p, x, ⟨dk, da, dr, dq, dx, df⟩⟩ (v3.heap.size + 1) (fun j y hy => by
      rw [cell_of_row _ _ j _ _ _ C5]
      simpa [encS] using hy)
    have z3 : w.heap.size < v3.heap.size := HJ3.out.wl.lt
    have B6 : BX v6 v3.heap.size dk da dr dq dx df := (F6.block _ (by rw [hv5]; simp; omega) (fun e => by omega)).trans B5
    rw [HS.out.1] at r1
    have x0 := B6.c0
    have x1 := B6.c1
    have x2 := B6.c2
    have x3 := B6.c3
    have x4 := B6.c4
    have x5 := B6.c5
    have HJ6 : Hid (WJ w B w.heap.size (n + l + 1) S I (L ++ [⟨l, p, x, ⟨dk, da, dr, dq, dx, df⟩⟩]) v6) := J6
    have HB : Hid (BX v6 v3.heap.size dk da dr dq dx df) := B6
    rw [hv5] at r1
    clear hv5 B5 C5 J5 J6 B6 HJ3 F6 z3
    have c5 := endOf_any dk da dr dq dx df de v6
    by_cases hk : dk = 1
    · subst hk
      clear c5
      repeat' (first | ((with_reducible refine wp_append_of r1 (.tmp 45) (.tmp 51) ?_ ?_ ?_ ?_ ?_); rfl; rfl; rfl; rfl) | go_values | go_skip | go_guarded | go_step | go_upon | go_back | (simp only []) | (go_values <;> (try go_simp)) | (go_ite <;> go_prune <;> (try go_simp)))
      rw [show ((l : Int) + 1) = ((l + 1 : Nat) : Int) from rfl]
      go_step3
      have hp := HP.out
      have hx := HX.out
      have hd := HD.out
      have ho := HO.out
      subst hp
      subst hx
      have hon := sofar_on HS.out ho (by rw [← hd])
      rw [← hd] at hon
      refine ⟨rfl, ⟨l + 1, da, _, _, _, _, _, _, _, _, _, _, _, _, _, _, _, _, _, _, _, _, _, _, _, _, _, _, _, _, _, _, _, _, _, _, _, _, _, _, _, _, _, _, _, _, _, _, _, _, _, _, _, _, _, _, _, _, _, rfl, hon, HJ6.out⟩, ?_⟩
      simp [intOf]
      omega
    · have k1 : (dk == 1) = false := by rw [beq_eq_false_iff_ne]; exact hk
      repeat' (first | ((with_reducible refine wp_append_of r1 (.tmp 45) (.tmp 51) ?_ ?_ ?_ ?_ ?_); rfl; rfl; rfl; rfl) | go_values | go_skip | go_guarded | go_step | go_upon | go_back | (simp only []) | (go_values <;> (try go_simp)) | (go_ite <;> go_prune <;> (try go_simp)))
      with_reducible refine c5.mono ?_
      rintro e v7 ⟨rfl, K7⟩
      have HJ7 : Hid (WJ w B w.heap.size (n + l + 1) S I (L ++ [⟨l, p, x, ⟨dk, da, dr, dq, dx, df⟩⟩]) v7) := HJ6.out.kp HR.out K7
      clear K7 HJ6 HB x0 x1 x2 x3 x4 x5
      go_wp2_with fail
      simp only [Exit.jump]
      go_ret2
      have hp := HP.out
      have hx := HX.out
      have hd := HD.out
      have he := HE.out
      have hl := HS.out.1
      have ho := HO.out
      subst hp
      subst hx
      have hend := sofar_end HS.out ho (by rw [← hd]; exact hk)
      rw [← hd, ← he] at hend
      rw [hend]
      refine ⟨?_, HJ7.out.wl, HJ7.out.i, HJ7.out.fr⟩
      show Ending.returned (Value.tuple #[.slice (some ⟨w.heap.size, 0, none⟩) (l + 1) 4, .int .i64 (endN dk de)]) = _
      rw [List.length_append, hl]
      rfl

end Go.Proofs.YtanlcmdnhhdhaaaGreatDoor
