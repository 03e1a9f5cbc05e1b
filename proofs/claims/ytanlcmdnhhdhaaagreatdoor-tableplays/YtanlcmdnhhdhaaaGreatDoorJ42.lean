/- Joined: R71, R72. -/
import Derived.Test.YtanlcmdnhhdhaaaGreatDoorJ41
/- TablePlays: how many tables leaves want, by the places of tables. -/
namespace Go.Proofs.YtanlcmdnhhdhaaaGreatDoor
open Go.RowKit
set_option maxRecDepth 10000

theorem cnt_or {F G H : Nat → Bool} : ∀ n, (∀ k, k < n → H k = (F k || G k) ∧ (F k && G k) = false) → cnt H n = cnt F n + cnt G n
  | 0, _ => rfl
  | n + 1, h => by
    have ih := cnt_or n fun k hk => h k (by omega)
    obtain ⟨a, b⟩ := h n (by omega)
    unfold cnt
    rw [ih, a]
    cases e : F n <;> cases e' : G n <;> rw [e, e'] at b <;> simp at * <;> omega
theorem cnt_filter (F : Nat → Bool) : ∀ n, ((List.range n).filter F).length = cnt F n
  | 0 => rfl
  | n + 1 => by
    rw [List.range_succ, List.filter_append, List.length_append, cnt_filter F n]
    show cnt F n + _ = cnt F n + if F n = true then 1 else 0
    rw [List.filter_cons]
    cases F n <;> rfl
theorem cnt_from (g : Nat) : ∀ n, cnt (fun k => !decide (k + 1 ≤ g)) n = n - g
  | 0 => (Nat.zero_sub g).symm
  | n + 1 => by
    unfold cnt
    rw [cnt_from g n]
    by_cases c : n + 1 ≤ g
    · rw [decide_eq_true c]; simp; omega
    · rw [decide_eq_false c]; simp; omega
/-- The code of the table of a level that a page stands under. -/
def cdT (g k : Nat) : Nat := 4 * (g / 2 ^ (9 * (4 - k))) + k
theorem cdT_mod {g k : Nat} (hk : k ≤ 3) : cdT g k % 4 = k ∧ cdT g k / 4 = g / 2 ^ (9 * (4 - k)) := by
  unfold cdT
  constructor <;> omega
theorem cdT_lt {g k : Nat} (hk : k ≤ 3) (hg : g < 268435968) : cdT g k < 1073741824 := by
  unfold cdT
  rcases (by omega : k = 0 ∨ k = 1 ∨ k = 2 ∨ k = 3) with rfl | rfl | rfl | rfl
  · rw [show 9 * (4 - 0) = 36 from rfl]; omega
  · rw [show 9 * (4 - 1) = 27 from rfl]; omega
  · rw [show 9 * (4 - 2) = 18 from rfl]; omega
  · rw [show 9 * (4 - 3) = 9 from rfl]; omega
theorem cdT_of {c : Nat} {g : Nat} (h : g / 2 ^ (9 * (4 - c % 4)) = c / 4) : c = cdT g (c % 4) := by
  unfold cdT
  rw [h]
  omega
/-- Is the table of this code on a leaf's way? -/
def wyB (g n c : Nat) : Bool := decide (1 ≤ c % 4) && decide (c % 4 ≤ n) && decide (g / 2 ^ (9 * (4 - c % 4)) = c / 4)
def tB (L : List LV) (c : Nat) : Bool := L.any fun v => wyB v.g v.l c
theorem tB_iff {L : List LV} {c : Nat} : tB L c = true ↔ ∃ v ∈ L, 1 ≤ c % 4 ∧ c % 4 ≤ v.l ∧ v.g / 2 ^ (9 * (4 - c % 4)) = c / 4 := by
  unfold tB wyB
  rw [List.any_eq_true]
  constructor
  · rintro ⟨v, hv, h⟩
    simp only [Bool.and_eq_true, decide_eq_true_eq] at h
    exact ⟨v, hv, h.1.1, h.1.2, h.2⟩
  · rintro ⟨v, hv, h1, h2, h3⟩
    exact ⟨v, hv, by simp only [Bool.and_eq_true, decide_eq_true_eq]; exact ⟨⟨h1, h2⟩, h3⟩⟩
theorem cnt_way {F : Nat → Bool} {g N : Nat} (hN : 1073741824 ≤ N) (hg : g < 268435968) : ∀ n, n ≤ 3 → cnt (fun c => F c || wyB g n c) N = cnt F N + cnt (fun k => !F (cdT g (k + 1))) n
  | 0, _ => by
    rw [show cnt (fun k => !F (cdT g (k + 1))) 0 = 0 from rfl]
    refine cnt_like N fun k _ => ?_
    unfold wyB
    have : (decide (1 ≤ k % 4) && decide (k % 4 ≤ 0)) = false := by
      by_cases c : 1 ≤ k % 4
      · rw [decide_eq_false (show ¬ k % 4 ≤ 0 by omega), Bool.and_false]
      · rw [decide_eq_false c, Bool.false_and]
    rw [this, Bool.false_and, Bool.or_false]
  | n + 1, hn => by
    have ih := cnt_way (F := F) hN hg n (by omega)
    have cm := cdT_mod (g := g) (k := n + 1) (by omega)
    have cl := cdT_lt (g := g) (k := n + 1) (by omega) hg
    have wy : ∀ c, (F c || wyB g (n + 1) c) = if c = cdT g (n + 1) then true else (F c || wyB g n c) := fun c => by
      by_cases e : c = cdT g (n + 1)
      · rw [if_pos e]
        have : wyB g (n + 1) c = true := by
          unfold wyB
          rw [e, cm.1, cm.2]
          simp
        rw [this, Bool.or_true]
      · rw [if_neg e]
        congr 1
        unfold wyB
        by_cases c3 : g / 2 ^ (9 * (4 - c % 4)) = c / 4
        · rw [decide_eq_true c3, Bool.and_true, Bool.and_true]
          have : ¬ c % 4 = n + 1 := fun h => e (by rw [← h]; exact cdT_of c3)
          congr 1
          exact decide_eq_decide.2 ⟨fun h => by omega, fun h => by omega⟩
        · rw [decide_eq_false c3, Bool.and_false, Bool.and_false]
    have wn : wyB g n (cdT g (n + 1)) = false := by
      unfold wyB
      rw [cm.1, decide_eq_false (show ¬ n + 1 ≤ n by omega), Bool.and_false, Bool.false_and]
    show _ = cnt F N + (cnt (fun k => !F (cdT g (k + 1))) n + if (!F (cdT g (n + 1))) = true then 1 else 0)
    cases e : F (cdT g (n + 1))
    · rw [show (!false) = true from rfl, if_pos rfl, ← Nat.add_assoc, ← ih]
      refine cnt_on (F := fun c => F c || wyB g n c) (x := cdT g (n + 1)) ?_ wy N (by omega)
      rw [e, wn]
      rfl
    · rw [show (!true) = false from rfl, if_neg (by decide), Nat.add_zero (cnt (fun k => !F (cdT g (k + 1))) n), ← ih]
      refine cnt_like N fun c _ => ?_
      rw [wy c]
      by_cases ec : c = cdT g (n + 1)
      · rw [if_pos ec, ec, e]; rfl
      · rw [if_neg ec]
/-- A list of leaves that stand as they should. -/
structure LO (L : List LV) : Prop where
  up : L.Pairwise (fun x y => x.g < y.g)
  kd : ∀ v ∈ L, (v.l = 2 ∨ v.l = 3) ∧ v.g < 268435968
  ap : ∀ u ∈ L, ∀ v ∈ L, u.l = 2 → v.g / 512 = u.g / 512 → v = u
theorem pair_at {L : List LV} (h : L.Pairwise (fun x y => x.g < y.g)) {i j : Nat} {x y : LV} (hi : L[i]? = some x) (hj : L[j]? = some y) (hij : i < j) : x.g < y.g := by
  obtain ⟨a, rfl⟩ := List.getElem?_eq_some_iff.1 hi
  obtain ⟨b, rfl⟩ := List.getElem?_eq_some_iff.1 hj
  exact List.pairwise_iff_getElem.1 h i j a b hij
theorem LO.tabI {L : List LV} (h : LO L) {N : Nat} (hN : 1073741824 ≤ N) : ∀ i, i ≤ L.length → Go.Proofs.YtanlcmdnhhdhaaaGreatDoor.tabI L i = cnt (tB (L.take i)) N
  | 0, _ => by
    rw [show Go.Proofs.YtanlcmdnhhdhaaaGreatDoor.tabI L 0 = 0 from rfl]
    exact (cnt_zero N |>.2 fun k _ => rfl).symm
  | i + 1, hi => by
    have ih := LO.tabI h hN i (by omega)
    obtain ⟨v, hv⟩ : ∃ v, L[i]? = some v := ⟨_, List.getElem?_eq_getElem (by omega)⟩
    have hm : v ∈ L := List.mem_of_getElem? hv
    obtain ⟨kd, gl⟩ := h.kd v hm
    have ga := gL_at hv
    have tk : ∀ c, tB (L.take (i + 1)) c = (tB (L.take i) c || wyB v.g v.l c) := fun c => by
      unfold tB
      rw [List.take_add_one, hv, List.any_append]
      simp
    have e1 : cnt (tB (L.take (i + 1))) N = cnt (fun c => tB (L.take i) c || wyB v.g v.l c) N := cnt_like N fun c _ => tk c
    rw [e1, cnt_way hN gl v.l (by omega), ← ih]
    show Go.Proofs.YtanlcmdnhhdhaaaGreatDoor.tabI L i + cnt (fun k => newT L i (k + 1)) (lL L i) = _
    rw [ga.2]
    congr 1
    refine cnt_like v.l fun k hk => ?_
    have cm := cdT_mod (g := v.g) (k := k + 1) (by omega)
    have key : tB (L.take i) (cdT v.g (k + 1)) = true ↔ ¬ (i = 0 ∨ gL L (i - 1) / 2 ^ (9 * (4 - (k + 1))) ≠ gL L i / 2 ^ (9 * (4 - (k + 1)))) := by
      rw [tB_iff, cm.1, cm.2]
      have am : ∀ u, u ∈ L.take i ↔ ∃ j, j < i ∧ L[j]? = some u := fun u => by
        rw [List.mem_iff_getElem?]
        constructor
        · rintro ⟨j, hj⟩
          rw [List.getElem?_take] at hj
          by_cases c : j < i
          · rw [if_pos c] at hj; exact ⟨j, c, hj⟩
          · rw [if_neg c] at hj; cases hj
        · rintro ⟨j, c, hj⟩
          exact ⟨j, by rw [List.getElem?_take, if_pos c]; exact hj⟩
      constructor
      · rintro ⟨u, hu, _, h2, h3⟩
        obtain ⟨j, hj, hju⟩ := (am u).1 hu
        obtain ⟨p, hp⟩ : ∃ p, L[i - 1]? = some p := ⟨_, List.getElem?_eq_getElem (by omega)⟩
        have l1 : u.g ≤ p.g := by
          by_cases c : j = i - 1
          · rw [c] at hju; rw [hju] at hp; cases hp; omega
          · have := pair_at h.up hju hp (by omega); omega
        have l2 := pair_at h.up hp hv (by omega)
        rw [(gL_at hp).1, ga.1]
        rintro (c | c)
        · omega
        · have a := Nat.div_le_div_right (c := 2 ^ (9 * (4 - (k + 1)))) l1
          have b := Nat.div_le_div_right (c := 2 ^ (9 * (4 - (k + 1)))) (Nat.le_of_lt l2)
          omega
      · intro c
        have c1 : i ≠ 0 := fun e => c (.inl e)
        have c2 : gL L (i - 1) / 2 ^ (9 * (4 - (k + 1))) = gL L i / 2 ^ (9 * (4 - (k + 1))) := Decidable.byContradiction fun e => c (.inr e)
        obtain ⟨p, hp⟩ : ∃ p, L[i - 1]? = some p := ⟨_, List.getElem?_eq_getElem (by omega)⟩
        rw [(gL_at hp).1, ga.1] at c2
        have pm : p ∈ L := List.mem_of_getElem? hp
        refine ⟨p, (am p).2 ⟨i - 1, by omega, hp⟩, by omega, ?_, c2⟩
        rcases (h.kd p pm).1 with d | d
        · refine Nat.le_of_not_lt fun n => ?_
          have k2 : k = 2 := by omega
          subst k2
          rw [show 9 * (4 - (2 + 1)) = 9 from rfl] at c2
          have := h.ap p pm v hm d (by omega)
          have l2 := pair_at h.up hp hv (by omega)
          rw [this] at l2
          omega
        · omega
    unfold newT
    cases e : tB (L.take i) (cdT v.g (k + 1))
    · rw [e] at key
      have : i = 0 ∨ gL L (i - 1) / 2 ^ (9 * (4 - (k + 1))) ≠ gL L i / 2 ^ (9 * (4 - (k + 1))) := Decidable.byContradiction fun c => by have := key.2 c; cases this
      rw [← Bool.decide_or, decide_eq_true this]
      rfl
    · rw [← Bool.decide_or, decide_eq_false (key.1 e)]
      rfl
/-- How many tables they want: the tables' places, counted. -/
theorem LO.tab {L : List LV} (h : LO L) {N : Nat} (hN : 1073741824 ≤ N) : tabL L = cnt (tB L) N := by
  unfold tabL
  rw [h.tabI hN L.length (Nat.le_refl _), List.take_length]
/-- One leaf more. -/
theorem LO.more {L L' : List LV} (h : LO L) (h' : LO L') {x : LV} (hx : ∀ v, v ∈ L' ↔ v ∈ L ∨ v = x) : tabL L' = tabL L + cnt (fun k => !tB L (cdT x.g (k + 1))) x.l := by
  obtain ⟨kd, gl⟩ := h'.kd x ((hx x).2 (.inr rfl))
  rw [h.tab (Nat.le_refl _), h'.tab (Nat.le_refl _), ← cnt_way (Nat.le_refl _) gl x.l (by omega)]
  refine cnt_like _ fun c _ => ?_
  have : tB L' c = true ↔ (tB L c || wyB x.g x.l c) = true := by
    rw [Bool.or_eq_true]
    unfold tB
    rw [List.any_eq_true, List.any_eq_true]
    constructor
    · rintro ⟨v, hv, h1⟩
      rcases (hx v).1 hv with d | d
      · exact .inl ⟨v, d, h1⟩
      · rw [d] at h1; exact .inr h1
    · rintro (⟨v, hv, h1⟩ | h1)
      · exact ⟨v, (hx v).2 (.inl hv), h1⟩
      · exact ⟨x, (hx x).2 (.inr rfl), h1⟩
  exact Bool.eq_iff_iff.2 this

end Go.Proofs.YtanlcmdnhhdhaaaGreatDoor

/- TablePlays: the tables that leaves want are those that there are. -/
namespace Go.Proofs.YtanlcmdnhhdhaaaGreatDoor
open Go.RowKit
set_option maxRecDepth 10000

section
variable {M : Nat → Nat → Nat} {C : Nat → Nat} {pool root page : Nat} {Z : Nat → Bool} {E E' : Nat → Nat → DV} {L : List LV} {d : DV} {u v : LV}
theorem RL.lo (r : RL E L) (h : TG M C pool Z root E) : LO L where
  up := r.up
  kd v hv := ⟨((r.mem v).1 hv).kinds h, by have := ((r.mem v).1 hv).lt h; omega⟩
  ap u hu v hv := fun h2 he => Lf.apart h ((r.mem u).1 hu) ((r.mem v).1 hv) h2 he
/-- What is over an entry that is there. -/
theorem TG.over (h : TG M C pool Z root E) {l j : Nat} (hl : l ≤ 3) (hk : (E l j).k ≠ 0) : ∀ m, m < l → (E m (j / 512 ^ (l - m))).k = 1 := fun m hm => by
  rcases (by omega : l = 1 ∨ l = 2 ∨ l = 3) with rfl | rfl | rfl
  · have a := h.above (m := 0) (e := j) (by omega) hk
    obtain rfl : m = 0 := by omega
    rw [show 512 ^ (1 - 0) = 512 from rfl]; exact a
  · have a := h.above (m := 1) (e := j) (by omega) hk
    have b := h.above (m := 0) (e := j / 512) (by omega) (show (E 1 (j / 512)).k ≠ 0 by omega)
    rcases (by omega : m = 0 ∨ m = 1) with rfl | rfl
    · rw [show 512 ^ (2 - 0) = 512 * 512 from rfl, ← Nat.div_div_eq_div_mul]; exact b
    · rw [show 512 ^ (2 - 1) = 512 from rfl]; exact a
  · have a := h.above (m := 2) (e := j) (by omega) hk
    have b := h.above (m := 1) (e := j / 512) (by omega) (show (E 2 (j / 512)).k ≠ 0 by omega)
    have c := h.above (m := 0) (e := j / 512 / 512) (by omega) (show (E 1 (j / 512 / 512)).k ≠ 0 by omega)
    rcases (by omega : m = 0 ∨ m = 1 ∨ m = 2) with rfl | rfl | rfl
    · rw [show 512 ^ (3 - 0) = 512 * 512 * 512 from rfl, ← Nat.div_div_eq_div_mul, ← Nat.div_div_eq_div_mul]; exact c
    · rw [show 512 ^ (3 - 1) = 512 * 512 from rfl, ← Nat.div_div_eq_div_mul]; exact b
    · rw [show 512 ^ (3 - 2) = 512 from rfl]; exact a
/-- Where an entry's page stands. -/
theorem pgE_at {m e k : Nat} (hm : m ≤ 3) (h1 : 1 ≤ k) (hk : k ≤ m) : pgE m e / 2 ^ (9 * (4 - k)) = e / 512 ^ (m - (k - 1)) := by
  unfold pgE
  rcases (by omega : m = 1 ∨ m = 2 ∨ m = 3) with rfl | rfl | rfl
  · obtain rfl : k = 1 := by omega
    show e * 2 ^ 18 / 2 ^ 27 = e / 512 ^ 1
    omega
  · rcases (by omega : k = 1 ∨ k = 2) with rfl | rfl
    · show e * 2 ^ 9 / 2 ^ 27 = e / 512 ^ 2
      omega
    · show e * 2 ^ 9 / 2 ^ 18 = e / 512 ^ 1
      omega
  · rcases (by omega : k = 1 ∨ k = 2 ∨ k = 3) with rfl | rfl | rfl
    · show e * 2 ^ 0 / 2 ^ 27 = e / 512 ^ 3
      omega
    · show e * 2 ^ 0 / 2 ^ 18 = e / 512 ^ 2
      omega
    · show e * 2 ^ 0 / 2 ^ 9 = e / 512 ^ 1
      omega
/-- Below a table that is not empty there is a leaf. -/
theorem NE.leaf (ne : NE root E (fun _ _ => False)) (h : TG M C pool Z root E) : ∀ n l j, l + n = 3 → 1 ≤ l → (tbl root E l j).isSome = true → ∃ m e, l ≤ m ∧ m ≤ 3 ∧ (lfD E m e).k ≠ 0 ∧ e / 512 ^ (m - (l - 1)) = j := by
  intro n
  induction n with
  | zero =>
    intro l j hl h1 ht
    obtain rfl : l = 3 := by omega
    obtain ⟨x, hx⟩ := Option.isSome_iff_exists.1 ht
    obtain ⟨i, hi, hk⟩ := ne 3 j x h1 (by omega) (fun c => c) hx
    refine ⟨3, 512 * j + i, Nat.le_refl _, Nat.le_refl _, by rw [h.lf3]; exact hk, ?_⟩
    rw [show 512 ^ (3 - (3 - 1)) = 512 from rfl]
    omega
  | succ n ih =>
    intro l j hl h1 ht
    obtain ⟨x, hx⟩ := Option.isSome_iff_exists.1 ht
    obtain ⟨i, hi, hk⟩ := ne l j x h1 (by omega) (fun c => c) hx
    by_cases c : (E l (512 * j + i)).k = 1
    · obtain ⟨m, e, a, b, c1, c2⟩ := ih (l + 1) (512 * j + i) (by omega) (by omega) (by rw [tbl_succ, if_pos c]; rfl)
      refine ⟨m, e, by omega, b, c1, ?_⟩
      rw [show m - (l - 1) = (m - (l + 1 - 1)) + 1 by omega, Nat.pow_succ, ← Nat.div_div_eq_div_mul, c2]
      omega
    · refine ⟨l, 512 * j + i, Nat.le_refl _, by omega, by unfold lfD; rw [if_neg c]; exact hk, ?_⟩
      rw [show l - (l - 1) = 1 by omega, Nat.pow_one]
      omega
/-- A table's place is wanted just where there is a table. -/
theorem RL.tB (r : RL E L) (h : TG M C pool Z root E) (ne : NE root E (fun _ _ => False)) (c : Nat) : Go.Proofs.YtanlcmdnhhdhaaaGreatDoor.tB L c = true ↔ 1 ≤ c % 4 ∧ (tbl root E (c % 4) (c / 4)).isSome = true := by
  rw [tB_iff]
  constructor
  · rintro ⟨v, hv, h1, h2, h3⟩
    refine ⟨h1, ?_⟩
    obtain ⟨m, e, hm, hk, rfl⟩ := (r.mem v).1 hv
    have hm2 : c % 4 ≤ m := h2
    have h3' : pgE m e / 2 ^ (9 * (4 - c % 4)) = c / 4 := h3
    rw [pgE_at hm h1 hm2] at h3'
    obtain ⟨l, hl⟩ : ∃ l, c % 4 = l + 1 := ⟨c % 4 - 1, by omega⟩
    rw [hl] at h3' hm2 ⊢
    have ek := (h.lfk hm hk).1
    rw [ek] at hk
    have := h.over hm hk l (by omega)
    rw [show l + 1 - 1 = l from rfl] at h3'
    rw [h3'] at this
    rw [tbl_succ, if_pos this]
    rfl
  · rintro ⟨h1, ht⟩
    obtain ⟨m, e, a, b, c1, c2⟩ := NE.leaf ne h (3 - c % 4) (c % 4) (c / 4) (by omega) h1 ht
    exact ⟨_, (r.mem _).2 ⟨m, e, b, c1, rfl⟩, h1, a, by show pgE m e / _ = _; rw [pgE_at b h1 a]; exact c2⟩
theorem tbl_zero (root : Nat) (E : Nat → Nat → DV) (j : Nat) : tbl root E 0 j = if j = 0 then some root else none := rfl
theorem tbl_lt (h : TG M C pool Z root E) {l j : Nat} (hl : l ≤ 3) (ht : (tbl root E l j).isSome = true) : j < 134217728 * 8 := by
  cases l with
  | zero =>
    rw [tbl_zero] at ht
    by_cases c : j = 0
    · omega
    · rw [if_neg c] at ht; cases ht
  | succ l =>
    rw [tbl_succ] at ht
    by_cases c : (E l j).k = 1
    · have key := h.over (l := l) (j := j) (by omega) (by omega)
      rcases (by omega : l = 0 ∨ l = 1 ∨ l = 2) with rfl | rfl | rfl
      · have := h.two j (by omega); omega
      · have a := key 0 (by omega)
        rw [show 512 ^ (1 - 0) = 512 from rfl] at a
        have := h.two (j / 512) (by omega); omega
      · have a := key 0 (by omega)
        rw [show 512 ^ (2 - 0) = 262144 from rfl] at a
        have := h.two (j / 262144) (by omega); omega
    · rw [if_neg c] at ht; cases ht
/-- The tables but the root are those that the leaves want. -/
theorem RL.own (r : RL E L) (h : TG M C pool Z root E) (ne : NE root E (fun _ _ => False)) : tabL L + 1 = cnt (ownC C Z) pool := by
  obtain ⟨N, hN, hN2⟩ : ∃ N, 1073741824 ≤ N ∧ 4294967300 ≤ N := ⟨4294967300, by omega, by omega⟩
  rw [(r.lo h).tab hN, ← h.tabs_len]
  rw [← cnt_filter]
  obtain ⟨K, hK⟩ : ∃ K, K = (List.range N).filter (Go.Proofs.YtanlcmdnhhdhaaaGreatDoor.tB L) := ⟨_, rfl⟩
  have km : ∀ c, c ∈ K ↔ 1 ≤ c % 4 ∧ (tbl root E (c % 4) (c / 4)).isSome = true := fun c => by
    rw [hK, List.mem_filter, List.mem_range, r.tB h ne]
    refine ⟨fun a => a.2, fun a => ⟨?_, a⟩⟩
    have := tbl_lt h (by omega) a.2
    omega
  have ka : K.Pairwise (· ≠ ·) := by rw [hK]; exact (List.Pairwise.filter _ List.nodup_range)
  obtain ⟨f, hf⟩ : ∃ f : Nat → Nat, f = fun c => (tbl root E (c % 4) (c / 4)).getD 0 * 4096 := ⟨_, rfl⟩
  have fx : ∀ c x, tbl root E (c % 4) (c / 4) = some x → f c = x * 4096 := fun c x e => by rw [hf]; show (tbl root E (c % 4) (c / 4)).getD 0 * 4096 = _; rw [e]; rfl
  have am : ∀ a, a ∈ root * 4096 :: K.map f ↔ a ∈ tabsA root E := fun a => by
    rw [h.tabs_mem, List.mem_cons, List.mem_map]
    constructor
    · rintro (rfl | ⟨c, hc, rfl⟩)
      · exact ⟨0, 0, root, by omega, rfl, rfl⟩
      · obtain ⟨_, ht⟩ := (km c).1 hc
        obtain ⟨x, hx⟩ := Option.isSome_iff_exists.1 ht
        exact ⟨c % 4, c / 4, x, by omega, hx, fx c x hx⟩
    · rintro ⟨l, j, x, hl, ht, rfl⟩
      cases l with
      | zero =>
        rw [tbl_zero] at ht
        by_cases c : j = 0
        · rw [if_pos c] at ht; cases ht; exact .inl rfl
        · rw [if_neg c] at ht; cases ht
      | succ l =>
        have e1 : (4 * j + (l + 1)) % 4 = l + 1 := by omega
        have e2 : (4 * j + (l + 1)) / 4 = j := by omega
        refine .inr ⟨4 * j + (l + 1), (km _).2 ⟨by omega, by rw [e1, e2, ht]; rfl⟩, fx _ x (by rw [e1, e2]; exact ht)⟩
  have ap : (root * 4096 :: K.map f).Pairwise (· ≠ ·) := by
    rw [List.pairwise_cons]
    refine ⟨fun a ha e => ?_, ?_⟩
    · obtain ⟨c, hc, rfl⟩ := List.mem_map.1 ha
      obtain ⟨h1, ht⟩ := (km c).1 hc
      obtain ⟨x, hx⟩ := Option.isSome_iff_exists.1 ht
      rw [fx c x hx] at e
      have : x = root := by omega
      subst this
      have := (h.one (c % 4) (c / 4) 0 0 x (by omega) (by omega) hx rfl).1
      omega
    · rw [List.pairwise_map]
      refine List.Pairwise.imp_of_mem (fun {a b} ha hb hab e => hab ?_) ka
      obtain ⟨a1, at'⟩ := (km a).1 ha
      obtain ⟨b1, bt⟩ := (km b).1 hb
      obtain ⟨x, hx⟩ := Option.isSome_iff_exists.1 at'
      obtain ⟨y, hy⟩ := Option.isSome_iff_exists.1 bt
      rw [fx a x hx, fx b y hy] at e
      have : x = y := by omega
      subst this
      have := h.one (a % 4) (a / 4) (b % 4) (b / 4) x (by omega) (by omega) hx hy
      omega
  have bd : ∀ a ∈ tabsA root E, a < pool * 4096 := fun a ha => by
    obtain ⟨l, j, x, hl, ht, rfl⟩ := (h.tabs_mem a).1 ha
    have := (h.mine l j x hl ht).1
    omega
  have c1 := cnt_mem (root * 4096 :: K.map f) (pool * 4096) ap fun x hx => bd x ((am x).1 hx)
  have c2 := cnt_mem (tabsA root E) (pool * 4096) h.tabs_apart bd
  have c3 : cnt (fun x => decide (x ∈ tabsA root E)) (pool * 4096) = cnt (fun x => decide (x ∈ root * 4096 :: K.map f)) (pool * 4096) := cnt_like _ fun k _ => decide_eq_decide.2 (am k).symm
  rw [List.length_cons, List.length_map] at c1
  rw [← hK]
  omega
/-- What is free, what is mine, what is others'. -/
theorem RL.free (r : RL E L) (h : TG M C pool Z root E) (ne : NE root E (fun _ _ => False)) : cnt (fT pool C) pool + (tabL L + 1) + cnt Z pool = pool := by
  rw [r.own h ne, Nat.add_assoc, ← cnt_or (H := fun x => decide (C x ≠ 0)) pool fun k hk => ?_]
  · exact cnt_both _ _ pool fun k hk => by
      unfold fT
      rw [decide_eq_true hk, Bool.true_and]
      by_cases c : C k = 0 <;> simp [c]
  · unfold ownC
    have := h.oth k
    cases e : Z k
    · exact ⟨by simp, by simp⟩
    · have := this e
      exact ⟨by simp [this], by simp⟩
end

end Go.Proofs.YtanlcmdnhhdhaaaGreatDoor
