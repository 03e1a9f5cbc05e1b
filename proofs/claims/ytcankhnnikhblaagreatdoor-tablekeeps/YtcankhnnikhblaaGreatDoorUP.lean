/- Runs of free frames: F tells which frames are free; the runs are the greatest that these make. -/
import Derived.Test.YtcankhnnikhblaaGreatDoorK0
namespace Go.Proofs.YtcankhnnikhblaaGreatDoor

/-! ### blocks: the frames k with k / 2 ^ o = i -/
theorem div_up {o o' k l : Nat} (h : o ≤ o') (e : k / 2 ^ o = l / 2 ^ o) : k / 2 ^ o' = l / 2 ^ o' := by
  have : 2 ^ o' = 2 ^ o * 2 ^ (o' - o) := by rw [← Nat.pow_add]; congr 1; omega
  rw [this, ← Nat.div_div_eq_div_mul, ← Nat.div_div_eq_div_mul, e]
theorem div_par (k o : Nat) : k / 2 ^ (o + 1) = k / 2 ^ o / 2 := by rw [Nat.pow_succ, Nat.div_div_eq_div_mul]
theorem rep (i o : Nat) : i * 2 ^ o / 2 ^ o = i := Nat.mul_div_cancel _ (Nat.two_pow_pos o)
theorem blk_iff (k o i : Nat) : k / 2 ^ o = i ↔ i * 2 ^ o ≤ k ∧ k < i * 2 ^ o + 2 ^ o := by
  have hp := Nat.two_pow_pos o
  constructor
  · rintro rfl
    have := Nat.div_add_mod k (2 ^ o)
    have := Nat.mod_lt k hp
    rw [Nat.mul_comm]
    omega
  · rintro ⟨h1, h2⟩
    refine Nat.le_antisymm ?_ ((Nat.le_div_iff_mul_le hp).2 h1)
    have := (Nat.div_lt_iff_lt_mul hp (x := k) (y := i + 1)).2 (by rw [Nat.add_mul]; omega)
    omega

/-- All frames of the block (o, i) are free. -/
def Al (F : Nat → Bool) (o i : Nat) : Prop := ∀ k, k / 2 ^ o = i → F k = true
def al (F : Nat → Bool) : Nat → Nat → Bool
  | 0, i => F i
  | o + 1, i => al F o (2 * i) && al F o (2 * i + 1)
theorem al_iff (F : Nat → Bool) : ∀ o i, al F o i = true ↔ Al F o i
  | 0, i => by
    unfold al Al
    simp
  | o + 1, i => by
    unfold al
    rw [Bool.and_eq_true, al_iff F o, al_iff F o]
    unfold Al
    constructor
    · rintro ⟨h1, h2⟩ k hk
      rw [div_par] at hk
      rcases (by omega : k / 2 ^ o = 2 * i ∨ k / 2 ^ o = 2 * i + 1) with h | h
      · exact h1 k h
      · exact h2 k h
    · intro h
      exact ⟨fun k hk => h k (by rw [div_par]; omega), fun k hk => h k (by rw [div_par]; omega)⟩
/-- (o, i) is a free run. -/
def Rn (F : Nat → Bool) (o i : Nat) : Prop := Al F o i ∧ (o = 9 ∨ ¬ Al F (o + 1) (i / 2))
def rn (F : Nat → Bool) (o i : Nat) : Bool := al F o i && (decide (o = 9) || !al F (o + 1) (i / 2))
theorem rn_iff (F : Nat → Bool) (o i : Nat) : rn F o i = true ↔ Rn F o i := by
  unfold rn Rn
  rw [Bool.and_eq_true, Bool.or_eq_true, al_iff, decide_eq_true_iff, Bool.not_eq_true', ← Bool.not_eq_true, al_iff]
theorem rn_false (F : Nat → Bool) (o i : Nat) : rn F o i = false ↔ ¬ Rn F o i := by rw [← Bool.not_eq_true, rn_iff]

theorem sub_blk {o o' j i k : Nat} (h : o ≤ o') (h1 : k / 2 ^ o = j) (h2 : k / 2 ^ o' = i) : ∀ l, l / 2 ^ o = j → l / 2 ^ o' = i := fun l hl => by
  rw [← h2]; exact div_up h (by rw [hl, h1])
theorem Al.sub {F : Nat → Bool} {o o' j i k : Nat} (hA : Al F o' i) (h : o ≤ o') (h1 : k / 2 ^ o = j) (h2 : k / 2 ^ o' = i) : Al F o j := fun l hl => hA l (sub_blk h h1 h2 l hl)
/-- The run that a frame lies in. -/
theorem run_of {F : Nat → Bool} {f : Nat} (h : F f = true) : ∃ o, o ≤ 9 ∧ Rn F o (f / 2 ^ o) := by
  have step : ∀ d, d ≤ 9 → Al F (9 - d) (f / 2 ^ (9 - d)) → ∃ o, o ≤ 9 ∧ Rn F o (f / 2 ^ o) := by
    intro d
    induction d with
    | zero => intro _ h; exact ⟨9, Nat.le_refl _, h, .inl rfl⟩
    | succ d ih =>
      intro hd h
      by_cases c : Al F (9 - (d + 1) + 1) (f / 2 ^ (9 - (d + 1)) / 2)
      · have e : 9 - (d + 1) + 1 = 9 - d := by omega
        rw [← div_par, e] at c
        exact ih (by omega) c
      · exact ⟨9 - (d + 1), by omega, h, .inr c⟩
  exact step 9 (Nat.le_refl _) (fun k hk => by simp at hk; subst hk; exact h)
theorem run_one {F : Nat → Bool} {f o o' : Nat} (ho : o ≤ 9) (ho' : o' ≤ 9) (h : Rn F o (f / 2 ^ o)) (h' : Rn F o' (f / 2 ^ o')) : o = o' := by
  have key : ∀ a b, a < b → b ≤ 9 → Rn F a (f / 2 ^ a) → Rn F b (f / 2 ^ b) → False := fun a b hab hb h h' => by
    rcases h.2 with h9 | h2
    · omega
    · apply h2
      rw [← div_par]
      exact h'.1.sub (by omega) rfl rfl
  rcases Nat.lt_trichotomy o o' with c | c | c
  · exact absurd (key _ _ c ho' h h') id
  · exact c
  · exact absurd (key _ _ c ho h' h) id

/-! ### a block more, a block less -/
def addF (F : Nat → Bool) (o j : Nat) : Nat → Bool := fun k => F k || decide (k / 2 ^ o = j)
def subF (F : Nat → Bool) (o j : Nat) : Nat → Bool := fun k => F k && !decide (k / 2 ^ o = j)
theorem addF_iff (F : Nat → Bool) (o j k : Nat) : addF F o j k = true ↔ F k = true ∨ k / 2 ^ o = j := by simp [addF]
theorem subF_iff (F : Nat → Bool) (o j k : Nat) : subF F o j k = true ↔ F k = true ∧ k / 2 ^ o ≠ j := by simp [subF]
/-- Two blocks meet. -/
def Mt (o j o' i : Nat) : Prop := ∃ k, k / 2 ^ o = j ∧ k / 2 ^ o' = i
theorem al_subF {F : Nat → Bool} {o j o' i : Nat} : Al (subF F o j) o' i ↔ Al F o' i ∧ ¬ Mt o j o' i := by
  constructor
  · intro h
    exact ⟨fun k hk => ((subF_iff ..).1 (h k hk)).1, fun ⟨k, h1, h2⟩ => ((subF_iff ..).1 (h k h2)).2 h1⟩
  · rintro ⟨h1, h2⟩ k hk
    exact (subF_iff ..).2 ⟨h1 k hk, fun e => h2 ⟨k, e, hk⟩⟩
theorem al_addF {F : Nat → Bool} {o j o' i : Nat} (h : ¬ Mt o j o' i) : Al (addF F o j) o' i ↔ Al F o' i := by
  constructor
  · intro h1 k hk
    rcases (addF_iff ..).1 (h1 k hk) with h2 | h2
    · exact h2
    · exact absurd ⟨k, h2, hk⟩ h
  · intro h1 k hk
    exact (addF_iff ..).2 (.inl (h1 k hk))
theorem Mt.self (o j : Nat) : Mt o j o j := ⟨j * 2 ^ o, rep j o, rep j o⟩
/-- Where a block does not meet (o, j) and the next greater one does. -/
theorem Mt.par {o j o' i : Nat} (h : ¬ Mt o j o' i) (h' : Mt o j (o' + 1) (i / 2)) : o ≤ o' := by
  by_cases c : o ≤ o'
  · exact c
  · obtain ⟨k, h1, h2⟩ := h'
    refine absurd ⟨i * 2 ^ o', ?_, rep i o'⟩ h
    exact sub_blk (by omega : o' + 1 ≤ o) h2 h1 _ (by rw [div_par, rep])
theorem rn_subF {F : Nat → Bool} {o j o' i : Nat} (h : Rn F o j) (ho : o ≤ 9) (ho' : o' ≤ 9) : Rn (subF F o j) o' i ↔ Rn F o' i ∧ ¬ (o' = o ∧ i = j) := by
  by_cases m : Mt o j o' i
  · constructor
    · intro h1; exact absurd m (al_subF.1 h1.1).2
    · rintro ⟨h1, h2⟩
      obtain ⟨k, k1, k2⟩ := m
      rcases Nat.lt_trichotomy o' o with c | c | c
      · rcases h1.2 with e | e
        · omega
        · refine absurd (h.1.sub (k := k) (by omega : o' + 1 ≤ o) ?_ k1) e
          rw [div_par, k2]
      · subst c
        exact absurd ⟨rfl, k2.symm.trans k1⟩ h2
      · rcases h.2 with e | e
        · omega
        · refine absurd (h1.1.sub (k := k) (by omega : o + 1 ≤ o') ?_ k2) e
          rw [div_par, k1]
  · have ne : ¬ (o' = o ∧ i = j) := by rintro ⟨rfl, rfl⟩; exact m (Mt.self _ _)
    have A : Al (subF F o j) o' i ↔ Al F o' i := by rw [al_subF]; exact ⟨fun h => h.1, fun h => ⟨h, m⟩⟩
    have B : o' = 9 ∨ (Al (subF F o j) (o' + 1) (i / 2) ↔ Al F (o' + 1) (i / 2)) := by
      by_cases m2 : Mt o j (o' + 1) (i / 2)
      · by_cases e9 : o' = 9
        · exact .inl e9
        · right
          have hle := Mt.par m m2
          obtain ⟨k, k1, k2⟩ := m2
          constructor
          · intro h1; exact absurd ⟨k, k1, k2⟩ (al_subF.1 h1).2
          · intro h1
            rcases h.2 with e | e
            · omega
            · refine absurd (h1.sub (k := k) (by omega : o + 1 ≤ o' + 1) ?_ k2) e
              rw [div_par, k1]
      · right; rw [al_subF]; exact ⟨fun h => h.1, fun h => ⟨h, m2⟩⟩
    unfold Rn
    rw [A]
    rcases B with B | B
    · constructor
      · rintro ⟨h1, _⟩; exact ⟨⟨h1, .inl B⟩, ne⟩
      · rintro ⟨⟨h1, _⟩, _⟩; exact ⟨h1, .inl B⟩
    · rw [B]; exact ⟨fun h => ⟨h, ne⟩, fun h => h.1⟩
/-- A block whose frames are all taken becomes a free run, if its buddy is not free all over. -/
theorem rn_addF {F : Nat → Bool} {o j o' i : Nat} (h : ∀ k, k / 2 ^ o = j → F k = false) (hb : o = 9 ∨ ∃ k, k / 2 ^ (o + 1) = j / 2 ∧ k / 2 ^ o ≠ j ∧ F k = false) (ho : o ≤ 9) (ho' : o' ≤ 9) : Rn (addF F o j) o' i ↔ Rn F o' i ∨ (o' = o ∧ i = j) := by
  have up : ∀ {a b k}, o + 1 ≤ a → k / 2 ^ o = j → k / 2 ^ a = b → o ≠ 9 → ¬ Al (addF F o j) a b := fun {a b k} ha k1 k2 e9 hA => by
    rcases hb with e | ⟨l, l1, l2, l3⟩
    · exact e9 e
    · have := hA l (sub_blk (k := k) ha (by rw [div_par, k1]) k2 l l1)
      rcases (addF_iff ..).1 this with q | q
      · rw [l3] at q; cases q
      · exact l2 q
  by_cases m : Mt o j o' i
  · obtain ⟨k, k1, k2⟩ := m
    have nR : ¬ Rn F o' i := fun hR => by have := hR.1 k k2; rw [h k k1] at this; cases this
    constructor
    · intro h1
      rcases Nat.lt_trichotomy o' o with c | c | c
      · exfalso
        rcases h1.2 with e | e
        · omega
        · exact e (fun l hl => (addF_iff ..).2 (.inr (sub_blk (k := k) (by omega : o' + 1 ≤ o) (by rw [div_par, k2]) k1 l hl)))
      · subst c; exact .inr ⟨rfl, k2.symm.trans k1⟩
      · exact absurd h1.1 (up (by omega) k1 k2 (by omega))
    · rintro (h1 | ⟨rfl, rfl⟩)
      · exact absurd h1 nR
      · refine ⟨fun l hl => (addF_iff ..).2 (.inr hl), ?_⟩
        by_cases e9 : o' = 9
        · exact .inl e9
        · exact .inr (up (k := k) (Nat.le_refl _) k1 (by rw [div_par, k1]) e9)
  · have ne : ¬ (o' = o ∧ i = j) := by rintro ⟨rfl, rfl⟩; exact m (Mt.self _ _)
    have A : Al (addF F o j) o' i ↔ Al F o' i := al_addF m
    have B : o' = 9 ∨ (Al (addF F o j) (o' + 1) (i / 2) ↔ Al F (o' + 1) (i / 2)) := by
      by_cases m2 : Mt o j (o' + 1) (i / 2)
      · by_cases e9 : o' = 9
        · exact .inl e9
        · right
          have hle := Mt.par m m2
          obtain ⟨k, k1, k2⟩ := m2
          constructor
          · intro h1; exact absurd h1 (up (by omega) k1 k2 (by omega))
          · intro h1; have := h1 k k2; rw [h k k1] at this; cases this
      · right; exact al_addF m2
    unfold Rn
    rw [A]
    rcases B with B | B
    · constructor
      · rintro ⟨h1, _⟩; exact .inl ⟨h1, .inl B⟩
      · rintro (⟨h1, _⟩ | h1)
        · exact ⟨h1, .inl B⟩
        · exact absurd h1 ne
    · rw [B]; exact ⟨.inl, fun h => h.elim id (fun e => absurd e ne)⟩

/-! ### how many -/
def cnt (F : Nat → Bool) : Nat → Nat
  | 0 => 0
  | n + 1 => cnt F n + if F n then 1 else 0
theorem cnt_le (F : Nat → Bool) : ∀ n, cnt F n ≤ n
  | 0 => Nat.le_refl _
  | n + 1 => by have := cnt_le F n; unfold cnt; split <;> omega
theorem cnt_like {F G : Nat → Bool} : ∀ n, (∀ k, k < n → G k = F k) → cnt G n = cnt F n
  | 0, _ => rfl
  | n + 1, h => by unfold cnt; rw [cnt_like n (fun k hk => h k (by omega)), h n (by omega)]
theorem cnt_zero {F : Nat → Bool} : ∀ n, cnt F n = 0 ↔ ∀ k, k < n → F k = false
  | 0 => by simp [cnt]
  | n + 1 => by
    have ih := cnt_zero (F := F) n
    unfold cnt
    constructor
    · intro h k hk
      by_cases e : k = n
      · subst e
        cases hv : F k
        · rfl
        · rw [hv] at h; simp at h
      · exact ih.1 (by omega) k (by omega)
    · intro h
      rw [ih.2 (fun k hk => h k (by omega)), h n (by omega)]; rfl
theorem cnt_span {F G : Nat → Bool} {a b : Nat} (hab : a ≤ b) (h1 : ∀ k, a ≤ k → k < b → G k = true ∧ F k = false) (h2 : ∀ k, k < a ∨ b ≤ k → G k = F k) : ∀ n, cnt G n + min n a = cnt F n + min n b
  | 0 => by simp [cnt]
  | n + 1 => by
    have ih := cnt_span hab h1 h2 n
    unfold cnt
    by_cases c : a ≤ n ∧ n < b
    · obtain ⟨g, f⟩ := h1 n c.1 c.2
      rw [g, f]; simp; omega
    · rw [h2 n (by omega)]
      split <;> omega
theorem cnt_addF {F : Nat → Bool} {o j n : Nat} (h : ∀ k, k / 2 ^ o = j → F k = false) (hn : j * 2 ^ o + 2 ^ o ≤ n) : cnt (addF F o j) n = cnt F n + 2 ^ o := by
  have := cnt_span (F := F) (G := addF F o j) (a := j * 2 ^ o) (b := j * 2 ^ o + 2 ^ o) (Nat.le_add_right _ _) (fun k h1 h2 => ⟨(addF_iff ..).2 (.inr ((blk_iff ..).2 ⟨h1, h2⟩)), h k ((blk_iff ..).2 ⟨h1, h2⟩)⟩) (fun k hk => by
    unfold addF
    rw [decide_eq_false (fun e => by have := (blk_iff ..).1 e; omega), Bool.or_false]) n
  generalize j * 2 ^ o = q at *
  generalize 2 ^ o = r at *
  omega
theorem cnt_subF {F : Nat → Bool} {o j n : Nat} (h : Al F o j) (hn : j * 2 ^ o + 2 ^ o ≤ n) : cnt (subF F o j) n + 2 ^ o = cnt F n := by
  have := cnt_span (F := subF F o j) (G := F) (a := j * 2 ^ o) (b := j * 2 ^ o + 2 ^ o) (Nat.le_add_right _ _) (fun k h1 h2 => ⟨h k ((blk_iff ..).2 ⟨h1, h2⟩), by
    unfold subF
    rw [decide_eq_true ((blk_iff ..).2 ⟨h1, h2⟩)]; simp⟩) (fun k hk => by
    unfold subF
    rw [decide_eq_false (fun e => by have := (blk_iff ..).1 e; omega)]; simp) n
  generalize j * 2 ^ o = q at *
  generalize 2 ^ o = r at *
  omega
/-- One more, one less. -/
theorem cnt_on {F G : Nat → Bool} {x : Nat} (h : F x = false) (hG : ∀ k, G k = if k = x then true else F k) : ∀ n, x < n → cnt G n = cnt F n + 1 := fun n hn => by
  have := cnt_span (F := F) (G := G) (a := x) (b := x + 1) (by omega) (fun k h1 h2 => by
    have e : k = x := by omega
    subst e; rw [hG, if_pos rfl]; exact ⟨rfl, h⟩) (fun k hk => by rw [hG, if_neg (by omega)]) n
  omega

end Go.Proofs.YtcankhnnikhblaaGreatDoor
