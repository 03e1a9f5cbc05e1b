/- stage2: what a table's entries are, by level and place, apart from any program; their words. -/
import Derived.Test.YtanlcmdnhhdhaaaGreatDoorJ03
import Derived.Test.YtanlcmdnhhdhaaaGreatDoorJ05
import Derived.Test.YtanlcmdnhhdhaaaGreatDoorJ16
namespace Go.Proofs.YtanlcmdnhhdhaaaGreatDoor
open Go.RowKit
set_option maxRecDepth 10000

/-- No descriptor. -/
def dN : DV := ⟨0, 0, false, false, false, 0⟩
/-- A descriptor of a table that is the frame y. -/
def dT (y : Nat) : DV := ⟨1, y * 4096, false, false, false, 0⟩
def wdD (d : DV) : Nat := wrd d.k d.a d.r d.q d.x d.f
/-- It may be in a table of the level. -/
def okD (l : Nat) (d : DV) : Prop := dchk 2 (l : Int) d.k d.a d.r d.q d.x d.f = 0
theorem dv_eq {d e : DV} (h1 : d.k = e.k) (h2 : d.a = e.a) (h3 : d.r = e.r) (h4 : d.q = e.q) (h5 : d.x = e.x) (h6 : d.f = e.f) : d = e := by
  cases d; cases e; simp_all
theorem okD.none {l : Nat} {d : DV} (h : okD l d) (hk : d.k = 0) : d = dN := by
  unfold okD at h
  rw [hk] at h
  obtain ⟨a, b, c, e, f⟩ := none_zero h
  exact dv_eq hk a b c e f
theorem okD.back {l : Nat} {d : DV} (h : okD l d) : dvN 2 l (wdD d) = d ∧ decE 2 (l : Int) (wdD d) = 0 ∧ wdD d < 18446744073709551616 := by
  obtain ⟨u, e, h1, h2, _, h4, h5, h6, h7, h8, h9⟩ := dec_back h
  have e' : wdD d = u := e
  rw [e']
  exact ⟨dv_eq h4 h5 h6 h7 h8 h9, h2, h1⟩
theorem fm_one {l a s : Int} {r q x : Bool} (h : fm l 1 a r q x s = true) : l ≠ 3 := by
  rintro rfl; revert h; unfold fm; cases q <;> cases r <;> simp
theorem fm_two {l a s : Int} {r q x : Bool} (h : fm l 2 a r q x s = true) : l ≠ 0 ∧ l ≠ 3 := by
  revert h; unfold fm; cases q <;> cases r <;> simp
theorem fm_three {l a s : Int} {r q x : Bool} (h : fm l 3 a r q x s = true) : l = 3 := by
  revert h; unfold fm; cases q <;> cases r <;> simp
theorem fm_perm {l k a s : Int} {r q x : Bool} (h : fm l k a r q x s = true) : q = true → r = true := by
  revert h; unfold fm; cases q <;> cases r <;> simp
theorem okD.parts {l : Nat} {d : DV} (h : okD l d) : l ≤ 3 ∧ 0 ≤ d.k ∧ d.k ≤ 3 ∧ 0 ≤ d.f ∧ d.f ≤ 15 ∧ d.a % 4096 = 0 ∧ d.a < 4294967296 ∧ (d.k = 1 → l ≤ 2) ∧ (d.k = 2 → l = 1 ∨ l = 2) ∧ (d.k = 3 → l = 3) ∧ (d.q = true → d.r = true) := by
  obtain ⟨h1, h2, h3, h4, h5, h6⟩ := chk_ok h
  have h1' := isPl_iff.1 h1
  have h2' : 0 ≤ d.k ∧ d.k ≤ 3 := by unfold isKd at h2; exact of_decide_eq_true h2
  have h7 := Nat.dvd_trans (unit_dvd h1 (k := d.k)) (Nat.dvd_of_mod_eq_zero h6)
  have h8 : d.a < 4294967296 := h5
  refine ⟨by omega, h2'.1, h2'.2, h3.1, h3.2, Nat.mod_eq_zero_of_dvd h7, h8, fun hk => ?_, fun hk => ?_, fun hk => ?_, fun hq => ?_⟩
  · rw [hk] at h4; have := fm_one h4; omega
  · rw [hk] at h4; have := fm_two h4; omega
  · rw [hk] at h4; have := fm_three h4; omega
  · exact fm_perm h4 hq
theorem okD_none {l : Nat} (hl : l ≤ 3) : okD l dN := by
  rcases (by omega : l = 0 ∨ l = 1 ∨ l = 2 ∨ l = 3) with rfl | rfl | rfl | rfl <;> (unfold okD; decide +kernel)
theorem okD_table {l y : Nat} (hl : l ≤ 2) (hy : y < 1048576) : okD l (dT y) := by
  have hp : isPl 2 (l : Int) = true := isPl_iff.2 ⟨by decide, by decide, by omega, by omega⟩
  refine chk0 ⟨hp, rfl, (by decide : (0 : Int) ≤ 0), (by decide : (0 : Int) ≤ 15)⟩ ?_ ?_ ?_
  · show fm (l : Int) 1 _ false false false 0 = true
    unfold fm
    rw [if_neg (by decide), if_pos rfl]
    simp; omega
  · show ¬ 4294967296 ≤ y * 4096
    omega
  · show y * 4096 % 4096 = 0
    omega
theorem okD_page {x : Nat} {r q e : Bool} {f : Int} (hx : x < 1048576) (hq : q = true → r = true) (h0 : 0 ≤ f) (h1 : f ≤ 15) : okD 3 ⟨3, x * 4096, r, q, e, f⟩ := by
  refine chk0 ⟨by decide, rfl, h0, h1⟩ ?_ ?_ ?_
  · show fm 3 3 _ r q e f = true
    unfold fm
    have : (q && !r) = false := by cases q <;> cases r <;> simp_all
    rw [if_neg (by rw [this]; decide), if_neg (by decide), if_neg (by decide), if_pos rfl]
    decide
  · show ¬ 4294967296 ≤ x * 4096
    omega
  · show x * 4096 % 4096 = 0
    omega
theorem okD_block {x : Nat} {r q e : Bool} {f : Int} (hx : x < 1048576) (h5 : x % 512 = 0) (hq : q = true → r = true) (h0 : 0 ≤ f) (h1 : f ≤ 15) : okD 2 ⟨2, x * 4096, r, q, e, f⟩ := by
  refine chk0 ⟨by decide, rfl, h0, h1⟩ ?_ ?_ ?_
  · show fm 2 2 _ r q e f = true
    unfold fm
    have : (q && !r) = false := by cases q <;> cases r <;> simp_all
    rw [if_neg (by rw [this]; decide), if_neg (by decide), if_pos rfl]
    decide
  · show ¬ 4294967296 ≤ x * 4096
    omega
  · show x * 4096 % 2097152 = 0
    omega

/-! ### tables -/
/-- The frame of the table of a level that the place j leads to. -/
def tbl (root : Nat) (E : Nat → Nat → DV) : Nat → Nat → Option Nat
  | 0, j => if j = 0 then some root else none
  | l + 1, j => if (E l j).k = 1 then some ((E l j).a / 4096) else none
theorem tbl_succ (root : Nat) (E : Nat → Nat → DV) (l j : Nat) : tbl root E (l + 1) j = if (E l j).k = 1 then some ((E l j).a / 4096) else none := rfl
/-- What tables say: E, by level and place; M the words of frames, C the counts, Z what is others'. -/
structure TG (M : Nat → Nat → Nat) (C : Nat → Nat) (pool : Nat) (Z : Nat → Bool) (root : Nat) (E : Nat → Nat → DV) : Prop where
  ok : ∀ l j, l ≤ 3 → okD l (E l j)
  blk : ∀ l j, l ≤ 3 → (E l j).k = 2 → l = 2
  up : ∀ l j, l ≤ 3 → (E l j).k ≠ 0 → ∃ x, tbl root E l (j / 512) = some x
  two : ∀ j, (E 0 j).k ≠ 0 → j < 2
  one : ∀ l j l' j' x, l ≤ 3 → l' ≤ 3 → tbl root E l j = some x → tbl root E l' j' = some x → l = l' ∧ j = j'
  wd : ∀ l j x i, l ≤ 3 → tbl root E l j = some x → i < 512 → M x i = wdD (E l (512 * j + i))
  mine : ∀ l j x, l ≤ 3 → tbl root E l j = some x → x < pool ∧ C x = 1 ∧ Z x = false
  all : ∀ x, x < pool → C x ≠ 0 → Z x = false → ∃ l j, l ≤ 3 ∧ tbl root E l j = some x
  oth : ∀ x, Z x = true → C x ≠ 0
/-- No table is empty but the root, and but that of the level a and the place b. -/
def NE (root : Nat) (E : Nat → Nat → DV) (ex : Nat → Nat → Prop) : Prop := ∀ l j x, 1 ≤ l → l ≤ 3 → ¬ ex l j → tbl root E l j = some x → ∃ i, i < 512 ∧ (E l (512 * j + i)).k ≠ 0
/-- Entries, of which one is another, with what it leads to. -/
def hang (E : Nat → Nat → DV) (l j : Nat) (d : DV) (ds : Nat → DV) : Nat → Nat → DV := fun l' j' => if l' = l ∧ j' = j then d else if l' = l + 1 ∧ j' / 512 = j then ds (j' % 512) else E l' j'
theorem hang_at (E : Nat → Nat → DV) (l j : Nat) (d : DV) (ds : Nat → DV) : hang E l j d ds l j = d := by unfold hang; rw [if_pos ⟨rfl, rfl⟩]
theorem hang_in (E : Nat → Nat → DV) (l j : Nat) (d : DV) (ds : Nat → DV) {i : Nat} (hi : i < 512) : hang E l j d ds (l + 1) (512 * j + i) = ds i := by
  unfold hang
  rw [if_neg (by omega), if_pos ⟨rfl, by omega⟩, show (512 * j + i) % 512 = i by omega]
theorem hang_out (E : Nat → Nat → DV) (l j : Nat) (d : DV) (ds : Nat → DV) {l' j' : Nat} (h1 : ¬ (l' = l ∧ j' = j)) (h2 : ¬ (l' = l + 1 ∧ j' / 512 = j)) : hang E l j d ds l' j' = E l' j' := by
  unfold hang
  rw [if_neg h1, if_neg h2]

section
variable {M M' : Nat → Nat → Nat} {C C' : Nat → Nat} {pool root : Nat} {Z : Nat → Bool} {E : Nat → Nat → DV} {l j : Nat} {d : DV} {ds : Nat → DV}
/-- An entry that is no table has nothing behind it. -/
theorem TG.under (h : TG M C pool Z root E) (hl : l ≤ 2) (hk : (E l j).k ≠ 1) {i : Nat} (hi : i < 512) : E (l + 1) (512 * j + i) = dN := by
  refine (h.ok (l + 1) (512 * j + i) (by omega)).none ?_
  by_cases c : (E (l + 1) (512 * j + i)).k = 0
  · exact c
  · obtain ⟨x, hx⟩ := h.up (l + 1) (512 * j + i) (by omega) c
    rw [show (512 * j + i) / 512 = j by omega] at hx
    rw [tbl_succ, if_neg hk] at hx
    cases hx
theorem tbl_hang_out (hds : ∀ i, i < 512 → (ds i).k ≠ 1) (hE : ∀ i, i < 512 → (E (l + 1) (512 * j + i)).k ≠ 1) {l' j' : Nat} (hn : ¬ (l' = l + 1 ∧ j' = j)) : tbl root (hang E l j d ds) l' j' = tbl root E l' j' := by
  cases l' with
  | zero => rfl
  | succ m =>
    rw [tbl_succ, tbl_succ]
    by_cases c1 : m = l ∧ j' = j
    · exact absurd ⟨by omega, c1.2⟩ hn
    · by_cases c2 : m = l + 1 ∧ j' / 512 = j
      · have e : j' = 512 * j + j' % 512 := by omega
        rw [e, c2.1, hang_in E l j d ds (Nat.mod_lt _ (by decide)), if_neg (hds _ (Nat.mod_lt _ (by decide))), if_neg (hE _ (Nat.mod_lt _ (by decide)))]
      · rw [hang_out E l j d ds c1 c2]
theorem tbl_hang_at : tbl root (hang E l j d ds) (l + 1) j = if d.k = 1 then some (d.a / 4096) else none := by
  rw [tbl_succ, hang_at]

/-- An entry that is no table becomes another that is none. -/
theorem TG.leaf (h : TG M C pool Z root E) (hl : l ≤ 3) (hk : (E l j).k ≠ 1) (hd : d.k ≠ 1) (ok : okD l d) (hb : d.k = 2 → l = 2) (h2 : l = 0 → j < 2) {x : Nat} (hx : tbl root E l (j / 512) = some x)
    (w1 : M' x (j % 512) = wdD d) (w2 : ∀ y i, i < 512 → ¬ (y = x ∧ i = j % 512) → M' y i = M y i) : TG M' C pool Z root (hang E l j d (fun _ => dN)) := by
  have und : l ≤ 2 → ∀ i, i < 512 → E (l + 1) (512 * j + i) = dN := fun hl i hi => h.under hl hk hi
  have hh : ∀ l' j', l' ≤ 3 → ¬ (l' = l ∧ j' = j) → hang E l j d (fun _ => dN) l' j' = E l' j' := fun l' j' hl' hn => by
    by_cases c : l' = l + 1 ∧ j' / 512 = j
    · obtain ⟨rfl, c2⟩ := c
      have e : j' = 512 * j + j' % 512 := by omega
      rw [e, hang_in _ _ _ _ _ (Nat.mod_lt _ (by decide)), und (by omega) _ (Nat.mod_lt _ (by decide))]
    · exact hang_out _ _ _ _ _ hn c
  have ht : ∀ l' j', l' ≤ 3 → tbl root (hang E l j d (fun _ => dN)) l' j' = tbl root E l' j' := fun l' j' hl' => by
    cases l' with
    | zero => rfl
    | succ m =>
      by_cases c : m = l ∧ j' = j
      · obtain ⟨rfl, rfl⟩ := c
        rw [tbl_hang_at, if_neg hd, tbl_succ, if_neg hk]
      · rw [tbl_succ, tbl_succ, hh m j' (by omega) c]
  refine ⟨fun l' j' hl' => ?_, fun l' j' hl' hk' => ?_, fun l' j' hl' hk' => ?_, fun j' hk' => ?_, fun l1 j1 l2 j2 y g1 g2 e1 e2 => ?_, fun l' j' y i hl' e hi => ?_, fun l' j' y hl' e => ?_, fun y hy hC hZ => ?_, h.oth⟩
  · by_cases c : l' = l ∧ j' = j
    · obtain ⟨rfl, rfl⟩ := c; rw [hang_at]; exact ok
    · rw [hh _ _ hl' c]; exact h.ok l' j' hl'
  · by_cases c : l' = l ∧ j' = j
    · obtain ⟨rfl, rfl⟩ := c; rw [hang_at] at hk'; exact hb hk'
    · rw [hh _ _ hl' c] at hk'; exact h.blk l' j' hl' hk'
  · rw [ht _ _ hl']
    by_cases c : l' = l ∧ j' = j
    · obtain ⟨rfl, rfl⟩ := c; exact ⟨x, hx⟩
    · rw [hh _ _ hl' c] at hk'; exact h.up l' j' hl' hk'
  · by_cases c : 0 = l ∧ j' = j
    · obtain ⟨rfl, rfl⟩ := c; exact h2 rfl
    · rw [hh _ _ (by omega) c] at hk'; exact h.two j' hk'
  · rw [ht _ _ g1] at e1; rw [ht _ _ g2] at e2; exact h.one l1 j1 l2 j2 y g1 g2 e1 e2
  · rw [ht _ _ hl'] at e
    by_cases c : l' = l ∧ 512 * j' + i = j
    · obtain ⟨rfl, c2⟩ := c
      have cj : j' = j / 512 := by omega
      have ci : i = j % 512 := by omega
      subst cj
      rw [hx] at e
      cases e
      rw [c2, hang_at, ci, w1]
    · rw [hh _ _ hl' c, w2 y i hi, h.wd l' j' y i hl' e hi]
      rintro ⟨rfl, rfl⟩
      obtain ⟨rfl, rfl⟩ := h.one _ _ _ _ _ hl' hl e hx
      exact c ⟨rfl, by omega⟩
  · rw [ht _ _ hl'] at e; exact h.mine l' j' y hl' e
  · obtain ⟨l', j', hl', e⟩ := h.all y hy hC hZ
    exact ⟨l', j', hl', by rw [ht _ _ hl']; exact e⟩

/-- An entry that is no table becomes one, of a frame that was free. -/
theorem TG.hung (h : TG M C pool Z root E) (hl : l ≤ 2) (hk : (E l j).k ≠ 1) {y : Nat} (hy : y < pool) (hC : C y = 0) (hZ : Z y = false) (hp : pool ≤ 1048576) (h2 : l = 0 → j < 2) (hds : ∀ i, i < 512 → okD (l + 1) (ds i) ∧ (ds i).k ≠ 1 ∧ ((ds i).k = 2 → l + 1 = 2)) {x : Nat} (hx : tbl root E l (j / 512) = some x)
    (c1 : C' y = 1) (c2 : ∀ z, z ≠ y → C' z = C z)
    (w1 : M' x (j % 512) = wdD (dT y)) (w2 : ∀ z i, i < 512 → z ≠ y → ¬ (z = x ∧ i = j % 512) → M' z i = M z i) (w3 : ∀ i, i < 512 → M' y i = wdD (ds i)) : TG M' C' pool Z root (hang E l j (dT y) ds) := by
  have und : ∀ i, i < 512 → E (l + 1) (512 * j + i) = dN := fun i hi => h.under hl hk hi
  have fresh : ∀ l' j', l' ≤ 3 → tbl root E l' j' ≠ some y := fun l' j' hl' e => by have := (h.mine l' j' y hl' e).2.1; omega
  have tat : tbl root (hang E l j (dT y) ds) (l + 1) j = some y := by
    rw [tbl_hang_at, if_pos (show (dT y).k = 1 from rfl)]; show some (y * 4096 / 4096) = some y; rw [Nat.mul_div_cancel _ (by decide)]
  have tout : ∀ l' j', ¬ (l' = l + 1 ∧ j' = j) → tbl root (hang E l j (dT y) ds) l' j' = tbl root E l' j' := fun l' j' hn => tbl_hang_out (fun i hi => (hds i hi).2.1) (fun i hi => by rw [und i hi]; decide) hn
  have tj : tbl root (hang E l j (dT y) ds) l (j / 512) = some x := by rw [tout _ _ (by omega)]; exact hx
  have cases3 : ∀ l' j', (l' = l ∧ j' = j) ∨ (l' = l + 1 ∧ ∃ i, i < 512 ∧ j' = 512 * j + i) ∨ (¬ (l' = l ∧ j' = j) ∧ ¬ (l' = l + 1 ∧ j' / 512 = j)) := fun l' j' => by
    by_cases c : l' = l ∧ j' = j
    · exact .inl c
    · by_cases c' : l' = l + 1 ∧ j' / 512 = j
      · exact .inr (.inl ⟨c'.1, j' % 512, Nat.mod_lt _ (by decide), by omega⟩)
      · exact .inr (.inr ⟨c, c'⟩)
  refine ⟨fun l' j' hl' => ?_, fun l' j' hl' hk' => ?_, fun l' j' hl' hk' => ?_, fun j' hk' => ?_, fun l1 j1 l2 j2 z g1 g2 e1 e2 => ?_, fun l' j' z i hl' e hi => ?_, fun l' j' z hl' e => ?_, fun z hz hCz hZz => ?_, fun z hz => ?_⟩
  · rcases cases3 l' j' with ⟨rfl, rfl⟩ | ⟨rfl, i, hi, rfl⟩ | ⟨n1, n2⟩
    · rw [hang_at]; exact okD_table hl (by omega)
    · rw [hang_in _ _ _ _ _ hi]; exact (hds i hi).1
    · rw [hang_out _ _ _ _ _ n1 n2]; exact h.ok l' j' hl'
  · rcases cases3 l' j' with ⟨rfl, rfl⟩ | ⟨rfl, i, hi, rfl⟩ | ⟨n1, n2⟩
    · rw [hang_at] at hk'; cases hk'
    · rw [hang_in _ _ _ _ _ hi] at hk'; exact (hds i hi).2.2 hk'
    · rw [hang_out _ _ _ _ _ n1 n2] at hk'; exact h.blk l' j' hl' hk'
  · rcases cases3 l' j' with ⟨rfl, rfl⟩ | ⟨rfl, i, hi, rfl⟩ | ⟨n1, n2⟩
    · exact ⟨x, tj⟩
    · exact ⟨y, by rw [show (512 * j + i) / 512 = j by omega]; exact tat⟩
    · rw [hang_out _ _ _ _ _ n1 n2] at hk'
      obtain ⟨z, hz⟩ := h.up l' j' hl' hk'
      exact ⟨z, by rw [tout _ _ n2]; exact hz⟩
  · rcases cases3 0 j' with ⟨c, rfl⟩ | ⟨c, i, hi, rfl⟩ | ⟨n1, n2⟩
    · exact h2 c.symm
    · omega
    · rw [hang_out _ _ _ _ _ n1 n2] at hk'; exact h.two j' hk'
  · by_cases a1 : l1 = l + 1 ∧ j1 = j
    · by_cases a2 : l2 = l + 1 ∧ j2 = j
      · omega
      · rw [a1.1, a1.2, tat] at e1
        cases e1
        rw [tout _ _ a2] at e2
        exact absurd e2 (fresh _ _ g2)
    · rw [tout _ _ a1] at e1
      by_cases a2 : l2 = l + 1 ∧ j2 = j
      · rw [a2.1, a2.2, tat] at e2
        cases e2
        exact absurd e1 (fresh _ _ g1)
      · rw [tout _ _ a2] at e2
        exact h.one l1 j1 l2 j2 z g1 g2 e1 e2
  · by_cases a1 : l' = l + 1 ∧ j' = j
    · obtain ⟨rfl, rfl⟩ := a1
      rw [tat] at e
      cases e
      rw [hang_in _ _ _ _ _ hi, w3 i hi]
    · rw [tout _ _ a1] at e
      have zy : z ≠ y := fun c => fresh l' j' hl' (c ▸ e)
      by_cases c : l' = l ∧ 512 * j' + i = j
      · obtain ⟨rfl, c2⟩ := c
        have cj : j' = j / 512 := by omega
        have ci : i = j % 512 := by omega
        subst cj
        rw [hx] at e
        cases e
        rw [c2, hang_at, ci, w1]
      · rw [hang_out _ _ _ _ _ c (fun a => a1 ⟨a.1, by omega⟩), w2 z i hi zy, h.wd l' j' z i hl' e hi]
        rintro ⟨rfl, rfl⟩
        obtain ⟨rfl, rfl⟩ := h.one _ _ _ _ _ hl' (by omega) e hx
        exact c ⟨rfl, by omega⟩
  · by_cases a1 : l' = l + 1 ∧ j' = j
    · obtain ⟨rfl, rfl⟩ := a1
      rw [tat] at e
      cases e
      exact ⟨hy, c1, hZ⟩
    · rw [tout _ _ a1] at e
      have zy : z ≠ y := fun c => fresh l' j' hl' (c ▸ e)
      have := h.mine l' j' z hl' e
      exact ⟨this.1, by rw [c2 z zy]; exact this.2.1, this.2.2⟩
  · by_cases zy : z = y
    · subst zy; exact ⟨l + 1, j, by omega, tat⟩
    · rw [c2 z zy] at hCz
      obtain ⟨l', j', hl', e⟩ := h.all z hz hCz hZz
      by_cases a1 : l' = l + 1 ∧ j' = j
      · obtain ⟨rfl, rfl⟩ := a1
        rw [tbl_succ, if_neg hk] at e
        cases e
      · exact ⟨l', j', hl', by rw [tout _ _ a1]; exact e⟩
  · by_cases zy : z = y
    · subst zy; omega
    · rw [c2 z zy]; exact h.oth z hz

/-- An entry that is a table, which leads to no other one, becomes one that is none; its frame is free. -/
theorem TG.off (h : TG M C pool Z root E) (hl : l ≤ 2) {y : Nat} (hy : tbl root E (l + 1) j = some y) (hE : ∀ i, i < 512 → (E (l + 1) (512 * j + i)).k ≠ 1) (hd : d.k ≠ 1) (ok : okD l d) (hb : d.k = 2 → l = 2) {x : Nat} (hx : tbl root E l (j / 512) = some x)
    (c1 : C' y = 0) (c2 : ∀ z, z ≠ y → C' z = C z)
    (w1 : M' x (j % 512) = wdD d) (w2 : ∀ z i, i < 512 → z ≠ y → ¬ (z = x ∧ i = j % 512) → M' z i = M z i) : TG M' C' pool Z root (hang E l j d (fun _ => dN)) := by
  have hk : (E l j).k = 1 := by
    rw [tbl_succ] at hy
    by_cases c : (E l j).k = 1
    · exact c
    · rw [if_neg c] at hy; cases hy
  have tat : tbl root (hang E l j d (fun _ => dN)) (l + 1) j = none := by rw [tbl_hang_at, if_neg hd]
  have tout : ∀ l' j', ¬ (l' = l + 1 ∧ j' = j) → tbl root (hang E l j d (fun _ => dN)) l' j' = tbl root E l' j' := fun l' j' hn => tbl_hang_out (fun i hi => by decide) hE hn
  have tj : tbl root (hang E l j d (fun _ => dN)) l (j / 512) = some x := by rw [tout _ _ (by omega)]; exact hx
  have cases3 : ∀ l' j', (l' = l ∧ j' = j) ∨ (l' = l + 1 ∧ ∃ i, i < 512 ∧ j' = 512 * j + i) ∨ (¬ (l' = l ∧ j' = j) ∧ ¬ (l' = l + 1 ∧ j' / 512 = j)) := fun l' j' => by
    by_cases c : l' = l ∧ j' = j
    · exact .inl c
    · by_cases c' : l' = l + 1 ∧ j' / 512 = j
      · exact .inr (.inl ⟨c'.1, j' % 512, Nat.mod_lt _ (by decide), by omega⟩)
      · exact .inr (.inr ⟨c, c'⟩)
  have zne : ∀ l' j' z, l' ≤ 3 → ¬ (l' = l + 1 ∧ j' = j) → tbl root E l' j' = some z → z ≠ y := fun l' j' z hl' hn e c => by
    subst c
    exact hn (h.one _ _ _ _ _ hl' (by omega) e hy)
  refine ⟨fun l' j' hl' => ?_, fun l' j' hl' hk' => ?_, fun l' j' hl' hk' => ?_, fun j' hk' => ?_, fun l1 j1 l2 j2 z g1 g2 e1 e2 => ?_, fun l' j' z i hl' e hi => ?_, fun l' j' z hl' e => ?_, fun z hz hCz hZz => ?_, fun z hz => ?_⟩
  · rcases cases3 l' j' with ⟨rfl, rfl⟩ | ⟨rfl, i, hi, rfl⟩ | ⟨n1, n2⟩
    · rw [hang_at]; exact ok
    · rw [hang_in _ _ _ _ _ hi]; exact okD_none hl'
    · rw [hang_out _ _ _ _ _ n1 n2]; exact h.ok l' j' hl'
  · rcases cases3 l' j' with ⟨rfl, rfl⟩ | ⟨rfl, i, hi, rfl⟩ | ⟨n1, n2⟩
    · rw [hang_at] at hk'; exact hb hk'
    · rw [hang_in _ _ _ _ _ hi] at hk'; cases hk'
    · rw [hang_out _ _ _ _ _ n1 n2] at hk'; exact h.blk l' j' hl' hk'
  · rcases cases3 l' j' with ⟨rfl, rfl⟩ | ⟨rfl, i, hi, rfl⟩ | ⟨n1, n2⟩
    · exact ⟨x, tj⟩
    · rw [hang_in _ _ _ _ _ hi] at hk'; exact absurd rfl hk'
    · rw [hang_out _ _ _ _ _ n1 n2] at hk'
      obtain ⟨z, hz⟩ := h.up l' j' hl' hk'
      exact ⟨z, by rw [tout _ _ n2]; exact hz⟩
  · rcases cases3 0 j' with ⟨c, rfl⟩ | ⟨c, i, hi, rfl⟩ | ⟨n1, n2⟩
    · subst c; exact h.two j' (by rw [hk]; decide)
    · omega
    · rw [hang_out _ _ _ _ _ n1 n2] at hk'; exact h.two j' hk'
  · by_cases a1 : l1 = l + 1 ∧ j1 = j
    · rw [a1.1, a1.2, tat] at e1; cases e1
    · by_cases a2 : l2 = l + 1 ∧ j2 = j
      · rw [a2.1, a2.2, tat] at e2; cases e2
      · rw [tout _ _ a1] at e1
        rw [tout _ _ a2] at e2
        exact h.one l1 j1 l2 j2 z g1 g2 e1 e2
  · by_cases a1 : l' = l + 1 ∧ j' = j
    · rw [a1.1, a1.2, tat] at e; cases e
    · rw [tout _ _ a1] at e
      have zy := zne l' j' z hl' a1 e
      by_cases c : l' = l ∧ 512 * j' + i = j
      · obtain ⟨rfl, c2⟩ := c
        have cj : j' = j / 512 := by omega
        have ci : i = j % 512 := by omega
        subst cj
        rw [hx] at e
        cases e
        rw [c2, hang_at, ci, w1]
      · rw [hang_out _ _ _ _ _ c (fun a => a1 ⟨a.1, by omega⟩), w2 z i hi zy, h.wd l' j' z i hl' e hi]
        rintro ⟨rfl, rfl⟩
        obtain ⟨rfl, rfl⟩ := h.one _ _ _ _ _ hl' (by omega) e hx
        exact c ⟨rfl, by omega⟩
  · by_cases a1 : l' = l + 1 ∧ j' = j
    · rw [a1.1, a1.2, tat] at e; cases e
    · rw [tout _ _ a1] at e
      have zy := zne l' j' z hl' a1 e
      have := h.mine l' j' z hl' e
      exact ⟨this.1, by rw [c2 z zy]; exact this.2.1, this.2.2⟩
  · have zy : z ≠ y := fun c => by subst c; exact hCz c1
    rw [c2 z zy] at hCz
    obtain ⟨l', j', hl', e⟩ := h.all z hz hCz hZz
    have a1 : ¬ (l' = l + 1 ∧ j' = j) := fun a => by
      rw [a.1, a.2, hy] at e
      cases e
      exact zy rfl
    exact ⟨l', j', hl', by rw [tout _ _ a1]; exact e⟩
  · by_cases zy : z = y
    · subst zy; rw [(h.mine _ _ _ (by omega) hy).2.2] at hz; cases hz
    · rw [c2 z zy]; exact h.oth z hz
/-- What another one does: its own frames and free ones alone change. -/
def oZ (C C' : Nat → Nat) (Z : Nat → Bool) : Nat → Bool := fun x => decide (C' x ≠ 0) && !(decide (C x ≠ 0) && !Z x)
theorem TG.other (h : TG M C pool Z root E) (h1 : ∀ x, C x ≠ 0 → Z x = false → (∀ i, i < 512 → M' x i = M x i) ∧ C' x = C x) : TG M' C' pool (oZ C C' Z) root E where
  ok := h.ok
  blk := h.blk
  up := h.up
  two := h.two
  one := h.one
  wd l j x i hl e hi := by
    obtain ⟨_, a, b⟩ := h.mine l j x hl e
    rw [(h1 x (by omega) b).1 i hi]; exact h.wd l j x i hl e hi
  mine l j x hl e := by
    obtain ⟨a, b, c⟩ := h.mine l j x hl e
    refine ⟨a, by rw [(h1 x (by omega) c).2]; exact b, ?_⟩
    unfold oZ
    rw [c, b]
    simp
  all x hx hC hZ := by
    unfold oZ at hZ
    rw [decide_eq_true hC] at hZ
    simp at hZ
    exact h.all x hx hZ.1 hZ.2
  oth x hx := by
    unfold oZ at hx
    simp at hx
    exact hx.1
end
end Go.Proofs.YtanlcmdnhhdhaaaGreatDoor
