/- stage2: leaves alone; what a placing does, apart from any program. -/
import Derived.Test.YtcankhnnikhblaaGreatDoorJRA
namespace Go.Proofs.YtcankhnnikhblaaGreatDoor
open Go.RowKit
set_option maxRecDepth 10000

/-- The leaves of a level: what is no table. -/
def lfD (E : Nat → Nat → DV) : Nat → Nat → DV := fun l j => if (E l j).k = 1 then dN else E l j
/-- Frames of others are as they were. -/
def Ot (Z : Nat → Bool) (M : Nat → Nat → Nat) (C : Nat → Nat) (M' : Nat → Nat → Nat) (C' : Nat → Nat) : Prop := ∀ z, Z z = true → (∀ i, i < 512 → M' z i = M z i) ∧ C' z = C z
theorem Ot.refl (Z : Nat → Bool) (M : Nat → Nat → Nat) (C : Nat → Nat) : Ot Z M C M C := fun _ _ => ⟨fun _ _ => rfl, rfl⟩
theorem Ot.trans {Z : Nat → Bool} {M M' M'' : Nat → Nat → Nat} {C C' C'' : Nat → Nat} (h : Ot Z M C M' C') (k : Ot Z M' C' M'' C'') : Ot Z M C M'' C'' := fun z hz => ⟨fun i hi => ((k z hz).1 i hi).trans ((h z hz).1 i hi), (k z hz).2.trans (h z hz).2⟩
theorem cnt_take {pool y : Nat} {C : Nat → Nat} (hy : y < pool) (hC : C y = 0) : cnt (fT pool (putC C y 1)) pool + 1 = cnt (fT pool C) pool := by
  refine (cnt_on (F := fT pool (putC C y 1)) (G := fT pool C) (x := y) ?_ (fun k => ?_) pool hy).symm
  · unfold fT putC; rw [if_pos rfl]; simp
  · unfold fT putC
    by_cases c : k = y
    · subst c; rw [if_pos rfl]; simp [hy, hC]
    · rw [if_neg c, if_neg c]
theorem cnt_give {pool y : Nat} {C : Nat → Nat} (hy : y < pool) (hC : C y ≠ 0) : cnt (fT pool (putC C y 0)) pool = cnt (fT pool C) pool + 1 := by
  refine cnt_on (F := fT pool C) (G := fT pool (putC C y 0)) (x := y) ?_ (fun k => ?_) pool hy
  · unfold fT; simp [hC]
  · unfold fT putC
    by_cases c : k = y
    · subst c; rw [if_pos rfl, if_pos rfl]; simp [hy]
    · rw [if_neg c, if_neg c]

section
variable {M M' : Nat → Nat → Nat} {C C' : Nat → Nat} {pool root page : Nat} {Z : Nat → Bool} {E E0 : Nat → Nat → DV} {l j : Nat} {d : DV} {ds : Nat → DV}
theorem NE.weak {ex ex' : Nat → Nat → Prop} (h : NE root E ex) (hx : ∀ a b, ex a b → ex' a b) : NE root E ex' := fun a b x h1 h2 h3 h4 => h a b x h1 h2 (fun c => h3 (hx a b c)) h4
/-- What a table of a page's way is empty for: it was made for the next entry. -/
def exP (page l : Nat) : Nat → Nat → Prop := fun a b => a = l ∧ b = qn page l / 512
theorem NE.hang (h : NE root E (fun a b => a = l ∧ b = j / 512)) (hds : ∀ i, i < 512 → (ds i).k ≠ 1) (hE : ∀ i, i < 512 → (E (l + 1) (512 * j + i)).k ≠ 1) (hd : d.k ≠ 0) : NE root (hang E l j d ds) (fun a b => a = l + 1 ∧ b = j) := by
  intro a b x h1 h2 h3 h4
  rw [tbl_hang_out hds hE h3] at h4
  by_cases c : a = l ∧ b = j / 512
  · obtain ⟨rfl, rfl⟩ := c
    refine ⟨j % 512, Nat.mod_lt _ (by decide), ?_⟩
    rw [show 512 * (j / 512) + j % 512 = j by omega, hang_at]
    exact hd
  · obtain ⟨i, hi, hk⟩ := h a b x h1 h2 c h4
    refine ⟨i, hi, ?_⟩
    rw [hang_out]
    · exact hk
    · rintro ⟨rfl, rfl⟩; exact c ⟨rfl, by omega⟩
    · rintro ⟨rfl, e⟩; exact h3 ⟨rfl, by omega⟩
theorem NE.filled (h : NE root E (fun a b => a = l + 1 ∧ b = j)) {i : Nat} (hi : i < 512) (hk : (E (l + 1) (512 * j + i)).k ≠ 0) : NE root E (fun _ _ => False) := by
  intro a b x h1 h2 _ h4
  by_cases c : a = l + 1 ∧ b = j
  · obtain ⟨rfl, rfl⟩ := c; exact ⟨i, hi, hk⟩
  · exact h a b x h1 h2 c h4
theorem NE.leafed (h : NE root E (fun a b => a = l + 1 ∧ b = j)) (hk : (E l j).k ≠ 1) : NE root E (fun _ _ => False) := by
  intro a b x h1 h2 _ h4
  by_cases c : a = l + 1 ∧ b = j
  · obtain ⟨rfl, rfl⟩ := c
    rw [tbl_succ, if_neg hk] at h4
    cases h4
  · exact h a b x h1 h2 c h4
theorem lf_hang (h : TG M C pool Z root E) (hl : l ≤ 2) (hk : (E l j).k = 0) (hd : d.k = 1) (a b : Nat) : lfD (hang E l j d (fun _ => dN)) a b = lfD E a b := by
  have e0 : E l j = dN := (h.ok l j (by omega)).none hk
  unfold lfD
  by_cases c1 : a = l ∧ b = j
  · obtain ⟨rfl, rfl⟩ := c1
    rw [hang_at, if_pos hd, e0]
    rfl
  · by_cases c2 : a = l + 1 ∧ b / 512 = j
    · obtain ⟨rfl, c2⟩ := c2
      have e : b = 512 * j + b % 512 := by omega
      rw [e, hang_in _ _ _ _ _ (Nat.mod_lt _ (by decide)), h.under hl (by rw [hk]; decide) (Nat.mod_lt _ (by decide))]
    · rw [hang_out _ _ _ _ _ c1 c2]
theorem lf_leaf (h : TG M C pool Z root E) (hl : l ≤ 3) (hk : (E l j).k ≠ 1) (hd : d.k ≠ 1) (a b : Nat) (ha : a ≤ 3) : lfD (hang E l j d (fun _ => dN)) a b = if a = l ∧ b = j then d else lfD E a b := by
  unfold lfD
  by_cases c1 : a = l ∧ b = j
  · rw [if_pos c1]
    obtain ⟨rfl, rfl⟩ := c1
    rw [hang_at, if_neg hd]
  · rw [if_neg c1]
    by_cases c2 : a = l + 1 ∧ b / 512 = j
    · obtain ⟨rfl, c2⟩ := c2
      have e : b = 512 * j + b % 512 := by omega
      rw [e, hang_in _ _ _ _ _ (Nat.mod_lt _ (by decide)), h.under (by omega) hk (Nat.mod_lt _ (by decide))]
    · rw [hang_out _ _ _ _ _ c1 c2]
/-- A placing under way: tables have been made down to the level l. -/
structure PL (root : Nat) (E0 E : Nat → Nat → DV) (page l : Nat) : Prop where
  lv : lvG E page = l
  en : (enG E page).k = 0
  lf : ∀ a b, lfD E a b = lfD E0 a b
  ne : NE root E (exP page l)
theorem PL.start (hk : (enG E page).k = 0) (hn : NE root E (fun _ _ => False)) : PL root E E page (lvG E page) := ⟨rfl, hk, fun _ _ => rfl, hn.weak (fun _ _ c => c.elim)⟩
theorem PL.at (h : PL root E0 E page l) : (E l (qn page l)).k = 0 := by have := h.en; unfold enG at this; rw [h.lv] at this; exact this
theorem PL.on (h : PL root E0 E page l) (tg : TG M C pool Z root E) (hl : l ≤ 2) (y : Nat) : PL root E0 (hang E l (qn page l) (dT y) (fun _ => dN)) page (l + 1) := by
  have hk := h.at
  have hu := fun i (hi : i < 512) => tg.under hl (j := qn page l) (by rw [hk]; decide) hi
  have hq : qn page (l + 1) = 512 * qn page l + qn page (l + 1) % 512 := by have := qn_up page hl; omega
  have e1 : hang E l (qn page l) (dT y) (fun _ => dN) (l + 1) (qn page (l + 1)) = dN := by rw [hq, hang_in _ _ _ _ _ (Nat.mod_lt _ (by decide))]
  have lv : lvG (hang E l (qn page l) (dT y) (fun _ => dN)) page = l + 1 := by
    refine lvG_of (by omega) (fun m hm => ?_) (by rw [e1]; decide)
    by_cases c : m = l
    · subst c; rw [hang_at]; rfl
    · rw [hang_out _ _ _ _ _ (by omega) (by omega)]
      exact lvG_on (by rw [h.lv]; omega)
  refine ⟨lv, by unfold enG; rw [lv, e1]; rfl, fun a b => (lf_hang tg hl hk rfl a b).trans (h.lf a b), ?_⟩
  have := NE.hang (l := l) (j := qn page l) (d := dT y) (ds := fun _ => dN) h.ne (fun _ _ => by decide) (fun i hi => by rw [hu i hi]; decide) (by show (1 : Int) ≠ 0; decide)
  refine this.weak fun a b c => ?_
  unfold exP
  rw [qn_up page hl]
  exact c
theorem PL.done (h : PL root E0 E page l) (tg : TG M C pool Z root E) (hl : l ≤ 3) (hd : d.k ≠ 0) (hd1 : d.k ≠ 1) : NE root (hang E l (qn page l) d (fun _ => dN)) (fun _ _ => False) ∧ ∀ a b, a ≤ 3 → lfD (hang E l (qn page l) d (fun _ => dN)) a b = if a = l ∧ b = qn page l then d else lfD E0 a b := by
  have hk := h.at
  have hk1 : (E l (qn page l)).k ≠ 1 := by rw [hk]; decide
  refine ⟨?_, fun a b ha => by rw [lf_leaf tg hl hk1 hd1 a b ha, h.lf a b]⟩
  rcases (by omega : l ≤ 2 ∨ l = 3) with c | c
  · exact (NE.hang (l := l) (j := qn page l) (d := d) (ds := fun _ => dN) h.ne (fun _ _ => by decide) (fun i hi => by rw [tg.under c hk1 hi]; decide) hd).leafed (by rw [hang_at]; exact hd1)
  · subst c
    intro a b x h1 h2 _ h4
    have e : tbl root (hang E 3 (qn page 3) d (fun _ => dN)) a b = tbl root E a b := by
      cases a with
      | zero => rfl
      | succ m => rw [tbl_succ, tbl_succ, hang_out _ _ _ _ _ (by omega) (by omega)]
    rw [e] at h4
    by_cases c : a = 3 ∧ b = qn page 3 / 512
    · obtain ⟨rfl, rfl⟩ := c
      refine ⟨qn page 3 % 512, Nat.mod_lt _ (by decide), ?_⟩
      rw [show 512 * (qn page 3 / 512) + qn page 3 % 512 = qn page 3 by omega, hang_at]
      exact hd
    · obtain ⟨i, hi, hk⟩ := h.ne a b x h1 h2 c h4
      refine ⟨i, hi, ?_⟩
      rw [hang_out]
      · exact hk
      · rintro ⟨rfl, e⟩; exact c ⟨rfl, by omega⟩
      · omega
/-- Where a page lies: in a Page of its own, in a Block, or nowhere. -/
theorem TG.where3 (h : TG M C pool Z root E) (hk : (E 3 page).k ≠ 0) : lvG E page = 3 := by
  have u3 : (E 2 (qn page 2)).k = 1 := by
    obtain ⟨x, hx⟩ := h.up 3 page (by omega) hk
    rw [tbl_succ] at hx
    have e : page / 512 = qn page 2 := rfl
    rw [e] at hx
    by_cases c : (E 2 (qn page 2)).k = 1
    · exact c
    · rw [if_neg c] at hx; cases hx
  have u2 : (E 1 (qn page 1)).k = 1 := by
    obtain ⟨x, hx⟩ := h.up 2 (qn page 2) (by omega) (by rw [u3]; decide)
    rw [qn_up page (by omega), tbl_succ] at hx
    by_cases c : (E 1 (qn page 1)).k = 1
    · exact c
    · rw [if_neg c] at hx; cases hx
  have u1 : (E 0 (qn page 0)).k = 1 := by
    obtain ⟨x, hx⟩ := h.up 1 (qn page 1) (by omega) (by rw [u2]; decide)
    rw [qn_up page (by omega), tbl_succ] at hx
    by_cases c : (E 0 (qn page 0)).k = 1
    · exact c
    · rw [if_neg c] at hx; cases hx
  have h3 := (h.ok 3 page (by omega)).parts.2.2.2.2.2.2.2.1
  refine lvG_of (by omega) (fun m hm => ?_) (by rw [qn_three]; intro c; have := h3 c; omega)
  rcases (by omega : m = 0 ∨ m = 1 ∨ m = 2) with rfl | rfl | rfl
  · exact u1
  · exact u2
  · exact u3
theorem TG.where2 (h : TG M C pool Z root E) (hk : (E 2 (qn page 2)).k ≠ 0) (hk1 : (E 2 (qn page 2)).k ≠ 1) : lvG E page = 2 := by
  have u2 : (E 1 (qn page 1)).k = 1 := by
    obtain ⟨x, hx⟩ := h.up 2 (qn page 2) (by omega) hk
    rw [qn_up page (by omega), tbl_succ] at hx
    by_cases c : (E 1 (qn page 1)).k = 1
    · exact c
    · rw [if_neg c] at hx; cases hx
  have u1 : (E 0 (qn page 0)).k = 1 := by
    obtain ⟨x, hx⟩ := h.up 1 (qn page 1) (by omega) (by rw [u2]; decide)
    rw [qn_up page (by omega), tbl_succ] at hx
    by_cases c : (E 0 (qn page 0)).k = 1
    · exact c
    · rw [if_neg c] at hx; cases hx
  refine lvG_of (by omega) (fun m hm => ?_) hk1
  rcases (by omega : m = 0 ∨ m = 1) with rfl | rfl
  · exact u1
  · exact u2
/-- What a page is mapped by: its leaf. -/
def pgD (E : Nat → Nat → DV) (page : Nat) : DV := if (lfD E 3 page).k ≠ 0 then lfD E 3 page else lfD E 2 (page / 512)
def pgL (E : Nat → Nat → DV) (page : Nat) : Nat := if (lfD E 3 page).k ≠ 0 then 3 else 2
theorem TG.lf3 (h : TG M C pool Z root E) : lfD E 3 page = E 3 page := by
  unfold lfD
  rw [if_neg]
  intro c
  have := (h.ok 3 page (by omega)).parts.2.2.2.2.2.2.2.1 c
  omega
theorem TG.pg (h : TG M C pool Z root E) : ((enG E page).k ≠ 0 ↔ (pgD E page).k ≠ 0) ∧ ((enG E page).k ≠ 0 → enG E page = pgD E page ∧ lvG E page = pgL E page) := by
  have e3 := h.lf3 (page := page)
  by_cases c3 : (E 3 page).k ≠ 0
  · have lv := h.where3 c3
    have en : enG E page = E 3 page := by unfold enG; rw [lv, qn_three]
    unfold pgD pgL
    rw [e3, if_pos c3, if_pos c3, en, lv]
    exact ⟨Iff.rfl, fun _ => ⟨rfl, rfl⟩⟩
  · have q2 : qn page 2 = page / 512 := rfl
    unfold pgD pgL
    rw [e3, if_neg c3, if_neg c3]
    by_cases c2 : (E 2 (page / 512)).k ≠ 0 ∧ (E 2 (page / 512)).k ≠ 1
    · have lv := h.where2 (page := page) (by rw [q2]; exact c2.1) (by rw [q2]; exact c2.2)
      have en : enG E page = E 2 (page / 512) := by unfold enG; rw [lv, q2]
      unfold lfD
      rw [if_neg c2.2, en, lv]
      exact ⟨Iff.rfl, fun _ => ⟨rfl, rfl⟩⟩
    · have z : (enG E page).k = 0 := by
        by_cases c : (enG E page).k = 0
        · exact c
        · exfalso
          have h3 := lvG_le E page
          have last := h.last page
          have pr := (h.ok (lvG E page) (qn page (lvG E page)) h3).parts
          have bl := h.blk (lvG E page) (qn page (lvG E page)) h3
          unfold enG at c last
          rcases (by omega : (E (lvG E page) (qn page (lvG E page))).k = 2 ∨ (E (lvG E page) (qn page (lvG E page))).k = 3) with k | k
          · have e := bl k
            rw [e, q2] at k c last
            exact c2 ⟨c, last⟩
          · have e := pr.2.2.2.2.2.2.2.2.2.1 k
            rw [e, qn_three] at c
            exact c3 c
      have z2 : (lfD E 2 (page / 512)).k = 0 := by
        unfold lfD
        by_cases c : (E 2 (page / 512)).k = 1
        · rw [if_pos c]; rfl
        · rw [if_neg c]
          by_cases c' : (E 2 (page / 512)).k = 0
          · exact c'
          · exact absurd ⟨c', c⟩ c2
      exact ⟨⟨fun c => absurd z c, fun c => absurd z2 c⟩, fun c => absurd z c⟩
end
end Go.Proofs.YtcankhnnikhblaaGreatDoor
