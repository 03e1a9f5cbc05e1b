/- TableKeeps: the ground: like leaves want as many tables; a Block, whole and in Pages. -/
import Derived.Test.YtcankhnnikhblaaGreatDoorJRI
import Derived.Test.YtcankhnnikhblaaGreatDoorR31
namespace Go.Proofs.YtcankhnnikhblaaGreatDoor
open Go.RowKit
set_option maxRecDepth 10000

section
variable {M M' : Nat → Nat → Nat} {C C' : Nat → Nat} {pool root root' page : Nat} {Z Z' : Nat → Bool} {E E' E1 : Nat → Nat → DV}
/-- Where leaves lie at the same places, tables do. -/
def Lk (E E' : Nat → Nat → DV) : Prop := ∀ a b, a ≤ 3 → ((lfD E' a b).k = 0 ↔ (lfD E a b).k = 0)
theorem Lk.symm (h : Lk E E') : Lk E' E := fun a b ha => (h a b ha).symm
theorem tab_to (h : TG M C pool Z root E) (h' : TG M' C' pool Z' root' E') (ne : NE root E (fun _ _ => False)) (lf : Lk E E') : ∀ n l j, l + n = 2 → (E l j).k = 1 → (E' l j).k = 1
  | n, l, j, hn, hk => by
    have e : tbl root E (l + 1) j = some ((E l j).a / 4096) := by rw [tbl_succ, if_pos hk]
    obtain ⟨i, hi, hi2⟩ := ne (l + 1) j _ (by omega) (by omega) id e
    have q : (512 * j + i) / 512 = j := by omega
    have up : (E' (l + 1) (512 * j + i)).k ≠ 0 → (E' l j).k = 1 := fun c => by
      have := h'.above (m := l) (e := 512 * j + i) (by omega) c
      rw [q] at this
      exact this
    by_cases c : (E (l + 1) (512 * j + i)).k = 1
    · cases n with
      | zero =>
        obtain rfl : l = 2 := by omega
        exact absurd c (h.noT3 _)
      | succ n => exact up (by rw [tab_to h h' ne lf n (l + 1) _ (by omega) c]; decide)
    · have e2 := lf (l + 1) (512 * j + i) (by omega)
      have e3 : lfD E (l + 1) (512 * j + i) = E (l + 1) (512 * j + i) := by unfold lfD; rw [if_neg c]
      refine up (fun c2 => ?_)
      have e4 : lfD E' (l + 1) (512 * j + i) = E' (l + 1) (512 * j + i) := by unfold lfD; rw [if_neg (by rw [c2]; decide)]
      rw [e4, e3] at e2
      exact hi2 (e2.1 c2)
theorem tab_iff (h : TG M C pool Z root E) (h' : TG M' C' pool Z' root' E') (ne : NE root E (fun _ _ => False)) (ne' : NE root' E' (fun _ _ => False)) (lf : Lk E E') (l j : Nat) (hl : l ≤ 3) : (E l j).k = 1 ↔ (E' l j).k = 1 := by
  rcases (by omega : l ≤ 2 ∨ l = 3) with c | c
  · exact ⟨tab_to h h' ne lf (2 - l) l j (by omega), tab_to h' h ne' lf.symm (2 - l) l j (by omega)⟩
  · subst c
    exact ⟨fun c => absurd c (h.noT3 _), fun c => absurd c (h'.noT3 _)⟩
theorem flatMap_len {α β γ : Type} (f : α → List β) (g : α → List γ) : ∀ L : List α, (∀ a ∈ L, (f a).length = (g a).length) → (L.flatMap f).length = (L.flatMap g).length
  | [], _ => rfl
  | a :: L, h => by rw [List.flatMap_cons, List.flatMap_cons, List.length_append, List.length_append, h a (by simp), flatMap_len f g L (fun b hb => h b (by simp [hb]))]
theorem vis_len (E : Nat → Nat → DV) (rec : Nat → List Nat) (l f : Nat) : (vEn E visT deepA rec l f).length = if (E l f).k = 1 then 1 + (rec f).length else 0 := by
  unfold vEn visT deepA
  by_cases c : (E l f).k = 1
  · rw [if_neg (by rw [c]; decide), if_pos c, if_pos ⟨rfl, c⟩, if_pos c, List.length_append]; rfl
  · by_cases c0 : (E l f).k = 0
    · rw [if_pos c0, if_neg c]; rfl
    · rw [if_neg c0, if_neg c, if_neg (fun a => c a.2), if_neg c]; rfl
theorem trv_len (hk : ∀ l j, l ≤ 3 → ((E l j).k = 1 ↔ (E' l j).k = 1)) : ∀ n l f, l + n ≤ 4 → (trv E visT deepA n l f).length = (trv E' visT deepA n l f).length
  | 0, _, _, _ => rfl
  | n + 1, l, f, hn => flatMap_len _ _ _ fun i _ => by
    rw [vis_len, vis_len, trv_len hk n (l + 1) _ (by omega)]
    by_cases c : (E l (512 * f + i)).k = 1
    · rw [if_pos c, if_pos ((hk _ _ (by omega)).1 c)]
    · rw [if_neg c, if_neg (fun c' => c ((hk _ _ (by omega)).2 c'))]
theorem own_like (h : TG M C pool Z root E) (h' : TG M' C' pool Z' root' E') (ne : NE root E (fun _ _ => False)) (ne' : NE root' E' (fun _ _ => False)) (lf : Lk E E') : cnt (ownC C' Z') pool = cnt (ownC C Z) pool := by
  rw [← h.tabs_len, ← h'.tabs_len]
  unfold tabsA
  rw [h.trvT, h'.trvT, List.length_cons, List.length_cons, trv_len (tab_iff h h' ne ne' lf) 4 0 0 (by omega)]
theorem free_like (h : TG M C pool (fun _ => false) root E) (h' : TG M' C' pool (fun _ => false) root' E') (ne : NE root E (fun _ _ => False)) (ne' : NE root' E' (fun _ _ => False)) (lf : Lk E E') : cnt (fT pool C') pool = cnt (fT pool C) pool := by
  have a := own_like h h' ne ne' lf
  have b := cnt_alone pool C
  have c := cnt_alone pool C'
  omega

/-! ### a Block, and nothing else -/
variable {j : Nat} {B B' : DV}
def whS (E : Nat → Nat → DV) (j : Nat) (B : DV) : Prop := ∀ a b, a ≤ 3 → lfD E a b = if a = 2 ∧ b = j then B else dN
def spS (E : Nat → Nat → DV) (j : Nat) (B : DV) : Prop := ∀ a b, a ≤ 3 → lfD E a b = if a = 3 ∧ b / 512 = j then pgOf B (b % 512) else dN
/-- One of its pages is another. -/
def spX (E : Nat → Nat → DV) (j : Nat) (B : DV) (page : Nat) (d : DV) : Prop := ∀ a b, a ≤ 3 → lfD E a b = if a = 3 ∧ b = page then d else if a = 3 ∧ b / 512 = j then pgOf B (b % 512) else dN
theorem whS.en (s : whS E j B) (h : TG M C pool Z root E) (hB : B.k = 2) (hj : page / 512 = j) : enG E page = B ∧ lvG E page = 2 := by
  have e3 := s 3 page (by omega)
  rw [if_neg (by omega)] at e3
  have e2 := s 2 (page / 512) (by omega)
  rw [if_pos ⟨rfl, hj⟩] at e2
  have p : pgD E page = B ∧ pgL E page = 2 := by
    unfold pgD pgL
    rw [e3, if_neg (fun c => c rfl), if_neg (fun c => c rfl), e2]
    exact ⟨rfl, rfl⟩
  have k := h.pg (page := page)
  have en : (enG E page).k ≠ 0 := k.1.2 (by rw [p.1, hB]; decide)
  exact ⟨(k.2 en).1.trans p.1, (k.2 en).2.trans p.2⟩
theorem spX.en (s : spX E j B page B') (h : TG M C pool Z root E) (hB : B'.k = 3) : enG E page = B' ∧ lvG E page = 3 := by
  have e3 := s 3 page (by omega)
  rw [if_pos ⟨rfl, rfl⟩] at e3
  have p : pgD E page = B' ∧ pgL E page = 3 := by
    unfold pgD pgL
    rw [e3, if_pos (by rw [hB]; decide), if_pos (by rw [hB]; decide)]
    exact ⟨rfl, rfl⟩
  have k := h.pg (page := page)
  have en : (enG E page).k ≠ 0 := k.1.2 (by rw [p.1, hB]; decide)
  exact ⟨(k.2 en).1.trans p.1, (k.2 en).2.trans p.2⟩
theorem spS.x (s : spS E j B) (hj : page / 512 = j) : spX E j B page (pgOf B (page % 512)) := fun a b ha => by
  rw [s a b ha]
  by_cases c : a = 3 ∧ b = page
  · rw [if_pos c, if_pos ⟨c.1, by rw [c.2]; exact hj⟩, c.2]
  · rw [if_neg c]
theorem spX.s (s : spX E j B page (pgOf B (page % 512))) (hj : page / 512 = j) : spS E j B := fun a b ha => by
  rw [s a b ha]
  by_cases c : a = 3 ∧ b = page
  · rw [if_pos c, if_pos ⟨c.1, by rw [c.2]; exact hj⟩, c.2]
  · rw [if_neg c]
theorem spS.en (s : spS E j B) (h : TG M C pool Z root E) (hj : page / 512 = j) : enG E page = pgOf B (page % 512) ∧ lvG E page = 3 := (s.x hj).en h rfl
theorem spX.put (s : spX E j B page B') {d : DV} (hl : ∀ a b, a ≤ 3 → lfD E' a b = if a = 3 ∧ b = page then d else lfD E a b) : spX E' j B page d := fun a b ha => by
  rw [hl a b ha]
  by_cases c : a = 3 ∧ b = page
  · rw [if_pos c, if_pos c]
  · rw [if_neg c, if_neg c, s a b ha, if_neg c]
theorem whS.at (s : whS E j B) (hB : B.k = 2) : E 2 j = B := by
  have e := s 2 j (by omega)
  rw [if_pos ⟨rfl, rfl⟩] at e
  unfold lfD at e
  by_cases c : (E 2 j).k = 1
  · rw [if_pos c] at e; rw [← e] at hB; cases hB
  · rw [if_neg c] at e; exact e
theorem whS.split (s : whS E j B) (hB : B.k = 2) (k : SpL E E' j) : spS E' j B := fun a b ha => by
  rw [k a b ha, s.at hB]
  by_cases c : a = 2 ∧ b = j
  · rw [if_pos c, if_neg (by omega)]
  · rw [if_neg c]
    by_cases c' : a = 3 ∧ b / 512 = j
    · rw [if_pos c', if_pos c']
    · rw [if_neg c', if_neg c', s a b ha, if_neg c]
/-- A Block whose 17 other table pages are free, or its Pages, whose 16 are. -/
def KSt (E : Nat → Nat → DV) (C : Nat → Nat) (j : Nat) (B : DV) : Prop := (whS E j B ∧ cnt (fT 20 C) 20 = 17) ∨ (spS E j B ∧ cnt (fT 20 C) 20 = 16)
theorem KSt.lr (s : KSt E C j B) (h : TG M C 20 Z root E) (hB : B.k = 2) (hj : page / 512 = j) (lr : LR 20 C C' E E1 page) : spS E1 j B ∧ cnt (fT 20 C') 20 = 16 := by
  rcases s with ⟨s, c⟩ | ⟨s, c⟩
  · rcases lr with ⟨k, _, _⟩ | ⟨_, k2, k3⟩
    · rw [(s.en h hB hj).1, hB] at k; cases k
    · exact ⟨s.split hB (hj ▸ k3), by omega⟩
  · rcases lr with ⟨_, rfl, rfl⟩ | ⟨k, _, _⟩
    · exact ⟨s, c⟩
    · rw [(s.en h hj).1] at k; cases k
theorem KSt.en (s : KSt E C j B) (h : TG M C pool Z root E) (hB : B.k = 2) (hj : page / 512 = j) : (enG E page).k ≠ 0 ∧ (enG E page).r = B.r ∧ (enG E page).q = B.q ∧ (enG E page).x = B.x ∧ (enG E page).f = B.f ∧ spR 20 C = 0 := by
  have sp : cnt (fT 20 C) 20 ≠ 0 → spR 20 C = 0 := fun c => by unfold spR; rw [if_neg c]
  rcases s with ⟨s, c⟩ | ⟨s, c⟩
  · rw [(s.en h hB hj).1, hB]; exact ⟨by decide, rfl, rfl, rfl, rfl, sp (by omega)⟩
  · rw [(s.en h hj).1]; exact ⟨by show (3 : Int) ≠ 0; decide, rfl, rfl, rfl, rfl, sp (by omega)⟩
/-- Behind a Protect of one page it can't be joined. -/
theorem spX.nojoin {d : DV} (s : spX E j B page d) (h : TG M C pool Z root E) (hj : page / 512 = j) (hx : d.x = !B.x) : ¬ joinB E page := by
  rintro ⟨w, _⟩
  have e3 : ∀ i, i < 512 → (E 3 (512 * (page / 512) + i)).x = if 512 * (page / 512) + i = page then d.x else B.x := fun i hi => by
    have := s 3 (512 * (page / 512) + i) (by omega)
    rw [h.lf3] at this
    rw [this]
    by_cases c : 512 * (page / 512) + i = page
    · rw [if_pos ⟨rfl, c⟩, if_pos c]
    · rw [if_neg (fun a => c a.2), if_pos ⟨rfl, by omega⟩, if_neg c]; rfl
  have all : ∀ i, i < 512 → (E 3 (512 * (page / 512) + i)).x = (E 3 (512 * (page / 512) + 0)).x := fun i hi => by
    have := w i hi
    simp only at this
    rw [this]; rfl
  have p1 := e3 (page % 512) (Nat.mod_lt _ (by decide))
  rw [if_pos (by omega)] at p1
  obtain ⟨i, hi, hn⟩ : ∃ i, i < 512 ∧ i ≠ page % 512 := by
    by_cases c : page % 512 = 0
    · exact ⟨1, by omega, by omega⟩
    · exact ⟨0, by omega, by omega⟩
  have p2 := e3 i hi
  rw [if_neg (by omega)] at p2
  rw [all _ (Nat.mod_lt _ (by decide))] at p1
  rw [all _ hi, p1, hx] at p2
  cases hb : B.x <;> rw [hb] at p2 <;> cases p2
/-- A page of it that was unmapped has its tables still. -/
theorem spX.need (s : spX E j B page dN) (h : TG M C pool Z root E) (hj : page / 512 = j) : (enG E page).k = 0 ∧ lvG E page = 3 := by
  obtain ⟨i, hi, hn⟩ : ∃ i, i < 512 ∧ i ≠ page % 512 := by
    by_cases c : page % 512 = 0
    · exact ⟨1, by omega, by omega⟩
    · exact ⟨0, by omega, by omega⟩
  have e := s 3 (512 * j + i) (by omega)
  rw [h.lf3, if_neg (by omega), if_pos ⟨rfl, by omega⟩] at e
  have lv := h.where3 (page := 512 * j + i) (by rw [e]; show (3 : Int) ≠ 0; decide)
  have q : ∀ m, m < 3 → qn (512 * j + i) m = qn page m := fun m hm => by
    rcases (by omega : m = 0 ∨ m = 1 ∨ m = 2) with rfl | rfl | rfl
    · show (512 * j + i) / 2 ^ 27 = page / 2 ^ 27; omega
    · show (512 * j + i) / 2 ^ 18 = page / 2 ^ 18; omega
    · show (512 * j + i) / 2 ^ 9 = page / 2 ^ 9; omega
  have e3 := s 3 page (by omega)
  rw [if_pos ⟨rfl, rfl⟩, h.lf3] at e3
  have l3 : lvG E page = 3 := by
    refine lvG_of (by omega) (fun m hm => ?_) (by rw [qn_three, e3]; decide)
    rw [← q m hm]
    exact lvG_on (by rw [lv]; exact hm)
  exact ⟨by unfold enG; rw [l3, qn_three, e3]; rfl, l3⟩
theorem bk_pg (hB : B.k = 2) : bkD (pgOf B 0) = B := by
  cases B
  simp only at hB
  subst hB
  rfl
theorem spS.at3 (s : spS E j B) (h : TG M C pool Z root E) {i : Nat} (hi : i < 512) : E 3 (512 * j + i) = pgOf B i := by
  have := s 3 (512 * j + i) (by omega)
  rw [h.lf3, if_pos ⟨rfl, by omega⟩, show (512 * j + i) % 512 = i by omega] at this
  exact this
theorem spS.joins (s : spS E j B) (h : TG M C pool Z root E) (hB : B.k = 2) (ok : okD 2 B) (hj : page / 512 = j) : joinB E page ∧ bkD (E 3 (512 * (page / 512))) = B := by
  have e0 : E 3 (512 * j) = pgOf B 0 := s.at3 h (i := 0) (by omega)
  have e1 : bkD (E 3 (512 * j)) = B := by rw [e0]; exact bk_pg hB
  unfold joinB
  rw [hj]
  refine ⟨⟨fun i hi => ?_, by rw [e1]; exact ok⟩, e1⟩
  show E 3 (512 * j + i) = pgOf (bkD (E 3 (512 * j + 0))) i
  rw [Nat.add_zero, e1, s.at3 h hi]
theorem spS.join (s : spS E j B) (k : JnL E E' j B) : whS E' j B := fun a b ha => by
  rw [k a b ha]
  by_cases c : a = 2 ∧ b = j
  · rw [if_pos c, if_pos c]
  · rw [if_neg c, if_neg c]
    by_cases c' : a = 3 ∧ b / 512 = j
    · rw [if_pos c']
    · rw [if_neg c', s a b ha, if_neg c']
theorem spX.like {d d' : DV} (s : spX E j B page d) (s' : spX E' j B page d') (hd : d.k = 0 ↔ d'.k = 0) : Lk E E' := fun a b ha => by
  rw [s a b ha, s' a b ha]
  by_cases c : a = 3 ∧ b = page
  · rw [if_pos c, if_pos c]; exact hd.symm
  · rw [if_neg c, if_neg c]
/-- Its one leaf. -/
theorem whS.leaves (s : whS E j B) (h : TG M C pool Z root E) (hB : B.k = 2) : lvsA E = [tellN (j * 512) 2 B] := by
  have mm : ∀ x, x ∈ lvsA E ↔ x = tellN (j * 512) 2 B := fun x => by
    rw [h.lvs_mem]
    constructor
    · rintro ⟨m, e, a1, a2, rfl⟩
      rw [s m e a1] at a2 ⊢
      by_cases c : m = 2 ∧ e = j
      · rw [if_pos c, c.1, c.2]; rfl
      · rw [if_neg c] at a2; exact absurd rfl a2
    · rintro rfl
      refine ⟨2, j, by omega, ?_, ?_⟩
      · rw [s 2 j (by omega), if_pos ⟨rfl, rfl⟩, hB]; decide
      · rw [s 2 j (by omega), if_pos ⟨rfl, rfl⟩]; rfl
  have so := h.lvs_sorted
  match hl : lvsA E with
  | [] => have := (mm _).2 rfl; rw [hl] at this; cases this
  | [x] => rw [(mm x).1 (by rw [hl]; simp)]
  | x :: y :: t =>
    have hx := (mm x).1 (by rw [hl]; simp)
    have hy := (mm y).1 (by rw [hl]; simp)
    rw [hl, List.pairwise_cons] at so
    have := so.1 y (by simp)
    rw [hx, hy] at this
    omega
end
end Go.Proofs.YtcankhnnikhblaaGreatDoor
