/- TableLacks: the ground. -/
import Derived.Test.YtcankhnnikhblaaGreatDoorJRG
namespace Go.Proofs.YtcankhnnikhblaaGreatDoor
open Go.RowKit
set_option maxRecDepth 10000

/-- Few pages. -/
def pgT (n : Nat) : Nat := [0, 1, 2, 511, 512, 513, 1023, 262144, 262145, 134217733, 268435455, 1024].getD (n % 12) 0
theorem pgT_lt (n : Nat) : pgT n < 268435456 := by
  unfold pgT
  have h := Nat.mod_lt n (show 0 < 12 by decide)
  generalize n % 12 = m at *
  rcases (by omega : m = 0 ∨ m = 1 ∨ m = 2 ∨ m = 3 ∨ m = 4 ∨ m = 5 ∨ m = 6 ∨ m = 7 ∨ m = 8 ∨ m = 9 ∨ m = 10 ∨ m = 11) with rfl | rfl | rfl | rfl | rfl | rfl | rfl | rfl | rfl | rfl | rfl | rfl <;> decide
set_option maxHeartbeats 4000000 in
theorem page_tab (n : Nat) (w : World) : Calls Tryz.prog 16 #[.int .u64 (n : Int)] w fun e w' => e = .returned (.int .u64 (pgT n : Nat)) ∧ Kp w w' := by
  unfold pgT
  have h := Nat.mod_lt n (show 0 < 12 by decide)
  obtain ⟨m, hm⟩ : ∃ m, m = n % 12 := ⟨_, rfl⟩
  rcases (by omega : m = 0 ∨ m = 1 ∨ m = 2 ∨ m = 3 ∨ m = 4 ∨ m = 5 ∨ m = 6 ∨ m = 7 ∨ m = 8 ∨ m = 9 ∨ m = 10 ∨ m = 11) with rfl | rfl | rfl | rfl | rfl | rfl | rfl | rfl | rfl | rfl | rfl | rfl
  · have e1 : (n : Int) % 12 = 0 := by omega
    have e2 : (n : Int).tmod 12 = 0 := by rw [Int.tmod_eq_emod_of_nonneg (by omega)]; exact e1
    rw [← hm]
    clear h hm
    go_enter Tryz.func16, Tryz.ntmps16
    go_wp2
    go_ret
    exact ⟨rfl, (Kp.refl _).alloc _⟩
  · have e1 : (n : Int) % 12 = 1 := by omega
    have e2 : (n : Int).tmod 12 = 1 := by rw [Int.tmod_eq_emod_of_nonneg (by omega)]; exact e1
    rw [← hm]
    clear h hm
    go_enter Tryz.func16, Tryz.ntmps16
    go_wp2
    go_ret
    exact ⟨rfl, (Kp.refl _).alloc _⟩
  · have e1 : (n : Int) % 12 = 2 := by omega
    have e2 : (n : Int).tmod 12 = 2 := by rw [Int.tmod_eq_emod_of_nonneg (by omega)]; exact e1
    rw [← hm]
    clear h hm
    go_enter Tryz.func16, Tryz.ntmps16
    go_wp2
    go_ret
    exact ⟨rfl, (Kp.refl _).alloc _⟩
  · have e1 : (n : Int) % 12 = 3 := by omega
    have e2 : (n : Int).tmod 12 = 3 := by rw [Int.tmod_eq_emod_of_nonneg (by omega)]; exact e1
    rw [← hm]
    clear h hm
    go_enter Tryz.func16, Tryz.ntmps16
    go_wp2
    go_ret
    exact ⟨rfl, (Kp.refl _).alloc _⟩
  · have e1 : (n : Int) % 12 = 4 := by omega
    have e2 : (n : Int).tmod 12 = 4 := by rw [Int.tmod_eq_emod_of_nonneg (by omega)]; exact e1
    rw [← hm]
    clear h hm
    go_enter Tryz.func16, Tryz.ntmps16
    go_wp2
    go_ret
    exact ⟨rfl, (Kp.refl _).alloc _⟩
  · have e1 : (n : Int) % 12 = 5 := by omega
    have e2 : (n : Int).tmod 12 = 5 := by rw [Int.tmod_eq_emod_of_nonneg (by omega)]; exact e1
    rw [← hm]
    clear h hm
    go_enter Tryz.func16, Tryz.ntmps16
    go_wp2
    go_ret
    exact ⟨rfl, (Kp.refl _).alloc _⟩
  · have e1 : (n : Int) % 12 = 6 := by omega
    have e2 : (n : Int).tmod 12 = 6 := by rw [Int.tmod_eq_emod_of_nonneg (by omega)]; exact e1
    rw [← hm]
    clear h hm
    go_enter Tryz.func16, Tryz.ntmps16
    go_wp2
    go_ret
    exact ⟨rfl, (Kp.refl _).alloc _⟩
  · have e1 : (n : Int) % 12 = 7 := by omega
    have e2 : (n : Int).tmod 12 = 7 := by rw [Int.tmod_eq_emod_of_nonneg (by omega)]; exact e1
    rw [← hm]
    clear h hm
    go_enter Tryz.func16, Tryz.ntmps16
    go_wp2
    go_ret
    exact ⟨rfl, (Kp.refl _).alloc _⟩
  · have e1 : (n : Int) % 12 = 8 := by omega
    have e2 : (n : Int).tmod 12 = 8 := by rw [Int.tmod_eq_emod_of_nonneg (by omega)]; exact e1
    rw [← hm]
    clear h hm
    go_enter Tryz.func16, Tryz.ntmps16
    go_wp2
    go_ret
    exact ⟨rfl, (Kp.refl _).alloc _⟩
  · have e1 : (n : Int) % 12 = 9 := by omega
    have e2 : (n : Int).tmod 12 = 9 := by rw [Int.tmod_eq_emod_of_nonneg (by omega)]; exact e1
    rw [← hm]
    clear h hm
    go_enter Tryz.func16, Tryz.ntmps16
    go_wp2
    go_ret
    exact ⟨rfl, (Kp.refl _).alloc _⟩
  · have e1 : (n : Int) % 12 = 10 := by omega
    have e2 : (n : Int).tmod 12 = 10 := by rw [Int.tmod_eq_emod_of_nonneg (by omega)]; exact e1
    rw [← hm]
    clear h hm
    go_enter Tryz.func16, Tryz.ntmps16
    go_wp2
    go_ret
    exact ⟨rfl, (Kp.refl _).alloc _⟩
  · have e1 : (n : Int) % 12 = 11 := by omega
    have e2 : (n : Int).tmod 12 = 11 := by rw [Int.tmod_eq_emod_of_nonneg (by omega)]; exact e1
    rw [← hm]
    clear h hm
    go_enter Tryz.func16, Tryz.ntmps16
    go_wp2
    go_ret
    exact ⟨rfl, (Kp.refl _).alloc _⟩
section
variable {M : Nat → Nat → Nat} {C : Nat → Nat} {pool root page : Nat} {Z : Nat → Bool} {E E' : Nat → Nat → DV} {L : List Nat} {d : DV}
/-- Leaves stand by page. -/
theorem TG.lvs_sorted (h : TG M C pool Z root E) : (lvsA E).Pairwise (fun x y => x.g < y.g) := by
  unfold lvsA
  refine pair_trv h visL_one fun m e m' e' hm hm' hk hk' ho x hx y hy => ?_
  unfold visL at hx hy
  by_cases c : (E m e).k = 1
  · rw [if_pos c] at hx; cases hx
  · by_cases c' : (E m' e').k = 1
    · rw [if_pos c'] at hy; cases hy
    · rw [if_neg c, List.mem_singleton] at hx
      rw [if_neg c', List.mem_singleton] at hy
      subst hx
      subst hy
      show pgE m e < pgE m' e'
      rcases ho with ho | ⟨ho, hlt⟩
      · exact ho
      · exfalso
        have kinds : ∀ m e, m ≤ 3 → (E m e).k ≠ 0 → (E m e).k ≠ 1 → m = 2 ∨ m = 3 := fun m e hm a b => by
          have pr := (h.ok m e hm).parts
          rcases (by omega : (E m e).k = 2 ∨ (E m e).k = 3) with q | q
          · exact .inl (h.blk m e hm q)
          · exact .inr (pr.2.2.2.2.2.2.2.2.2.1 q)
        have k1 := kinds m e hm hk c
        have k2 := kinds m' e' hm' hk' c'
        obtain rfl : m = 2 := by omega
        obtain rfl : m' = 3 := by omega
        have q1 : pgE 2 e = e * 512 := rfl
        have q2 : pgE 3 e' = e' * 1 := rfl
        have := h.above (m := 2) (e := e') (by omega) hk'
        rw [show e' / 512 = e by omega] at this
        exact c this
theorem TG.lvs_mem (h : TG M C pool Z root E) (x : LV) : x ∈ lvsA E ↔ ∃ m e, m ≤ 3 ∧ (lfD E m e).k ≠ 0 ∧ x = tellN (pgE m e) m (lfD E m e) := by
  unfold lvsA
  rw [mem_trv h]
  constructor
  · rintro ⟨m, e, a1, a2, a3⟩
    unfold visL at a3
    by_cases c : (E m e).k = 1
    · rw [if_pos c] at a3; cases a3
    · rw [if_neg c, List.mem_singleton] at a3
      have el : lfD E m e = E m e := by unfold lfD; rw [if_neg c]
      exact ⟨m, e, a1, by rw [el]; exact a2, by rw [el]; exact a3⟩
  · rintro ⟨m, e, a1, a2, a3⟩
    have c : ¬ (E m e).k = 1 := fun c => a2 (by unfold lfD; rw [if_pos c]; rfl)
    have el : lfD E m e = E m e := by unfold lfD; rw [if_neg c]
    rw [el] at a2 a3
    refine ⟨m, e, a1, a2, ?_⟩
    unfold visL
    rw [if_neg c, List.mem_singleton]
    exact a3
/-- The pages of L are mapped, and nothing else is. -/
structure LS (E : Nat → Nat → DV) (L : List Nat) : Prop where
  lf : ∀ l j, l ≤ 3 → ((lfD E l j).k ≠ 0 ↔ l = 3 ∧ j ∈ L)
  ap : L.Pairwise (· ≠ ·)
  lt : ∀ p ∈ L, p < 268435456
theorem LS.none : LS eN [] := ⟨fun l j _ => ⟨fun c => absurd rfl c, fun c => by cases c.2⟩, List.Pairwise.nil, fun p hp => by cases hp⟩
theorem LS.mapped (s : LS E L) (h : TG M C pool Z root E) : (enG E page).k ≠ 0 ↔ page ∈ L := by
  rw [h.pg.1]
  unfold pgD
  by_cases c : (lfD E 3 page).k ≠ 0
  · rw [if_pos c]
    exact ⟨fun _ => ((s.lf 3 page (by omega)).1 c).2, fun _ => c⟩
  · rw [if_neg c]
    constructor
    · intro c2
      have := (s.lf 2 (page / 512) (by omega)).1 c2
      omega
    · intro hp
      exact absurd ((s.lf 3 page (by omega)).2 ⟨rfl, hp⟩) c
theorem LS.map (s : LS E L) (hd : d.k = 3) (hn : page ∉ L) (hp : page < 268435456) (hl : ∀ a b, a ≤ 3 → lfD E' a b = if a = 3 ∧ b = page then d else lfD E a b) : LS E' (L ++ [page]) := by
  refine ⟨fun l j h3 => ?_, ?_, fun p hp' => ?_⟩
  · rw [hl l j h3]
    by_cases c : l = 3 ∧ j = page
    · rw [if_pos c, hd, c.1, c.2]; simp
    · rw [if_neg c, s.lf l j h3, List.mem_append, List.mem_singleton]
      constructor
      · rintro ⟨a, b⟩; exact ⟨a, .inl b⟩
      · rintro ⟨a, b | b⟩
        · exact ⟨a, b⟩
        · exact absurd ⟨a, b⟩ c
  · rw [List.pairwise_append]
    exact ⟨s.ap, List.pairwise_singleton _ _, fun a ha b hb => by rw [List.mem_singleton] at hb; rw [hb]; exact fun c => hn (c ▸ ha)⟩
  · rw [List.mem_append, List.mem_singleton] at hp'
    rcases hp' with c | c
    · exact s.lt p c
    · rw [c]; exact hp
theorem LS.len (s : LS E L) (h : TG M C pool Z root E) : (lvsA E).length = L.length := by
  have ap : ((lvsA E).map (·.g)).Pairwise (· ≠ ·) := by
    rw [List.pairwise_map]
    exact h.lvs_sorted.imp fun hlt c => by omega
  have mm : ∀ p, p ∈ (lvsA E).map (·.g) ↔ p ∈ L := fun p => by
    rw [List.mem_map]
    constructor
    · rintro ⟨x, hx, rfl⟩
      obtain ⟨m, e, a1, a2, rfl⟩ := (h.lvs_mem x).1 hx
      obtain ⟨rfl, he⟩ := (s.lf m e a1).1 a2
      show pgE 3 e ∈ L
      rw [show pgE 3 e = e from by show e * 1 = e; omega]
      exact he
    · intro hp
      refine ⟨tellN (pgE 3 p) 3 (lfD E 3 p), (h.lvs_mem _).2 ⟨3, p, by omega, (s.lf 3 p (by omega)).2 ⟨rfl, hp⟩, rfl⟩, ?_⟩
      show pgE 3 p = p
      show p * 1 = p
      omega
  rw [← List.length_map (f := (·.g)), ← cnt_mem _ 268435456 ap (fun x hx => s.lt x ((mm x).1 hx)), ← cnt_mem L 268435456 s.ap s.lt]
  exact cnt_like _ fun k _ => by rw [decide_eq_decide]; exact mm k
end
end Go.Proofs.YtcankhnnikhblaaGreatDoor
