/- The coldest place is the first of the rank that may be; Rank of nothing. -/
import Derived.Test.YtpiekhiamdknjaaH10
namespace Go.Proofs.Ytpiekhiamdknjaa
open Go.RowKit Go.Sort Go.Shelf Go.Lib

/-- A place that may not be. -/
def exB (nb : Nat → Bool) (m p : Nat) : Bool := decide (p < m) && nb p
theorem exB_iff (nb : Nat → Bool) (m p : Nat) : exB nb m p = true ↔ (p < m ∧ nb p = true) := by unfold exB; simp

theorem coldI_min (nb : Nat → Bool) (m : Nat) (n : Nat) (h : Nat → Int × Int) : ∀ k, k ≤ n →
    (coldI nb m h k = -1 ∧ ∀ p, p < k → exB nb m p = true) ∨
    ∃ c : Nat, coldI nb m h k = c ∧ c < k ∧ exB nb m c = false ∧ ∀ p, p < k → exB nb m p = false → T (ltN n h) p c = false
  | 0, _ => .inl ⟨rfl, fun p hp => by omega⟩
  | k + 1, hk => by
    rw [coldI]
    by_cases hx : k < m ∧ nb k = true
    · rw [if_pos hx]
      have hx' := (exB_iff nb m k).2 hx
      rcases coldI_min nb m n h k (by omega) with ⟨h1, h2⟩ | ⟨c, h1, h2, h3, h4⟩
      · refine .inl ⟨h1, fun p hp => ?_⟩
        by_cases e : p = k
        · rw [e]; exact hx'
        · exact h2 p (by omega)
      · refine .inr ⟨c, h1, by omega, h3, fun p hp hpx => ?_⟩
        by_cases e : p = k
        · rw [e, hx'] at hpx; cases hpx
        · exact h4 p (by omega) hpx
    · have hx' : exB nb m k = false := by
        cases e : exB nb m k with
        | false => rfl
        | true => exact absurd ((exB_iff nb m k).1 e) hx
      rw [if_neg hx]
      rcases coldI_min nb m n h k (by omega) with ⟨h1, h2⟩ | ⟨c, h1, h2, h3, h4⟩
      · rw [h1, if_pos (by decide)]
        refine .inr ⟨k, rfl, by omega, hx', fun p hp hpx => ?_⟩
        by_cases e : p = k
        · rw [e]; exact T_irrefl (ltN_swo n h) k
        · have := h2 p (by omega); rw [hpx] at this; cases this
      · rw [h1, if_neg (by omega), Int.toNat_natCast]
        have el : ltN n h k c = hlt (h k) (h c) := by unfold ltN; rw [Nat.mod_eq_of_lt (by omega), Nat.mod_eq_of_lt (by omega)]
        by_cases hv : hlt (h k) (h c) = true
        · rw [if_pos hv]
          have tk : T (ltN n h) k c = true := T_true.2 (.inl (by rw [el]; exact hv))
          refine .inr ⟨k, rfl, by omega, hx', fun p hp hpx => ?_⟩
          by_cases e : p = k
          · rw [e]; exact T_irrefl (ltN_swo n h) k
          · exact (T_swo (ltN_swo n h)).ntrans _ _ _ (h4 p (by omega) hpx) (SWO.asym (T_swo (ltN_swo n h)) tk)
        · rw [if_neg hv]
          refine .inr ⟨c, rfl, by omega, h3, fun p hp hpx => ?_⟩
          by_cases e : p = k
          · rw [e, T_of_gt (by omega), el]; exact Bool.not_eq_true _ ▸ hv
          · exact h4 p (by omega) hpx

/-- The first of the rank's first i places that may be; -1: there is none. -/
def firstI (nb : Nat → Bool) (m : Nat) (d : Array Nat) : Nat → Int
  | 0 => -1
  | i + 1 => if firstI nb m d i < 0 ∧ exB nb m d[i]! = false then (d[i]! : Nat) else firstI nb m d i

theorem firstI_spec (nb : Nat → Bool) (m : Nat) (d : Array Nat) : ∀ i,
    (firstI nb m d i = -1 ∧ ∀ j, j < i → exB nb m d[j]! = true) ∨ ∃ j, j < i ∧ firstI nb m d i = (d[j]! : Nat) ∧ exB nb m d[j]! = false ∧ ∀ j', j' < j → exB nb m d[j']! = true
  | 0 => .inl ⟨rfl, fun j hj => by omega⟩
  | i + 1 => by
    rw [firstI]
    rcases firstI_spec nb m d i with ⟨h1, h2⟩ | ⟨j, h1, h2, h3, h4⟩
    · cases e : exB nb m d[i]! with
      | false =>
        rw [if_pos ⟨by rw [h1]; decide, rfl⟩]
        exact .inr ⟨i, by omega, rfl, e, h2⟩
      | true =>
        rw [if_neg (fun z => by cases z.2)]
        refine .inl ⟨h1, fun j hj => ?_⟩
        by_cases c : j = i
        · rw [c]; exact e
        · exact h2 j (by omega)
    · rw [if_neg (fun z => by have := z.1; rw [h2] at this; omega)]
      exact .inr ⟨j, by omega, h2, h3, h4⟩

/-- Each place of 0 to n - 1 is somewhere in the rank. -/
theorem rank_onto {n : Nat} {d : Array Nat} (hP : PermIn 0 n (Array.range n) d) (p : Nat) (hp : p < n) : ∃ j, j < n ∧ d[j]! = p := by
  have hs : d.size = n := by rw [hP.1]; simp
  have e1 : d.extract 0 n = d := by rw [← hs]; simp
  have e2 : (Array.range n).extract 0 n = Array.range n := by
    have : (Array.range n).size = n := by simp
    rw [← this]; simp
  have h3 := hP.2.2
  rw [e1, e2] at h3
  have hm : p ∈ d.toList := h3.mem_iff.2 (by simp [hp])
  obtain ⟨j, hj, e⟩ := List.getElem_of_mem hm
  refine ⟨j, by rw [← hs]; simpa using hj, ?_⟩
  rw [getElem!_pos d j (by simpa using hj)]
  simpa using e

theorem rank_lt {n : Nat} {d : Array Nat} (hP : PermIn 0 n (Array.range n) d) (i : Nat) (hi : i < n) : d[i]! < n :=
  permIn_all _ _ 0 n (fun x => x < n) (by simp) hP (fun k _ hk => by rw [range_get n k hk]; exact hk) i (Nat.zero_le _) hi

/-- No place is there twice. -/
theorem rank_inj {n : Nat} {d : Array Nat} (hP : PermIn 0 n (Array.range n) d) (i j : Nat) (hi : i < n) (hj : j < n) (e : d[i]! = d[j]!) : i = j := by
  have hs : d.size = n := by rw [hP.1]; simp
  have e1 : d.extract 0 n = d := by rw [← hs]; simp
  have e2 : (Array.range n).extract 0 n = Array.range n := by
    have : (Array.range n).size = n := by simp
    rw [← this]; simp
  have h3 := hP.2.2
  rw [e1, e2] at h3
  have hn : d.toList.Nodup := h3.nodup_iff.2 (by simp [List.nodup_range])
  rw [getElem!_pos d i (by omega), getElem!_pos d j (by omega)] at e
  have hpw := List.pairwise_iff_getElem.1 hn
  rcases Nat.lt_trichotomy i j with z | z | z
  · exact absurd e (hpw i j (by simpa using (by omega : i < d.size)) (by simpa using (by omega : j < d.size)) z)
  · exact z
  · exact absurd e.symm (hpw j i (by simpa using (by omega : j < d.size)) (by simpa using (by omega : i < d.size)) z)

theorem first_cold {n : Nat} {d : Array Nat} (nb : Nat → Bool) (m : Nat) (h : Nat → Int × Int) (hP : PermIn 0 n (Array.range n) d) (hT : SortedIn (T (ltN n h)) 0 n d) : coldI nb m h n = firstI nb m d n := by
  rcases coldI_min nb m n h n (Nat.le_refl _) with ⟨h1, h2⟩ | ⟨c, h1, h2, h3, h4⟩
  · rcases firstI_spec nb m d n with ⟨g1, _⟩ | ⟨j, g1, g2, g3, g4⟩
    · rw [h1, g1]
    · have := h2 _ (rank_lt hP j g1); rw [g3] at this; cases this
  · rcases firstI_spec nb m d n with ⟨g1, g2⟩ | ⟨j, g1, g2, g3, g4⟩
    · obtain ⟨j, k1, k2⟩ := rank_onto hP c h2
      have := g2 j k1; rw [k2, h3] at this; cases this
    · rw [h1, g2]
      obtain ⟨j', k1, k2⟩ := rank_onto hP c h2
      have hle : j ≤ j' := by
        rcases Nat.lt_or_ge j' j with z | z
        · have := g4 j' z; rw [k2, h3] at this; cases this
        · exact z
      have t1 : T (ltN n h) c d[j]! = false := by
        rw [← k2]
        rcases Nat.lt_or_eq_of_le hle with z | z
        · exact hT j j' (Nat.zero_le _) z k1
        · rw [z]; exact T_irrefl (ltN_swo n h) _
      have t2 := h4 _ (rank_lt hP j g1) g3
      rw [T_eq _ _ t1 t2]

/-! ### Rank of nothing -/
set_option maxHeartbeats 1000000 in
theorem ins_nil (sv cv : Value) (w : World) : Calls Try.prog 34 #[sv, .int .i64 0, .int .i64 0, cv] w fun e w' => e = .returned (.tuple #[]) ∧ w' = w := by
  go_enter Try.func34, Try.ntmps34
  go_wp2_with fail
  refine wp_loop_rounds 1 ?_
  rw [rounds_succ]
  go_wp2_with fail
  go_end0
  exact ⟨rfl, rfl⟩

set_option maxHeartbeats 1000000 in
theorem stab_nil (sv cv : Value) (w : World) : Calls Try.prog 29 #[sv, .int .i64 0, cv] w fun e w' => e = .returned (.tuple #[]) ∧ w' = w := by
  go_enter Try.func29, Try.ntmps29
  go_wp2_with fail
  refine wp_loop_rounds 1 ?_
  rw [rounds_succ]
  go_wp2_with (go_at_call 34; with_reducible refine (ins_nil _ _ _).mono ?_; rintro e w1 ⟨rfl, rfl⟩)
  refine wp_loop_rounds 1 ?_
  rw [rounds_succ]
  go_wp2_with fail
  go_end0
  exact ⟨rfl, rfl⟩

set_option maxHeartbeats 1000000 in
theorem sort_nil (a : Option Addr) (c : Nat) (cv : Value) (w : World) : Calls Try.prog 22 #[.slice a 0 c, cv] w fun e w' => e = .returned (.tuple #[]) ∧ w' = w := by
  go_enter Try.func22, Try.ntmps22
  go_wp2_with (go_at_call 29; with_reducible refine (stab_nil _ _ _).mono ?_; rintro e w1 ⟨rfl, rfl⟩)
  go_end0
  exact ⟨rfl, rfl⟩

set_option maxHeartbeats 1000000 in
theorem rank_nil (w : World) : Calls Try.prog 13 #[.slice none 0 0] w fun e w' => ∃ a, e = .returned (.slice a 0 0) ∧ Kp w w' := by
  have hmk := fun w => make_ints 0 w (by omega)
  simp only [Int.natCast_zero] at hmk
  go_enter Try.func13, Try.ntmps13
  go_wp2_with fail
  refine wp_loop_rounds 1 ?_
  rw [rounds_succ]
  go_wp2_with (go_at_call 22; with_reducible refine (sort_nil _ _ _ _).mono ?_; rintro e w1 ⟨rfl, rfl⟩)
  go_ret
  exact ⟨_, rfl, ((Gr.alloc _ _).trans (Gr.alloc _ _)).kp⟩

end Go.Proofs.Ytpiekhiamdknjaa
