/- dirty: the pages of words, rising: by reckoning; slices.Sorted of a map's keys. -/
import Derived.Test.YthkkcnnlfjchaaaDoorL6
import Derived.Test.YthkkcnnlfjchaaaDoorL4
namespace Go.Proofs.YthkkcnnlfjchaaaDoor
open Go.RowKit Go.Maps Go.Sort Go.Shelf
set_option maxRecDepth 10000

/-! ### the keys, sorted -/
section
variable {W : Nat → Nat} {K : List Nat}
theorem collectW_any (b : Nat) (w0 : World) (hp : MWd w0 b W K) (hl : K.length ≤ 1000000) :
    Calls Tryd.prog 30 #[.func (.func 32) #[] #[.pointer (some ⟨w0.heap.size, 0, none⟩)]] (w0.alloc (.cells #[.map (some b)] 46)) fun e w' => ∃ v ss, e = .returned v ∧ ss.Perm K ∧ AX LTw w' w0.heap.size v ss ∧ (v = .slice none 0 0 ↔ ss = []) ∧ Kp w0 w' := by
  refine (callsIn_wide (n := 6)).1 ?_
  have ka : Kp w0 (w0.alloc (.cells #[.map (some b)] 46)) := (Kp.refl w0).alloc _
  have hseq := keysW_gives Fence.wide 4 trivial rfl (by omega) w0.heap.size b W K (w0.alloc (.cells #[.map (some b)] 46)) (by simp) (by rw [cell_of_row _ _ 0 _ _ _ (heap_alloc_new w0 _)]; rfl) (hp.kp ka)
  refine (collectW Fence.wide 6 trivial trivial rfl (by omega) _ _ trivial (enters_of Tryd.func32 (by kernel_rfl) rfl) _ _ (by omega) _ hseq).mono ?_
  rintro e w' ⟨v, ss, rfl, hS, hrow, hnil, hb⟩
  have hb2 : Kp w0 w' := ka.trans hb
  refine ⟨v, ss, rfl, hS, ⟨?_, fun g hg => ?_⟩, hnil, hb2⟩
  · exact ownsRow_base_a hrow (Nat.zero_le _)
  · have := hrow.lt g hg
    exact ⟨Nat.le_trans ka.size this.1, this.2⟩
set_option maxHeartbeats 2000000 in
theorem sortedW_any (b : Nat) (w0 : World) (hp : MWd w0 b W K) (hl : K.length ≤ 1000000) :
    Calls Tryd.prog 27 #[.func (.func 32) #[] #[.pointer (some ⟨w0.heap.size, 0, none⟩)]] (w0.alloc (.cells #[.map (some b)] 46)) fun e w' => ∃ v M, e = .returned v ∧ M.Perm K ∧ M.Pairwise (· ≤ ·) ∧ AX LTw w' w0.heap.size v M ∧ Kp w0 w' := by
  have cC := collectW_any b w0 hp hl
  have HL : Hid (K.length ≤ 1000000) := hl
  clear hp hl
  go_enter Tryd.func27, Tryd.ntmps27
  go_wp2_with fail
  with_reducible refine cC.mono ?_
  rintro e w1 ⟨v, ss, rfl, pm, ax, hnil, k1⟩
  clear cC
  have hlen := pm.length_eq
  obtain ⟨na, cap, rfl, _, hf, _⟩ := ax.form okT_w64
  rcases hf with ⟨rfl, rfl, rfl⟩ | ⟨g, rfl, g1, g2⟩
  · have k3 := sortU_none 0 w1
    have H : Hid (([] : List Nat).Perm K ∧ AX LTw w1 w0.heap.size (.slice none 0 0) [] ∧ Kp w0 w1) := ⟨pm, ax, k1⟩
    clear ax hnil k1 hlen pm
    rw [show ([] : List Nat).length = 0 from rfl]
    go_wp2_with fail
    with_reducible refine k3.mono ?_
    rintro e w2 ⟨rfl, rfl⟩
    clear k3
    go_wp2_with fail
    go_ret
    exact ⟨_, [], rfl, H.out.1, List.Pairwise.nil, H.out.2⟩
  · have k3 := sortW_any ax (by have := HL.out; omega)
    have K1 : Hid (ss.Perm K ∧ Kp w0 w1 ∧ w0.heap.size ≤ g) := ⟨pm, k1, g1⟩
    clear ax hnil k1 hlen pm
    go_wp2_with fail
    with_reducible refine k3.mono ?_
    rintro e w2 ⟨rfl, M, p2, r2, a2, f2⟩
    have H : Hid (M.Perm K ∧ M.Pairwise (· ≤ ·) ∧ AX LTw w2 w0.heap.size (.slice (some ⟨g, 0, none⟩) ss.length cap) M ∧ Kp w0 w2) := ⟨p2.trans K1.out.1, r2, a2, f2.kp K1.out.2.1 (fun i hi => by have e : i = g := hi; rw [e]; exact K1.out.2.2)⟩
    clear k3 a2 f2 K1 p2 r2
    go_wp2_with fail
    go_ret
    exact ⟨_, M, rfl, H.out⟩
end

/-! ### one word, bit by bit -/
theorem low_of {x t r : Nat} (hx : x = 2 ^ t * (2 * r + 1)) (i : Nat) : (x &&& (x - 1)).testBit i = (x.testBit i && !decide (i = t)) := by
  have hp := Nat.two_pow_pos t
  have hy : x - 1 = 2 ^ t * (2 * r) + (2 ^ t - 1) := by rw [hx, Nat.mul_add]; omega
  have hx2 : x = 2 ^ t * (2 * r + 1) + 0 := by omega
  rw [Nat.testBit_and, hy]
  rw [Nat.testBit_two_pow_mul_add _ (show 2 ^ t - 1 < 2 ^ t by omega)]
  conv => lhs; arg 1; rw [hx2, Nat.testBit_two_pow_mul_add _ hp]
  conv => rhs; arg 1; rw [hx2, Nat.testBit_two_pow_mul_add _ hp]
  by_cases c : i < t
  · rw [if_pos c, if_pos c]; simp
  · rw [if_neg c, if_neg c]
    by_cases e : i = t
    · subst e
      rw [decide_eq_true rfl, Nat.sub_self]
      simp
    · rw [decide_eq_false e]
      obtain ⟨d, hd⟩ : ∃ d, i - t = d + 1 := ⟨i - t - 1, by omega⟩
      rw [hd, Nat.testBit_succ, Nat.testBit_succ, show (2 * r + 1) / 2 = r by omega, show 2 * r / 2 = r by omega]
      simp
theorem low_is {x t r : Nat} (hx : x = 2 ^ t * (2 * r + 1)) : x.testBit t = true ∧ ∀ j, x.testBit j = true → t ≤ j := by
  have hp := Nat.two_pow_pos t
  have hx2 : x = 2 ^ t * (2 * r + 1) + 0 := by omega
  have h : ∀ j, x.testBit j = if j < t then Nat.testBit 0 j else (2 * r + 1).testBit (j - t) := fun j => by
    conv => lhs; rw [hx2]
    exact Nat.testBit_two_pow_mul_add _ hp _
  refine ⟨?_, fun j hj => ?_⟩
  · rw [h, if_neg (by omega), Nat.sub_self]; simp
  · rw [h] at hj
    by_cases c : j < t
    · rw [if_pos c] at hj; simp at hj
    · omega

/-- While the word at key is told: x is what is left of it; L is told. -/
structure PGs (W : Nat → Nat) (D : List Nat) (i key x : Nat) (L : List Nat) : Prop where
  up : L.Pairwise (· < ·)
  mem : ∀ p, p ∈ L ↔ (p / 64 ∈ D ∧ hasW W p = true) ∨ (p / 64 = key ∧ hasW W p = true ∧ x.testBit (p % 64) = false)
  sub : ∀ j, x.testBit j = true → (W key).testBit j = true
  lo : ∀ p ∈ L, p / 64 = key → ∀ j, x.testBit j = true → p % 64 < j
  cnt : ∃ c, L.length ≤ 64 * i + c ∧ c ≤ 64 ∧ ∀ j, x.testBit j = true → c ≤ j
/-- Between two words. -/
structure PGd (W : Nat → Nat) (D : List Nat) (i : Nat) (L : List Nat) : Prop where
  up : L.Pairwise (· < ·)
  mem : ∀ p, p ∈ L ↔ (p / 64 ∈ D ∧ hasW W p = true)
  cnt : L.length ≤ 64 * i
section
variable {W : Nat → Nat} {D : List Nat} {i key x : Nat} {L : List Nat}
theorem PGd.start (W : Nat → Nat) : PGd W [] 0 [] := ⟨List.Pairwise.nil, fun p => by simp, Nat.le_refl _⟩
theorem PGd.word (h : PGd W D i L) (hk : ∀ k ∈ D, k < key) : PGs W D i key (W key) L :=
  ⟨h.up, (fun p => by
    rw [h.mem]
    refine ⟨.inl, fun c => c.elim id fun ⟨e, h1, h2⟩ => ?_⟩
    unfold hasW at h1
    rw [e, h2] at h1
    cases h1), (fun _ => id), (fun p hp e => by
    have := hk _ ((h.mem p).1 hp).1
    omega), ⟨0, by have := h.cnt; omega, by omega, fun _ _ => Nat.zero_le _⟩⟩
theorem PGs.step (h : PGs W D i key x L) (hk : ∀ k ∈ D, k < key) {t r : Nat} (ht : t < 64) (hx : x = 2 ^ t * (2 * r + 1)) : PGs W D i key (x &&& (x - 1)) (L ++ [key * 64 + t]) := by
  obtain ⟨b1, b2⟩ := low_is hx
  have lb := low_of hx
  have e1 : (key * 64 + t) / 64 = key := by omega
  have e2 : (key * 64 + t) % 64 = t := by omega
  refine ⟨?_, fun p => ?_, fun j hj => ?_, fun p hp e j hj => ?_, ?_⟩
  · refine List.pairwise_append.2 ⟨h.up, by simp, fun p hp q hq => ?_⟩
    simp at hq
    subst hq
    rcases (h.mem p).1 hp with ⟨c, _⟩ | ⟨c, _, _⟩
    · have := hk _ c; omega
    · have := h.lo p hp c t b1; omega
  · rw [List.mem_append, h.mem, lb]
    simp only [List.mem_singleton]
    constructor
    · rintro ((c | ⟨c1, c2, c3⟩) | rfl)
      · exact .inl c
      · exact .inr ⟨c1, c2, by rw [c3]; rfl⟩
      · refine .inr ⟨e1, ?_, by rw [e2]; simp⟩
        unfold hasW
        rw [e1, e2]
        exact h.sub t b1
    · rintro (c | ⟨c1, c2, c3⟩)
      · exact .inl (.inl c)
      · by_cases c : p % 64 = t
        · exact .inr (by omega)
        · rw [decide_eq_false c] at c3
          exact .inl (.inr ⟨c1, c2, by simpa using c3⟩)
  · rw [lb] at hj
    exact h.sub j (by simp at hj; exact hj.1)
  · rw [lb] at hj
    simp at hj
    rcases List.mem_append.1 hp with c | c
    · exact h.lo p c e j hj.1
    · simp at c
      subst c
      have := b2 j hj.1
      omega
  · obtain ⟨c, c1, c2, c3⟩ := h.cnt
    have := c3 t b1
    refine ⟨c + 1, by simp; omega, by omega, fun j hj => ?_⟩
    rw [lb] at hj
    simp at hj
    have := b2 j hj.1
    omega
theorem PGs.done (h : PGs W D i key 0 L) : PGd W (D ++ [key]) (i + 1) L :=
  ⟨h.up, fun p => by
    rw [h.mem, List.mem_append, List.mem_singleton]
    constructor
    · rintro (⟨c1, c2⟩ | ⟨c1, c2, _⟩)
      · exact ⟨.inl c1, c2⟩
      · exact ⟨.inr c1, c2⟩
    · rintro ⟨c1 | c1, c2⟩
      · exact .inl ⟨c1, c2⟩
      · exact .inr ⟨c1, c2, by simp⟩, by obtain ⟨c, c1, c2, _⟩ := h.cnt; omega⟩
end
theorem and_less {x : Nat} (h : x ≠ 0) : x &&& (x - 1) < x := by
  have : x &&& (x - 1) ≤ x - 1 := Nat.and_le_right
  omega

end Go.Proofs.YthkkcnnlfjchaaaDoor
