/- slices.SortStableFunc over 20 to 40 places. -/
import Derived.Test.YtpiekhiamdknjaaM8
namespace Go.Proofs.Ytpiekhiamdknjaa
open Go.RowKit Go.Sort Go.Shelf Go.Lib

/-- [20, n) is as it was at the start. -/
theorem range_perm_inc {n k : Nat} {d : Array Nat} (hP : PermIn 0 k (Array.range n) d) : (∀ p q, k ≤ p → p < q → q < n → d[p]! < d[q]!) := fun p q h1 h2 h3 => by
  rw [hP.2.1 p (.inr h1), hP.2.1 q (.inr (by omega))]; exact range_inc n p q h2 h3

/-- The first block's places are ahead of the others'. -/
theorem range_cross {n k : Nat} {d d' : Array Nat} (hk : k ≤ n) (hP : PermIn 0 k (Array.range n) d) (hQ : PermIn k n d d') : Crs 0 k n d' := fun p q h1 h2 h3 h4 => by
  have z : d.size = n := by rw [hP.1]; simp
  have k1 : d'[p]! < k := by
    rw [hQ.2.1 p (.inl h2)]
    exact permIn_all _ _ 0 k (fun x => x < k) (by simpa using hk) hP (fun i _ hi => by rw [range_get n i (by omega)]; exact hi) p h1 h2
  have k2 : k ≤ d'[q]! := permIn_all _ _ k n (fun x => k ≤ x) (by omega) hQ (fun i i1 i2 => by rw [hP.2.1 i (.inr i1), range_get n i i2]; exact i1) q h3 h4
  omega

theorem MC_of {w0 : World} {bb hb ho n cap : Nat} {A B : Nat → Nat} {h : Nat → Int × Int} {blk off : Nat} (R : RW w0 bb hb ho n cap A B h blk) (R1 : Row1 (encN n) w0 blk off (Array.range n)) (hn : n < 1000) :
    MC 23 #[.pointer (some ⟨bb, 0, none⟩)] (encN n) (cfN n h) blk off (Array.range n) w0 :=
  ⟨rank1_enters, by rw [Array.size_range]; exact cmpLays R off, R1, by rw [ltOf_cfN]; exact ltN_swo n h, by simpa using hn⟩

theorem sym_at {w0 : World} {bb hb ho n cap : Nat} {A B : Nat → Nat} {h : Nat → Int × Int} {blk off : Nat} (R : RW w0 bb hb ho n cap A B h blk) (R1 : Row1 (encN n) w0 blk off (Array.range n)) (hn : n < 1000) (c a m b : Nat) (d : Array Nat) (w : World)
    (h1 : a < m) (h2 : m < b) (h3 : b ≤ n) (hs : d.size = n) (S : SW (encN n) w0 blk off d w) (hL : SortedIn (T (ltN n h)) a m d) (hR : SortedIn (T (ltN n h)) m b d) (hC : Crs a m b d) :
    Calls Try.prog 35 #[.slice (some ⟨blk, off, none⟩) n c, .int .i64 a, .int .i64 m, .int .i64 b, cmpV bb] w fun e w' => e = .returned (.tuple #[]) ∧ ∃ d', SW (encN n) w0 blk off d' w' ∧ PermIn a b d d' ∧ SortedIn (T (ltN n h)) a b d' := by
  have := symAll (MC_of R R1 hn) c (b - a + 1) a m b d w (by omega) h1 h2 (by simpa using h3) (by simpa using hs) S (by rw [ltOf_cfN]; exact hL) (by rw [ltOf_cfN]; exact hR) hC
  rw [Array.size_range, ltOf_cfN] at this
  exact this

set_option maxHeartbeats 2000000 in
set_option maxRecDepth 100000 in
theorem stab_20 (n : Nat) (hn : n = 20) : StabC n := by
  intro w0 bb hb ho cap A B h blk off c R R1
  have c1 := ins_any R off c 0 20 (Array.range n) (Array.range n) w0 R1 (by simp) (by simp) (SW.start R1.hH) (by omega) (by omega) (by omega) (fun p q _ h2 h3 => range_inc n p q h2 (by omega))
  change Calls Try.prog 34 #[_, .int .i64 (0 : Int), .int .i64 (20 : Int), _] _ _ at c1
  have I2 : Aside (∀ d1 w1, PermIn 0 20 (Array.range n) d1 → SW (encN n) w0 blk off d1 w1 → Calls Try.prog 34 #[.slice (some ⟨blk, off, none⟩) n c, .int .i64 (20 : Int), .int .i64 n, cmpV bb] w1 fun e w' => e = .returned (.tuple #[]) ∧ ∃ d', PermIn 20 n d1 d' ∧ SortedIn (T (ltN n h)) 20 n d' ∧ SW (encN n) w0 blk off d' w') :=
    fun d1 w1 hP hW => ins_any R off c 20 n (Array.range n) d1 w1 R1 (by simp) (by rw [hP.1]; simp) hW (by omega) (by omega) (by omega) (range_perm_inc hP)
  have z1 : (20 : Int) ≤ n := by omega
  have z2 : ¬ (40 : Int) ≤ n := by omega
  have z3 : ¬ (20 : Int) < n := by omega
  have HN : Hid (n = 20) := hn
  clear R R1 hn
  unfold cmpV at *
  go_enter Try.func29, Try.ntmps29
  go_wp2_with fail
  refine wp_loop_rounds 2 ?_
  rw [rounds_succ]
  go_wp2_with (go_at_call 34; with_reducible refine c1.mono ?_; rintro e w1 ⟨rfl, d1, hP, hT, hW⟩)
  have c2 := I2.out d1 w1 hP hW
  rw [rounds_succ]
  go_wp2_with (go_at_call 34; with_reducible refine c2.mono ?_; rintro e w2 ⟨rfl, d2, hP2, hT2, hW2⟩)
  refine wp_loop_rounds 1 ?_
  rw [rounds_succ]
  go_wp2_with fail
  go_end0
  obtain rfl := HN.out
  have e : ∀ i : Nat, i < 20 → d2[i]! = d1[i]! := fun i hi => hP2.2.1 i (.inl hi)
  refine ⟨rfl, d2, permIn_trans _ _ _ _ _ hP (permIn_mono _ _ 20 20 0 20 (by omega) (by omega) (by rw [hP.1]; simp) hP2), fun i j h1 h2 h3 => ?_, hW2⟩
  rw [e i (by omega), e j h3]
  exact hT i j h1 h2 h3

set_option maxHeartbeats 4000000 in
set_option maxRecDepth 100000 in
theorem stab_mid (n : Nat) (h1 : 20 < n) (h2 : n < 40) : StabC n := by
  intro w0 bb hb ho cap A B h blk off c R R1
  have c1 := ins_any R off c 0 20 (Array.range n) (Array.range n) w0 R1 (by simp) (by simp) (SW.start R1.hH) (by omega) (by omega) (by omega) (fun p q _ h2 h3 => range_inc n p q h2 (by omega))
  change Calls Try.prog 34 #[_, .int .i64 (0 : Int), .int .i64 (20 : Int), _] _ _ at c1
  have I2 : Aside (∀ d1 w1, PermIn 0 20 (Array.range n) d1 → SW (encN n) w0 blk off d1 w1 → Calls Try.prog 34 #[.slice (some ⟨blk, off, none⟩) n c, .int .i64 (20 : Int), .int .i64 n, cmpV bb] w1 fun e w' => e = .returned (.tuple #[]) ∧ ∃ d', PermIn 20 n d1 d' ∧ SortedIn (T (ltN n h)) 20 n d' ∧ SW (encN n) w0 blk off d' w') :=
    fun d1 w1 hP hW => ins_any R off c 20 n (Array.range n) d1 w1 R1 (by simp) (by rw [hP.1]; simp) hW (by omega) (by omega) (by omega) (range_perm_inc hP)
  have I3 : Aside (∀ d1 d2 w2, PermIn 0 20 (Array.range n) d1 → SortedIn (T (ltN n h)) 0 20 d1 → PermIn 20 n d1 d2 → SortedIn (T (ltN n h)) 20 n d2 → SW (encN n) w0 blk off d2 w2 → Calls Try.prog 35 #[.slice (some ⟨blk, off, none⟩) n c, .int .i64 (0 : Int), .int .i64 (20 : Int), .int .i64 n, cmpV bb] w2 fun e w' => e = .returned (.tuple #[]) ∧ ∃ d', SW (encN n) w0 blk off d' w' ∧ PermIn 0 n d2 d' ∧ SortedIn (T (ltN n h)) 0 n d') :=
    fun d1 d2 w2 hP hT hP2 hT2 hW => sym_at R R1 (by omega) c 0 20 n d2 w2 (by omega) h1 (Nat.le_refl _) (by rw [hP2.1, hP.1]; simp) hW (fun i j k1 k2 k3 => by rw [hP2.2.1 i (.inl (by omega)), hP2.2.1 j (.inl k3)]; exact hT i j k1 k2 k3) hT2 (range_cross (by omega) hP hP2)
  have z1 : (20 : Int) ≤ n := by omega
  have z2 : ¬ (40 : Int) ≤ n := by omega
  have z3 : (20 : Int) < n := by omega
  have z4 : ¬ (40 : Int) < n := by omega
  have HN : Hid (20 < n ∧ n < 40) := ⟨h1, h2⟩
  clear R R1 h1 h2
  unfold cmpV at *
  go_enter Try.func29, Try.ntmps29
  go_wp2_with fail
  refine wp_loop_rounds 2 ?_
  rw [rounds_succ]
  go_wp2_with (go_at_call 34; with_reducible refine c1.mono ?_; rintro e w1 ⟨rfl, d1, hP, hT, hW⟩)
  have c2 := I2.out d1 w1 hP hW
  rw [rounds_succ]
  go_wp2_with (go_at_call 34; with_reducible refine c2.mono ?_; rintro e w2 ⟨rfl, d2, hP2, hT2, hW2⟩)
  have c3 := I3.out d1 d2 w2 hP hT hP2 hT2 hW2
  refine wp_loop_rounds 2 ?_
  rw [rounds_succ]
  go_wp2_with fail
  refine wp_loop_rounds 1 ?_
  rw [rounds_succ]
  go_wp2_with (go_at_call 35; with_reducible refine c3.mono ?_; rintro e w3 ⟨rfl, d3, hW3, hP3, hT3⟩)
  rw [rounds_succ]
  go_wp2_with fail
  go_end0
  obtain ⟨g1, g2⟩ := HN.out
  exact ⟨rfl, d3, permIn_trans _ _ _ _ _ (permIn_mono _ _ 0 20 0 n (by omega) (by omega) (by simp) hP) (permIn_trans _ _ _ _ _ (permIn_mono _ _ 20 n 0 n (by omega) (by omega) (by rw [hP.1]; simp) hP2) hP3), hT3, hW3⟩

set_option maxHeartbeats 4000000 in
set_option maxRecDepth 100000 in
theorem stab_40 (n : Nat) (hn : n = 40) : StabC n := by
  intro w0 bb hb ho cap A B h blk off c R R1
  have c1 := ins_any R off c 0 20 (Array.range n) (Array.range n) w0 R1 (by simp) (by simp) (SW.start R1.hH) (by omega) (by omega) (by omega) (fun p q _ h2 h3 => range_inc n p q h2 (by omega))
  change Calls Try.prog 34 #[_, .int .i64 (0 : Int), .int .i64 (20 : Int), _] _ _ at c1
  have I2 : Aside (∀ d1 w1, PermIn 0 20 (Array.range n) d1 → SW (encN n) w0 blk off d1 w1 → Calls Try.prog 34 #[.slice (some ⟨blk, off, none⟩) n c, .int .i64 (20 : Int), .int .i64 (40 : Int), cmpV bb] w1 fun e w' => e = .returned (.tuple #[]) ∧ ∃ d', PermIn 20 n d1 d' ∧ SortedIn (T (ltN n h)) 20 n d' ∧ SW (encN n) w0 blk off d' w') :=
    fun d1 w1 hP hW => by
      have := ins_any R off c 20 n (Array.range n) d1 w1 R1 (by simp) (by rw [hP.1]; simp) hW (by omega) (by omega) (by omega) (range_perm_inc hP)
      rw [show ((n : Nat) : Int) = 40 by omega] at this
      exact this
  have I25 : Aside (∀ d1 w1, d1.size = n → SW (encN n) w0 blk off d1 w1 → Calls Try.prog 34 #[.slice (some ⟨blk, off, none⟩) n c, .int .i64 (40 : Int), .int .i64 n, cmpV bb] w1 fun e w' => e = .returned (.tuple #[]) ∧ ∃ d', PermIn n n d1 d' ∧ SortedIn (T (ltN n h)) n n d' ∧ SW (encN n) w0 blk off d' w') :=
    fun d1 w1 hP hW => by
      have := ins_any R off c n n (Array.range n) d1 w1 R1 (by simp) hP hW (by omega) (by omega) (by omega) (fun p q k1 k2 k3 => by omega)
      have e : Value.int .i64 (40 : Int) = .int .i64 (n : Int) := by rw [show ((n : Nat) : Int) = 40 by omega]
      rw [e]
      exact this
  have I3 : Aside (∀ d1 d2 d3 w2, PermIn 0 20 (Array.range n) d1 → SortedIn (T (ltN n h)) 0 20 d1 → PermIn 20 n d1 d2 → SortedIn (T (ltN n h)) 20 n d2 → d3 = d2 → SW (encN n) w0 blk off d3 w2 → Calls Try.prog 35 #[.slice (some ⟨blk, off, none⟩) n c, .int .i64 (0 : Int), .int .i64 (20 : Int), .int .i64 (40 : Int), cmpV bb] w2 fun e w' => e = .returned (.tuple #[]) ∧ ∃ d', SW (encN n) w0 blk off d' w' ∧ PermIn 0 n d2 d' ∧ SortedIn (T (ltN n h)) 0 n d') :=
    fun d1 d2 d3 w2 hP hT hP2 hT2 hd hW => by
      subst hd
      have := sym_at R R1 (by omega) c 0 20 n d3 w2 (by omega) (by omega) (Nat.le_refl _) (by rw [hP2.1, hP.1]; simp) hW (fun i j k1 k2 k3 => by rw [hP2.2.1 i (.inl (by omega)), hP2.2.1 j (.inl k3)]; exact hT i j k1 k2 k3) hT2 (range_cross (by omega) hP hP2)
      rw [show ((n : Nat) : Int) = 40 by omega] at this
      exact this
  have z1 : (20 : Int) ≤ n := by omega
  have z2 : (40 : Int) ≤ n := by omega
  have z5 : ¬ (60 : Int) ≤ n := by omega
  have z3 : (20 : Int) < n := by omega
  have z4 : ¬ (40 : Int) < n := by omega
  have z6 : ¬ (80 : Int) ≤ n := by omega
  have z7 : ¬ (60 : Int) < n := by omega
  have HN : Hid (n = 40) := hn
  clear R R1 hn
  unfold cmpV at *
  go_enter Try.func29, Try.ntmps29
  go_wp2_with fail
  refine wp_loop_rounds 3 ?_
  rw [rounds_succ]
  go_wp2_with (go_at_call 34; with_reducible refine c1.mono ?_; rintro e w1 ⟨rfl, d1, hP, hT, hW⟩)
  have c2 := I2.out d1 w1 hP hW
  rw [rounds_succ]
  go_wp2_with (go_at_call 34; with_reducible refine c2.mono ?_; rintro e w2 ⟨rfl, d2, hP2, hT2, hW2⟩)
  have c25 := I25.out d2 w2 (by rw [hP2.1, hP.1]; simp) hW2
  rw [rounds_succ]
  go_wp2_with (go_at_call 34; with_reducible refine c25.mono ?_; rintro e w25 ⟨rfl, d25, hP25, _, hW25⟩)
  have hd : d25 = d2 := by
    apply Array.ext
    · exact hP25.1
    · intro i i1 i2
      have k := hP25.2.1 i (by omega)
      rwa [getElem!_pos d25 i i1, getElem!_pos d2 i i2] at k
  have c3 := I3.out d1 d2 d25 w25 hP hT hP2 hT2 hd hW25
  clear hd
  refine wp_loop_rounds 2 ?_
  rw [rounds_succ]
  go_wp2_with fail
  refine wp_loop_rounds 2 ?_
  rw [rounds_succ]
  go_wp2_with (go_at_call 35; with_reducible refine c3.mono ?_; rintro e w3 ⟨rfl, d3, hW3, hP3, hT3⟩)
  rw [rounds_succ]
  go_wp2_with fail
  rw [rounds_succ]
  go_wp2_with fail
  go_end0
  have g1 := HN.out
  exact ⟨rfl, d3, permIn_trans _ _ _ _ _ (permIn_mono _ _ 0 20 0 n (by omega) (by omega) (by simp) hP) (permIn_trans _ _ _ _ _ (permIn_mono _ _ 20 n 0 n (by omega) (by omega) (by rw [hP.1]; simp) hP2) hP3), hT3, hW3⟩

theorem sort_any (n : Nat) (hn : n ≤ 40) : SortC n := by
  apply SortC_of
  by_cases h1 : n < 20
  · exact stab_small n h1
  · by_cases h2 : n = 20
    · exact stab_20 n h2
    · by_cases h3 : n < 40
      · exact stab_mid n (by omega) h3
      · exact stab_40 n (by omega)

end Go.Proofs.Ytpiekhiamdknjaa
