/- slices.Sort of []uint64: medians. -/
import Derived.Test.YthkkcnnlfjchaaaDoorJ4
namespace Go.Proofs.YthkkcnnlfjchaaaDoor
open Go.RowKit Go.Sort

section
variable {w0 W : World} {g : Nat} {d0 d : Array Int}
/-- A world of the sort with a counter in c. -/
structure CU (w0 : World) (g : Nat) (d0 d : Array Int) (c : Nat) (W : World) : Prop where
  su : SU w0 g d0 d W
  ct : ∃ s : Int, W.cell? ⟨c, 0, none⟩ = some (.int .i64 s)
  fz : W.frozen? ⟨c, 0, none⟩ = false
  up : w0.heap.size ≤ c
theorem CU.dr {c : Nat} (h : CU w0 g d0 d c W) (n : Nat) : CU w0 g d0 d c (W.drewN n) := ⟨h.su.dr n, h.ct, h.fz, h.up⟩
theorem CU.bump {c : Nat} (h : CU w0 g d0 d c W) (s : Int) : CU w0 g d0 d c (W.setCell ⟨c, 0, none⟩ (.int .i64 s)) := by
  obtain ⟨t, ht⟩ := h.ct
  exact ⟨h.su.new c 0 _ h.up, ⟨s, World.cell?_setCell_same' _ _ _ (by rw [ht]; rfl)⟩, by rw [World.frozen?_setCell]; exact h.fz, h.up⟩
set_option maxRecDepth 100000 in
set_option maxHeartbeats 4000000 in
theorem ord2_any {c : Nat} (S : CU w0 g d0 d c W) (a b cap n lo hi : Nat) (hn : n = d.size) (hh : hi ≤ n) (a1 : lo ≤ a) (a2 : a < hi) (b1 : lo ≤ b) (b2 : b < hi) (_hl : n ≤ 1000000) :
    Calls Tryd.prog 53 #[.slice (some ⟨g, 0, none⟩) n cap, .int .i64 (a : Int), .int .i64 (b : Int), .pointer (some ⟨c, 0, none⟩)] W fun e W' => ∃ x y : Nat, e = .returned (.tuple #[.int .i64 (x : Int), .int .i64 (y : Int)]) ∧ CU w0 g d0 d c W' ∧ lo ≤ x ∧ x < hi ∧ lo ≤ y ∧ y < hi := by
  have HS : Hid (CU w0 g d0 d c W) := S
  have HA : Hid (lo ≤ a ∧ a < hi ∧ lo ≤ b ∧ b < hi) := ⟨a1, a2, b1, b2⟩
  obtain ⟨s, cs⟩ := S.ct
  have fs := S.fz
  have cl := fun x y w => wless_any x y w
  have ba : (a : Int) < (n : Int) := by omega
  have bb : (b : Int) < (n : Int) := by omega
  have han : a < d.size := by omega
  have hbn : b < d.size := by omega
  clear S hn a1 b1 _hl hh
  obtain ⟨x, hx⟩ : ∃ x, x = d[b]! := ⟨_, rfl⟩
  obtain ⟨y, hy⟩ : ∃ x, x = d[a]! := ⟨_, rfl⟩
  have lx := HS.out.su.c b hbn
  have ly := HS.out.su.c a han
  rw [← hx] at lx
  rw [← hy] at ly
  have Hx : Hid (x = d[b]! ∧ y = d[a]!) := ⟨hx, hy⟩
  clear hx hy

  go_enter Tryd.func53, Tryd.ntmps53
  cases hlv : ltInt x y with
  | true =>
    have cl1 := fun w => cl x y w
    rw [hlv] at cl1
    go_wp2_with fail
    go_quiet (first | (go_at_call 42; refine Calls.quiet_of_same (cl1 _)))
    clear cl1

    have S2 := hid_is (HS.out.dr nq)
    have c2 : (W.drewN nq).cell? ⟨c, 0, none⟩ = some (.int .i64 s) := cs
    have f2 : (W.drewN nq).frozen? ⟨c, 0, none⟩ = false := fs
    clear cs fs lx ly
    generalize W.drewN nq = w2 at *
    go_wp2_with fail
    go_ret2
    exact ⟨b, a, rfl, S2.out.bump _, HA.out.2.2.1, HA.out.2.2.2, HA.out.1, HA.out.2.1⟩
  | false =>
    have cl1 := fun w => cl x y w
    rw [hlv] at cl1
    go_wp2_with fail
    go_quiet (first | (go_at_call 42; refine Calls.quiet_of_same (cl1 _)))
    clear cl1

    go_wp2_with fail
    go_ret2
    exact ⟨a, b, rfl, HS.out.dr nq, HA.out.1, HA.out.2.1, HA.out.2.2.1, HA.out.2.2.2⟩
set_option maxRecDepth 100000 in
set_option maxHeartbeats 4000000 in
theorem med_any {c : Nat} (S : CU w0 g d0 d c W) (a b k cap n lo hi : Nat) (hn : n = d.size) (hh : hi ≤ n) (a1 : lo ≤ a) (a2 : a < hi) (b1 : lo ≤ b) (b2 : b < hi) (k1 : lo ≤ k) (k2 : k < hi) (hl : n ≤ 1000000) :
    Calls Tryd.prog 51 #[.slice (some ⟨g, 0, none⟩) n cap, .int .i64 (a : Int), .int .i64 (b : Int), .int .i64 (k : Int), .pointer (some ⟨c, 0, none⟩)] W fun e W' => ∃ x : Nat, e = .returned (.int .i64 (x : Int)) ∧ CU w0 g d0 d c W' ∧ lo ≤ x ∧ x < hi := by
  have HN : Hid (n = d.size ∧ hi ≤ n ∧ n ≤ 1000000) := ⟨hn, hh, hl⟩
  have HK : Hid (lo ≤ k ∧ k < hi) := ⟨k1, k2⟩
  have C1 := ord2_any S a b cap n lo hi hn hh a1 a2 b1 b2 hl
  clear S hn hh a1 a2 b1 b2 k1 k2 hl
  go_enter Tryd.func51, Tryd.ntmps51
  go_wp2_with fail
  with_reducible refine C1.mono ?_
  rintro e w1 ⟨x, y, rfl, S1, x1, x2, y1, y2⟩
  clear C1
  have C2 := ord2_any S1 y k cap n lo hi HN.out.1 HN.out.2.1 y1 y2 HK.out.1 HK.out.2 HN.out.2.2
  have HX : Hid (lo ≤ x ∧ x < hi) := ⟨x1, x2⟩
  clear S1 x1 x2 y1 y2
  go_wp2_with fail
  with_reducible refine C2.mono ?_
  rintro e w2 ⟨y3, k3, rfl, S2, y1, y2, _, _⟩
  clear C2
  have C3 := ord2_any S2 x y3 cap n lo hi HN.out.1 HN.out.2.1 HX.out.1 HX.out.2 y1 y2 HN.out.2.2
  clear S2 y1 y2
  go_wp2_with fail
  with_reducible refine C3.mono ?_
  rintro e w3 ⟨x4, y4, rfl, S3, _, _, y1, y2⟩
  clear C3
  have HR : Hid (CU w0 g d0 d c w3 ∧ lo ≤ y4 ∧ y4 < hi) := ⟨S3, y1, y2⟩
  clear S3 y1 y2
  go_wp2_with fail
  go_ret
  exact ⟨y4, rfl, HR.out.1, HR.out.2.1, HR.out.2.2⟩
set_option maxRecDepth 100000 in
set_option maxHeartbeats 4000000 in
theorem medadj_any {c : Nat} (S : CU w0 g d0 d c W) (a cap n lo hi : Nat) (hn : n = d.size) (hh : hi ≤ n) (a1 : lo + 1 ≤ a) (a2 : a + 1 < hi) (hl : n ≤ 1000000) :
    Calls Tryd.prog 50 #[.slice (some ⟨g, 0, none⟩) n cap, .int .i64 (a : Int), .pointer (some ⟨c, 0, none⟩)] W fun e W' => ∃ x : Nat, e = .returned (.int .i64 (x : Int)) ∧ CU w0 g d0 d c W' ∧ lo ≤ x ∧ x < hi := by
  obtain ⟨p, hp⟩ : ∃ p, p = a - 1 := ⟨_, rfl⟩
  obtain ⟨q, hq⟩ : ∃ q, q = a + 1 := ⟨_, rfl⟩
  have C1 := med_any S p a q cap n lo hi hn hh (by omega) (by omega) (by omega) (by omega) (by omega) (by omega) hl
  have z1 : (a : Int) - 1 = (p : Int) := by omega
  have z2 : (a : Int) + 1 = (q : Int) := by omega
  have b1 : (q : Int) ≤ 1000000 := by omega
  have b2 : (p : Int) ≤ 1000000 := by omega
  clear S hn hh a1 a2 hl hp hq
  go_enter Tryd.func50, Tryd.ntmps50
  go_wp2_with fail
  with_reducible refine C1.mono ?_
  rintro e w1 ⟨x, rfl, S1, x1, x2⟩
  have HR : Hid (CU w0 g d0 d c w1 ∧ lo ≤ x ∧ x < hi) := ⟨S1, x1, x2⟩
  clear C1 S1 x1 x2
  go_wp2_with fail
  go_ret
  exact ⟨x, rfl, HR.out.1, HR.out.2.1, HR.out.2.2⟩
/-- What choosePivot tells: a place of [a, b), and some hint. -/
def PvO (w0 : World) (g : Nat) (d0 d : Array Int) (a b : Nat) (e : Ending) (W : World) : Prop := ∃ (p : Nat) (h : Int), e = .returned (.tuple #[.int .i64 (p : Int), .int .i64 h]) ∧ SU w0 g d0 d W ∧ a ≤ p ∧ p < b
set_option maxRecDepth 100000 in
set_option maxHeartbeats 8000000 in
theorem choose_any (S : SU w0 g d0 d W) (a b cap n : Nat) (hn : n = d.size) (hab : a + 12 < b) (hb : b ≤ n) (hl : n ≤ 1000000) :
    Calls Tryd.prog 39 #[.slice (some ⟨g, 0, none⟩) n cap, .int .i64 (a : Int), .int .i64 (b : Int)] W fun e W' => PvO w0 g d0 d a b e W' := by
  obtain ⟨l, hl0⟩ : ∃ l, l = b - a := ⟨_, rfl⟩
  obtain ⟨q, hq⟩ : ∃ q, q = l / 4 := ⟨_, rfl⟩
  obtain ⟨q2, hq2⟩ : ∃ q2, q2 = q * 2 := ⟨_, rfl⟩
  obtain ⟨q3, hq3⟩ : ∃ q3, q3 = q * 3 := ⟨_, rfl⟩
  obtain ⟨i, hi⟩ : ∃ i, i = a + q := ⟨_, rfl⟩
  obtain ⟨j, hj⟩ : ∃ j, j = a + q2 := ⟨_, rfl⟩
  obtain ⟨k, hk⟩ : ∃ k, k = a + q3 := ⟨_, rfl⟩
  have zl : (b : Int) - (a : Int) = (l : Int) := by omega
  have zq : (l : Int).tdiv 4 = (q : Int) := by rw [Int.tdiv_eq_ediv_of_nonneg (by omega)]; omega
  have z2 : (q : Int) * 2 = (q2 : Int) := by omega
  have z3 : (q : Int) * 3 = (q3 : Int) := by omega
  have zi : (a : Int) + (q : Int) = (i : Int) := by omega
  have zj : (a : Int) + (q2 : Int) = (j : Int) := by omega
  have zk : (a : Int) + (q3 : Int) = (k : Int) := by omega
  have bl : (l : Int) ≤ 1000000 := by omega
  have l8 : (8 : Int) ≤ (l : Int) := by omega
  have bq : (q3 : Int) ≤ 1000000 := by omega
  have bq2 : (q2 : Int) ≤ 1000000 := by omega
  have bq1 : (q : Int) ≤ 1000000 := by omega
  have bi : (i : Int) ≤ 1000000 := by omega
  have bj : (j : Int) ≤ 1000000 := by omega
  have bk : (k : Int) ≤ 1000000 := by omega
  have HA : Hid (n = d.size ∧ b ≤ n ∧ n ≤ 1000000) := ⟨hn, hb, hl⟩
  have HB : Hid (a ≤ i ∧ i < b ∧ a ≤ j ∧ j < b ∧ a ≤ k ∧ k < b) := ⟨by omega, by omega, by omega, by omega, by omega, by omega⟩
  have HC : Hid ((50 : Int) ≤ (l : Int) → a + 1 ≤ i ∧ i + 1 < b ∧ a + 1 ≤ j ∧ j + 1 < b ∧ a + 1 ≤ k ∧ k + 1 < b) := fun h => ⟨by omega, by omega, by omega, by omega, by omega, by omega⟩
  have HS := hid_is S
  clear S hl0 hq hq2 hq3 hi hj hk hn hab hb
  have S0 : CU w0 g d0 d W.heap.size (W.alloc (.cells #[.int .i64 0] 3)) := ⟨HS.out.al _, ⟨0, by simp⟩, by simp, HS.out.le⟩
  by_cases c50 : (50 : Int) ≤ (l : Int)
  · have C1 := medadj_any S0 i cap n a b HA.out.1 HA.out.2.1 (HC.out c50).1 (HC.out c50).2.1 HA.out.2.2
    have HC2 := hid_is (HC.out c50)
    clear S0 HC
    go_enter Tryd.func39, Tryd.ntmps39
    go_wp2_with fail
    with_reducible refine C1.mono ?_
    rintro e w1 ⟨i2, rfl, S1, i3, i4⟩
    clear C1
    have C2 := medadj_any S1 j cap n a b HA.out.1 HA.out.2.1 HC2.out.2.2.1 HC2.out.2.2.2.1 HA.out.2.2
    have HI : Hid (a ≤ i2 ∧ i2 < b) := ⟨i3, i4⟩
    clear S1 i3 i4
    go_wp2_with fail
    with_reducible refine C2.mono ?_
    rintro e w2 ⟨j2, rfl, S2, i3, i4⟩
    clear C2
    have C3 := medadj_any S2 k cap n a b HA.out.1 HA.out.2.1 HC2.out.2.2.2.2.1 HC2.out.2.2.2.2.2 HA.out.2.2
    have HJ : Hid (a ≤ j2 ∧ j2 < b) := ⟨i3, i4⟩
    clear S2 i3 i4
    go_wp2_with fail
    with_reducible refine C3.mono ?_
    rintro e w3 ⟨k2, rfl, S3, i3, i4⟩
    clear C3
    have C4 := med_any S3 i2 j2 k2 cap n a b HA.out.1 HA.out.2.1 HI.out.1 HI.out.2 HJ.out.1 HJ.out.2 i3 i4 HA.out.2.2
    clear S3 i3 i4
    go_wp2_with fail
    with_reducible refine C4.mono ?_
    rintro e w4 ⟨x, rfl, S4, i3, i4⟩
    clear C4
    have HR : Hid (SU w0 g d0 d w4 ∧ a ≤ x ∧ x < b) := ⟨S4.su, i3, i4⟩
    obtain ⟨s, cs⟩ := S4.ct
    clear S4 i3 i4
    by_cases s0 : s = 0
    · subst s0
      go_wp2_with fail
      go_ret2
      exact ⟨x, _, rfl, HR.out.1, HR.out.2.1, HR.out.2.2⟩
    · have s1 : (s == 0) = false := by simpa using s0
      by_cases s12 : s = 12
      · subst s12
        clear s0 s1
        go_wp2_with fail
        go_ret2
        exact ⟨x, _, rfl, HR.out.1, HR.out.2.1, HR.out.2.2⟩
      · have s2 : (s == 12) = false := by simpa using s12
        clear s0 s12
        go_wp2_with fail
        go_ret2
        exact ⟨x, _, rfl, HR.out.1, HR.out.2.1, HR.out.2.2⟩
  · have C1 := med_any S0 i j k cap n a b HA.out.1 HA.out.2.1 HB.out.1 HB.out.2.1 HB.out.2.2.1 HB.out.2.2.2.1 HB.out.2.2.2.2.1 HB.out.2.2.2.2.2 HA.out.2.2
    clear S0 HC
    go_enter Tryd.func39, Tryd.ntmps39
    go_wp2_with fail
    with_reducible refine C1.mono ?_
    rintro e w4 ⟨x, rfl, S4, i3, i4⟩
    clear C1
    have HR : Hid (SU w0 g d0 d w4 ∧ a ≤ x ∧ x < b) := ⟨S4.su, i3, i4⟩
    obtain ⟨s, cs⟩ := S4.ct
    clear S4 i3 i4
    by_cases s0 : s = 0
    · subst s0
      go_wp2_with fail
      go_ret2
      exact ⟨x, _, rfl, HR.out.1, HR.out.2.1, HR.out.2.2⟩
    · have s1 : (s == 0) = false := by simpa using s0
      by_cases s12 : s = 12
      · subst s12
        clear s0 s1
        go_wp2_with fail
        go_ret2
        exact ⟨x, _, rfl, HR.out.1, HR.out.2.1, HR.out.2.2⟩
      · have s2 : (s == 12) = false := by simpa using s12
        clear s0 s12
        go_wp2_with fail
        go_ret2
        exact ⟨x, _, rfl, HR.out.1, HR.out.2.1, HR.out.2.2⟩
end

end Go.Proofs.YthkkcnnlfjchaaaDoor
