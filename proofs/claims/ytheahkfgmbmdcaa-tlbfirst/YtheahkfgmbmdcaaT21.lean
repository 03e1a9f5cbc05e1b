/- The document's tlb: Evict, Find, List. -/
import Derived.Test.YtheahkfgmbmdcaaT20
import Derived.Test.YtheahkfgmbmdcaaT7
import Derived.Test.YtheahkfgmbmdcaaT8
namespace Go.Proofs.Ytheahkfgmbmdcaa
open Go.RowKit
set_option maxRecDepth 10000

section
variable {w : World} {b g s k : Nat} {T : Nat → PC}
set_option maxHeartbeats 4000000 in
theorem revict_ok (h : TR w b g s k T) (x y : Nat) (hx : x < s) (hy : y < k) :
    Calls Try.prog 12 #[.pointer (some ⟨b, 0, none⟩), .int .i64 (x : Int), .int .i64 (y : Int)] w fun e w' => e = .returned (.bool (T (x * k + y)).on) ∧ TR w' b g s k (updP T (x * k + y) zP) ∧ Fr (· = g) w w' := by
  have n1 := h.n1
  have hi : x * k + y < s * k := by
    have := Nat.mul_le_mul_right k (show x + 1 ≤ s from hx)
    rw [Nat.add_mul] at this
    omega
  have HT : Hid (TR w b g s k T ∧ x * k + y < s * k) := ⟨h, hi⟩
  have s1 := h.s1
  have kk := h.k1
  obtain ⟨C, hC⟩ : ∃ C, T (x * k + y) = C := ⟨_, rfl⟩
  obtain ⟨on, l⟩ := C
  obtain ⟨N, hN⟩ : ∃ N, s * k = N := ⟨_, rfl⟩
  rw [hN] at n1 hi
  obtain ⟨c, hc⟩ : ∃ c, x * k = c := ⟨_, rfl⟩
  have e1 : (x : Int) * (k : Int) = (c : Int) := by rw [← hc]; exact (Int.natCast_mul x k).symm
  obtain ⟨n, hn⟩ : ∃ n, c + y = n := ⟨_, rfl⟩
  have hcn : x * k + y = n := by omega
  rw [hcn] at HT hC hi ⊢
  rw [hC]
  have d1 : ¬ (x : Int) < 0 := by omega
  have d2 : ¬ (s : Int) ≤ (x : Int) := by omega
  have d3 : ¬ (y : Int) < 0 := by omega
  have d4 : ¬ (k : Int) ≤ (y : Int) := by omega
  have d5 : ¬ s ≤ x := by omega
  have d6 : ¬ k ≤ y := by omega
  have e2 : (c : Int) + (y : Int) = (n : Int) := by omega
  have y1 : (n : Int) < N := by omega
  have y2 : (N : Int) ≤ 512 := by omega
  have HC : Hid (T n = ⟨on, l⟩ ∧ s * k = N) := ⟨hC, hN⟩
  clear h hc hn hcn hC hN hx hy n1 hi
  have c0 := HT.out.1.c0
  have c1 := HT.out.1.c1
  have c2 := HT.out.1.c2
  rw [HC.out.2] at c2
  have cc : ∀ m y, (encP ⟨on, l⟩)[m]? = some y → w.cell? ⟨g, n * 12 + m, none⟩ = some y := fun m y hy => HT.out.1.row.cell n m y HT.out.2 (by rw [HC.out.1]; exact hy)
  have o0 := cc 0 _ rfl
  have o1 := cc 1 _ rfl
  have o2 := cc 2 _ rfl
  have o3 := cc 3 _ rfl
  have o4 := cc 4 _ rfl
  have o5 := cc 5 _ rfl
  have o6 := cc 6 _ rfl
  have o7 := cc 7 _ rfl
  have o8 := cc 8 _ rfl
  have o9 := cc 9 _ rfl
  have o10 := cc 10 _ rfl
  have o11 := cc 11 _ rfl
  simp only [Nat.add_zero] at o0
  clear cc
  have fg := HT.out.1.row.fz
  go_enter Try.func12, Try.ntmps12
  go_wp2
  rw [← putR_12]
  go_ret
  exact ⟨rfl, HT.out.1.put n HT.out.2 zP, putR_fr w g (n * 12) (encP zP)⟩

set_option maxHeartbeats 4000000 in
theorem revict_no (h : TR w b g s k T) (x y : Int) (hx : ¬ (0 ≤ x ∧ x < s ∧ 0 ≤ y ∧ y < k)) :
    Calls Try.prog 12 #[.pointer (some ⟨b, 0, none⟩), .int .i64 x, .int .i64 y] w fun e w' => e = .returned (.bool false) ∧ Dr w w' := by
  have c0 := h.c0
  have cc1 := h.c1
  clear h
  by_cases c1 : x < 0
  · have d1 : decide (x < 0) = true := decide_eq_true c1
    clear hx
    go_enter Try.func12, Try.ntmps12
    go_wp2
    go_ret
    exact ⟨rfl, Dr.refl w⟩
  have d1 : decide (x < 0) = false := decide_eq_false c1
  by_cases c2 : (s : Int) ≤ x
  · have d2 : decide ((s : Int) ≤ x) = true := decide_eq_true c2
    clear hx
    go_enter Try.func12, Try.ntmps12
    go_wp2
    go_ret
    exact ⟨rfl, Dr.refl w⟩
  have d2 : decide ((s : Int) ≤ x) = false := decide_eq_false c2
  by_cases c3 : y < 0
  · have d3 : decide (y < 0) = true := decide_eq_true c3
    clear hx
    go_enter Try.func12, Try.ntmps12
    go_wp2
    go_ret
    exact ⟨rfl, Dr.refl w⟩
  have d3 : decide (y < 0) = false := decide_eq_false c3
  have c4 : (k : Int) ≤ y := by omega
  have d4 : decide ((k : Int) ≤ y) = true := decide_eq_true c4
  clear hx
  go_enter Try.func12, Try.ntmps12
  go_wp2
  go_ret
  exact ⟨rfl, Dr.refl w⟩

theorem revict_any (h : TR w b g s k T) (x y : Int) :
    Calls Try.prog 12 #[.pointer (some ⟨b, 0, none⟩), .int .i64 x, .int .i64 y] w fun e w' => e = .returned (.bool (evB T s k x y)) ∧ TR w' b g s k (evT T s k x y) ∧ Fr (· = g) w w' := by
  by_cases hx : 0 ≤ x ∧ x < s ∧ 0 ≤ y ∧ y < k
  · obtain ⟨x', rfl⟩ : ∃ x' : Nat, x = (x' : Int) := ⟨x.toNat, by omega⟩
    obtain ⟨y', rfl⟩ : ∃ y' : Nat, y = (y' : Int) := ⟨y.toNat, by omega⟩
    have e1 := evI_ok (s := s) (k := k) x' y' (by omega) (by omega)
    rw [show evB T s k x' y' = (T (x' * k + y')).on from by unfold evB; rw [e1], show evT T s k x' y' = updP T (x' * k + y') zP from by unfold evT; rw [e1]]
    exact revict_ok h x' y' (by omega) (by omega)
  · have e1 := evI_no hx
    rw [show evB T s k x y = false from by unfold evB; rw [e1], show evT T s k x y = T from by unfold evT; rw [e1]]
    exact (revict_no h x y hx).mono fun e w' ⟨e2, D⟩ => ⟨e2, h.kp D.kp, D.kp.fr _⟩
end


def rfB (T : Nat → PC) (N : Nat) (i a : Int) (v : Nat) : Bool := !(atI T N i a v == -1)
def rfL (T : Nat → PC) (N : Nat) (i a : Int) (v : Nat) : LN := if atI T N i a v = -1 then zL else (T (atI T N i a v).toNat).l
section
variable {w : World} {b g s k : Nat} {T : Nat → PC}
set_option maxHeartbeats 4000000 in
theorem rfind_any (h : TR w b g s k T) (i a : Int) (v : Nat) :
    Calls Try.prog 15 #[.pointer (some ⟨b, 0, none⟩), .int .i64 i, .int .i64 a, .int .u64 (v : Int)] w fun e w' => e = .returned (.tuple #[lnV (rfL T (s * k) i a v), .bool (rfB T (s * k) i a v)]) ∧ Kp w w' := by
  obtain ⟨w1, hw1⟩ : ∃ w1, w1 = w.alloc (.cells (encL zL).toArray 34) := ⟨_, rfl⟩
  have K1 : Kp w w1 := by rw [hw1]; exact (Kp.refl w).alloc _
  have X1 : RX w1 w.heap.size 34 (encL zL) := by rw [hw1]; exact RX.made w _ _
  have cA := rat_any (h.kp K1) i a v
  have sz := sr_cases (fun j => keyB i a v (T j)) (s * k) 0
  rw [show sr (fun j => keyB i a v (T j)) (s * k) 0 = atI T (s * k) i a v from rfl] at sz
  obtain ⟨L, hL⟩ : ∃ L, rfL T (s * k) i a v = L := ⟨_, rfl⟩
  obtain ⟨B, hB⟩ : ∃ B, rfB T (s * k) i a v = B := ⟨_, rfl⟩
  rw [hL, hB]
  unfold rfL at hL
  unfold rfB at hB
  generalize atI T (s * k) i a v = z at *
  have HL : Hid ((if z = -1 then zL else (T z.toNat).l) = L ∧ (!(z == -1)) = B) := ⟨hL, hB⟩
  have HT : Hid (TR w b g s k T ∧ Kp w w1 ∧ RX w1 w.heap.size 34 (encL zL)) := ⟨h, K1, X1⟩
  have n1 := h.n1
  obtain ⟨N, hN⟩ : ∃ N, s * k = N := ⟨_, rfl⟩
  rw [hN] at sz n1
  have HN : Hid (s * k = N) := hN
  clear K1 X1 h hL hB hN
  go_enter Try.func15, Try.ntmps15
  go_wp2_with fail
  rw [show w.alloc (.cells #[.int .i64 0, .int .i64 0, .int .u64 0, .int .u64 0, .int .i64 0, .bool false, .bool false, .bool false, .bool false, .bool false, .bool false] 34) = w1 from hw1.symm]
  with_reducible refine cA.mono ?_
  rintro e w4 ⟨rfl, K4⟩
  have HE : Hid (Kp w w4) := HT.out.2.1.trans K4
  have X4 := HT.out.2.2.kp K4
  have T4 := HT.out.1.kp HE.out
  have fz := X4.fz
  have e0 := X4.cell (j := 0) rfl
  have e1 := X4.cell (j := 1) rfl
  have e2 := X4.cell (j := 2) rfl
  have e3 := X4.cell (j := 3) rfl
  have e4 := X4.cell (j := 4) rfl
  have e5 := X4.cell (j := 5) rfl
  have e6 := X4.cell (j := 6) rfl
  have e7 := X4.cell (j := 7) rfl
  have e8 := X4.cell (j := 8) rfl
  have e9 := X4.cell (j := 9) rfl
  have e10 := X4.cell (j := 10) rfl
  have HX : Hid (RX w4 w.heap.size 34 (encL zL)) := X4
  have c2 := T4.c2
  rw [HN.out] at c2
  clear K4 cA X4 hw1
  rcases sz with ⟨rfl, _⟩ | ⟨j, rfl, _, j2, _, _⟩
  · have e := HL.out
    rw [if_pos rfl] at e
    obtain ⟨rfl, rfl⟩ := e
    clear T4 HT HL HN
    go_wp2
    rw [← putR_11z]
    exact bodyPost_ret (res_ln2 (l := zL) rfl rfl (HX.out.put (U := encL zL) rfl)) rfl ⟨rfl, Kp.putR (Nat.le_refl _) _ _ _ HE.out⟩
  · have e := HL.out
    rw [if_neg (by omega), show ((j : Int) == -1) = false from by rw [beq_eq_false_iff_ne]; omega, Int.toNat_natCast] at e
    have y1 : (j : Int) < N := by omega
    have y2 : (N : Int) ≤ 512 := by omega
    have y3 : (0 : Int) ≤ (j : Int) := by omega
    have cc : ∀ m y, (encP (T j))[m]? = some y → w4.cell? ⟨g, j * 12 + m, none⟩ = some y := fun m y hy => T4.row.cell j m y (by rw [HN.out]; omega) hy
    clear T4 HT HL HN
    obtain ⟨C, hC⟩ : ∃ C, T j = C := ⟨_, rfl⟩
    rw [hC] at cc e
    clear hC
    obtain ⟨on, l⟩ := C
    replace e : l = L ∧ true = B := e
    obtain ⟨rfl, rfl⟩ := e
    have x1 := cc 1 _ rfl
    have x2 := cc 2 _ rfl
    have x3 := cc 3 _ rfl
    have x4 := cc 4 _ rfl
    have x5 := cc 5 _ rfl
    have x6 := cc 6 _ rfl
    have x7 := cc 7 _ rfl
    have x8 := cc 8 _ rfl
    have x9 := cc 9 _ rfl
    have x10 := cc 10 _ rfl
    have x11 := cc 11 _ rfl
    clear cc
    go_wp2
    rw [← putR_11z]
    exact bodyPost_ret (res_ln2 (l := l) rfl rfl (HX.out.put (U := encL l) rfl)) rfl ⟨rfl, Kp.putR (Nat.le_refl _) _ _ _ HE.out⟩

set_option maxHeartbeats 4000000 in
theorem rlist_any (h : TR w b g s k T) :
    Calls Try.prog 18 #[.pointer (some ⟨b, 0, none⟩)] w fun e w' => (∃ v, e = .returned v ∧ LL w' w.heap.size v (lsT T (s * k))) ∧ Kp w w' := by
  have n1 := h.n1
  obtain ⟨N, hN⟩ : ∃ N, s * k = N := ⟨_, rfl⟩
  have HT : Hid (TR w b g s k T ∧ s * k = N) := ⟨h, hN⟩
  rw [hN] at n1 ⊢
  clear h hN
  have y2 : (N : Int) ≤ 512 := by omega
  go_enter Try.func18, Try.ntmps18
  go_wp2_with fail
  go_loopg [3, 4] N (fun gk v3 v4 wr => ∃ n : Nat, v4 = .int .i64 (n : Int) ∧ n ≤ N ∧ N - n ≤ gk ∧ Hid (LL wr w.heap.size v3 (lsT T n)) ∧ Hid (Kp w wr))
  case atStart => exact ⟨0, rfl, by omega, by omega, LL.nil _ _, Kp.refl w⟩
  case round =>
    obtain ⟨n, rfl, n2, hg, HL, HK⟩ := hrel
    have T2 := HT.out.1.kp HK.out
    have c2 := T2.c2
    rw [HT.out.2] at c2
    by_cases hn : n < N
    · have y1 : (n : Int) < N := by omega
      have cc : ∀ m y, (encP (T n))[m]? = some y → wr.cell? ⟨g, n * 12 + m, none⟩ = some y := fun m y hy => T2.row.cell n m y (by rw [HT.out.2]; exact hn) hy
      have e1 := @lsT_on T n
      have e2 := @lsT_off T n
      have l1 := lsT_len T n
      obtain ⟨C, hC⟩ : ∃ C, T n = C := ⟨_, rfl⟩
      rw [hC] at cc e1 e2
      obtain ⟨on, l⟩ := C
      have o0 := cc 0 _ rfl
      have o1 := cc 1 _ rfl
      have o2 := cc 2 _ rfl
      have o3 := cc 3 _ rfl
      have o4 := cc 4 _ rfl
      have o5 := cc 5 _ rfl
      have o6 := cc 6 _ rfl
      have o7 := cc 7 _ rfl
      have o8 := cc 8 _ rfl
      have o9 := cc 9 _ rfl
      have o10 := cc 10 _ rfl
      have o11 := cc 11 _ rfl
      simp only [Nat.add_zero] at o0
      clear cc T2 hC
      cases on
      · have HL2 : Hid (LL wr w.heap.size u3 (lsT T (n + 1))) := by
          show LL wr w.heap.size u3 (lsT T (n + 1))
          rw [e2 rfl]; exact HL.out
        clear e1 e2 HL
        go_wp2
        go_roundg (N - (n + 1))
        case measure => omega
        case rel => exact ⟨n + 1, by go_num, by omega, by omega, HL2, HK⟩
      · obtain ⟨v', w3, r1, r2, r3, _⟩ := HL.out.snoc HK.out.size l (by omega)
        have HL2 : Hid (LL w3 w.heap.size v' (lsT T (n + 1))) := by
          show LL w3 w.heap.size v' (lsT T (n + 1))
          rw [e1 rfl]; exact r2
        have HK2 : Hid (Kp w w3) := r3 w (Nat.le_refl _) HK.out
        clear e1 e2 HL HK r2 r3
        repeat' (first | ((with_reducible refine wp_append_of r1 (.tmp 22) (.tmp 31) ?_ ?_ ?_ ?_ ?_); rfl; rfl; rfl; rfl) | go_values | go_skip | go_guarded | go_step | go_upon | go_back | (simp only []) | (go_values <;> (try go_simp)) | (go_ite <;> go_prune <;> (try go_simp)))
        go_roundg (N - (n + 1))
        case measure => omega
        case rel => exact ⟨n + 1, by go_num, by omega, by omega, HL2, HK2⟩
    · have en : n = N := by omega
      subst en
      clear T2
      go_wp2
      go_ret
      exact ⟨⟨_, rfl, HL.out⟩, HK.out⟩
end

end Go.Proofs.Ytheahkfgmbmdcaa
