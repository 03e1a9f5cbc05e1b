/- tlb: Evict. -/
import Derived.Test.YtclcickhgoiooaaT6
namespace Go.Proofs.Ytclcickhgoiooaa
open Go.RowKit
set_option maxRecDepth 10000

/-- The place of a set and a way. -/
def evI (s k : Nat) (set way : Int) : Option Nat := if 0 ≤ set ∧ set < s ∧ 0 ≤ way ∧ way < k then some (set.toNat * k + way.toNat) else none
theorem evI_no {s k : Nat} {set way : Int} (h : ¬ (0 ≤ set ∧ set < s ∧ 0 ≤ way ∧ way < k)) : evI s k set way = none := if_neg h
theorem evI_ok {s k : Nat} (x y : Nat) (h1 : x < s) (h2 : y < k) : evI s k x y = some (x * k + y) := by
  unfold evI
  rw [if_pos (by omega), Int.toNat_natCast, Int.toNat_natCast]
def evB (T : Nat → PC) (s k : Nat) (set way : Int) : Bool := match evI s k set way with | some i => (T i).on | none => false
def evT (T : Nat → PC) (s k : Nat) (set way : Int) : Nat → PC := match evI s k set way with | some i => updP T i zP | none => T

section
variable {w : World} {b g s k : Nat} {T : Nat → PC}
set_option maxHeartbeats 4000000 in
theorem evict_ok (h : TP w b g s k T) (x y : Nat) (hx : x < s) (hy : y < k) :
    Calls Try.prog 17 #[.pointer (some ⟨b, 0, none⟩), .int .i64 (x : Int), .int .i64 (y : Int)] w fun e w' => e = .returned (.bool (T (x * k + y)).on) ∧ TP w' b g s k (updP T (x * k + y) zP) ∧ Fr (· = g) w w' := by
  have cS := sets_any h
  have n1 := h.n1
  have hi : x * k + y < s * k := by
    have := Nat.mul_le_mul_right k (show x + 1 ≤ s from hx)
    rw [Nat.add_mul] at this
    omega
  have HT : Hid (TP w b g s k T ∧ x * k + y < s * k) := ⟨h, hi⟩
  have s1 := h.s1
  have kk := h.k1
  obtain ⟨C, hC⟩ : ∃ C, T (x * k + y) = C := ⟨_, rfl⟩
  obtain ⟨on, l⟩ := C
  obtain ⟨N, hN⟩ : ∃ N, s * k = N := ⟨_, rfl⟩
  rw [hN] at n1 hi
  obtain ⟨c, hc⟩ : ∃ c, x * k = c := ⟨_, rfl⟩
  have e1 : (x : Int) * (k : Int) = (c : Int) := by rw [← hc]; exact (Int.natCast_mul x k).symm
  obtain ⟨n, hn⟩ : ∃ n, c + y = n := ⟨_, rfl⟩
  have hcn : x * k + y = n := by omega
  rw [hcn] at HT hC hi ⊢
  rw [hC]
  have d1 : ¬ (x : Int) < 0 := by omega
  have d2 : ¬ (s : Int) ≤ (x : Int) := by omega
  have d3 : ¬ (y : Int) < 0 := by omega
  have d4 : ¬ (k : Int) ≤ (y : Int) := by omega
  have d5 : ¬ s ≤ x := by omega
  have d6 : ¬ k ≤ y := by omega
  have e2 : (c : Int) + (y : Int) = (n : Int) := by omega
  have y1 : (n : Int) < N := by omega
  have y2 : (N : Int) ≤ 512 := by omega
  have HC : Hid (T n = ⟨on, l⟩ ∧ s * k = N) := ⟨hC, hN⟩
  clear h hc hn hcn hC hN hx hy n1 hi
  go_enter Try.func17, Try.ntmps17
  go_wp2_with fail
  with_reducible refine cS.mono ?_
  rintro e w1 ⟨rfl, D1⟩
  have T1 := HT.out.1.kp D1.kp
  have c0 := T1.c0
  have c1 := T1.c1
  rw [HC.out.2] at c1
  have cc : ∀ m y, (encP ⟨on, l⟩)[m]? = some y → w1.cell? ⟨g, n * 12 + m, none⟩ = some y := fun m y hy => T1.row.cell n m y HT.out.2 (by rw [HC.out.1]; exact hy)
  have o0 := cc 0 _ rfl
  have o1 := cc 1 _ rfl
  have o2 := cc 2 _ rfl
  have o3 := cc 3 _ rfl
  have o4 := cc 4 _ rfl
  have o5 := cc 5 _ rfl
  have o6 := cc 6 _ rfl
  have o7 := cc 7 _ rfl
  have o8 := cc 8 _ rfl
  have o9 := cc 9 _ rfl
  have o10 := cc 10 _ rfl
  have o11 := cc 11 _ rfl
  simp only [Nat.add_zero] at o0
  clear cc
  have fg := T1.row.fz
  have HS : Hid (TP w1 b g s k T ∧ Kp w w1) := ⟨T1, D1.kp⟩
  clear T1 D1 cS
  go_wp2
  rw [← putR_12]
  go_ret
  exact ⟨rfl, HS.out.1.put n HT.out.2 zP, (HS.out.2.fr _).trans (putR_fr w1 g (n * 12) (encP zP))⟩

set_option maxHeartbeats 4000000 in
theorem evict_no (h : TP w b g s k T) (x y : Int) (hx : ¬ (0 ≤ x ∧ x < s ∧ 0 ≤ y ∧ y < k)) :
    Calls Try.prog 17 #[.pointer (some ⟨b, 0, none⟩), .int .i64 x, .int .i64 y] w fun e w' => e = .returned (.bool false) ∧ Dr w w' := by
  have cS := sets_any h
  have HT : Hid (TP w b g s k T) := h
  clear h
  by_cases c1 : x < 0
  · have d1 : decide (x < 0) = true := decide_eq_true c1
    clear hx
    go_enter Try.func17, Try.ntmps17
    go_wp2
    go_ret
    exact ⟨rfl, Dr.refl w⟩
  have d1 : decide (x < 0) = false := decide_eq_false c1
  by_cases c2 : (s : Int) ≤ x
  · have d2 : decide ((s : Int) ≤ x) = true := decide_eq_true c2
    clear hx
    go_enter Try.func17, Try.ntmps17
    go_wp2_with fail
    with_reducible refine cS.mono ?_
    rintro e w1 ⟨rfl, D1⟩
    have HD : Hid (Dr w w1) := D1
    clear D1
    go_wp2
    go_ret
    exact ⟨rfl, HD.out⟩
  have d2 : decide ((s : Int) ≤ x) = false := decide_eq_false c2
  by_cases c3 : y < 0
  · have d3 : decide (y < 0) = true := decide_eq_true c3
    clear hx
    go_enter Try.func17, Try.ntmps17
    go_wp2_with fail
    with_reducible refine cS.mono ?_
    rintro e w1 ⟨rfl, D1⟩
    have HD : Hid (Dr w w1) := D1
    clear D1
    go_wp2
    go_ret
    exact ⟨rfl, HD.out⟩
  have d3 : decide (y < 0) = false := decide_eq_false c3
  have c4 : (k : Int) ≤ y := by omega
  have d4 : decide ((k : Int) ≤ y) = true := decide_eq_true c4
  clear hx
  go_enter Try.func17, Try.ntmps17
  go_wp2_with fail
  with_reducible refine cS.mono ?_
  rintro e w1 ⟨rfl, D1⟩
  have c0 := (HT.out.kp D1.kp).c0
  have HD : Hid (Dr w w1) := D1
  clear D1
  go_wp2
  go_ret
  exact ⟨rfl, HD.out⟩

theorem evict_any (h : TP w b g s k T) (x y : Int) :
    Calls Try.prog 17 #[.pointer (some ⟨b, 0, none⟩), .int .i64 x, .int .i64 y] w fun e w' => e = .returned (.bool (evB T s k x y)) ∧ TP w' b g s k (evT T s k x y) ∧ Fr (· = g) w w' := by
  by_cases hx : 0 ≤ x ∧ x < s ∧ 0 ≤ y ∧ y < k
  · obtain ⟨x', rfl⟩ : ∃ x' : Nat, x = (x' : Int) := ⟨x.toNat, by omega⟩
    obtain ⟨y', rfl⟩ : ∃ y' : Nat, y = (y' : Int) := ⟨y.toNat, by omega⟩
    have e1 := evI_ok (s := s) (k := k) x' y' (by omega) (by omega)
    rw [show evB T s k x' y' = (T (x' * k + y')).on from by unfold evB; rw [e1], show evT T s k x' y' = updP T (x' * k + y') zP from by unfold evT; rw [e1]]
    exact evict_ok h x' y' (by omega) (by omega)
  · have e1 := evI_no hx
    rw [show evB T s k x y = false from by unfold evB; rw [e1], show evT T s k x y = T from by unfold evT; rw [e1]]
    exact (evict_no h x y hx).mono fun e w' ⟨e2, D⟩ => ⟨e2, h.kp D.kp, D.kp.fr _⟩
end

end Go.Proofs.Ytclcickhgoiooaa
