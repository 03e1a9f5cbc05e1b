/- BitsBack: the walk. -/
import Derived.Test.YtddklpbddpjklaaB15
import Derived.Test.YtddklpbddpjklaaMask
namespace Go.Proofs.Ytddklpbddpjklaa
open Go.RowKit

theorem get_all (b n cap : Nat) (p s : Int) (f : Nat → Nat) (w : World) (H : BS w b 0 n f) (hn : n ≤ 1000000) (hcap : n ≤ cap) (h3 : -9223372036854775808 ≤ p) (h4 : p ≤ 9223372036854775807) :
    Calls Try.prog 10 #[.slice (some ⟨b, 0, none⟩) n cap, .int .i64 p, .int .i64 s] w fun e w' => ∃ x : Int, e = .returned (.tuple #[.int .u64 x, .int .i64 (chk n p s)]) ∧ w' = w := by
  by_cases c : chk n p s = 0
  · have h := chk_zero c
    obtain ⟨p, rfl⟩ : ∃ k : Nat, p = k := ⟨p.toNat, by omega⟩
    obtain ⟨s, rfl⟩ : ∃ k : Nat, s = k := ⟨s.toNat, by omega⟩
    rw [c]
    exact (get_some b n cap p s f w H hn hcap (by omega) (by omega) (by omega) c).mono fun _ _ ⟨h1, h2⟩ => ⟨_, h1, h2⟩
  · exact (get_none (some ⟨b, 0, none⟩) n cap p s _ w hn h3 h4 rfl c).mono fun _ _ ⟨h1, h2⟩ => ⟨_, h1, h2⟩

theorem numb_put (f : Nat → Nat) (p s v : Nat) : ∀ k, k ≤ s → numb (putF f p s v) p k = v % 2 ^ (8 * k)
  | 0, _ => by simp [numb, Nat.mod_one]
  | k + 1, h => by
    have ih := numb_put f p s v k (by omega)
    have e : putF f p s v (p + k) = v / 2 ^ (8 * k) % 256 := by
      unfold putF; rw [if_pos (by omega), show p + k - p = k by omega]
    unfold numb
    rw [ih, e, show 8 * (k + 1) = 8 * k + 8 by omega, Nat.pow_add, Nat.mod_mul, Nat.mul_comm (2 ^ (8 * k))]

theorem tmod_bounds (a : Int) (c : Nat) (h : 0 < c) : -(c : Int) < a.tmod c ∧ a.tmod c < c := by
  have h1 := Int.tmod_lt_of_pos a (b := (c : Int)) (by omega)
  have h2 := Int.tmod_lt_of_pos (-a) (b := (c : Int)) (by omega)
  rw [Int.neg_tmod] at h2
  omega

set_option maxHeartbeats 4000000 in
set_option maxRecDepth 100000 in
theorem back_few (na : Option Addr) (m cap n : Nat) (p k v : Int) (f : Nat → Int) (w : World) (hn : n < 8)
    (C0 : Calls Try.prog 9 #[.slice na m cap] w fun e w' => ∃ g cap', e = .returned (.slice (some ⟨g, 0, none⟩) n cap') ∧ OP w' w.heap.size g (n + 1) cap' (upd (fb f) n 165) ∧ Kp w w') :
    Calls Try.prog 6 #[.slice na m cap, .int .i64 p, .int .i64 k, .int .u64 v] w fun e w' => e = .returned (.bool true) ∧ Kp w w' := by
  have z : (n : Int) < 8 := by omega
  go_enter Try.func6, Try.ntmps6
  go_wp2_with fail
  with_reducible refine C0.mono ?_
  rintro e w1 ⟨g, cap1, rfl, O1, K1⟩
  have HK1 : Aside (Kp w w1) := K1
  clear C0 O1 K1
  go_wp2_with fail
  with_reducible refine (told_any _).mono ?_
  rintro e w2 ⟨rfl, K2⟩
  have HK2 : Aside (Kp w w2) := HK1.out.trans K2
  clear K2 HK1
  go_wp2_with fail
  go_ret
  exact ⟨rfl, HK2.out⟩

set_option maxHeartbeats 16000000 in
set_option maxRecDepth 100000 in
theorem back_1 (na : Option Addr) (m cap n : Nat) (at0 k : Int) (v : Nat) (f : Nat → Int) (w : World) (hn : n ≤ 200) (hn8 : 8 ≤ n) (hk : k % 4 = 0) (hv : v < 18446744073709551616)
    (C0 : Calls Try.prog 9 #[.slice na m cap] w fun e w' => ∃ g cap', e = .returned (.slice (some ⟨g, 0, none⟩) n cap') ∧ OP w' w.heap.size g (n + 1) cap' (upd (fb f) n 165) ∧ Kp w w') :
    Calls Try.prog 6 #[.slice na m cap, .int .i64 at0, .int .i64 k, .int .u64 (v : Int)] w fun e w' => e = .returned (.bool true) ∧ Kp w w' := by
  have mixed : Try.prog.follows .mixedOrders = true := by kernel_rfl
  have m0 := mask2 k
  rw [hk] at m0
  have m1 : bits .and .u64 (v : Int) 255 = ((v % 256 : Nat) : Int) := by
    have h := u64_and_nat v 255 hv (by decide)
    rw [nat_mask8] at h
    exact h
  have hc : n = n := rfl
  obtain ⟨d, hd⟩ : ∃ d : Int, at0.tmod (n : Int) = d := ⟨_, rfl⟩
  have db := tmod_bounds at0 n (by omega)
  rw [hd] at db
  have db1 := db.1
  have db2 := db.2
  have e0 := Int.emod_nonneg (d + n) (b := (n : Int)) (by omega)
  have e1 := Int.emod_lt_of_pos (d + n) (b := (n : Int)) (by omega)
  obtain ⟨p, hq⟩ : ∃ p : Nat, (d + n) % (n : Int) = p := ⟨((d + n) % (n : Int)).toNat, by omega⟩
  have hq2 : (d + n).tmod (n : Int) = p := by rw [Int.tmod_eq_emod_of_nonneg (by omega)]; exact hq
  rw [hq] at e1
  have hp : n = n := rfl
  have hps : p + 1 ≤ n := by omega
  have hck : chk n p 1 = 0 := by
    rw [chk_of (by omega), if_neg (by rw [Int.tmod_eq_emod_of_nonneg (by omega)]; omega), if_neg (by omega)]
  have hc1 : (0 : Int) < n := by omega
  have hc2 : ¬ (n : Int) = 0 := by omega
  have hc3 : (n : Int) ≤ 200 := by omega
  have y1 : (n : Int) ≤ 200 := by omega
  have y2 : ¬ (n : Int) < 8 := by omega
  have y3 : (p : Int) + 1 ≤ n := by omega
  have y4 : (p : Int) ≤ 200 := by omega
  have F : Hid ((p : Int) + 1 ≤ n) := by exact y3
  obtain ⟨r, hr⟩ : ∃ r : Int, chk n ((p : Int) + 1) 2 = r := ⟨_, rfl⟩
  have hr1 : (r == 1) = false := by
    rw [← hr]
    rw [chk_of (by omega)]
    split
    · rfl
    · split <;> rfl
  clear e0 db hc hp hn8 hk F
  go_enter Try.func6, Try.ntmps6
  go_wp2_with fail
  with_reducible refine C0.mono ?_
  rintro e w1 ⟨g, cap1, rfl, O1, K1⟩
  have HO1 : Aside (OP w1 w.heap.size g (n + 1) cap1 (upd (fb f) n 165)) := O1
  have HK1 : Aside (Kp w w1) := K1
  have B1 : BS w1 g 0 n (upd (fb f) n 165) := O1.bs.less (by omega)
  have gl := O1.facts.2.2
  have c3 : Calls Try.prog 12 #[.slice (some ⟨g, 0, none⟩) n cap1, .int .i64 (p : Int), .int .i64 1, .int .u64 (v : Int)] w1 fun e w' => ∃ g' cap', e = .returned (.tuple #[.slice (some ⟨g', 0, none⟩) n cap', .int .i64 0]) ∧ OP w' w1.heap.size g' n cap' (putF (upd (fb f) n 165) p 1 v) ∧ Kp w1 w' := put_some g n cap1 p 1 v _ w1 B1 (by omega) (by decide) hps hv hck
  have C4 : Aside (∀ w2 g2 cap2, OP w2 w1.heap.size g2 n cap2 (putF (upd (fb f) n 165) p 1 v) → Calls Try.prog 10 #[.slice (some ⟨g2, 0, none⟩) n cap2, .int .i64 (p : Int), .int .i64 1] w2 fun e w' => e = .returned (.tuple #[.int .u64 ((v % 256 : Nat) : Int), .int .i64 0]) ∧ w' = w2) := fun w2 g2 cap2 O2 => by
    have := get_some g2 n cap2 p 1 _ w2 O2.bs (by omega) O2.facts.2.2 (by decide) (by decide) hps hck
    rw [numb_put _ _ _ _ _ (Nat.le_refl _)] at this
    exact this
  have C5 : Aside (∀ w2 (_ : Kp w1 w2), Calls Try.prog 10 #[.slice (some ⟨g, 0, none⟩) n cap1, .int .i64 ((p : Int) + 1), .int .i64 2] w2 fun e w' => ∃ x : Int, e = .returned (.tuple #[.int .u64 x, .int .i64 r]) ∧ w' = w2) := fun w2 k => by
    have := get_all g n cap1 ((p : Int) + 1) 2 _ w2 (B1.kp k) (by omega) (by omega) (by omega) (by omega)
    rw [hr] at this
    exact this
  clear C0 O1 K1 B1 gl hck hps hr
  go_wp2_with fail
  with_reducible refine c3.mono ?_
  rintro e w2 ⟨g2, cap2, rfl, O2, K2⟩
  clear c3
  have c5 := C4.out w2 g2 cap2 O2
  have HO2 : Aside (OP w2 w1.heap.size g2 n cap2 (putF (upd (fb f) n 165) p 1 v)) := O2
  have HK2 : Aside (Kp w1 w2) := K2
  clear O2 K2 C4
  go_wp2_with fail
  with_reducible refine c5.mono ?_
  rintro e w2 ⟨rfl, rfl⟩
  clear c5
  go_wp2_with fail
  go_loopg [16] n (fun gg v16 wr => ∃ i : Nat, v16 = .int .i64 i ∧ i ≤ n ∧ n - i ≤ gg ∧ Aside (Kp w2 wr))
  case atStart => exact ⟨0, rfl, by omega, by omega, Kp.refl _⟩
  case round =>
    obtain ⟨i, rfl, hi, hg, HK⟩ := hrel
    by_cases hlt : i < n
    · have x1 : (i : Int) < n := by omega
      have d1 := (HO2.out.kp HK.out).bs.cell i hlt
      have d2 := (HO1.out.kp (HK2.out.trans HK.out)).bs.cell i (by omega)
      rw [Nat.zero_add] at d1 d2
      have HN : Aside (∀ j, Kp w2 (wr.drewN j)) := fun j => HK.out.trans ((Kp.refl wr).drewN j)
      by_cases a1 : (i : Int) < p
      · have eq : putF (upd (fb f) n 165) p 1 v i = upd (fb f) n 165 i := by unfold putF; rw [if_neg (by omega)]
        rw [eq] at d1
        generalize upd (fb f) n 165 i = z at *
        clear eq HK
        go_wp2_with fail
        go_quiet (fail)
        go_wp2
        go_roundg (n - (i + 1))
        case measure => omega
        case rel => exact ⟨i + 1, by go_num, by omega, by omega, HN.out _⟩
      · by_cases a2 : (p : Int) + 1 ≤ i
        · have eq : putF (upd (fb f) n 165) p 1 v i = upd (fb f) n 165 i := by unfold putF; rw [if_neg (by omega)]
          rw [eq] at d1
          generalize upd (fb f) n 165 i = z at *
          clear eq HK
          go_wp2_with fail
          have a1' : decide ((i : Int) < p) = false := decide_eq_false (by omega)
          have a1n : decide (i < p) = false := decide_eq_false (by omega)
          clear a1
          go_quiet (fail)
          go_wp2
          go_roundg (n - (i + 1))
          case measure => omega
          case rel => exact ⟨i + 1, by go_num, by omega, by omega, HN.out _⟩
        · clear HK d1 d2
          go_wp2_with fail
          have a1' : decide ((i : Int) < p) = false := decide_eq_false (by omega)
          have a1n : decide (i < p) = false := decide_eq_false (by omega)
          have a2' : decide ((p : Int) + 1 ≤ i) = false := decide_eq_false (by omega)
          clear a1 a2
          go_quiet (fail)
          go_wp2
          go_roundg (n - (i + 1))
          case measure => omega
          case rel => exact ⟨i + 1, by go_num, by omega, by omega, HN.out _⟩
    · have e : i = n := by omega
      subst e
      have c6 := C5.out wr (HK2.out.trans HK.out)
      have K9 : Aside (Kp w wr) := HK1.out.trans (HK2.out.trans HK.out)
      clear HO1 HO2 HK1 HK2 HK C5
      go_wp2_with fail
      with_reducible refine c6.mono ?_
      rintro e w9 ⟨x, rfl, rfl⟩
      clear c6
      go_wp2_with fail
      with_reducible refine (told_any _).mono ?_
      rintro e wz ⟨rfl, K8⟩
      have K7 : Aside (Kp w wz) := K9.out.trans K8
      clear K8 K9
      go_wp2
      go_ret
      exact ⟨rfl, K7.out⟩

set_option maxHeartbeats 16000000 in
set_option maxRecDepth 100000 in
theorem back_2 (na : Option Addr) (m cap n : Nat) (at0 k : Int) (v : Nat) (f : Nat → Int) (w : World) (hn : n ≤ 200) (hn8 : 8 ≤ n) (hk : k % 4 = 1) (hv : v < 18446744073709551616)
    (C0 : Calls Try.prog 9 #[.slice na m cap] w fun e w' => ∃ g cap', e = .returned (.slice (some ⟨g, 0, none⟩) n cap') ∧ OP w' w.heap.size g (n + 1) cap' (upd (fb f) n 165) ∧ Kp w w') :
    Calls Try.prog 6 #[.slice na m cap, .int .i64 at0, .int .i64 k, .int .u64 (v : Int)] w fun e w' => e = .returned (.bool true) ∧ Kp w w' := by
  have mixed : Try.prog.follows .mixedOrders = true := by kernel_rfl
  have m0 := mask2 k
  rw [hk] at m0
  have m1 : bits .and .u64 (v : Int) 65535 = ((v % 65536 : Nat) : Int) := by
    have h := u64_and_nat v 65535 hv (by decide)
    rw [nat_mask16] at h
    exact h
  obtain ⟨c, hc⟩ : ∃ c, c = n / 2 := ⟨_, rfl⟩
  have x1 : (n : Int) / 2 = c := by omega
  obtain ⟨d, hd⟩ : ∃ d : Int, at0.tmod (c : Int) = d := ⟨_, rfl⟩
  have db := tmod_bounds at0 c (by omega)
  rw [hd] at db
  have db1 := db.1
  have db2 := db.2
  have e0 := Int.emod_nonneg (d + c) (b := (c : Int)) (by omega)
  have e1 := Int.emod_lt_of_pos (d + c) (b := (c : Int)) (by omega)
  obtain ⟨q, hq⟩ : ∃ q : Nat, (d + c) % (c : Int) = q := ⟨((d + c) % (c : Int)).toNat, by omega⟩
  have hq2 : (d + c).tmod (c : Int) = q := by rw [Int.tmod_eq_emod_of_nonneg (by omega)]; exact hq
  rw [hq] at e1
  obtain ⟨p, hp⟩ : ∃ p : Nat, p = q * 2 := ⟨_, rfl⟩
  have hpi : (q : Int) * 2 = p := by omega
  have hps : p + 2 ≤ n := by omega
  have hck : chk n p 2 = 0 := by
    rw [chk_of (by omega), if_neg (by rw [Int.tmod_eq_emod_of_nonneg (by omega)]; omega), if_neg (by omega)]
  have hc1 : (0 : Int) < c := by omega
  have hc2 : ¬ (c : Int) = 0 := by omega
  have hc3 : (c : Int) ≤ 200 := by omega
  have y1 : (n : Int) ≤ 200 := by omega
  have y2 : ¬ (n : Int) < 8 := by omega
  have y3 : (p : Int) + 2 ≤ n := by omega
  have y4 : (p : Int) ≤ 200 := by omega
  have F : Hid ((p : Int) + 2 ≤ n) := by exact y3
  obtain ⟨r, hr⟩ : ∃ r : Int, chk n ((p : Int) + 1) 4 = r := ⟨_, rfl⟩
  have hr1 : (r == 1) = false := by
    rw [← hr]
    rw [chk_of (by omega)]
    split
    · rfl
    · split <;> rfl
  clear e0 db hc hp hn8 hk F
  go_enter Try.func6, Try.ntmps6
  go_wp2_with fail
  with_reducible refine C0.mono ?_
  rintro e w1 ⟨g, cap1, rfl, O1, K1⟩
  have HO1 : Aside (OP w1 w.heap.size g (n + 1) cap1 (upd (fb f) n 165)) := O1
  have HK1 : Aside (Kp w w1) := K1
  have B1 : BS w1 g 0 n (upd (fb f) n 165) := O1.bs.less (by omega)
  have gl := O1.facts.2.2
  have c3 : Calls Try.prog 12 #[.slice (some ⟨g, 0, none⟩) n cap1, .int .i64 (p : Int), .int .i64 2, .int .u64 (v : Int)] w1 fun e w' => ∃ g' cap', e = .returned (.tuple #[.slice (some ⟨g', 0, none⟩) n cap', .int .i64 0]) ∧ OP w' w1.heap.size g' n cap' (putF (upd (fb f) n 165) p 2 v) ∧ Kp w1 w' := put_some g n cap1 p 2 v _ w1 B1 (by omega) (by decide) hps hv hck
  have C4 : Aside (∀ w2 g2 cap2, OP w2 w1.heap.size g2 n cap2 (putF (upd (fb f) n 165) p 2 v) → Calls Try.prog 10 #[.slice (some ⟨g2, 0, none⟩) n cap2, .int .i64 (p : Int), .int .i64 2] w2 fun e w' => e = .returned (.tuple #[.int .u64 ((v % 65536 : Nat) : Int), .int .i64 0]) ∧ w' = w2) := fun w2 g2 cap2 O2 => by
    have := get_some g2 n cap2 p 2 _ w2 O2.bs (by omega) O2.facts.2.2 (by decide) (by decide) hps hck
    rw [numb_put _ _ _ _ _ (Nat.le_refl _)] at this
    exact this
  have C5 : Aside (∀ w2 (_ : Kp w1 w2), Calls Try.prog 10 #[.slice (some ⟨g, 0, none⟩) n cap1, .int .i64 ((p : Int) + 1), .int .i64 4] w2 fun e w' => ∃ x : Int, e = .returned (.tuple #[.int .u64 x, .int .i64 r]) ∧ w' = w2) := fun w2 k => by
    have := get_all g n cap1 ((p : Int) + 1) 4 _ w2 (B1.kp k) (by omega) (by omega) (by omega) (by omega)
    rw [hr] at this
    exact this
  clear C0 O1 K1 B1 gl hck hps hr
  go_wp2_with fail
  with_reducible refine c3.mono ?_
  rintro e w2 ⟨g2, cap2, rfl, O2, K2⟩
  clear c3
  have c5 := C4.out w2 g2 cap2 O2
  have HO2 : Aside (OP w2 w1.heap.size g2 n cap2 (putF (upd (fb f) n 165) p 2 v)) := O2
  have HK2 : Aside (Kp w1 w2) := K2
  clear O2 K2 C4
  go_wp2_with fail
  with_reducible refine c5.mono ?_
  rintro e w2 ⟨rfl, rfl⟩
  clear c5
  go_wp2_with fail
  go_loopg [16] n (fun gg v16 wr => ∃ i : Nat, v16 = .int .i64 i ∧ i ≤ n ∧ n - i ≤ gg ∧ Aside (Kp w2 wr))
  case atStart => exact ⟨0, rfl, by omega, by omega, Kp.refl _⟩
  case round =>
    obtain ⟨i, rfl, hi, hg, HK⟩ := hrel
    by_cases hlt : i < n
    · have x1 : (i : Int) < n := by omega
      have d1 := (HO2.out.kp HK.out).bs.cell i hlt
      have d2 := (HO1.out.kp (HK2.out.trans HK.out)).bs.cell i (by omega)
      rw [Nat.zero_add] at d1 d2
      have HN : Aside (∀ j, Kp w2 (wr.drewN j)) := fun j => HK.out.trans ((Kp.refl wr).drewN j)
      by_cases a1 : (i : Int) < p
      · have eq : putF (upd (fb f) n 165) p 2 v i = upd (fb f) n 165 i := by unfold putF; rw [if_neg (by omega)]
        rw [eq] at d1
        generalize upd (fb f) n 165 i = z at *
        clear eq HK
        go_wp2_with fail
        go_quiet (fail)
        go_wp2
        go_roundg (n - (i + 1))
        case measure => omega
        case rel => exact ⟨i + 1, by go_num, by omega, by omega, HN.out _⟩
      · by_cases a2 : (p : Int) + 2 ≤ i
        · have eq : putF (upd (fb f) n 165) p 2 v i = upd (fb f) n 165 i := by unfold putF; rw [if_neg (by omega)]
          rw [eq] at d1
          generalize upd (fb f) n 165 i = z at *
          clear eq HK
          go_wp2_with fail
          have a1' : decide ((i : Int) < p) = false := decide_eq_false (by omega)
          have a1n : decide (i < p) = false := decide_eq_false (by omega)
          clear a1
          go_quiet (fail)
          go_wp2
          go_roundg (n - (i + 1))
          case measure => omega
          case rel => exact ⟨i + 1, by go_num, by omega, by omega, HN.out _⟩
        · clear HK d1 d2
          go_wp2_with fail
          have a1' : decide ((i : Int) < p) = false := decide_eq_false (by omega)
          have a1n : decide (i < p) = false := decide_eq_false (by omega)
          have a2' : decide ((p : Int) + 2 ≤ i) = false := decide_eq_false (by omega)
          clear a1 a2
          go_quiet (fail)
          go_wp2
          go_roundg (n - (i + 1))
          case measure => omega
          case rel => exact ⟨i + 1, by go_num, by omega, by omega, HN.out _⟩
    · have e : i = n := by omega
      subst e
      have c6 := C5.out wr (HK2.out.trans HK.out)
      have K9 : Aside (Kp w wr) := HK1.out.trans (HK2.out.trans HK.out)
      clear HO1 HO2 HK1 HK2 HK C5
      go_wp2_with fail
      with_reducible refine c6.mono ?_
      rintro e w9 ⟨x, rfl, rfl⟩
      clear c6
      go_wp2_with fail
      with_reducible refine (told_any _).mono ?_
      rintro e wz ⟨rfl, K8⟩
      have K7 : Aside (Kp w wz) := K9.out.trans K8
      clear K8 K9
      go_wp2
      go_ret
      exact ⟨rfl, K7.out⟩

set_option maxHeartbeats 16000000 in
set_option maxRecDepth 100000 in
theorem back_4 (na : Option Addr) (m cap n : Nat) (at0 k : Int) (v : Nat) (f : Nat → Int) (w : World) (hn : n ≤ 200) (hn8 : 8 ≤ n) (hk : k % 4 = 2) (hv : v < 18446744073709551616)
    (C0 : Calls Try.prog 9 #[.slice na m cap] w fun e w' => ∃ g cap', e = .returned (.slice (some ⟨g, 0, none⟩) n cap') ∧ OP w' w.heap.size g (n + 1) cap' (upd (fb f) n 165) ∧ Kp w w') :
    Calls Try.prog 6 #[.slice na m cap, .int .i64 at0, .int .i64 k, .int .u64 (v : Int)] w fun e w' => e = .returned (.bool true) ∧ Kp w w' := by
  have mixed : Try.prog.follows .mixedOrders = true := by kernel_rfl
  have m0 := mask2 k
  rw [hk] at m0
  have m1 : bits .and .u64 (v : Int) 4294967295 = ((v % 4294967296 : Nat) : Int) := by
    have h := u64_and_nat v 4294967295 hv (by decide)
    rw [nat_mask32] at h
    exact h
  obtain ⟨c, hc⟩ : ∃ c, c = n / 4 := ⟨_, rfl⟩
  have x1 : (n : Int) / 4 = c := by omega
  obtain ⟨d, hd⟩ : ∃ d : Int, at0.tmod (c : Int) = d := ⟨_, rfl⟩
  have db := tmod_bounds at0 c (by omega)
  rw [hd] at db
  have db1 := db.1
  have db2 := db.2
  have e0 := Int.emod_nonneg (d + c) (b := (c : Int)) (by omega)
  have e1 := Int.emod_lt_of_pos (d + c) (b := (c : Int)) (by omega)
  obtain ⟨q, hq⟩ : ∃ q : Nat, (d + c) % (c : Int) = q := ⟨((d + c) % (c : Int)).toNat, by omega⟩
  have hq2 : (d + c).tmod (c : Int) = q := by rw [Int.tmod_eq_emod_of_nonneg (by omega)]; exact hq
  rw [hq] at e1
  obtain ⟨p, hp⟩ : ∃ p : Nat, p = q * 4 := ⟨_, rfl⟩
  have hpi : (q : Int) * 4 = p := by omega
  have hps : p + 4 ≤ n := by omega
  have hck : chk n p 4 = 0 := by
    rw [chk_of (by omega), if_neg (by rw [Int.tmod_eq_emod_of_nonneg (by omega)]; omega), if_neg (by omega)]
  have hc1 : (0 : Int) < c := by omega
  have hc2 : ¬ (c : Int) = 0 := by omega
  have hc3 : (c : Int) ≤ 200 := by omega
  have y1 : (n : Int) ≤ 200 := by omega
  have y2 : ¬ (n : Int) < 8 := by omega
  have y3 : (p : Int) + 4 ≤ n := by omega
  have y4 : (p : Int) ≤ 200 := by omega
  have F : Hid ((p : Int) + 4 ≤ n) := by exact y3
  obtain ⟨r, hr⟩ : ∃ r : Int, chk n ((p : Int) + 1) 8 = r := ⟨_, rfl⟩
  have hr1 : (r == 1) = false := by
    rw [← hr]
    rw [chk_of (by omega)]
    split
    · rfl
    · split <;> rfl
  clear e0 db hc hp hn8 hk F
  go_enter Try.func6, Try.ntmps6
  go_wp2_with fail
  with_reducible refine C0.mono ?_
  rintro e w1 ⟨g, cap1, rfl, O1, K1⟩
  have HO1 : Aside (OP w1 w.heap.size g (n + 1) cap1 (upd (fb f) n 165)) := O1
  have HK1 : Aside (Kp w w1) := K1
  have B1 : BS w1 g 0 n (upd (fb f) n 165) := O1.bs.less (by omega)
  have gl := O1.facts.2.2
  have c3 : Calls Try.prog 12 #[.slice (some ⟨g, 0, none⟩) n cap1, .int .i64 (p : Int), .int .i64 4, .int .u64 (v : Int)] w1 fun e w' => ∃ g' cap', e = .returned (.tuple #[.slice (some ⟨g', 0, none⟩) n cap', .int .i64 0]) ∧ OP w' w1.heap.size g' n cap' (putF (upd (fb f) n 165) p 4 v) ∧ Kp w1 w' := put_some g n cap1 p 4 v _ w1 B1 (by omega) (by decide) hps hv hck
  have C4 : Aside (∀ w2 g2 cap2, OP w2 w1.heap.size g2 n cap2 (putF (upd (fb f) n 165) p 4 v) → Calls Try.prog 10 #[.slice (some ⟨g2, 0, none⟩) n cap2, .int .i64 (p : Int), .int .i64 4] w2 fun e w' => e = .returned (.tuple #[.int .u64 ((v % 4294967296 : Nat) : Int), .int .i64 0]) ∧ w' = w2) := fun w2 g2 cap2 O2 => by
    have := get_some g2 n cap2 p 4 _ w2 O2.bs (by omega) O2.facts.2.2 (by decide) (by decide) hps hck
    rw [numb_put _ _ _ _ _ (Nat.le_refl _)] at this
    exact this
  have C5 : Aside (∀ w2 (_ : Kp w1 w2), Calls Try.prog 10 #[.slice (some ⟨g, 0, none⟩) n cap1, .int .i64 ((p : Int) + 1), .int .i64 8] w2 fun e w' => ∃ x : Int, e = .returned (.tuple #[.int .u64 x, .int .i64 r]) ∧ w' = w2) := fun w2 k => by
    have := get_all g n cap1 ((p : Int) + 1) 8 _ w2 (B1.kp k) (by omega) (by omega) (by omega) (by omega)
    rw [hr] at this
    exact this
  clear C0 O1 K1 B1 gl hck hps hr
  go_wp2_with fail
  with_reducible refine c3.mono ?_
  rintro e w2 ⟨g2, cap2, rfl, O2, K2⟩
  clear c3
  have c5 := C4.out w2 g2 cap2 O2
  have HO2 : Aside (OP w2 w1.heap.size g2 n cap2 (putF (upd (fb f) n 165) p 4 v)) := O2
  have HK2 : Aside (Kp w1 w2) := K2
  clear O2 K2 C4
  go_wp2_with fail
  with_reducible refine c5.mono ?_
  rintro e w2 ⟨rfl, rfl⟩
  clear c5
  go_wp2_with fail
  go_loopg [16] n (fun gg v16 wr => ∃ i : Nat, v16 = .int .i64 i ∧ i ≤ n ∧ n - i ≤ gg ∧ Aside (Kp w2 wr))
  case atStart => exact ⟨0, rfl, by omega, by omega, Kp.refl _⟩
  case round =>
    obtain ⟨i, rfl, hi, hg, HK⟩ := hrel
    by_cases hlt : i < n
    · have x1 : (i : Int) < n := by omega
      have d1 := (HO2.out.kp HK.out).bs.cell i hlt
      have d2 := (HO1.out.kp (HK2.out.trans HK.out)).bs.cell i (by omega)
      rw [Nat.zero_add] at d1 d2
      have HN : Aside (∀ j, Kp w2 (wr.drewN j)) := fun j => HK.out.trans ((Kp.refl wr).drewN j)
      by_cases a1 : (i : Int) < p
      · have eq : putF (upd (fb f) n 165) p 4 v i = upd (fb f) n 165 i := by unfold putF; rw [if_neg (by omega)]
        rw [eq] at d1
        generalize upd (fb f) n 165 i = z at *
        clear eq HK
        go_wp2_with fail
        go_quiet (fail)
        go_wp2
        go_roundg (n - (i + 1))
        case measure => omega
        case rel => exact ⟨i + 1, by go_num, by omega, by omega, HN.out _⟩
      · by_cases a2 : (p : Int) + 4 ≤ i
        · have eq : putF (upd (fb f) n 165) p 4 v i = upd (fb f) n 165 i := by unfold putF; rw [if_neg (by omega)]
          rw [eq] at d1
          generalize upd (fb f) n 165 i = z at *
          clear eq HK
          go_wp2_with fail
          have a1' : decide ((i : Int) < p) = false := decide_eq_false (by omega)
          have a1n : decide (i < p) = false := decide_eq_false (by omega)
          clear a1
          go_quiet (fail)
          go_wp2
          go_roundg (n - (i + 1))
          case measure => omega
          case rel => exact ⟨i + 1, by go_num, by omega, by omega, HN.out _⟩
        · clear HK d1 d2
          go_wp2_with fail
          have a1' : decide ((i : Int) < p) = false := decide_eq_false (by omega)
          have a1n : decide (i < p) = false := decide_eq_false (by omega)
          have a2' : decide ((p : Int) + 4 ≤ i) = false := decide_eq_false (by omega)
          clear a1 a2
          go_quiet (fail)
          go_wp2
          go_roundg (n - (i + 1))
          case measure => omega
          case rel => exact ⟨i + 1, by go_num, by omega, by omega, HN.out _⟩
    · have e : i = n := by omega
      subst e
      have c6 := C5.out wr (HK2.out.trans HK.out)
      have K9 : Aside (Kp w wr) := HK1.out.trans (HK2.out.trans HK.out)
      clear HO1 HO2 HK1 HK2 HK C5
      go_wp2_with fail
      with_reducible refine c6.mono ?_
      rintro e w9 ⟨x, rfl, rfl⟩
      clear c6
      go_wp2_with fail
      with_reducible refine (told_any _).mono ?_
      rintro e wz ⟨rfl, K8⟩
      have K7 : Aside (Kp w wz) := K9.out.trans K8
      clear K8 K9
      go_wp2
      go_ret
      exact ⟨rfl, K7.out⟩

set_option maxHeartbeats 16000000 in
set_option maxRecDepth 100000 in
theorem back_8 (na : Option Addr) (m cap n : Nat) (at0 k : Int) (v : Nat) (f : Nat → Int) (w : World) (hn : n ≤ 200) (hn8 : 8 ≤ n) (hk : k % 4 = 3) (hv : v < 18446744073709551616)
    (C0 : Calls Try.prog 9 #[.slice na m cap] w fun e w' => ∃ g cap', e = .returned (.slice (some ⟨g, 0, none⟩) n cap') ∧ OP w' w.heap.size g (n + 1) cap' (upd (fb f) n 165) ∧ Kp w w') :
    Calls Try.prog 6 #[.slice na m cap, .int .i64 at0, .int .i64 k, .int .u64 (v : Int)] w fun e w' => e = .returned (.bool true) ∧ Kp w w' := by
  have mixed : Try.prog.follows .mixedOrders = true := by kernel_rfl
  have m0 := mask2 k
  rw [hk] at m0
  obtain ⟨c, hc⟩ : ∃ c, c = n / 8 := ⟨_, rfl⟩
  have x1 : (n : Int) / 8 = c := by omega
  obtain ⟨d, hd⟩ : ∃ d : Int, at0.tmod (c : Int) = d := ⟨_, rfl⟩
  have db := tmod_bounds at0 c (by omega)
  rw [hd] at db
  have db1 := db.1
  have db2 := db.2
  have e0 := Int.emod_nonneg (d + c) (b := (c : Int)) (by omega)
  have e1 := Int.emod_lt_of_pos (d + c) (b := (c : Int)) (by omega)
  obtain ⟨q, hq⟩ : ∃ q : Nat, (d + c) % (c : Int) = q := ⟨((d + c) % (c : Int)).toNat, by omega⟩
  have hq2 : (d + c).tmod (c : Int) = q := by rw [Int.tmod_eq_emod_of_nonneg (by omega)]; exact hq
  rw [hq] at e1
  obtain ⟨p, hp⟩ : ∃ p : Nat, p = q * 8 := ⟨_, rfl⟩
  have hpi : (q : Int) * 8 = p := by omega
  have hps : p + 8 ≤ n := by omega
  have hck : chk n p 8 = 0 := by
    rw [chk_of (by omega), if_neg (by rw [Int.tmod_eq_emod_of_nonneg (by omega)]; omega), if_neg (by omega)]
  have hc1 : (0 : Int) < c := by omega
  have hc2 : ¬ (c : Int) = 0 := by omega
  have hc3 : (c : Int) ≤ 200 := by omega
  have y1 : (n : Int) ≤ 200 := by omega
  have y2 : ¬ (n : Int) < 8 := by omega
  have y3 : (p : Int) + 8 ≤ n := by omega
  have y4 : (p : Int) ≤ 200 := by omega
  have F : Hid ((p : Int) + 8 ≤ n) := by exact y3
  obtain ⟨r, hr⟩ : ∃ r : Int, chk n ((p : Int) + 1) 16 = r := ⟨_, rfl⟩
  have hr1 : (r == 1) = true := by
    rw [← hr]
    rw [show chk n ((p : Int) + 1) 16 = 1 from if_pos (by omega)]; rfl
  clear e0 db hc hp hn8 hk F
  go_enter Try.func6, Try.ntmps6
  go_wp2_with fail
  with_reducible refine C0.mono ?_
  rintro e w1 ⟨g, cap1, rfl, O1, K1⟩
  have HO1 : Aside (OP w1 w.heap.size g (n + 1) cap1 (upd (fb f) n 165)) := O1
  have HK1 : Aside (Kp w w1) := K1
  have B1 : BS w1 g 0 n (upd (fb f) n 165) := O1.bs.less (by omega)
  have gl := O1.facts.2.2
  have c3 : Calls Try.prog 12 #[.slice (some ⟨g, 0, none⟩) n cap1, .int .i64 (p : Int), .int .i64 8, .int .u64 (v : Int)] w1 fun e w' => ∃ g' cap', e = .returned (.tuple #[.slice (some ⟨g', 0, none⟩) n cap', .int .i64 0]) ∧ OP w' w1.heap.size g' n cap' (putF (upd (fb f) n 165) p 8 v) ∧ Kp w1 w' := put_some g n cap1 p 8 v _ w1 B1 (by omega) (by decide) hps hv hck
  have C4 : Aside (∀ w2 g2 cap2, OP w2 w1.heap.size g2 n cap2 (putF (upd (fb f) n 165) p 8 v) → Calls Try.prog 10 #[.slice (some ⟨g2, 0, none⟩) n cap2, .int .i64 (p : Int), .int .i64 8] w2 fun e w' => e = .returned (.tuple #[.int .u64 ((v : Nat) : Int), .int .i64 0]) ∧ w' = w2) := fun w2 g2 cap2 O2 => by
    have := get_some g2 n cap2 p 8 _ w2 O2.bs (by omega) O2.facts.2.2 (by decide) (by decide) hps hck
    rw [numb_put _ _ _ _ _ (Nat.le_refl _)] at this
    rw [show v % 2 ^ (8 * 8) = v from Nat.mod_eq_of_lt hv] at this
    exact this
  have C5 : Aside (∀ w2 (_ : Kp w1 w2), Calls Try.prog 10 #[.slice (some ⟨g, 0, none⟩) n cap1, .int .i64 ((p : Int) + 1), .int .i64 16] w2 fun e w' => ∃ x : Int, e = .returned (.tuple #[.int .u64 x, .int .i64 r]) ∧ w' = w2) := fun w2 k => by
    have := get_all g n cap1 ((p : Int) + 1) 16 _ w2 (B1.kp k) (by omega) (by omega) (by omega) (by omega)
    rw [hr] at this
    exact this
  clear C0 O1 K1 B1 gl hck hps hr
  go_wp2_with fail
  with_reducible refine c3.mono ?_
  rintro e w2 ⟨g2, cap2, rfl, O2, K2⟩
  clear c3
  have c5 := C4.out w2 g2 cap2 O2
  have HO2 : Aside (OP w2 w1.heap.size g2 n cap2 (putF (upd (fb f) n 165) p 8 v)) := O2
  have HK2 : Aside (Kp w1 w2) := K2
  clear O2 K2 C4
  go_wp2_with fail
  with_reducible refine c5.mono ?_
  rintro e w2 ⟨rfl, rfl⟩
  clear c5
  go_wp2_with fail
  go_loopg [16] n (fun gg v16 wr => ∃ i : Nat, v16 = .int .i64 i ∧ i ≤ n ∧ n - i ≤ gg ∧ Aside (Kp w2 wr))
  case atStart => exact ⟨0, rfl, by omega, by omega, Kp.refl _⟩
  case round =>
    obtain ⟨i, rfl, hi, hg, HK⟩ := hrel
    by_cases hlt : i < n
    · have x1 : (i : Int) < n := by omega
      have d1 := (HO2.out.kp HK.out).bs.cell i hlt
      have d2 := (HO1.out.kp (HK2.out.trans HK.out)).bs.cell i (by omega)
      rw [Nat.zero_add] at d1 d2
      have HN : Aside (∀ j, Kp w2 (wr.drewN j)) := fun j => HK.out.trans ((Kp.refl wr).drewN j)
      by_cases a1 : (i : Int) < p
      · have eq : putF (upd (fb f) n 165) p 8 v i = upd (fb f) n 165 i := by unfold putF; rw [if_neg (by omega)]
        rw [eq] at d1
        generalize upd (fb f) n 165 i = z at *
        clear eq HK
        go_wp2_with fail
        go_quiet (fail)
        go_wp2
        go_roundg (n - (i + 1))
        case measure => omega
        case rel => exact ⟨i + 1, by go_num, by omega, by omega, HN.out _⟩
      · by_cases a2 : (p : Int) + 8 ≤ i
        · have eq : putF (upd (fb f) n 165) p 8 v i = upd (fb f) n 165 i := by unfold putF; rw [if_neg (by omega)]
          rw [eq] at d1
          generalize upd (fb f) n 165 i = z at *
          clear eq HK
          go_wp2_with fail
          have a1' : decide ((i : Int) < p) = false := decide_eq_false (by omega)
          have a1n : decide (i < p) = false := decide_eq_false (by omega)
          clear a1
          go_quiet (fail)
          go_wp2
          go_roundg (n - (i + 1))
          case measure => omega
          case rel => exact ⟨i + 1, by go_num, by omega, by omega, HN.out _⟩
        · clear HK d1 d2
          go_wp2_with fail
          have a1' : decide ((i : Int) < p) = false := decide_eq_false (by omega)
          have a1n : decide (i < p) = false := decide_eq_false (by omega)
          have a2' : decide ((p : Int) + 8 ≤ i) = false := decide_eq_false (by omega)
          clear a1 a2
          go_quiet (fail)
          go_wp2
          go_roundg (n - (i + 1))
          case measure => omega
          case rel => exact ⟨i + 1, by go_num, by omega, by omega, HN.out _⟩
    · have e : i = n := by omega
      subst e
      have c6 := C5.out wr (HK2.out.trans HK.out)
      have K9 : Aside (Kp w wr) := HK1.out.trans (HK2.out.trans HK.out)
      clear HO1 HO2 HK1 HK2 HK C5
      go_wp2_with fail
      with_reducible refine c6.mono ?_
      rintro e w9 ⟨x, rfl, rfl⟩
      clear c6
      go_wp2_with fail
      with_reducible refine (told_any _).mono ?_
      rintro e wz ⟨rfl, K8⟩
      have K7 : Aside (Kp w wz) := K9.out.trans K8
      clear K8 K9
      go_wp2
      go_ret
      exact ⟨rfl, K7.out⟩

theorem back_law (na : Option Addr) (m cap : Nat) (f : Nat → Int) (p k v : Int) (w : World) (N : NSK .u8 w na m f) (hm : m ≤ cap ∧ (na = none → cap = 0)) (h2 : m ≤ maxLen) (hv : (Lit.int .u64 v).wf = true) :
    Calls Try.prog 6 #[.slice na m cap, .int .i64 p, .int .i64 k, .int .u64 v] w fun e w' => e = .returned (.bool true) ∧ Kp w w' := by
  have h3 := wf_word hv
  obtain ⟨n, n1, n2, C0⟩ := few_any w na m cap f N hm.1 hm.2 (by simpa [maxLen] using h2)
  by_cases c : n < 8
  · exact back_few na m cap n p k v f w c C0
  · obtain ⟨v, rfl⟩ : ∃ k : Nat, v = k := ⟨v.toNat, by omega⟩
    have h4 : k % 4 = 0 ∨ k % 4 = 1 ∨ k % 4 = 2 ∨ k % 4 = 3 := by omega
    rcases h4 with d | d | d | d
    · exact back_1 na m cap n p k v f w n1 (by omega) d (by omega) C0
    · exact back_2 na m cap n p k v f w n1 (by omega) d (by omega) C0
    · exact back_4 na m cap n p k v f w n1 (by omega) d (by omega) C0
    · exact back_8 na m cap n p k v f w n1 (by omega) d (by omega) C0

end Go.Proofs.Ytddklpbddpjklaa
