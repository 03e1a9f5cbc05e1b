/- Joined: U1, U2, U3. -/
import Derived.Test.YtcankhnnikhblaaGreatDoorU0
import Derived.RegionTactic
import Derived.BigRegion
import Derived.Deep.RegionHeld3
/- math/bits: TrailingZeros, Len; greatest; isOrder. -/
namespace Go.Proofs.YtcankhnnikhblaaGreatDoor
open Go.RowKit

/-- The cell i of the table. -/
def tabAt (i : Nat) : Int := match (Rows.laid_math_bits_deBruijn64tab : DataW Unit) with
  | .agg l => match l[i]? with
    | some (.lit (.int _ n)) => n
    | _ => 0
  | _ => 0
/-- The table lies where it lay at first. -/
structure TAB (w : World) : Prop where
  lt : 1 < w.heap.size
  cell : ∀ i, i < 64 → w.cell? ⟨1, i, none⟩ = some (.int .u8 (tabAt i))
theorem TAB.kp {w w' : World} (h : TAB w) (k : Kp w w') : TAB w' := ⟨Nat.lt_of_lt_of_le h.lt k.size, fun i hi => by rw [k.cell (p := ⟨1, i, none⟩) h.lt]; exact h.cell i hi⟩
theorem TAB.fr {w w' : World} {S : Nat → Prop} (h : TAB w) (k : Fr S w w') (hS : ¬ S 1) : TAB w' := ⟨Nat.lt_of_lt_of_le h.lt k.size, fun i hi => by rw [k.cell (a := ⟨1, i, none⟩) h.lt hS]; exact h.cell i hi⟩

theorem odd_of : ∀ n x, x < 2 ^ n → 0 < x → ∃ t r, t < n ∧ x = 2 ^ t * (2 * r + 1)
  | 0, x, h, h0 => by omega
  | n + 1, x, h, h0 => by
    by_cases c : x % 2 = 1
    · exact ⟨0, x / 2, by omega, by omega⟩
    · obtain ⟨t, r, h1, h2⟩ := odd_of n (x / 2) (by rw [Nat.pow_succ] at h; omega) (by omega)
      refine ⟨t + 1, r, by omega, ?_⟩
      rw [Nat.pow_succ, Nat.mul_comm (2 ^ t) 2, Nat.mul_assoc, ← h2]
      omega
theorem low_bit {x t r : Nat} (h : x < 2 ^ 64) (ht : t < 64) (hx : x = 2 ^ t * (2 * r + 1)) : x &&& (2 ^ 64 - x) = 2 ^ t := by
  have hp := Nat.two_pow_pos t
  have hy : x = 2 ^ t * (2 * r) + (2 ^ t - 1) + 1 := by rw [hx, Nat.mul_add]; omega
  have hyl : 2 ^ t * (2 * r) + (2 ^ t - 1) < 2 ^ 64 := by omega
  apply Nat.eq_of_testBit_eq
  intro i
  rw [Nat.testBit_and]
  conv => lhs; arg 2; arg 1; rw [hy]
  rw [Nat.testBit_two_pow_sub_succ hyl, Nat.testBit_two_pow_mul_add _ (by omega), Nat.testBit_two_pow]
  have hx2 : x = 2 ^ t * (2 * r + 1) + 0 := by omega
  rw [hx2, Nat.testBit_two_pow_mul_add _ hp]
  by_cases c : i < t
  · rw [if_pos c, if_pos c, decide_eq_false (fun e : t = i => by subst e; exact Nat.lt_irrefl _ c)]; simp
  · rw [if_neg c, if_neg c]
    by_cases e : t = i
    · subst e
      rw [decide_eq_true ht, decide_eq_true rfl, Nat.sub_self]; simp
    · rw [decide_eq_false e]
      obtain ⟨d, hd⟩ : ∃ d, i - t = d + 1 := ⟨i - t - 1, by omega⟩
      rw [hd, Nat.testBit_succ, Nat.testBit_succ, show (2 * r + 1) / 2 = r by omega, show 2 * r / 2 = r by omega]
      cases r.testBit d <;> simp
theorem tab_right : ∀ t : Nat, t < 64 → tabAt (2 ^ t * 285870213051353865 % 18446744073709551616 / 288230376151711744) = (t : Int) := by decide +kernel

set_option maxHeartbeats 1000000 in
theorem tz_walk {w : World} (x y z u v : Nat) (t : Int) (h0 : ¬ (x : Int) = 0) (a1 : IntKind.u64.wrap (-(x : Int)) = (y : Int)) (a2 : bits .and .u64 (x : Int) (y : Int) = (z : Int)) (a3 : IntKind.u64.wrap ((z : Int) * 285870213051353865) = (u : Int)) (a4 : (u : Int) / 288230376151711744 = (v : Int)) (hv : (v : Int) < 64)
    (c : w.cell? ⟨1, v, none⟩ = some (.int .u8 t)) (t0 : 0 ≤ t) (t1 : t < 64) :
    Calls Tryz.prog 145 #[.int .u64 (x : Int)] w fun e w' => e = .returned (.int .i64 t) ∧ w' = w := by
  go_enter Tryz.func145, Tryz.ntmps145
  go_wp2
  go_ret
  exact ⟨rfl, rfl⟩
theorem wrap_neg {x : Nat} (h0 : 0 < x) (h : x < 18446744073709551616) : IntKind.u64.wrap (-(x : Int)) = ((18446744073709551616 - x : Nat) : Int) := by
  rw [IntKind.wrap_u64]
  omega
theorem wrap_nat (x : Nat) : IntKind.u64.wrap ((x : Int) * 285870213051353865) = ((x * 285870213051353865 % 18446744073709551616 : Nat) : Int) := by
  rw [IntKind.wrap_u64]
  omega
theorem tz_ok {w : World} (T : TAB w) (x t r : Nat) (h : x < 18446744073709551616) (ht : t < 64) (hx : x = 2 ^ t * (2 * r + 1)) :
    Calls Tryz.prog 145 #[.int .u64 (x : Int)] w fun e w' => e = .returned (.int .i64 (t : Int)) ∧ w' = w := by
  have h0 : 0 < x := by rw [hx]; exact Nat.mul_pos (Nat.two_pow_pos t) (by omega)
  have hb := low_bit (show x < 2 ^ 64 from h) ht hx
  have hl : 2 ^ t < 18446744073709551616 := Nat.pow_lt_pow_right (by decide) ht (a := 2) (n := 64)
  have hv : 2 ^ t * 285870213051353865 % 18446744073709551616 / 288230376151711744 < 64 := by omega
  refine tz_walk x (18446744073709551616 - x) (2 ^ t) _ (2 ^ t * 285870213051353865 % 18446744073709551616 / 288230376151711744) t (by omega) (wrap_neg h0 h) ?_ (wrap_nat _) (by omega) (by omega) (by rw [T.cell _ hv, tab_right t ht]) (by omega) (by omega)
  rw [u64_and_nat _ _ h (by omega)]
  exact congrArg _ hb
set_option maxHeartbeats 1000000 in
theorem tz_none (w : World) :
    Calls Tryz.prog 145 #[.int .u64 0] w fun e w' => e = .returned (.int .i64 64) ∧ w' = w := by
  go_enter Tryz.func145, Tryz.ntmps145
  go_wp2
  go_ret
  exact ⟨rfl, rfl⟩
theorem tzs_any (x : Nat) (t : Int) (w : World) (c : Calls Tryz.prog 145 #[.int .u64 (x : Int)] w fun e w' => e = .returned (.int .i64 t) ∧ w' = w) :
    Calls Tryz.prog 129 #[.int .u64 (x : Int)] w fun e w' => e = .returned (.int .i64 t) ∧ w' = w := by
  go_enter Tryz.func129, Tryz.ntmps129
  go_wp2_with (go_at_call 145; with_reducible refine c.mono ?_; rintro e w' ⟨rfl, rfl⟩)
  go_ret
  exact ⟨rfl, rfl⟩

def lg (v : Nat) : Nat := if v = 0 then 0 else Nat.log2 v + 1
def lenOk (L : ByteArray) : Bool := (List.range 256).all fun v => match L.data[v]? with
  | some u => u.toNat == lg v
  | none => false
theorem lg_le {v n : Nat} (h : v < 2 ^ n) : lg v ≤ n := by
  unfold lg
  split
  · omega
  · rename_i c
    have := (Nat.log2_lt c).2 h
    omega
theorem len_at {L : ByteArray} {x : Nat} (hx : x < L.size) (ok : lenOk L = true) (h : x < 256) : (L[x]'hx).toNat = lg x := by
  have := List.all_eq_true.1 ok x (List.mem_range.2 h)
  rw [Array.getElem?_eq_getElem (show x < L.data.size from hx)] at this
  exact eq_of_beq this
theorem wrap_small {x : Int} (h0 : 0 ≤ x) (h1 : x ≤ 1000) : wrap64 x = x := by unfold wrap64; omega
theorem len_end0 (L : ByteArray) (x : Nat) (hx : x < L.size) (ok : lenOk L = true) (h : x < 256) : Ending.returned (.int .i64 (wrap64 (wrap64 ((L[x]'hx).toNat : Int)))) = Ending.returned (.int .i64 (lg x : Nat)) := by
  have := lg_le (v := x) (n := 8) (by omega)
  rw [len_at hx ok h, wrap_small (x := (lg x : Int)) (by omega) (by omega), wrap_small (by omega) (by omega)]
theorem len_end1 (L : ByteArray) (x : Nat) (c : Int) (hx : x < L.size) (ok : lenOk L = true) (h : x < 256) (h0 : 0 ≤ c) (h1 : c ≤ 100) : Ending.returned (.int .i64 (wrap64 (c + wrap64 ((L[x]'hx).toNat : Int)))) = Ending.returned (.int .i64 (c + (lg x : Nat))) := by
  have := lg_le (v := x) (n := 8) (by omega)
  rw [len_at hx ok h, wrap_small (x := (lg x : Int)) (by omega) (by omega), wrap_small (by omega) (by omega)]
set_option maxHeartbeats 1000000 in
set_option maxRecDepth 100000 in
theorem len_low (x : Nat) (w : World) (h : (x : Int) < 256) :
    Calls Tryz.prog 147 #[.int .u64 (x : Int)] w fun e w' => e = .returned (.int .i64 (lg x : Nat)) ∧ w' = w := by
  have h1 : ¬ (4294967296 : Int) ≤ x := by omega
  have h2 : ¬ (65536 : Int) ≤ x := by omega
  have h3 : ¬ (256 : Int) ≤ x := by omega
  go_enter Tryz.func147, Tryz.ntmps147
  go_wp2
  go_ret
  exact ⟨len_end0 _ _ _ (by decide +kernel) (by omega), rfl⟩
set_option maxHeartbeats 1000000 in
set_option maxRecDepth 100000 in
theorem len_mid (x y : Nat) (w : World) (h4 : (256 : Int) ≤ x) (h : (x : Int) < 65536) (e : (x : Int) / 256 = (y : Int)) (h5 : (y : Int) < 256) :
    Calls Tryz.prog 147 #[.int .u64 (x : Int)] w fun e w' => e = .returned (.int .i64 (8 + (lg y : Nat))) ∧ w' = w := by
  have h1 : ¬ (4294967296 : Int) ≤ x := by omega
  have h2 : ¬ (65536 : Int) ≤ x := by omega
  go_enter Tryz.func147, Tryz.ntmps147
  go_wp2
  go_ret
  exact ⟨len_end1 _ _ 8 _ (by decide +kernel) (by omega) (by omega) (by omega), rfl⟩
set_option maxHeartbeats 1000000 in
set_option maxRecDepth 100000 in
theorem len_high (x y : Nat) (w : World) (h4 : (65536 : Int) ≤ x) (h : (x : Int) < 16777216) (e : (x : Int) / 65536 = (y : Int)) (h5 : (y : Int) < 256) :
    Calls Tryz.prog 147 #[.int .u64 (x : Int)] w fun e w' => e = .returned (.int .i64 (16 + (lg y : Nat))) ∧ w' = w := by
  have h1 : ¬ (4294967296 : Int) ≤ x := by omega
  have h2 : ¬ (256 : Int) ≤ y := by omega
  go_enter Tryz.func147, Tryz.ntmps147
  go_wp2
  go_ret
  exact ⟨len_end1 _ _ 16 _ (by decide +kernel) (by omega) (by omega) (by omega), rfl⟩
theorem lg_div (x k : Nat) (h : 2 ^ k ≤ x) : lg x = k + lg (x / 2 ^ k) := by
  have hp := Nat.two_pow_pos k
  have h1 : x ≠ 0 := by omega
  have h2 : x / 2 ^ k ≠ 0 := by
    have := (Nat.le_div_iff_mul_le hp (x := 1) (y := x)).2 (by omega)
    omega
  unfold lg
  rw [if_neg h1, if_neg h2]
  have e : Nat.log2 x = k + Nat.log2 (x / 2 ^ k) := by
    apply Nat.le_antisymm
    · apply Nat.le_of_lt_succ
      rw [Nat.log2_lt h1, show (k + (x / 2 ^ k).log2).succ = ((x / 2 ^ k).log2 + 1) + k by omega, Nat.pow_add]
      rw [← Nat.div_lt_iff_lt_mul hp]
      exact (Nat.log2_lt h2).1 (Nat.lt_succ_self _)
    · rw [Nat.le_log2 h1, Nat.add_comm, Nat.pow_add, ← Nat.le_div_iff_mul_le hp]
      exact (Nat.le_log2 h2).1 (Nat.le_refl _)
  omega
theorem len64_any (x : Nat) (w : World) (h : x < 16777216) :
    Calls Tryz.prog 147 #[.int .u64 (x : Int)] w fun e w' => e = .returned (.int .i64 (lg x : Nat)) ∧ w' = w := by
  by_cases c1 : x < 256
  · exact len_low x w (by omega)
  · by_cases c2 : x < 65536
    · rw [lg_div x 8 (by omega)]
      exact len_mid x (x / 2 ^ 8) w (by omega) (by omega) (by omega) (by omega)
    · rw [lg_div x 16 (by omega)]
      exact len_high x (x / 2 ^ 16) w (by omega) (by omega) (by omega) (by omega)
theorem len_any (x : Nat) (w : World) (h : x < 16777216) :
    Calls Tryz.prog 130 #[.int .u64 (x : Int)] w fun e w' => e = .returned (.int .i64 (lg x : Nat)) ∧ w' = w := by
  have c := len64_any x w h
  go_enter Tryz.func130, Tryz.ntmps130
  go_wp2_with (go_at_call 147; with_reducible refine c.mono ?_; rintro e w' ⟨rfl, rfl⟩)
  go_ret
  exact ⟨rfl, rfl⟩

theorem isOrder_any (o : Int) (w : World) :
    Calls Tryz.prog 132 #[.int .i64 o] w fun e w' => e = .returned (.bool (decide (0 ≤ o) && decide (o ≤ 9))) ∧ w' = w := by
  by_cases c : 0 ≤ o
  · by_cases d : o ≤ 9
    · rw [decide_eq_true c, decide_eq_true d]
      go_enter Tryz.func132, Tryz.ntmps132
      go_wp2
      go_ret
      exact ⟨rfl, rfl⟩
    · rw [decide_eq_true c, decide_eq_false d]
      go_enter Tryz.func132, Tryz.ntmps132
      go_wp2
      go_ret
      exact ⟨rfl, rfl⟩
  · rw [decide_eq_false c]
    go_enter Tryz.func132, Tryz.ntmps132
    go_wp2
    go_ret
    exact ⟨rfl, rfl⟩
set_option maxHeartbeats 1000000 in
theorem greatest_walk (f l t m g : Nat) (w : World) (hf : (f : Int) ≤ 1048576) (hl : (l : Int) ≤ 1048576) (c1 : Calls Tryz.prog 129 #[.int .u64 (f : Int)] w fun e w' => e = .returned (.int .i64 (t : Int)) ∧ w' = w)
    (c2 : Calls Tryz.prog 130 #[.int .u64 (l : Int)] w fun e w' => e = .returned (.int .i64 (m : Int)) ∧ w' = w) (h1 : (1 : Int) ≤ m) (h2 : (m : Int) ≤ 64) (h3 : (t : Int) ≤ 64) (hg : min 9 (min t (m - 1)) = g) :
    Calls Tryz.prog 111 #[.int .i64 (f : Int), .int .i64 (l : Int)] w fun e w' => e = .returned (.int .i64 (g : Int)) ∧ w' = w := by
  have HG : Hid (min 9 (min t (m - 1)) = g) := hg
  clear hg
  have h4 : (0 : Int) ≤ t := by omega
  rcases (by omega : (t < 9 ∧ m - 1 < t) ∨ (t < 9 ∧ ¬ m - 1 < t) ∨ (¬ t < 9 ∧ m - 1 < 9) ∨ (¬ t < 9 ∧ ¬ m - 1 < 9)) with ⟨y1, y2⟩ | ⟨y1, y2⟩ | ⟨y1, y2⟩ | ⟨y1, y2⟩
  · have x1 : (t : Int) < 9 := by omega
    have x2 : (m : Int) - 1 < t := by omega
    clear y1 y2
    go_enter Tryz.func111, Tryz.ntmps111
    go_wp2_with (first | (go_at_call 129; with_reducible refine c1.mono ?_; rintro e w' ⟨rfl, rfl⟩) | (go_at_call 130; with_reducible refine c2.mono ?_; rintro e w' ⟨rfl, rfl⟩))
    go_ret
    exact ⟨by rw [show (m : Int) - 1 = (g : Int) by have := HG.out; omega]; rfl, rfl⟩
  · have x1 : (t : Int) < 9 := by omega
    have x2 : ¬ (m : Int) - 1 < t := by omega
    clear y1 y2
    go_enter Tryz.func111, Tryz.ntmps111
    go_wp2_with (first | (go_at_call 129; with_reducible refine c1.mono ?_; rintro e w' ⟨rfl, rfl⟩) | (go_at_call 130; with_reducible refine c2.mono ?_; rintro e w' ⟨rfl, rfl⟩))
    go_ret
    exact ⟨by rw [show (t : Int) = (g : Int) by have := HG.out; omega]; rfl, rfl⟩
  · have x1 : ¬ (t : Int) < 9 := by omega
    have x2 : (m : Int) - 1 < 9 := by omega
    clear y1 y2
    go_enter Tryz.func111, Tryz.ntmps111
    go_wp2_with (first | (go_at_call 129; with_reducible refine c1.mono ?_; rintro e w' ⟨rfl, rfl⟩) | (go_at_call 130; with_reducible refine c2.mono ?_; rintro e w' ⟨rfl, rfl⟩))
    go_ret
    exact ⟨by rw [show (m : Int) - 1 = (g : Int) by have := HG.out; omega]; rfl, rfl⟩
  · have x1 : ¬ (t : Int) < 9 := by omega
    have x2 : ¬ (m : Int) - 1 < 9 := by omega
    clear y1 y2
    go_enter Tryz.func111, Tryz.ntmps111
    go_wp2_with (first | (go_at_call 129; with_reducible refine c1.mono ?_; rintro e w' ⟨rfl, rfl⟩) | (go_at_call 130; with_reducible refine c2.mono ?_; rintro e w' ⟨rfl, rfl⟩))
    go_ret
    exact ⟨by rw [show (g : Int) = 9 by have := HG.out; omega]; rfl, rfl⟩
theorem greatest_any {w : World} (T : TAB w) (f l : Nat) (hf : f ≤ 1048576) (hl : l ≤ 1048576) (h1 : 1 ≤ l) :
    ∃ o : Nat, (Calls Tryz.prog 111 #[.int .i64 (f : Int), .int .i64 (l : Int)] w fun e w' => e = .returned (.int .i64 (o : Int)) ∧ w' = w) ∧ o ≤ 9 ∧ f % 2 ^ o = 0 ∧ 2 ^ o ≤ l ∧ ∀ o', o' ≤ 9 → f % 2 ^ o' = 0 → 2 ^ o' ≤ l → o' ≤ o := by
  have hlg : lg l = Nat.log2 l + 1 := by unfold lg; rw [if_neg (by omega)]
  have hm := lg_le (v := l) (n := 21) (by omega)
  have pw : ∀ a, a ≤ Nat.log2 l ↔ 2 ^ a ≤ l := fun a => Nat.le_log2 (by omega)
  have c2 := len_any l w (by omega)
  by_cases h0 : f = 0
  · subst h0
    have c1 := tzs_any 0 64 w (tz_none w)
    refine ⟨min 9 (min 64 (lg l - 1)), greatest_walk 0 l 64 (lg l) _ w (by omega) (by omega) c1 c2 (by omega) (by omega) (by omega) rfl, by omega, by simp, ?_, fun o' ho _ h => ?_⟩
    · rw [← pw]; omega
    · rw [← pw] at h; omega
  · obtain ⟨t, r, ht, hx⟩ := odd_of 64 f (by omega) (by omega)
    have c1 := tzs_any f t w (tz_ok T f t r (by omega) ht hx)
    refine ⟨min 9 (min t (lg l - 1)), greatest_walk f l t (lg l) _ w (by omega) (by omega) c1 c2 (by omega) (by omega) (by omega) rfl, by omega, ?_, ?_, fun o' ho h2 h => ?_⟩
    · apply Nat.mod_eq_zero_of_dvd
      rw [hx]
      exact Nat.dvd_trans (Nat.pow_dvd_pow 2 (show min 9 (min t (lg l - 1)) ≤ t by omega)) (Nat.dvd_mul_right _ _)
    · rw [← pw]; omega
    · rw [← pw] at h
      have : o' ≤ t := by
        by_cases c : o' ≤ t
        · exact c
        · exfalso
          have d := Nat.dvd_of_mod_eq_zero h2
          have d2 := Nat.dvd_trans (Nat.pow_dvd_pow 2 (show t + 1 ≤ o' by omega)) d
          rw [hx, Nat.pow_succ] at d2
          have := Nat.dvd_of_mul_dvd_mul_left (Nat.two_pow_pos t) d2
          omega
      omega
end Go.Proofs.YtcankhnnikhblaaGreatDoor

/- buddy.set: bits in words. -/
namespace Go.Proofs.YtcankhnnikhblaaGreatDoor
open Go.RowKit

theorem shr_bit (u b : Nat) (hu : u < 18446744073709551616) : bits .and .u64 ((u : Int) / 2 ^ b) 1 = (if u.testBit b then 1 else 0 : Int) := by
  have h1 : u / 2 ^ b < 18446744073709551616 := Nat.lt_of_le_of_lt (Nat.div_le_self _ _) hu
  have h2 := u64_and_nat (u / 2 ^ b) 1 h1 (by omega)
  have e : ((u / 2 ^ b : Nat) : Int) = (u : Int) / 2 ^ b := by push_cast; rfl
  rw [e] at h2
  rw [show ((1 : Nat) : Int) = 1 from rfl] at h2
  rw [h2, Nat.and_one_is_mod, Nat.testBit_eq_decide_div_mod_eq]
  by_cases c : u / 2 ^ b % 2 = 1
  · rw [c]; simp
  · rw [show u / 2 ^ b % 2 = 0 by omega]; simp
set_option maxHeartbeats 1000000 in
theorem shas_walk (p a b q r L u : Nat) (x : Nat) (bit : Bool) (w : World) (c0 : w.cell? ⟨p, a, none⟩ = some (.slice (some ⟨b, 0, none⟩) L L)) (e1 : (x : Int).tdiv 64 = (q : Int)) (e2 : (x : Int).tmod 64 = (r : Int)) (h1 : (q : Int) < L) (hr : (r : Int) < 64)
    (cw : w.cell? ⟨b, q, none⟩ = some (.int .u64 (u : Int))) (hb : bits .and .u64 ((u : Int) / 2 ^ r) 1 = (if bit then 1 else 0 : Int)) (hL : (L : Int) ≤ 20000) :
    Calls Tryz.prog 143 #[.pointer (some ⟨p, a, none⟩), .int .i64 (x : Int)] w fun e w' => e = .returned (.bool bit) ∧ w' = w := by
  cases bit
  · have hb' : bits .and .u64 ((u : Int) / 2 ^ r) 1 = 0 := hb
    clear hb
    go_enter Tryz.func143, Tryz.ntmps143
    go_wp2
    go_ret
    exact ⟨rfl, rfl⟩
  · have hb' : bits .and .u64 ((u : Int) / 2 ^ r) 1 = 1 := hb
    clear hb
    go_enter Tryz.func143, Tryz.ntmps143
    go_wp2
    go_ret
    exact ⟨rfl, rfl⟩
set_option maxHeartbeats 1000000 in
theorem shas_out (p a b q L : Nat) (x : Nat) (w : World) (c0 : w.cell? ⟨p, a, none⟩ = some (.slice (some ⟨b, 0, none⟩) L L)) (e1 : (x : Int).tdiv 64 = (q : Int)) (h1 : ¬ (q : Int) < L) (hL : (q : Int) ≤ 2000000) :
    Calls Tryz.prog 143 #[.pointer (some ⟨p, a, none⟩), .int .i64 (x : Int)] w fun e w' => e = .returned (.bool false) ∧ w' = w := by
  go_enter Tryz.func143, Tryz.ntmps143
  go_wp2
  go_ret
  exact ⟨rfl, rfl⟩
set_option maxHeartbeats 1000000 in
theorem sadd_walk (p a b q r L u u' v sz lo : Nat) (x : Nat) (w : World) (c0 : w.cell? ⟨p, a, none⟩ = some (.slice (some ⟨b, 0, none⟩) L L)) (c1 : w.cell? ⟨p, a + 1, none⟩ = some (.int .i64 (sz : Int))) (c2 : w.cell? ⟨p, a + 2, none⟩ = some (.int .i64 (lo : Int)))
    (f1 : w.frozen? ⟨p, a + 1, none⟩ = false) (f2 : w.frozen? ⟨p, a + 2, none⟩ = false) (fw : w.frozen? ⟨b, q, none⟩ = false) (ne : b ≠ p)
    (e1 : (x : Int).tdiv 64 = (q : Int)) (e2 : (x : Int).tmod 64 = (r : Int)) (h1 : (q : Int) < L) (hr : (r : Int) < 64)
    (cw : w.cell? ⟨b, q, none⟩ = some (.int .u64 (u : Int))) (hv : IntKind.u64.wrap (2 ^ r) = (v : Int)) (hb : bits .or .u64 (u : Int) (v : Int) = (u' : Int)) (hL : (L : Int) ≤ 20000) (hs : (sz : Int) ≤ 2000000) :
    Calls Tryz.prog 131 #[.pointer (some ⟨p, a, none⟩), .int .i64 (x : Int)] w fun e w' => e = .returned (.tuple #[]) ∧ w' = (((w.setCell ⟨b, q, none⟩ (.int .u64 (u' : Int))).setCell ⟨p, a + 1, none⟩ (.int .i64 ((sz : Int) + 1))).setCell ⟨p, a + 2, none⟩ (.int .i64 ((min lo q : Nat) : Int))).drew := by
  go_enter Tryz.func131, Tryz.ntmps131
  go_wp2_with fail
  go_region
  go_wp2
  · go_end0
    exact ⟨rfl, by rw [Nat.min_eq_right (by omega)]⟩
  · go_end0
    exact ⟨rfl, by rw [Nat.min_eq_left (by omega)]⟩
set_option maxHeartbeats 1000000 in
theorem srem_walk (p a b q r L u u' v sz : Nat) (x : Nat) (w : World) (c0 : w.cell? ⟨p, a, none⟩ = some (.slice (some ⟨b, 0, none⟩) L L)) (c1 : w.cell? ⟨p, a + 1, none⟩ = some (.int .i64 (sz : Int)))
    (f1 : w.frozen? ⟨p, a + 1, none⟩ = false) (fw : w.frozen? ⟨b, q, none⟩ = false) (ne : b ≠ p)
    (e1 : (x : Int).tdiv 64 = (q : Int)) (e2 : (x : Int).tmod 64 = (r : Int)) (h1 : (q : Int) < L) (hr : (r : Int) < 64)
    (cw : w.cell? ⟨b, q, none⟩ = some (.int .u64 (u : Int))) (hv : IntKind.u64.wrap (2 ^ r) = (v : Int)) (hb : bits .andNot .u64 (u : Int) (v : Int) = (u' : Int)) (hL : (L : Int) ≤ 20000) (hs : (sz : Int) ≤ 2000000) :
    Calls Tryz.prog 149 #[.pointer (some ⟨p, a, none⟩), .int .i64 (x : Int)] w fun e w' => e = .returned (.tuple #[]) ∧ w' = ((w.setCell ⟨b, q, none⟩ (.int .u64 (u' : Int))).setCell ⟨p, a + 1, none⟩ (.int .i64 ((sz : Int) - 1))).drew := by
  go_enter Tryz.func149, Tryz.ntmps149
  go_wp2_with fail
  go_region
  go_wp2
  go_end0
  exact ⟨rfl, rfl⟩
theorem sempty_walk (p a sz : Nat) (w : World) (c1 : w.cell? ⟨p, a + 1, none⟩ = some (.int .i64 (sz : Int))) :
    Calls Tryz.prog 148 #[.pointer (some ⟨p, a, none⟩)] w fun e w' => e = .returned (.bool (decide (sz = 0))) ∧ w' = w := by
  obtain ⟨b, hb, hc⟩ : ∃ b, ((sz : Int) == 0) = b ∧ decide (sz = 0) = b := ⟨_, rfl, by
    by_cases c : sz = 0
    · subst c; rfl
    · rw [decide_eq_false c]; simp; omega⟩
  rw [hc]
  clear hc
  go_enter Tryz.func148, Tryz.ntmps148
  go_wp2
  go_ret
  exact ⟨rfl, rfl⟩

/-! ### least -/
/-- w' is w but for the cells of C. -/
structure Ch (C : Addr → Prop) (S : Nat → Prop) (w w' : World) : Prop where
  cell : ∀ ad, ¬ C ad → w'.cell? ad = w.cell? ad
  frz : ∀ ad, w'.frozen? ad = w.frozen? ad
  fr : Fr S w w'
  size : w'.heap.size = w.heap.size
theorem Ch.refl (C : Addr → Prop) (S : Nat → Prop) (w : World) : Ch C S w w := ⟨fun _ _ => rfl, fun _ => rfl, Fr.refl _ _, rfl⟩
theorem Ch.drew {C : Addr → Prop} {S : Nat → Prop} {w w' : World} (h : Ch C S w w') : Ch C S w w'.drew := ⟨fun ad hc => h.cell ad hc, fun ad => h.frz ad, h.fr.drew, h.size⟩
theorem Ch.drewN {C : Addr → Prop} {S : Nat → Prop} {w w' : World} (n : Nat) (h : Ch C S w w') : Ch C S w (w'.drewN n) := ⟨fun ad hc => h.cell ad hc, fun ad => h.frz ad, h.fr.trans (((Kp.refl w').drewN n).fr S), h.size⟩
theorem Ch.set {C : Addr → Prop} {S : Nat → Prop} {w w' : World} (h : Ch C S w w') (ad : Addr) (v : Value) (hC : C ad) (hS : S ad.block) : Ch C S w (w'.setCell ad v) :=
  ⟨fun x hx => by rw [World.cell?_setCell_other _ _ _ _ (fun e => hx (by rw [← e]; exact hC))]; exact h.cell x hx, fun x => by rw [World.frozen?_setCell]; exact h.frz x, h.fr.set ad v hS, by rw [World.size_setCell]; exact h.size⟩
set_option maxHeartbeats 2000000 in
theorem sleast_walk (p a b L lo m x t : Nat) (W : Nat → Nat) (w : World) (S : Nat → Prop) (hS : S p) (c0 : w.cell? ⟨p, a, none⟩ = some (.slice (some ⟨b, 0, none⟩) L L)) (c2 : w.cell? ⟨p, a + 2, none⟩ = some (.int .i64 (lo : Int)))
    (f2 : w.frozen? ⟨p, a + 2, none⟩ = false) (ne : b ≠ p) (cw : ∀ q, q < L → w.cell? ⟨b, q, none⟩ = some (.int .u64 (W q : Nat)))
    (h1 : lo ≤ m) (h2 : m < L) (hz : ∀ q, lo ≤ q → q < m → W q = 0) (hm : ((W m : Int) == 0) = false) (hx : (m : Int) * 64 + t = x) (ht : (t : Int) < 64)
    (ct : ∀ w', Fr S w w' → Calls Tryz.prog 145 #[.int .u64 (W m : Nat)] w' fun e w'' => e = .returned (.int .i64 (t : Int)) ∧ w'' = w') (hL : (L : Int) ≤ 20000) :
    Calls Tryz.prog 134 #[.pointer (some ⟨p, a, none⟩)] w fun e w' => e = .returned (.int .i64 (x : Int)) ∧ Ch (· = ⟨p, a + 2, none⟩) S w w' ∧ w'.cell? ⟨p, a + 2, none⟩ = some (.int .i64 (m : Int)) := by
  have CW : Aside (∀ q, q < L → w.cell? ⟨b, q, none⟩ = some (.int .u64 (W q : Nat))) := cw
  have HZ : Aside (∀ q, lo ≤ q → q < m → W q = 0) := hz
  have HM : Hid (((W m : Int) == 0) = false) := hm
  have CT : Aside (∀ w', Fr S w w' → Calls Tryz.prog 145 #[.int .u64 (W m : Nat)] w' fun e w'' => e = .returned (.int .i64 (t : Int)) ∧ w'' = w') := ct
  have HC0 : Hid (w.cell? ⟨p, a, none⟩ = some (.slice (some ⟨b, 0, none⟩) L L)) := c0
  have HC2 : Hid (w.cell? ⟨p, a + 2, none⟩ = some (.int .i64 (lo : Int))) := c2
  have HF2 : Hid (w.frozen? ⟨p, a + 2, none⟩ = false) := f2
  have HX : Hid ((m : Int) * 64 + t = x) := hx
  clear cw hz ct c0 c2 f2 hm hx
  have y1 : (m : Int) < L := by omega
  go_enter Tryz.func134, Tryz.ntmps134
  go_wp2_with fail
  go_loopg [] (m + 1) (fun g wr => ∃ (k : Nat), k ≤ m ∧ lo ≤ k ∧ m + 1 - k ≤ g ∧ Hid (Ch (· = ⟨p, a + 2, none⟩) S w wr) ∧ Hid (wr.cell? ⟨p, a + 2, none⟩ = some (.int .i64 (k : Int))))
  case atStart => exact ⟨lo, by omega, by omega, by omega, Ch.refl _ _ _, HC2⟩
  case round =>
    obtain ⟨k, hk1, hk2, hg, HCh, HK⟩ := hrel
    have c0 : wr.cell? ⟨p, a, none⟩ = some (.slice (some ⟨b, 0, none⟩) L L) := (HCh.out.cell _ (by intro e; simp only [Addr.mk.injEq] at e; omega)).trans HC0.out
    have c2 := HK.out
    have f2 : wr.frozen? ⟨p, a + 2, none⟩ = false := (HCh.out.frz _).trans HF2.out
    have cw : wr.cell? ⟨b, k, none⟩ = some (.int .u64 (W k : Nat)) := (HCh.out.cell _ (by intro e; simp only [Addr.mk.injEq] at e; exact ne e.1)).trans (CW.out k (by omega))
    have y2 : (k : Int) ≤ m := by omega
    by_cases e : k < m
    · rw [HZ.out k hk2 e] at cw
      have C2 : Hid (Ch (· = ⟨p, a + 2, none⟩) S w ((wr.drew).setCell ⟨p, a + 2, none⟩ (.int .i64 ((k : Int) + 1))) ∧ ((wr.drew).setCell ⟨p, a + 2, none⟩ (.int .i64 ((k : Int) + 1))).cell? ⟨p, a + 2, none⟩ = some (.int .i64 ((k : Int) + 1))) := ⟨HCh.out.drew.set _ _ rfl hS, World.cell?_setCell_same _ _ _ c2⟩
      go_wp2_with fail
      go_region
      go_wp2
      go_roundg (m + 1 - (k + 1))
      case measure => omega
      case rel => exact ⟨k + 1, by omega, by omega, by omega, C2.out.1, C2.out.2⟩
    · have ek : k = m := by omega
      subst ek
      have hm := HM.out
      have hx := HX.out
      have c3 := fun n => CT.out _ (HCh.out.drewN n).fr
      generalize W k = u at *
      go_wp2_with fail
      go_region
      go_wp2_with fail
      go_quiet (first | (go_at_call 145; go_must (exact (c3 _).mono fun e w' h => ⟨h.1, _, h.2⟩)))
      go_wp2
      go_ret
      first | exact ⟨rfl, HCh.out.drewN _, HK.out⟩ | exact ⟨rfl, HCh.out.drew.drewN _, HK.out⟩
end Go.Proofs.YtcankhnnikhblaaGreatDoor

/- buddy.Buddy: walks of its small methods. -/
namespace Go.Proofs.YtcankhnnikhblaaGreatDoor
open Go.RowKit

set_option maxHeartbeats 2000000 in
theorem badd_walk (p o f i fr s : Nat) (w : World) (P : World → Prop) (ho : (o : Int) < 10) (hi : (f : Int) / 2 ^ o = (i : Int)) (hs : wrap64 (2 ^ o) = (s : Int)) (hf : (fr : Int) ≤ 2000000) (hs2 : (s : Int) ≤ 1000)
    (cA : Calls Tryz.prog 131 #[.pointer (some ⟨p, 3 + o * 3, none⟩), .int .i64 (i : Int)] w.drew fun e w' => e = .returned (.tuple #[]) ∧ P w')
    (hP : ∀ w', P w' → w'.cell? ⟨p, 2, none⟩ = some (.int .i64 (fr : Int)) ∧ w'.frozen? ⟨p, 2, none⟩ = false) :
    Calls Tryz.prog 112 #[.pointer (some ⟨p, 0, none⟩), .int .i64 (f : Int), .int .i64 (o : Int)] w fun e w' => e = .returned (.tuple #[]) ∧ ∃ w1, P w1 ∧ w' = (w1.setCell ⟨p, 2, none⟩ (.int .i64 ((fr : Int) + s))).drew := by
  have HP : Aside (∀ w', P w' → w'.cell? ⟨p, 2, none⟩ = some (.int .i64 (fr : Int)) ∧ w'.frozen? ⟨p, 2, none⟩ = false) := hP
  clear hP
  go_enter Tryz.func112, Tryz.ntmps112
  go_wp2_with fail
  go_region_held3 (fun _ => True) (first | trivial | go_keep) (first | (go_at_call 131; go_must (with_reducible refine cA.mono ?_); rintro e w1 ⟨rfl, H1⟩))
  obtain ⟨c2, f2⟩ := HP.out w1 H1
  go_wp2_with fail
  go_region
  go_wp2
  go_end0
  exact ⟨rfl, w1, H1, rfl⟩
set_option maxHeartbeats 2000000 in
theorem brem_walk (p o f i fr s : Nat) (w : World) (P : World → Prop) (ho : (o : Int) < 10) (hi : (f : Int) / 2 ^ o = (i : Int)) (hs : wrap64 (2 ^ o) = (s : Int)) (hf : (fr : Int) ≤ 2000000) (hs2 : (s : Int) ≤ 1000)
    (cA : Calls Tryz.prog 149 #[.pointer (some ⟨p, 3 + o * 3, none⟩), .int .i64 (i : Int)] w.drew fun e w' => e = .returned (.tuple #[]) ∧ P w')
    (hP : ∀ w', P w' → w'.cell? ⟨p, 2, none⟩ = some (.int .i64 (fr : Int)) ∧ w'.frozen? ⟨p, 2, none⟩ = false) :
    Calls Tryz.prog 135 #[.pointer (some ⟨p, 0, none⟩), .int .i64 (f : Int), .int .i64 (o : Int)] w fun e w' => e = .returned (.tuple #[]) ∧ ∃ w1, P w1 ∧ w' = (w1.setCell ⟨p, 2, none⟩ (.int .i64 ((fr : Int) - s))).drew := by
  have HP : Aside (∀ w', P w' → w'.cell? ⟨p, 2, none⟩ = some (.int .i64 (fr : Int)) ∧ w'.frozen? ⟨p, 2, none⟩ = false) := hP
  clear hP
  go_enter Tryz.func135, Tryz.ntmps135
  go_wp2_with fail
  go_region_held3 (fun _ => True) (first | trivial | go_keep) (first | (go_at_call 149; go_must (with_reducible refine cA.mono ?_); rintro e w1 ⟨rfl, H1⟩))
  obtain ⟨c2, f2⟩ := HP.out w1 H1
  go_wp2_with fail
  go_region
  go_wp2
  go_end0
  exact ⟨rfl, w1, H1, rfl⟩
set_option maxHeartbeats 2000000 in
theorem fitting_walk (p o r : Nat) (E : Nat → Bool) (w : World) (cE : ∀ k, k < 10 → Calls Tryz.prog 148 #[.pointer (some ⟨p, 3 + k * 3, none⟩)] w fun e w' => e = .returned (.bool (E k)) ∧ w' = w)
    (h1 : o ≤ r) (h2 : r ≤ 10) (h3 : ∀ k, o ≤ k → k < r → E k = true) (h4 : r < 10 → E r = false) :
    Calls Tryz.prog 133 #[.pointer (some ⟨p, 0, none⟩), .int .i64 (o : Int)] w fun e w' => e = .returned (.int .i64 (r : Int)) ∧ w' = w := by
  have CE : Aside (∀ k, k < 10 → Calls Tryz.prog 148 #[.pointer (some ⟨p, 3 + k * 3, none⟩)] w fun e w' => e = .returned (.bool (E k)) ∧ w' = w) := cE
  have H3 : Aside (∀ k, o ≤ k → k < r → E k = true) := h3
  have H4 : Hid (r < 10 → E r = false) := h4
  clear cE h3 h4
  go_enter Tryz.func133, Tryz.ntmps133
  go_wp2_with fail
  go_loopg [1] (r + 1) (fun g v1 wr => ∃ k : Nat, v1 = .int .i64 (k : Int) ∧ o ≤ k ∧ k ≤ r ∧ r + 1 - k ≤ g ∧ wr = w)
  case atStart => exact ⟨o, rfl, by omega, by omega, by omega, rfl⟩
  case round =>
    obtain ⟨k, rfl, k1, k2, hg, rfl⟩ := hrel
    by_cases e : k < r
    · have y1 : (k : Int) < 10 := by omega
      have c1 := CE.out k (by omega)
      rw [H3.out k k1 e] at c1
      go_wp2_with (first | (go_at_call 148; go_must (with_reducible refine c1.mono ?_); rintro e w' ⟨rfl, rfl⟩))
      go_roundg (r + 1 - (k + 1))
      case measure => omega
      case rel => exact ⟨k + 1, by go_num, by omega, by omega, by omega, rfl⟩
    · have ek : k = r := by omega
      subst ek
      by_cases e10 : k < 10
      · have y1 : (k : Int) < 10 := by omega
        have c1 := CE.out k e10
        rw [H4.out e10] at c1
        go_wp2_with (first | (go_at_call 148; go_must (with_reducible refine c1.mono ?_); rintro e w' ⟨rfl, rfl⟩))
        go_ret
        exact ⟨rfl, rfl⟩
      · have e' : k = 10 := by omega
        subst e'
        go_wp2
        go_ret
        exact ⟨rfl, rfl⟩
set_option maxHeartbeats 2000000 in
theorem around_walk (p f r : Nat) (B : Nat → Bool) (w : World) (cH : ∀ k w', k < 10 → Dr w w' → Calls Tryz.prog 143 #[.pointer (some ⟨p, 3 + k * 3, none⟩), .int .i64 ((f / 2 ^ k : Nat) : Int)] w' fun e w'' => e = .returned (.bool (B k)) ∧ w'' = w')
    (h2 : r ≤ 10) (h3 : ∀ k, k < r → B k = false) (h4 : r < 10 → B r = true) :
    Calls Tryz.prog 151 #[.pointer (some ⟨p, 0, none⟩), .int .i64 (f : Int)] w fun e w' => e = .returned (.int .i64 (r : Int)) ∧ Dr w w' := by
  have CH : Aside (∀ k w', k < 10 → Dr w w' → Calls Tryz.prog 143 #[.pointer (some ⟨p, 3 + k * 3, none⟩), .int .i64 ((f / 2 ^ k : Nat) : Int)] w' fun e w'' => e = .returned (.bool (B k)) ∧ w'' = w') := cH
  have H3 : Aside (∀ k, k < r → B k = false) := h3
  have H4 : Hid (r < 10 → B r = true) := h4
  clear cH h3 h4
  go_enter Tryz.func151, Tryz.ntmps151
  go_wp2_with fail
  go_loopg [5] (r + 1) (fun g v5 wr => ∃ k : Nat, v5 = .int .i64 (k : Int) ∧ k ≤ r ∧ r + 1 - k ≤ g ∧ Hid (Dr w wr))
  case atStart => exact ⟨0, rfl, by omega, by omega, Dr.refl w⟩
  case round =>
    obtain ⟨k, rfl, k2, hg, HD⟩ := hrel
    have HD2 : Aside (∀ n, Dr w (wr.drewN n)) := fun n => HD.out.trans ⟨n, rfl⟩
    by_cases e10 : k < 10
    · have y1 : (k : Int) < 10 := by omega
      have c1 := fun n => CH.out k (wr.drewN n) e10 (HD2.out n)
      have hi : (f : Int) / 2 ^ k = ((f / 2 ^ k : Nat) : Int) := by push_cast; rfl
      generalize f / 2 ^ k = i at *
      by_cases e : k < r
      · rw [H3.out k e] at c1
        go_wp2_with fail
        have yb : decide ((k : Int) ≤ 9) = true := decide_eq_true (by omega)
        have yc : decide (k ≤ 9) = true := decide_eq_true (by omega)
        go_quiet (first | (go_at_call 143; go_must (exact (c1 _).mono fun e w' h => ⟨h.1, _, h.2⟩)))
        go_wp2
        go_roundg (r + 1 - (k + 1))
        case measure => omega
        case rel => exact ⟨k + 1, by go_num, by omega, by omega, HD2.out _⟩
      · have ek : k = r := by omega
        subst ek
        rw [H4.out e10] at c1
        go_wp2_with fail
        have yb : decide ((k : Int) ≤ 9) = true := decide_eq_true (by omega)
        have yc : decide (k ≤ 9) = true := decide_eq_true (by omega)
        go_quiet (first | (go_at_call 143; go_must (exact (c1 _).mono fun e w' h => ⟨h.1, _, h.2⟩)))
        go_wp2
        go_ret
        exact ⟨rfl, HD2.out _⟩
    · have e' : k = 10 := by omega
      subst e'
      go_wp2_with fail
      go_quiet (fail)
      go_wp2
      go_ret
      exact ⟨by rw [show r = 10 by omega]; rfl, HD2.out _⟩
end Go.Proofs.YtcankhnnikhblaaGreatDoor
