/- math/bits: TrailingZeros, Len; greatest; isOrder. -/
import Derived.Test.YtpjlmmiceiionaaDoorJ00
namespace Go.Proofs.YtpjlmmiceiionaaDoor
open Go.RowKit

/-- The cell i of the table. -/
def tabAt (i : Nat) : Int := match (Rows.laid_math_bits_deBruijn64tab : DataW Unit) with
  | .agg l => match l[i]? with
    | some (.lit (.int _ n)) => n
    | _ => 0
  | _ => 0
/-- The table lies where it lay at first. -/
structure TAB (w : World) : Prop where
  lt : 0 < w.heap.size
  cell : ∀ i, i < 64 → w.cell? ⟨0, i, none⟩ = some (.int .u8 (tabAt i))
theorem TAB.kp {w w' : World} (h : TAB w) (k : Kp w w') : TAB w' := ⟨Nat.lt_of_lt_of_le h.lt k.size, fun i hi => by rw [k.cell (p := ⟨0, i, none⟩) h.lt]; exact h.cell i hi⟩
theorem TAB.fr {w w' : World} {S : Nat → Prop} (h : TAB w) (k : Fr S w w') (hS : ¬ S 0) : TAB w' := ⟨Nat.lt_of_lt_of_le h.lt k.size, fun i hi => by rw [k.cell (a := ⟨0, i, none⟩) h.lt hS]; exact h.cell i hi⟩

theorem odd_of : ∀ n x, x < 2 ^ n → 0 < x → ∃ t r, t < n ∧ x = 2 ^ t * (2 * r + 1)
  | 0, x, h, h0 => by omega
  | n + 1, x, h, h0 => by
    by_cases c : x % 2 = 1
    · exact ⟨0, x / 2, by omega, by omega⟩
    · obtain ⟨t, r, h1, h2⟩ := odd_of n (x / 2) (by rw [Nat.pow_succ] at h; omega) (by omega)
      refine ⟨t + 1, r, by omega, ?_⟩
      rw [Nat.pow_succ, Nat.mul_comm (2 ^ t) 2, Nat.mul_assoc, ← h2]
      omega
theorem low_bit {x t r : Nat} (h : x < 2 ^ 64) (ht : t < 64) (hx : x = 2 ^ t * (2 * r + 1)) : x &&& (2 ^ 64 - x) = 2 ^ t := by
  have hp := Nat.two_pow_pos t
  have hy : x = 2 ^ t * (2 * r) + (2 ^ t - 1) + 1 := by rw [hx, Nat.mul_add]; omega
  have hyl : 2 ^ t * (2 * r) + (2 ^ t - 1) < 2 ^ 64 := by omega
  apply Nat.eq_of_testBit_eq
  intro i
  rw [Nat.testBit_and]
  conv => lhs; arg 2; arg 1; rw [hy]
  rw [Nat.testBit_two_pow_sub_succ hyl, Nat.testBit_two_pow_mul_add _ (by omega), Nat.testBit_two_pow]
  have hx2 : x = 2 ^ t * (2 * r + 1) + 0 := by omega
  rw [hx2, Nat.testBit_two_pow_mul_add _ hp]
  by_cases c : i < t
  · rw [if_pos c, if_pos c, decide_eq_false (fun e : t = i => by subst e; exact Nat.lt_irrefl _ c)]; simp
  · rw [if_neg c, if_neg c]
    by_cases e : t = i
    · subst e
      rw [decide_eq_true ht, decide_eq_true rfl, Nat.sub_self]; simp
    · rw [decide_eq_false e]
      obtain ⟨d, hd⟩ : ∃ d, i - t = d + 1 := ⟨i - t - 1, by omega⟩
      rw [hd, Nat.testBit_succ, Nat.testBit_succ, show (2 * r + 1) / 2 = r by omega, show 2 * r / 2 = r by omega]
      cases r.testBit d <;> simp
theorem tab_right : ∀ t : Nat, t < 64 → tabAt (2 ^ t * 285870213051353865 % 18446744073709551616 / 288230376151711744) = (t : Int) := by decide +kernel

set_option maxHeartbeats 1000000 in
theorem tz_walk {w : World} (x y z u v : Nat) (t : Int) (h0 : ¬ (x : Int) = 0) (a1 : IntKind.u64.wrap (-(x : Int)) = (y : Int)) (a2 : bits .and .u64 (x : Int) (y : Int) = (z : Int)) (a3 : IntKind.u64.wrap ((z : Int) * 285870213051353865) = (u : Int)) (a4 : (u : Int) / 288230376151711744 = (v : Int)) (hv : (v : Int) < 64)
    (c : w.cell? ⟨0, v, none⟩ = some (.int .u8 t)) (t0 : 0 ≤ t) (t1 : t < 64) :
    Calls Tryd.prog 56 #[.int .u64 (x : Int)] w fun e w' => e = .returned (.int .i64 t) ∧ w' = w := by
  go_enter Tryd.func56, Tryd.ntmps56
  go_wp2
  go_ret
  exact ⟨rfl, rfl⟩
theorem wrap_neg {x : Nat} (h0 : 0 < x) (h : x < 18446744073709551616) : IntKind.u64.wrap (-(x : Int)) = ((18446744073709551616 - x : Nat) : Int) := by
  rw [IntKind.wrap_u64]
  omega
theorem wrap_nat (x : Nat) : IntKind.u64.wrap ((x : Int) * 285870213051353865) = ((x * 285870213051353865 % 18446744073709551616 : Nat) : Int) := by
  rw [IntKind.wrap_u64]
  omega
theorem tz_ok {w : World} (T : TAB w) (x t r : Nat) (h : x < 18446744073709551616) (ht : t < 64) (hx : x = 2 ^ t * (2 * r + 1)) :
    Calls Tryd.prog 56 #[.int .u64 (x : Int)] w fun e w' => e = .returned (.int .i64 (t : Int)) ∧ w' = w := by
  have h0 : 0 < x := by rw [hx]; exact Nat.mul_pos (Nat.two_pow_pos t) (by omega)
  have hb := low_bit (show x < 2 ^ 64 from h) ht hx
  have hl : 2 ^ t < 18446744073709551616 := Nat.pow_lt_pow_right (by decide) ht (a := 2) (n := 64)
  have hv : 2 ^ t * 285870213051353865 % 18446744073709551616 / 288230376151711744 < 64 := by omega
  refine tz_walk x (18446744073709551616 - x) (2 ^ t) _ (2 ^ t * 285870213051353865 % 18446744073709551616 / 288230376151711744) t (by omega) (wrap_neg h0 h) ?_ (wrap_nat _) (by omega) (by omega) (by rw [T.cell _ hv, tab_right t ht]) (by omega) (by omega)
  rw [u64_and_nat _ _ h (by omega)]
  exact congrArg _ hb
set_option maxHeartbeats 1000000 in
theorem tz_none (w : World) :
    Calls Tryd.prog 56 #[.int .u64 0] w fun e w' => e = .returned (.int .i64 64) ∧ w' = w := by
  go_enter Tryd.func56, Tryd.ntmps56
  go_wp2
  go_ret
  exact ⟨rfl, rfl⟩
def lg (v : Nat) : Nat := if v = 0 then 0 else Nat.log2 v + 1
def lenOk (L : ByteArray) : Bool := (List.range 256).all fun v => match L.data[v]? with
  | some u => u.toNat == lg v
  | none => false
theorem lg_le {v n : Nat} (h : v < 2 ^ n) : lg v ≤ n := by
  unfold lg
  split
  · omega
  · rename_i c
    have := (Nat.log2_lt c).2 h
    omega
theorem len_at {L : ByteArray} {x : Nat} (hx : x < L.size) (ok : lenOk L = true) (h : x < 256) : (L[x]'hx).toNat = lg x := by
  have := List.all_eq_true.1 ok x (List.mem_range.2 h)
  rw [Array.getElem?_eq_getElem (show x < L.data.size from hx)] at this
  exact eq_of_beq this
theorem wrap_small {x : Int} (h0 : 0 ≤ x) (h1 : x ≤ 1000) : wrap64 x = x := by unfold wrap64; omega
theorem len_end0 (L : ByteArray) (x : Nat) (hx : x < L.size) (ok : lenOk L = true) (h : x < 256) : Ending.returned (.int .i64 (wrap64 (wrap64 ((L[x]'hx).toNat : Int)))) = Ending.returned (.int .i64 (lg x : Nat)) := by
  have := lg_le (v := x) (n := 8) (by omega)
  rw [len_at hx ok h, wrap_small (x := (lg x : Int)) (by omega) (by omega), wrap_small (by omega) (by omega)]
theorem len_end1 (L : ByteArray) (x : Nat) (c : Int) (hx : x < L.size) (ok : lenOk L = true) (h : x < 256) (h0 : 0 ≤ c) (h1 : c ≤ 100) : Ending.returned (.int .i64 (wrap64 (c + wrap64 ((L[x]'hx).toNat : Int)))) = Ending.returned (.int .i64 (c + (lg x : Nat))) := by
  have := lg_le (v := x) (n := 8) (by omega)
  rw [len_at hx ok h, wrap_small (x := (lg x : Int)) (by omega) (by omega), wrap_small (by omega) (by omega)]
set_option maxHeartbeats 1000000 in
set_option maxRecDepth 100000 in
theorem len_low (x : Nat) (w : World) (h : (x : Int) < 256) :
    Calls Tryd.prog 77 #[.int .u64 (x : Int)] w fun e w' => e = .returned (.int .i64 (lg x : Nat)) ∧ w' = w := by
  have h1 : ¬ (4294967296 : Int) ≤ x := by omega
  have h2 : ¬ (65536 : Int) ≤ x := by omega
  have h3 : ¬ (256 : Int) ≤ x := by omega
  go_enter Tryd.func77, Tryd.ntmps77
  go_wp2
  go_ret
  exact ⟨len_end0 _ _ _ (by decide +kernel) (by omega), rfl⟩
set_option maxHeartbeats 1000000 in
set_option maxRecDepth 100000 in
theorem len_mid (x y : Nat) (w : World) (h4 : (256 : Int) ≤ x) (h : (x : Int) < 65536) (e : (x : Int) / 256 = (y : Int)) (h5 : (y : Int) < 256) :
    Calls Tryd.prog 77 #[.int .u64 (x : Int)] w fun e w' => e = .returned (.int .i64 (8 + (lg y : Nat))) ∧ w' = w := by
  have h1 : ¬ (4294967296 : Int) ≤ x := by omega
  have h2 : ¬ (65536 : Int) ≤ x := by omega
  go_enter Tryd.func77, Tryd.ntmps77
  go_wp2
  go_ret
  exact ⟨len_end1 _ _ 8 _ (by decide +kernel) (by omega) (by omega) (by omega), rfl⟩
set_option maxHeartbeats 1000000 in
set_option maxRecDepth 100000 in
theorem len_high (x y : Nat) (w : World) (h4 : (65536 : Int) ≤ x) (h : (x : Int) < 16777216) (e : (x : Int) / 65536 = (y : Int)) (h5 : (y : Int) < 256) :
    Calls Tryd.prog 77 #[.int .u64 (x : Int)] w fun e w' => e = .returned (.int .i64 (16 + (lg y : Nat))) ∧ w' = w := by
  have h1 : ¬ (4294967296 : Int) ≤ x := by omega
  have h2 : ¬ (256 : Int) ≤ y := by omega
  go_enter Tryd.func77, Tryd.ntmps77
  go_wp2
  go_ret
  exact ⟨len_end1 _ _ 16 _ (by decide +kernel) (by omega) (by omega) (by omega), rfl⟩
theorem lg_div (x k : Nat) (h : 2 ^ k ≤ x) : lg x = k + lg (x / 2 ^ k) := by
  have hp := Nat.two_pow_pos k
  have h1 : x ≠ 0 := by omega
  have h2 : x / 2 ^ k ≠ 0 := by
    have := (Nat.le_div_iff_mul_le hp (x := 1) (y := x)).2 (by omega)
    omega
  unfold lg
  rw [if_neg h1, if_neg h2]
  have e : Nat.log2 x = k + Nat.log2 (x / 2 ^ k) := by
    apply Nat.le_antisymm
    · apply Nat.le_of_lt_succ
      rw [Nat.log2_lt h1, show (k + (x / 2 ^ k).log2).succ = ((x / 2 ^ k).log2 + 1) + k by omega, Nat.pow_add]
      rw [← Nat.div_lt_iff_lt_mul hp]
      exact (Nat.log2_lt h2).1 (Nat.lt_succ_self _)
    · rw [Nat.le_log2 h1, Nat.add_comm, Nat.pow_add, ← Nat.le_div_iff_mul_le hp]
      exact (Nat.le_log2 h2).1 (Nat.le_refl _)
  omega
theorem len64_any (x : Nat) (w : World) (h : x < 16777216) :
    Calls Tryd.prog 77 #[.int .u64 (x : Int)] w fun e w' => e = .returned (.int .i64 (lg x : Nat)) ∧ w' = w := by
  by_cases c1 : x < 256
  · exact len_low x w (by omega)
  · by_cases c2 : x < 65536
    · rw [lg_div x 8 (by omega)]
      exact len_mid x (x / 2 ^ 8) w (by omega) (by omega) (by omega) (by omega)
    · rw [lg_div x 16 (by omega)]
      exact len_high x (x / 2 ^ 16) w (by omega) (by omega) (by omega) (by omega)
theorem len_any (x : Nat) (w : World) (h : x < 16777216) :
    Calls Tryd.prog 60 #[.int .u64 (x : Int)] w fun e w' => e = .returned (.int .i64 (lg x : Nat)) ∧ w' = w := by
  have c := len64_any x w h
  go_enter Tryd.func60, Tryd.ntmps60
  go_wp2_with (go_at_call 77; with_reducible refine c.mono ?_; rintro e w' ⟨rfl, rfl⟩)
  go_ret
  exact ⟨rfl, rfl⟩

end Go.Proofs.YtpjlmmiceiionaaDoor
