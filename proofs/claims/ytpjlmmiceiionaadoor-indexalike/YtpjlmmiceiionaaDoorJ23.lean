/- Joined: CI, C4. -/
import Derived.Test.YtpjlmmiceiionaaDoorU0
import Derived.Test.YtpjlmmiceiionaaDoorAL
import Derived.Deep.RegionHeld3
/- cmp.Compare of numbers. -/
namespace Go.Proofs.YtpjlmmiceiionaaDoor
open Go.RowKit
set_option maxRecDepth 10000

def cmpI (a b : Int) : Int := if a < b then -1 else if b < a then 1 else 0
set_option maxHeartbeats 2000000 in
theorem nan_int (a : Int) (w : World) : Calls Tryd.prog 78 #[.int .i64 a] w fun e w' => e = .returned (.bool false) ∧ w' = w := by
  go_enter Tryd.func78, Tryd.ntmps78
  go_wp2_with fail
  go_ret
  exact ⟨by simp, rfl⟩
set_option maxHeartbeats 2000000 in
theorem comp_int (a b : Int) (w : World) : Calls Tryd.prog 61 #[.int .i64 a, .int .i64 b] w fun e w' => e = .returned (.int .i64 (cmpI a b)) ∧ w' = w := by
  have n1 := fun w => nan_int a w
  have n2 := fun w => nan_int b w
  unfold cmpI
  go_enter Tryd.func61, Tryd.ntmps61
  by_cases c1 : a < b
  · rw [if_pos c1]
    go_wp2_with fail
    with_reducible refine (n1 _).mono ?_
    rintro e w' ⟨rfl, rfl⟩
    go_wp2_with fail
    with_reducible refine (n2 _).mono ?_
    rintro e w' ⟨rfl, rfl⟩
    clear n1 n2
    go_wp2_with fail
    go_ret
    exact ⟨rfl, rfl⟩
  · rw [if_neg c1]
    by_cases c2 : b < a
    · rw [if_pos c2]
      go_wp2_with fail
      with_reducible refine (n1 _).mono ?_
      rintro e w' ⟨rfl, rfl⟩
      go_wp2_with fail
      with_reducible refine (n2 _).mono ?_
      rintro e w' ⟨rfl, rfl⟩
      clear n1 n2
      go_wp2_with fail
      go_ret
      exact ⟨rfl, rfl⟩
    · rw [if_neg c2]
      go_wp2_with fail
      with_reducible refine (n1 _).mono ?_
      rintro e w' ⟨rfl, rfl⟩
      go_wp2_with fail
      with_reducible refine (n2 _).mono ?_
      rintro e w' ⟨rfl, rfl⟩
      clear n1 n2
      go_wp2_with fail
      go_ret
      exact ⟨rfl, rfl⟩

end Go.Proofs.YtpjlmmiceiionaaDoor

/- index: sets of frames below 64, as one word or none: find, bit. -/
namespace Go.Proofs.YtpjlmmiceiionaaDoor
open Go.RowKit
set_option maxRecDepth 10000

/-- Words as they lie. -/
def LTwd : LT (Int × Nat) := ⟨fun u => [.int .i64 u.1, .int .u64 (u.2 : Int)], 2, 101, 71⟩
theorem LTwd_ok : LTok LTwd where
  E := ⟨fun _ => rfl, fun _ u hu => by
    simp only [LTwd, List.mem_cons, List.not_mem_nil, or_false] at hu
    rcases hu with rfl | rfl <;> rfl, by decide⟩
  ht := Tryd.underlying71
  hi := ⟨_, _, rfl, rfl, rfl, by decide, rfl⟩
  hs w := by kernel_rfl
/-- The words of the frames of m. -/
def wl (m : Nat) : List (Int × Nat) := if m = 0 then [] else [(0, m)]
theorem wl_0 : wl 0 = [] := rfl
theorem wl_s {m : Nat} (h : m ≠ 0) : wl m = [(0, m)] := if_neg h
/-- v is the set of the frames of m, in a block at or above b. -/
def SWd (w : World) (b : Nat) (v : Value) (m : Nat) : Prop := AX LTwd w b v (wl m)
theorem pw64l {b : Nat} (h : b < 64) : 2 ^ b < 18446744073709551616 := Nat.pow_lt_pow_right (by decide) h (a := 2) (n := 64)
theorem wrap_u {x : Nat} (h : x < 18446744073709551616) : IntKind.u64.wrap (x : Int) = (x : Int) := by
  rw [IntKind.wrap_u64]
  omega
set_option maxHeartbeats 1000000 in
theorem ibit_any (f : Nat) (hf : f < 64) (w : World) :
    Calls Tryd.prog 49 #[.int .i64 (f : Int)] w fun e w' => e = .returned (.int .u64 ((2 ^ f : Nat) : Int)) ∧ w' = w := by
  have a1 : (f : Int).tmod 64 = (f : Int) := by
    rw [Int.tmod_eq_emod_of_nonneg (by omega)]
    omega
  have a0 : IntKind.i64.wrap (f : Int) = (f : Int) := by
    rw [IntKind.wrap_i64]
    omega
  have hq := pw64l hf
  have a2 : IntKind.u64.wrap (2 ^ f) = ((2 ^ f : Nat) : Int) := by
    rw [show ((2 : Int) ^ f) = ((2 ^ f : Nat) : Int) from (Int.natCast_pow 2 f).symm]
    exact wrap_u hq
  obtain ⟨q, hq2⟩ : ∃ q, q = 2 ^ f := ⟨_, rfl⟩
  rw [← hq2] at a2 hq ⊢
  clear hq2
  go_enter Tryd.func49, Tryd.ntmps49
  go_wp2_with fail
  go_ret
  exact ⟨rfl, rfl⟩

set_option maxHeartbeats 2000000 in
/-- The word's place against a frame's. -/
theorem iless_any (m : Nat) (w : World) :
    Calls Tryd.prog 65 #[.agg #[.int .i64 0, .int .u64 (m : Int)], .int .i64 0] w fun e w' => e = .returned (.int .i64 0) ∧ Kp w w' := by
  have cc := fun w => comp_int 0 0 w
  rw [show cmpI 0 0 = 0 from rfl] at cc
  have E : Hid (Kp w (w.alloc (.cells #[.int .i64 0, .int .u64 (m : Int)] 101))) := (Kp.refl w).alloc _
  go_enter Tryd.func65, Tryd.ntmps65
  go_wp2_with (go_at_call 61; with_reducible refine (cc _).mono ?_; rintro e w' ⟨rfl, rfl⟩)
  go_ret
  exact ⟨rfl, E.out⟩

set_option maxHeartbeats 4000000 in
theorem isearch_0 (na : Option Addr) (cap : Nat) (w : World) (u : Value) :
    Calls Tryd.prog 64 #[.slice na 0 cap, .int .i64 0, u] w fun e w' => e = .returned (.tuple #[.int .i64 0, .bool false]) ∧ w' = w := by
  go_enter Tryd.func64, Tryd.ntmps64
  go_wp2_with fail
  go_loopg [9, 10, 11] 1 (fun n v9 v10 v11 wr => v9 = .int .i64 0 ∧ v10 = .int .i64 0 ∧ wr = w)
  case atStart => exact ⟨rfl, rfl, rfl⟩
  case round =>
    obtain ⟨rfl, rfl, rfl⟩ := hrel
    go_wp2_with fail
    go_ret2
    exact ⟨rfl, rfl⟩

set_option maxHeartbeats 4000000 in
theorem isearch_1 (g cap m : Nat) (w : World) (hg : g < w.heap.size) (c0 : w.cell? ⟨g, 0, none⟩ = some (.int .i64 0)) (c1 : w.cell? ⟨g, 1, none⟩ = some (.int .u64 (m : Int))) :
    Calls Tryd.prog 64 #[.slice (some ⟨g, 0, none⟩) 1 cap, .int .i64 0, .func (.func 65) #[] #[]] w fun e w' => e = .returned (.tuple #[.int .i64 0, .bool true]) ∧ Kp w w' := by
  have cl := fun w => iless_any m w
  have HH : Hid (g < w.heap.size ∧ w.cell? ⟨g, 0, none⟩ = some (.int .i64 0) ∧ w.cell? ⟨g, 1, none⟩ = some (.int .u64 (m : Int))) := ⟨hg, c0, c1⟩
  clear hg c0 c1
  go_enter Tryd.func64, Tryd.ntmps64
  go_wp2_with fail
  go_loopg [9, 10, 11] 1 (fun n v9 v10 v11 wr => v9 = .int .i64 0 ∧ (∃ j : Nat, v10 = .int .i64 (j : Int) ∧ j ≤ n ∧ j ≤ 1) ∧ Hid (Kp w wr))
  case atStart => exact ⟨rfl, ⟨1, rfl, by omega, by omega⟩, Kp.refl w⟩
  case round =>
    obtain ⟨rfl, ⟨j, rfl, hj, h1⟩, HK⟩ := hrel
    have d0 := (HK.out.cell (p := ⟨g, 0, none⟩) HH.out.1).trans HH.out.2.1
    have d1 := (HK.out.cell (p := ⟨g, 1, none⟩) HH.out.1).trans HH.out.2.2
    by_cases c : j = 0
    · subst c
      go_wp2_with fail
      with_reducible refine (cl _).mono ?_
      rintro e w' ⟨rfl, k1⟩
      have K1 : Hid _ := k1
      clear k1
      go_wp2_with fail
      go_ret2
      exact ⟨rfl, HK.out.trans K1.out⟩
    · obtain rfl : j = 1 := by omega
      go_wp2_with fail
      with_reducible refine (cl _).mono ?_
      rintro e w' ⟨rfl, k1⟩
      have K1 : Hid _ := k1
      clear k1
      go_wp2_with fail
      go_roundg 0
      case measure => omega
      case rel => exact ⟨rfl, ⟨0, rfl, by omega, by omega⟩, HK.out.trans K1.out⟩

set_option maxHeartbeats 2000000 in
theorem ifind_0 (na : Option Addr) (cap f : Nat) (hf : f < 64) (w : World) :
    Calls Tryd.prog 47 #[.slice na 0 cap, .int .i64 (f : Int)] w fun e w' => e = .returned (.tuple #[.int .i64 0, .bool false]) ∧ w' = w := by
  have cs := fun w => isearch_0 na cap w (.func (.func 65) #[] #[])
  have q : (f : Int) / 64 = 0 := by omega
  go_enter Tryd.func47, Tryd.ntmps47
  go_wp2_with fail
  with_reducible refine (cs _).mono ?_
  rintro e w' ⟨rfl, rfl⟩
  go_wp2_with fail
  go_ret2
  exact ⟨rfl, rfl⟩
set_option maxHeartbeats 2000000 in
theorem ifind_1 (g cap m f : Nat) (hf : f < 64) (w : World) (hg : g < w.heap.size) (c0 : w.cell? ⟨g, 0, none⟩ = some (.int .i64 0)) (c1 : w.cell? ⟨g, 1, none⟩ = some (.int .u64 (m : Int))) :
    Calls Tryd.prog 47 #[.slice (some ⟨g, 0, none⟩) 1 cap, .int .i64 (f : Int)] w fun e w' => e = .returned (.tuple #[.int .i64 0, .bool true]) ∧ Kp w w' := by
  have cs := isearch_1 g cap m w hg c0 c1
  have q : (f : Int) / 64 = 0 := by omega
  clear hg c0 c1
  go_enter Tryd.func47, Tryd.ntmps47
  go_wp2_with fail
  with_reducible refine cs.mono ?_
  rintro e w' ⟨rfl, k1⟩
  have K1 : Hid _ := k1
  clear k1
  go_wp2_with fail
  go_ret2
  exact ⟨rfl, K1.out⟩

end Go.Proofs.YtpjlmmiceiionaaDoor
