/- BitsFields, BitsIndexes: the walks. -/
import Derived.Test.YtddklpbddpjklaaB9
import Derived.Test.YtddklpbddpjklaaMask
namespace Go.Proofs.Ytddklpbddpjklaa
open Go.RowKit

/-- What Field and Set are, of any numbers. -/
def fld (u low n : Int) : Int := if 0 ≤ low ∧ 1 ≤ n ∧ low + n ≤ 64 then ((fieldN u.toNat low.toNat n.toNat : Nat) : Int) else 0
def st (u low n v : Int) : Int := if 0 ≤ low ∧ 1 ≤ n ∧ low + n ≤ 64 then ((setN u.toNat low.toNat n.toNat v.toNat : Nat) : Int) else u

theorem field_all (u low n : Int) (w : World) (h0 : 0 ≤ u) (h1 : u < 18446744073709551616) (h2 : -9223372036854775808 ≤ n) (h3 : n ≤ 9223372036854775807) :
    Calls Try.prog 15 #[.int .u64 u, .int .i64 low, .int .i64 n] w fun e w' => e = .returned (.int .u64 (fld u low n)) ∧ Dr w w' := by
  by_cases c : 0 ≤ low ∧ 1 ≤ n ∧ low + n ≤ 64
  · have := field_any u.toNat low.toNat n.toNat w (by omega) (by omega) (by omega)
    rw [Int.toNat_of_nonneg h0, Int.toNat_of_nonneg c.1, Int.toNat_of_nonneg (by omega)] at this
    rw [fld, if_pos c]; exact this
  · rw [fld, if_neg c]
    exact (field_not u low n w h2 h3 c).mono fun _ _ ⟨h1, h2⟩ => ⟨h1, by rw [h2]; exact Dr.refl _⟩
theorem set_all (u low n v : Int) (w : World) (h0 : 0 ≤ u) (h1 : u < 18446744073709551616) (h2 : -9223372036854775808 ≤ n) (h3 : n ≤ 9223372036854775807) (h4 : 0 ≤ v) (h5 : v < 18446744073709551616) :
    Calls Try.prog 17 #[.int .u64 u, .int .i64 low, .int .i64 n, .int .u64 v] w fun e w' => e = .returned (.int .u64 (st u low n v)) ∧ Dr w w' := by
  by_cases c : 0 ≤ low ∧ 1 ≤ n ∧ low + n ≤ 64
  · have := set_any u.toNat low.toNat n.toNat v.toNat w (by omega) (by omega) (by omega) (by omega)
    rw [Int.toNat_of_nonneg h0, Int.toNat_of_nonneg c.1, Int.toNat_of_nonneg (by omega), Int.toNat_of_nonneg h4] at this
    rw [st, if_pos c]; exact this
  · rw [st, if_neg c]
    exact (set_not u low n v w h2 h3 c).mono fun _ _ ⟨h1, h2⟩ => ⟨h1, by rw [h2]; exact Dr.refl _⟩
theorem rfield_all (u low n : Int) (w : World) (h0 : 0 ≤ u) (h1 : u < 18446744073709551616) :
    Calls Try.prog 16 #[.int .u64 u, .int .i64 low, .int .i64 n] w fun e w' => e = .returned (.int .u64 (fld u low n)) ∧ w' = w := by
  by_cases c : 0 ≤ low ∧ 1 ≤ n ∧ low + n ≤ 64
  · have := rfield_any u.toNat low.toNat n.toNat w (by omega) (by omega) (by omega)
    rw [Int.toNat_of_nonneg h0, Int.toNat_of_nonneg c.1, Int.toNat_of_nonneg (by omega)] at this
    rw [fld, if_pos c]; exact this
  · rw [fld, if_neg c]; exact rfield_not u low n w c
theorem rset_all (u low n v : Int) (w : World) (h0 : 0 ≤ u) (h1 : u < 18446744073709551616) (h4 : 0 ≤ v) (h5 : v < 18446744073709551616) :
    Calls Try.prog 18 #[.int .u64 u, .int .i64 low, .int .i64 n, .int .u64 v] w fun e w' => e = .returned (.int .u64 (st u low n v)) ∧ w' = w := by
  by_cases c : 0 ≤ low ∧ 1 ≤ n ∧ low + n ≤ 64
  · have := rset_any u.toNat low.toNat n.toNat v.toNat w (by omega) (by omega) (by omega) (by omega)
    rw [Int.toNat_of_nonneg h0, Int.toNat_of_nonneg c.1, Int.toNat_of_nonneg (by omega), Int.toNat_of_nonneg h4] at this
    rw [st, if_pos c]; exact this
  · rw [st, if_neg c]; exact rset_not u low n v w c

set_option maxHeartbeats 4000000 in
set_option maxRecDepth 10000 in
theorem fields_law (u low n v : Int) (w : World) (hu : (Lit.int .u64 u).wf = true) (hn : (Lit.int .i64 n).wf = true) (hv : (Lit.int .u64 v).wf = true) :
    Calls Try.prog 4 #[.int .u64 u, .int .i64 low, .int .i64 n, .int .u64 v] w fun e w' => e = .returned (.bool true) ∧ Kp w w' := by
  have h1 := wf_word hu
  have h2 := wf_int hn
  have h3 := wf_word hv
  have c1 := fun w => field_all u low n w h1.1 h1.2 h2.1 h2.2
  have c2 := fun w => rfield_all u low n w h1.1 h1.2
  have c3 := fun w => set_all u low n v w h1.1 h1.2 h2.1 h2.2 h3.1 h3.2
  have c4 := fun w => rset_all u low n v w h1.1 h1.2 h3.1 h3.2
  clear h1 h2 h3 hu hn hv
  generalize fld u low n = x at *
  generalize st u low n v = y at *
  go_enter Try.func4, Try.ntmps4
  go_wp2_with fail
  with_reducible refine (told_any _).mono ?_
  rintro e w1 ⟨rfl, K1⟩
  have H1 : Hid (Kp w w1) := K1
  clear K1
  go_wp2_with fail
  with_reducible refine (c1 _).mono ?_
  rintro e w2 ⟨rfl, D⟩
  have H2 : Hid (Kp w w2) := H1.out.trans D.kp
  clear D H1
  go_wp2_with (go_at_call 16; with_reducible refine (c2 _).mono ?_; rintro e w' ⟨rfl, rfl⟩)
  with_reducible refine (c3 _).mono ?_
  rintro e w3 ⟨rfl, D⟩
  have H3 : Hid (Kp w w3) := H2.out.trans D.kp
  clear D H2
  go_wp2_with (go_at_call 18; with_reducible refine (c4 _).mono ?_; rintro e w' ⟨rfl, rfl⟩)
  go_ret
  exact ⟨rfl, H3.out⟩

set_option maxHeartbeats 4000000 in
set_option maxRecDepth 10000 in
theorem indexes_law (u level : Int) (w : World) (hu : (Lit.int .u64 u).wf = true) :
    Calls Try.prog 5 #[.int .u64 u, .int .i64 level] w fun e w' => e = .returned (.bool true) ∧ Kp w w' := by
  have h1 := wf_word hu
  obtain ⟨n, rfl⟩ : ∃ n : Nat, u = n := ⟨u.toNat, by omega⟩
  have c1 := fun w => index_any n level w (by omega)
  have c2 := fun w => rindex_any n level w (by omega)
  have c3 := span_any level
  have c4 := rspan_any level
  have c5 := span_any (level % 4)
  have c6 := rspan_any (level % 4)
  have m := mask2 level
  clear h1 hu
  generalize idx n level = x at *
  generalize spn level = y at *
  generalize spn (level % 4) = z at *
  go_enter Try.func5, Try.ntmps5
  go_wp2_with fail
  with_reducible refine (told_any _).mono ?_
  rintro e w1 ⟨rfl, K1⟩
  have H1 : Hid (Kp w w1) := K1
  clear K1
  go_wp2_with fail
  with_reducible refine (c1 _).mono ?_
  rintro e w2 ⟨rfl, D⟩
  have H2 : Hid (Kp w w2) := H1.out.trans D.kp
  clear D H1
  go_wp2_with (first | (go_at_call 20; with_reducible refine (c2 _).mono ?_; rintro e w' ⟨rfl, rfl⟩) | (go_at_call 21; with_reducible refine (c3 _).mono ?_; rintro e w' ⟨rfl, rfl⟩) | (go_at_call 22; with_reducible refine (c4 _).mono ?_; rintro e w' ⟨rfl, rfl⟩) | (go_at_call 21; with_reducible refine (c5 _).mono ?_; rintro e w' ⟨rfl, rfl⟩) | (go_at_call 22; with_reducible refine (c6 _).mono ?_; rintro e w' ⟨rfl, rfl⟩))
  go_ret
  exact ⟨rfl, H2.out⟩

end Go.Proofs.Ytddklpbddpjklaa
