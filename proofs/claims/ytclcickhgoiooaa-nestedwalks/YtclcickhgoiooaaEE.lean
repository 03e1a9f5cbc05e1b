/- desc: the document's Near tells one that may be. -/
import Derived.Test.YtclcickhgoiooaaED
namespace Go.Proofs.Ytclcickhgoiooaa
open Go.RowKit

/-- What Near tells: one that may be. -/
theorem near_any (s l k : Int) (a : Nat) (r q x : Bool) (f : Int) (hp : isPl s l = true) (ha : a < 18446744073709551616) :
    ∃ (k' : Int) (a' : Nat) (r' q' x' : Bool) (f' : Int), dchk s l k' a' r' q' x' f' = 0 ∧ ∀ w, Calls Try.prog 27 #[.int .i64 s, .int .i64 l, .agg #[.int .i64 k, .int .u64 (a : Int), .bool r, .bool q, .bool x, .int .i64 f]] w fun e w' =>
      e = .returned (.agg #[.int .i64 k', .int .u64 (a' : Int), .bool r', .bool q', .bool x', .int .i64 f']) ∧ Kp w w' := by
  obtain ⟨t, κ, h1, h2, h3, h4, h5⟩ := place_of k 4 (by decide)
  obtain ⟨m, hm, hm'⟩ := and_lim f 15 (by decide)
  have hl := isPl_iff.1 hp
  have ht := top_pos hp
  have c4 := rtop_any s
  obtain ⟨A, hA⟩ : ∃ A, a % topS s = A := ⟨_, rfl⟩
  have hA' : A < topS s := by rw [← hA]; exact Nat.mod_lt _ ht
  have e7 : (a : Int) % (topS s : Nat) = (A : Int) := by rw [← hA]; simp
  have e6 : (a : Int).tmod (topS s : Nat) = (A : Int) := by rw [Int.tmod_eq_emod_of_nonneg (by omega)]; exact e7
  have h2' : -4 < t := by omega
  have h3' : t < 4 := by omega
  have e10 : t % 4 = (κ : Int) := by
    have h4' : (t + 4).tmod 4 = (κ : Int) := h4
    rw [Int.tmod_eq_emod_of_nonneg (by omega)] at h4'
    omega
  have e11 : (IntKind.i64.wrap (t + 4)).tmod 4 = (κ : Int) := by
    rw [show IntKind.i64.wrap (t + 4) = t + 4 from by rw [IntKind.wrap_i64]; omega]
    exact h4
  have z8 : ¬ ((topS s : Nat) : Int) = 0 := by omega
  have z9 : ¬ topS s = 0 := by omega
  have hf : 0 ≤ (m : Int) ∧ (m : Int) ≤ 15 := by omega
  have tl := top_le s
  by_cases k0 : κ = 0
  · refine ⟨0, 0, false, false, false, 0, chk0 ⟨hp, rfl, by decide, by decide⟩ (by simp [fm]) (by omega) (Nat.zero_mod _), fun w => ?_⟩
    exact near_0 s l k a r q x f w t κ m A (topS s) h1 h2' h3' h4 e10 e11 hm e6 e7 z8 z9 c4 k0
  obtain ⟨B, hB1, hB2, hB3⟩ := near_addr A 4096
  have j2 : (A : Int) % 4096 = ((A % 4096 : Nat) : Int) := by omega
  have j1 : (A : Int).tmod 4096 = ((A % 4096 : Nat) : Int) := by rw [Int.tmod_eq_emod_of_nonneg (by omega)]; exact j2
  have j4 : IntKind.u64.wrap (B : Int) = (B : Int) := u64_id (by omega) (by omega)
  by_cases l3 : l = 3
  · refine ⟨3, B, r, (q && r), x, m, chk0 ⟨hp, rfl, hf⟩ (by cases q <;> cases r <;> simp [fm, l3]) (by omega) hB2, fun w => ?_⟩
    exact near_3 s l k a r q x f w t κ m A (topS s) h1 h2' h3' h4 e10 e11 hm e6 e7 z8 z9 c4 k0 l3 _ B j1 j2 hB3 j4
  by_cases l0 : l = 0
  · refine ⟨1, B, false, false, false, m, chk0 ⟨hp, rfl, hf⟩ (by simp [fm, l3]) (by omega) hB2, fun w => ?_⟩
    exact near_10 s l k a r q x f w t κ m A (topS s) h1 h2' h3' h4 e10 e11 hm e6 e7 z8 z9 c4 k0 l0 _ B j1 j2 hB3 j4
  by_cases k3 : κ = 3
  · refine ⟨1, B, false, false, false, m, chk0 ⟨hp, rfl, hf⟩ (by simp [fm, l3]) (by omega) hB2, fun w => ?_⟩
    exact near_13 s l k a r q x f w t κ m A (topS s) h1 h2' h3' h4 e10 e11 hm e6 e7 z8 z9 c4 k3 l0 l3 _ B j1 j2 hB3 j4
  by_cases k1 : κ = 1
  · refine ⟨(κ : Int), B, false, false, false, m, ?_, fun w => ?_⟩
    · rw [k1]; exact chk0 ⟨hp, rfl, hf⟩ (by simp [fm, l3]) (by omega) hB2
    · exact near_11 s l k a r q x f w t κ m A (topS s) h1 h2' h3' h4 e10 e11 hm e6 e7 z8 z9 c4 k1 l0 l3 _ B j1 j2 hB3 j4
  have k2 : κ = 2 := by omega
  have c5 := rspan_any l
  have up : 0 < spn l := unit_pos (k := 2) hp
  obtain ⟨B, hB1, hB2, hB3⟩ := near_addr A (spn l)
  have j2 : (A : Int) % (spn l : Nat) = ((A % spn l : Nat) : Int) := by simp
  have j1 : (A : Int).tmod (spn l : Nat) = ((A % spn l : Nat) : Int) := by rw [Int.tmod_eq_emod_of_nonneg (by omega)]; exact j2
  have j4 : IntKind.u64.wrap (B : Int) = (B : Int) := u64_id (by omega) (by omega)
  refine ⟨(κ : Int), B, r, (q && r), x, m, ?_, fun w => ?_⟩
  · rw [k2]; exact chk0 ⟨hp, rfl, hf⟩ (by cases q <;> cases r <;> simp [fm, l3, l0]) (by omega) hB2
  · exact near_12 s l k a r q x f w t κ m A (topS s) h1 h2' h3' h4 e10 e11 hm e6 e7 z8 z9 c4 k2 l0 l3 (spn l) c5 up _ B j1 j2 hB3 j4

end Go.Proofs.Ytclcickhgoiooaa
