/- digest.Change; told. -/
import Derived.Test.YtcejdeafdlbheaaD4
namespace Go.Proofs.Ytcejdeafdlbheaa
open Go.RowKit

set_option maxHeartbeats 400000 in
theorem add_same (a b c d : Nat) (x y u v : Int) (w : World) (ha : FI a x) (hb : FI b y) (hc : FI c u) (hd : FI d v)
    (hx : x.natAbs ≤ 4503599627370496) (hy : y.natAbs ≤ 4503599627370496) (hu : u.natAbs ≤ 4503599627370496) (hv : v.natAbs ≤ 4503599627370496)
    (hs : (x + u).natAbs ≤ 4503599627370496) (ht : (y + v).natAbs ≤ 4503599627370496) :
    Calls Try.prog 15 #[.complex .f64 a b, .complex .f64 c d] w fun e w' => ∃ re im, e = .returned (.tuple #[.complex .f64 re im, .int .i64 0]) ∧ FC re (x + u) ∧ FC im (y + v) ∧ w' = w := by
  obtain ⟨re, im, hm, hre, him⟩ := FI_cadd ha hb hc hd (by omega) (by omega)
  have hM := fun w => run_complex_sum (P := Try.prog) w .add (.inl rfl) 26 _ _ _ _ _ _ _ hm
  have c1 := fun w => isWhole_true a b w x y ha hb hx hy
  have c3 := fun w => isWhole_true c d w u v hc hd hu hv
  have c4 := fun w => isWhole_true re im w _ _ hre him hs ht
  have c2 := fun w => clean_any re im w _ _ hre him
  have r1 := FC_pz hre
  have r2 := FC_pz him
  clear hm hx hy hu hv hs ht ha hb hc hd hre him
  go_enter Try.func15, Try.ntmps15
  go_wp2_with (first | (go_at_call 20; with_reducible refine (c1 _).mono ?_; rintro e w' ⟨rfl, rfl⟩) | (go_at_call 20; with_reducible refine (c3 _).mono ?_; rintro e w' ⟨rfl, rfl⟩) | (go_at_call 20; with_reducible refine (c4 _).mono ?_; rintro e w' ⟨rfl, rfl⟩) | (go_at_call 21; with_reducible refine (c2 _).mono ?_; rintro e w' ⟨rfl, rfl⟩))
  go_ret2
  exact ⟨_, _, rfl, r1, r2, rfl⟩

set_option maxHeartbeats 1000000 in
theorem change_any (a b : Nat) (x y : Int) (k u v u1 u2 v1 v2 : Nat) (w : World) (ha : FI a x) (hb : FI b y) (hk : k < 512)
    (hu : u < 18446744073709551616) (hv : v < 18446744073709551616) (eu1 : u % 4294967296 = u1) (eu2 : u / 4294967296 = u2) (ev1 : v % 4294967296 = v1) (ev2 : v / 4294967296 = v2)
    (hx : x.natAbs ≤ 4398046511104) (hy : y.natAbs ≤ 4398046511104) :
    Calls Try.prog 14 #[.complex .f64 a b, .int .i64 (k : Int), .int .u64 (u : Int), .int .u64 (v : Int)] w fun e w' => ∃ re im, e = .returned (.tuple #[.complex .f64 re im, .int .i64 0]) ∧ FC re (x + tre (k % 4) ((v1 : Int) - u1) ((v2 : Int) - u2)) ∧ FC im (y + tim (k % 4) ((v1 : Int) - u1) ((v2 : Int) - u2)) ∧ w' = w := by
  have c1 := fun w => word_num u u1 u2 w hu eu1 eu2
  have c2 := fun w => word_num v v1 v2 w hv ev1 ev2
  have b1 : u1 < 4294967296 := by omega
  have b2 : u2 < 4294967296 := by omega
  have b3 : v1 < 4294967296 := by omega
  have b4 : v2 < 4294967296 := by omega
  obtain ⟨p, q, hm, hp, hq⟩ := FI_csub (FI_of_int (v1 : Int) (by omega)) (FI_of_int (v2 : Int) (by omega)) (FI_of_int (u1 : Int) (by omega)) (FI_of_int (u2 : Int) (by omega)) (by omega) (by omega)
  have hM := fun w => run_complex_sum (P := Try.prog) w .sub (.inr rfl) 26 _ _ _ _ _ _ _ hm
  have d1 : ((v1 : Int) - u1).natAbs ≤ 4294967296 := by omega
  have d2 : ((v2 : Int) - u2).natAbs ≤ 4294967296 := by omega
  have c3 := fun w => turn_wide (k % 4) p q _ _ (k : Int) w hp hq (by omega) (by omega) (kmod k)
  have t1 : (tre (k % 4) ((v1 : Int) - u1) ((v2 : Int) - u2)).natAbs ≤ 4294967296 := tre_le d1 d2
  have t2 : (tim (k % 4) ((v1 : Int) - u1) ((v2 : Int) - u2)).natAbs ≤ 4294967296 := tim_le d1 d2
  generalize tre (k % 4) ((v1 : Int) - u1) ((v2 : Int) - u2) = X at *
  generalize tim (k % 4) ((v1 : Int) - u1) ((v2 : Int) - u2) = Y at *
  have c4 := fun w c d (h1 : FC c X) (h2 : FC d Y) => add_same a b c d x y X Y w ha hb h1.1 h2.1 (by omega) (by omega) (by omega) (by omega) (by omega) (by omega)
  have y1 : ¬ (k : Int) < 0 := by omega
  have y2 : ¬ (512 : Int) ≤ k := by omega
  clear hm hp hq d1 d2 t1 t2 b1 b2 b3 b4 hx hy ha hb hu hv eu1 eu2 ev1 ev2 hk
  go_enter Try.func14, Try.ntmps14
  go_wp2_with (first | (go_at_call 12; with_reducible refine (c1 _).mono ?_; rintro e w' ⟨rfl, rfl⟩) | (go_at_call 12; with_reducible refine (c2 _).mono ?_; rintro e w' ⟨rfl, rfl⟩))
  with_reducible refine (c3 _).mono ?_
  rintro e w' ⟨r1, r2, rfl, h1, h2, rfl⟩
  have c5 := fun w => c4 w _ _ h1 h2
  clear h1 h2 c4
  go_wp2_with fail
  with_reducible refine (c5 _).mono ?_
  rintro e w' ⟨s1, s2, rfl, h1, h2, rfl⟩
  go_wp2
  go_ret2
  exact ⟨_, _, rfl, h1, h2, rfl⟩

end Go.Proofs.Ytcejdeafdlbheaa
