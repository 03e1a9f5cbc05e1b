/- LedgerBack. -/
import Derived.Test.YtjeahpekcbogeaaGA0
namespace Go.Proofs.Ytjeahpekcbogeaa
open Go.RowKit Go.Maps

set_option maxHeartbeats 4000000 in
theorem lback_any (a0 a1 a2 : Int) (w : World) : Calls Try.prog 6 #[.int .i64 a0, .int .i64 a1, .int .i64 a2] w fun e w' => e = .returned (.bool true) ∧ Kp w w' := by
  have cN := lk_new w 20 w (Kp.refl w) (by omega) (by omega)
  rw [show ((20 : Nat) : Int) = 20 from rfl] at cN
  have cT := ltold_any
  obtain ⟨t, k, k1, k2, k3, k4, k5⟩ := place_of a0 20 (by omega)
  obtain ⟨m, m1, m2⟩ := and_lim a1 255 (by omega)
  obtain ⟨u, u1, u2⟩ : ∃ u : Nat, ((m : Nat) : Int).tmod 255 = (u : Int) ∧ u < 255 := ⟨m % 255, by rw [Int.tmod_eq_emod_of_nonneg (by omega)]; omega, Nat.mod_lt _ (by omega)⟩
  obtain ⟨t3, j, j1, j2, j3, j4, j5⟩ := place_of a2 3 (by omega)
  rw [show ((20 : Nat) : Int) = 20 from rfl] at k1 k2 k3 k4
  rw [show ((255 : Nat) : Int) = 255 from rfl] at m1
  rw [show ((3 : Nat) : Int) = 3 from rfl] at j1 j2 j3 j4
  obtain ⟨v, hv⟩ : ∃ v : Int, 1 + (u : Int) = v := ⟨_, rfl⟩
  have v1 : 1 ≤ v := by omega
  have v2 : v ≤ 255 := by omega
  have fv := fit_in v1 v2
  have HV : Hid (1 ≤ v ∧ v ≤ 255 ∧ fitB v true = true) := ⟨v1, v2, fv⟩
  have z1 : (k : Int) < 20 := by omega
  have wk : Hid ((Lit.int .i64 (k : Int)).wf = true) := wf_small (by omega) (by omega)
  have M : Aside (∀ (s q x : Int) (a : Nat), 1 ≤ a → a ≤ 10 → a ≠ 9 → mayN 20 (s, q) (k : Int) (a : Int) x = movN s q (mvF a) (mvO a) (mvG a) x) := fun s q x a h1 h2 h3 => may_mov (by omega) (by omega) s q x a h1 h2 h3
  have R : Aside (∀ s q x : Int, mayN 20 (s, q) (k : Int) 9 x = relN s q x) := fun s q x => may_rel (by omega) (by omega) s q x
  have hu : (u : Int) < 255 := by omega
  clear u2 v1 v2 fv
  have js : j = 0 ∨ j = 1 ∨ j = 2 := by omega
  clear j5
  rcases js with rfl | rfl | rfl
  · as_aux_lemma =>
      rw [show ((0 : Nat) : Int) = 0 from rfl] at j4
      have qe1 := eq_ent 5 v 4 v
      rw [samN_not (by simp)] at qe1
      have qe2 := eq_ent 4 v 4 v
      rw [samN_eq.2 rfl] at qe2
      have qe3 := eq_ent 0 0 0 0
      rw [samN_eq.2 rfl] at qe3
      have m1' : mayN 20 (noE (k : Int)) (k : Int) 3 v = 0 := (by rw [show noE (k : Int) = (0, 0) from rfl]; exact (M.out _ _ _ 3 (by omega) (by omega) (by omega)).trans (by unfold movN; simp [mvF, mvO, mvG, fitB, HV.out.1, HV.out.2.1]))
      have m2' : mayN 20 (putE noE (k : Int) (4, v) (k : Int)) (k : Int) 6 v = 0 := (by rw [putE_same]; exact (M.out _ _ _ 6 (by omega) (by omega) (by omega)).trans (by unfold movN; simp [mvF, mvO, mvG, fitB, HV.out.1, HV.out.2.1]))
      have m3' : mayN 20 (putE noE (k : Int) (5, v) (k : Int)) (k : Int) 7 v = 0 := (by rw [putE_same]; exact (M.out _ _ _ 7 (by omega) (by omega) (by omega)).trans (by unfold movN; simp [mvF, mvO, mvG, fitB, HV.out.1, HV.out.2.1]))
      have m4' : mayN 20 (putE noE (k : Int) (4, v) (k : Int)) (k : Int) 9 v = 0 := by rw [putE_same, R.out]; unfold relN; simp [fitB, HV.out.1, HV.out.2.1]
      have MM : Hid ((mayN 20 (noE (k : Int)) (k : Int) 3 v = 0) ∧ (mayN 20 (putE noE (k : Int) (4, v) (k : Int)) (k : Int) 6 v = 0) ∧ (mayN 20 (putE noE (k : Int) (5, v) (k : Int)) (k : Int) 7 v = 0) ∧ mayN 20 (putE noE (k : Int) (4, v) (k : Int)) (k : Int) 9 v = 0) := ⟨m1', m2', m3', m4'⟩
      clear m1' m2' m3' m4'
      go_enter Try.func6, Try.ntmps6
      go_wp2_with fail
      with_reducible refine cN.mono ?_
      rintro e w1 ⟨p, bm, rfl, L1, _⟩
      go_wp2_with fail
      with_reducible refine (L1.does (k : Int) 3 v wk.out MM.out.1).mono ?_
      rintro e w2 ⟨rfl, L2', _⟩
      have L2 : LK w w2 p bm 20 (putE noE (k : Int) (4, v)) := L2'
      clear L1 L2'
      go_wp2_with fail
      with_reducible refine (L2.get (k : Int) 4 v wk.out (putE_same _ _ _)).mono ?_
      rintro e w3 ⟨rfl, L3, _⟩
      clear L2
      go_wp2_with fail
      have X1 : LX w (w3.alloc (.cells #[.int .i64 4, .int .i64 v] 36)).drew p bm 20 (putE noE (k : Int) (4, v)) w3.heap.size 4 v := ⟨(L3.kp ((Kp.refl w3).alloc _)).kp (Kp.refl _).drew, (NX.made w3 4 v).kp (Kp.refl _).drew, fun e => by have := L3.lg.me.lt; omega⟩
      have d0 := (NX.made w3 4 v).c0
      have d1 := (NX.made w3 4 v).c1
      clear L3
      generalize w3.alloc (.cells #[.int .i64 4, .int .i64 v] 36) = W1 at *
      generalize w3.heap.size = bo at *
      go_region_held3 (fun w' => w'.cell? ⟨bo, 0, none⟩ = some (.int .i64 4) ∧ w'.cell? ⟨bo, 1, none⟩ = some (.int .i64 v))
        (first | go_keep | exact ⟨X6.b.c0, X6.b.c1⟩ | exact ⟨X5.b.c0, X5.b.c1⟩ | exact ⟨X4.b.c0, X4.b.c1⟩ | exact ⟨X3.b.c0, X3.b.c1⟩ | exact ⟨X2.b.c0, X2.b.c1⟩)
        (first | (go_at_call 12; with_reducible refine (X1.does (k : Int) 6 v (5, v) wk.out MM.out.2.1 rfl).mono ?_; rintro e w4 ⟨rfl, X2'⟩; rw [putE_twice] at X2'; have X2 := X2') | (go_at_call 12; with_reducible refine (X4.does (k : Int) 7 v (4, v) wk.out MM.out.2.2.1 rfl).mono ?_; rintro e w7 ⟨rfl, X5'⟩; rw [putE_twice] at X5'; have X5 := X5') | (go_at_call 10; with_reducible refine (X3.may (k : Int) 7 v 0 wk.out MM.out.2.2.1).mono ?_; rintro e w6 ⟨rfl, X4⟩) | (go_at_call 14; first | (with_reducible refine (X5.get (k : Int) 4 v wk.out (putE_same _ _ _)).mono ?_; rintro e w8 ⟨rfl, X6⟩) | (with_reducible refine (X2.get (k : Int) 5 v wk.out (putE_same _ _ _)).mono ?_; rintro e w5 ⟨rfl, X3⟩)))
      have L6 := X6.lk
      clear X1 X2 X2' X3 X4 X5 X5' X6 d0 d1
      go_wp2_with fail
      with_reducible refine (cT _).mono ?_
      rintro e w9 ⟨rfl, K9⟩
      have L7 := L6.kp K9
      clear L6 K9
      go_wp2_with fail
      with_reducible refine (L7.does (k : Int) 9 v wk.out MM.out.2.2.2).mono ?_
      rintro e w10 ⟨rfl, L8', _⟩
      rw [putE_twice, show aftN 9 v = (0, 0) from rfl, putE_no] at L8'
      clear L7
      go_wp2_with fail
      with_reducible refine (L8'.get (k : Int) 0 0 wk.out rfl).mono ?_
      rintro e w11 ⟨rfl, L9, _⟩
      clear L8'
      go_wp2_with fail
      with_reducible refine (L9.count 0 0 20 (by decide)).mono ?_
      rintro e w12 ⟨rfl, LA, _⟩
      go_wp2_with fail
      go_ret
      exact ⟨rfl, LA.k⟩
  · as_aux_lemma =>
      rw [show ((1 : Nat) : Int) = 1 from rfl] at j4
      have qe1 := eq_ent 3 v 2 0
      rw [samN_not (by simp)] at qe1
      have qe2 := eq_ent 2 0 2 0
      rw [samN_eq.2 rfl] at qe2
      have qe3 := eq_ent 0 0 0 0
      rw [samN_eq.2 rfl] at qe3
      have m1' : mayN 20 (noE (k : Int)) (k : Int) 2 0 = 0 := (by rw [show noE (k : Int) = (0, 0) from rfl]; exact (M.out _ _ _ 2 (by omega) (by omega) (by omega)).trans (by unfold movN; simp [mvF, mvO, mvG, fitB]))
      have m2' : mayN 20 (putE noE (k : Int) (2, 0) (k : Int)) (k : Int) 4 v = 0 := (by rw [putE_same]; exact (M.out _ _ _ 4 (by omega) (by omega) (by omega)).trans (by unfold movN; simp [mvF, mvO, mvG, fitB, HV.out.1, HV.out.2.1]))
      have m3' : mayN 20 (putE noE (k : Int) (3, v) (k : Int)) (k : Int) 5 v = 0 := (by rw [putE_same]; exact (M.out _ _ _ 5 (by omega) (by omega) (by omega)).trans (by unfold movN; simp [mvF, mvO, mvG, fitB, HV.out.1, HV.out.2.1]))
      have m4' : mayN 20 (putE noE (k : Int) (2, 0) (k : Int)) (k : Int) 9 0 = 0 := by rw [putE_same, R.out]; unfold relN; simp [fitB]
      have MM : Hid ((mayN 20 (noE (k : Int)) (k : Int) 2 0 = 0) ∧ (mayN 20 (putE noE (k : Int) (2, 0) (k : Int)) (k : Int) 4 v = 0) ∧ (mayN 20 (putE noE (k : Int) (3, v) (k : Int)) (k : Int) 5 v = 0) ∧ mayN 20 (putE noE (k : Int) (2, 0) (k : Int)) (k : Int) 9 0 = 0) := ⟨m1', m2', m3', m4'⟩
      clear m1' m2' m3' m4'
      go_enter Try.func6, Try.ntmps6
      go_wp2_with fail
      with_reducible refine cN.mono ?_
      rintro e w1 ⟨p, bm, rfl, L1, _⟩
      go_wp2_with fail
      with_reducible refine (L1.does (k : Int) 2 0 wk.out MM.out.1).mono ?_
      rintro e w2 ⟨rfl, L2', _⟩
      have L2 : LK w w2 p bm 20 (putE noE (k : Int) (2, 0)) := L2'
      clear L1 L2'
      go_wp2_with fail
      with_reducible refine (L2.get (k : Int) 2 0 wk.out (putE_same _ _ _)).mono ?_
      rintro e w3 ⟨rfl, L3, _⟩
      clear L2
      go_wp2_with fail
      have X1 : LX w (w3.alloc (.cells #[.int .i64 2, .int .i64 0] 36)).drew p bm 20 (putE noE (k : Int) (2, 0)) w3.heap.size 2 0 := ⟨(L3.kp ((Kp.refl w3).alloc _)).kp (Kp.refl _).drew, (NX.made w3 2 0).kp (Kp.refl _).drew, fun e => by have := L3.lg.me.lt; omega⟩
      have d0 := (NX.made w3 2 0).c0
      have d1 := (NX.made w3 2 0).c1
      clear L3
      generalize w3.alloc (.cells #[.int .i64 2, .int .i64 0] 36) = W1 at *
      generalize w3.heap.size = bo at *
      go_region_held3 (fun w' => w'.cell? ⟨bo, 0, none⟩ = some (.int .i64 2) ∧ w'.cell? ⟨bo, 1, none⟩ = some (.int .i64 0))
        (first | go_keep | exact ⟨X6.b.c0, X6.b.c1⟩ | exact ⟨X5.b.c0, X5.b.c1⟩ | exact ⟨X4.b.c0, X4.b.c1⟩ | exact ⟨X3.b.c0, X3.b.c1⟩ | exact ⟨X2.b.c0, X2.b.c1⟩)
        (first | (go_at_call 12; with_reducible refine (X1.does (k : Int) 4 v (3, v) wk.out MM.out.2.1 rfl).mono ?_; rintro e w4 ⟨rfl, X2'⟩; rw [putE_twice] at X2'; have X2 := X2') | (go_at_call 12; with_reducible refine (X4.does (k : Int) 5 v (2, 0) wk.out MM.out.2.2.1 rfl).mono ?_; rintro e w7 ⟨rfl, X5'⟩; rw [putE_twice] at X5'; have X5 := X5') | (go_at_call 10; with_reducible refine (X3.may (k : Int) 5 v 0 wk.out MM.out.2.2.1).mono ?_; rintro e w6 ⟨rfl, X4⟩) | (go_at_call 14; first | (with_reducible refine (X5.get (k : Int) 2 0 wk.out (putE_same _ _ _)).mono ?_; rintro e w8 ⟨rfl, X6⟩) | (with_reducible refine (X2.get (k : Int) 3 v wk.out (putE_same _ _ _)).mono ?_; rintro e w5 ⟨rfl, X3⟩)))
      have L6 := X6.lk
      clear X1 X2 X2' X3 X4 X5 X5' X6 d0 d1
      go_wp2_with fail
      with_reducible refine (cT _).mono ?_
      rintro e w9 ⟨rfl, K9⟩
      have L7 := L6.kp K9
      clear L6 K9
      go_wp2_with fail
      with_reducible refine (L7.does (k : Int) 9 0 wk.out MM.out.2.2.2).mono ?_
      rintro e w10 ⟨rfl, L8', _⟩
      rw [putE_twice, show aftN 9 0 = (0, 0) from rfl, putE_no] at L8'
      clear L7
      go_wp2_with fail
      with_reducible refine (L8'.get (k : Int) 0 0 wk.out rfl).mono ?_
      rintro e w11 ⟨rfl, L9, _⟩
      clear L8'
      go_wp2_with fail
      with_reducible refine (L9.count 0 0 20 (by decide)).mono ?_
      rintro e w12 ⟨rfl, LA, _⟩
      go_wp2_with fail
      go_ret
      exact ⟨rfl, LA.k⟩
  · as_aux_lemma =>
      rw [show ((2 : Nat) : Int) = 2 from rfl] at j4
      have qe1 := eq_ent 6 0 4 v
      rw [samN_not (by simp)] at qe1
      have qe2 := eq_ent 4 v 4 v
      rw [samN_eq.2 rfl] at qe2
      have qe3 := eq_ent 0 0 0 0
      rw [samN_eq.2 rfl] at qe3
      have m1' : mayN 20 (noE (k : Int)) (k : Int) 3 v = 0 := (by rw [show noE (k : Int) = (0, 0) from rfl]; exact (M.out _ _ _ 3 (by omega) (by omega) (by omega)).trans (by unfold movN; simp [mvF, mvO, mvG, fitB, HV.out.1, HV.out.2.1]))
      have m2' : mayN 20 (putE noE (k : Int) (4, v) (k : Int)) (k : Int) 8 v = 0 := (by rw [putE_same]; exact (M.out _ _ _ 8 (by omega) (by omega) (by omega)).trans (by unfold movN; simp [mvF, mvO, mvG, fitB, HV.out.1, HV.out.2.1]))
      have m3' : mayN 20 (putE noE (k : Int) (6, 0) (k : Int)) (k : Int) 10 v = 0 := (by rw [putE_same]; exact (M.out _ _ _ 10 (by omega) (by omega) (by omega)).trans (by unfold movN; simp [mvF, mvO, mvG, fitB, HV.out.1, HV.out.2.1]))
      have m4' : mayN 20 (putE noE (k : Int) (4, v) (k : Int)) (k : Int) 9 v = 0 := by rw [putE_same, R.out]; unfold relN; simp [fitB, HV.out.1, HV.out.2.1]
      have MM : Hid ((mayN 20 (noE (k : Int)) (k : Int) 3 v = 0) ∧ (mayN 20 (putE noE (k : Int) (4, v) (k : Int)) (k : Int) 8 v = 0) ∧ (mayN 20 (putE noE (k : Int) (6, 0) (k : Int)) (k : Int) 10 v = 0) ∧ mayN 20 (putE noE (k : Int) (4, v) (k : Int)) (k : Int) 9 v = 0) := ⟨m1', m2', m3', m4'⟩
      clear m1' m2' m3' m4'
      go_enter Try.func6, Try.ntmps6
      go_wp2_with fail
      with_reducible refine cN.mono ?_
      rintro e w1 ⟨p, bm, rfl, L1, _⟩
      go_wp2_with fail
      with_reducible refine (L1.does (k : Int) 3 v wk.out MM.out.1).mono ?_
      rintro e w2 ⟨rfl, L2', _⟩
      have L2 : LK w w2 p bm 20 (putE noE (k : Int) (4, v)) := L2'
      clear L1 L2'
      go_wp2_with fail
      with_reducible refine (L2.get (k : Int) 4 v wk.out (putE_same _ _ _)).mono ?_
      rintro e w3 ⟨rfl, L3, _⟩
      clear L2
      go_wp2_with fail
      have X1 : LX w (w3.alloc (.cells #[.int .i64 4, .int .i64 v] 36)).drew p bm 20 (putE noE (k : Int) (4, v)) w3.heap.size 4 v := ⟨(L3.kp ((Kp.refl w3).alloc _)).kp (Kp.refl _).drew, (NX.made w3 4 v).kp (Kp.refl _).drew, fun e => by have := L3.lg.me.lt; omega⟩
      have d0 := (NX.made w3 4 v).c0
      have d1 := (NX.made w3 4 v).c1
      clear L3
      generalize w3.alloc (.cells #[.int .i64 4, .int .i64 v] 36) = W1 at *
      generalize w3.heap.size = bo at *
      go_region_held3 (fun w' => w'.cell? ⟨bo, 0, none⟩ = some (.int .i64 4) ∧ w'.cell? ⟨bo, 1, none⟩ = some (.int .i64 v))
        (first | go_keep | exact ⟨X6.b.c0, X6.b.c1⟩ | exact ⟨X5.b.c0, X5.b.c1⟩ | exact ⟨X4.b.c0, X4.b.c1⟩ | exact ⟨X3.b.c0, X3.b.c1⟩ | exact ⟨X2.b.c0, X2.b.c1⟩)
        (first | (go_at_call 12; with_reducible refine (X1.does (k : Int) 8 v (6, 0) wk.out MM.out.2.1 rfl).mono ?_; rintro e w4 ⟨rfl, X2'⟩; rw [putE_twice] at X2'; have X2 := X2') | (go_at_call 12; with_reducible refine (X4.does (k : Int) 10 v (4, v) wk.out MM.out.2.2.1 rfl).mono ?_; rintro e w7 ⟨rfl, X5'⟩; rw [putE_twice] at X5'; have X5 := X5') | (go_at_call 10; with_reducible refine (X3.may (k : Int) 10 v 0 wk.out MM.out.2.2.1).mono ?_; rintro e w6 ⟨rfl, X4⟩) | (go_at_call 14; first | (with_reducible refine (X5.get (k : Int) 4 v wk.out (putE_same _ _ _)).mono ?_; rintro e w8 ⟨rfl, X6⟩) | (with_reducible refine (X2.get (k : Int) 6 0 wk.out (putE_same _ _ _)).mono ?_; rintro e w5 ⟨rfl, X3⟩)))
      have L6 := X6.lk
      clear X1 X2 X2' X3 X4 X5 X5' X6 d0 d1
      go_wp2_with fail
      with_reducible refine (cT _).mono ?_
      rintro e w9 ⟨rfl, K9⟩
      have L7 := L6.kp K9
      clear L6 K9
      go_wp2_with fail
      with_reducible refine (L7.does (k : Int) 9 v wk.out MM.out.2.2.2).mono ?_
      rintro e w10 ⟨rfl, L8', _⟩
      rw [putE_twice, show aftN 9 v = (0, 0) from rfl, putE_no] at L8'
      clear L7
      go_wp2_with fail
      with_reducible refine (L8'.get (k : Int) 0 0 wk.out rfl).mono ?_
      rintro e w11 ⟨rfl, L9, _⟩
      clear L8'
      go_wp2_with fail
      with_reducible refine (L9.count 0 0 20 (by decide)).mono ?_
      rintro e w12 ⟨rfl, LA, _⟩
      go_wp2_with fail
      go_ret
      exact ⟨rfl, LA.k⟩

end Go.Proofs.Ytjeahpekcbogeaa
