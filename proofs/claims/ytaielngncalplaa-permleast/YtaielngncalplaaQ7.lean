/- PermLeast: the walk. -/
import Derived.Test.YtaielngncalplaaQ4
namespace Go.Proofs.Ytaielngncalplaa
open Go.RowKit
set_option linter.unusedVariables false

theorem eq_permL (x y z : Bool) (w : World) : (Op.equalIn 10000 23 (.agg #[.bool x, .bool y, .bool z]) (.agg #[.bool x, .bool y, .bool z])).run Try.prog w = .ok true w := by
  rw [eq_permP, samP_eq.2 ⟨rfl, rfl, rfl⟩]

set_option maxHeartbeats 8000000 in
set_option maxRecDepth 10000 in
theorem least_walk (a0 a1 a2 b0 b1 b2 c0 c1 c2 m0 m1 m2 : Bool) (access : Int) (m t : Nat) (K J : Int) (A B C D E G H : Bool) (w : World)
    (p1 : bits .and .i64 access 3 = (m : Int)) (i1 : (m : Int) ≤ 3) (p2 : (m : Int).tmod 3 = (t : Int)) (i2 : (t : Int) ≤ 2) (p3 : 1 + (t : Int) = K) (i3 : K ≤ 3)
    (hC : A = true → B = true → C = true) (hJ : (J == 0) = D) (hE : E = false → H = false) (hG : E = true → G = H)
    (hH : ∀ w, (Op.equalIn 10000 23 (.agg #[.bool a0, .bool a1, .bool a2]) (.agg #[.bool b0, .bool b1, .bool b2])).run Try.prog w = .ok H w)
    (s1 : Aside (∀ w, Calls Try.prog 9 #[.agg #[.bool a0, .bool a1, .bool a2], .agg #[.bool b0, .bool b1, .bool b2]] w fun e w' => e = .returned (.agg #[.bool m0, .bool m1, .bool m2]) ∧ Kp w w'))
    (s2 : Aside (∀ w, Calls Try.prog 9 #[.agg #[.bool b0, .bool b1, .bool b2], .agg #[.bool a0, .bool a1, .bool a2]] w fun e w' => e = .returned (.agg #[.bool m0, .bool m1, .bool m2]) ∧ Kp w w'))
    (t1 : Aside (∀ w, Calls Try.prog 11 #[.agg #[.bool m0, .bool m1, .bool m2], .agg #[.bool a0, .bool a1, .bool a2]] w fun e w' => e = .returned (.bool true) ∧ Kp w w'))
    (t2 : Aside (∀ w, Calls Try.prog 11 #[.agg #[.bool m0, .bool m1, .bool m2], .agg #[.bool b0, .bool b1, .bool b2]] w fun e w' => e = .returned (.bool true) ∧ Kp w w'))
    (t3 : Aside (∀ w, Calls Try.prog 11 #[.agg #[.bool c0, .bool c1, .bool c2], .agg #[.bool a0, .bool a1, .bool a2]] w fun e w' => e = .returned (.bool A) ∧ Kp w w'))
    (t4 : Aside (∀ w, Calls Try.prog 11 #[.agg #[.bool c0, .bool c1, .bool c2], .agg #[.bool b0, .bool b1, .bool b2]] w fun e w' => e = .returned (.bool B) ∧ Kp w w'))
    (t5 : Aside (∀ w, Calls Try.prog 11 #[.agg #[.bool c0, .bool c1, .bool c2], .agg #[.bool m0, .bool m1, .bool m2]] w fun e w' => e = .returned (.bool C) ∧ Kp w w'))
    (u1 : Aside (∀ w, Calls Try.prog 12 #[.agg #[.bool a0, .bool a1, .bool a2], .agg #[.bool b0, .bool b1, .bool b2], .int .i64 K] w fun e w' => e = .returned (.int .i64 J) ∧ Kp w w'))
    (u2 : Aside (∀ w, Calls Try.prog 10 #[.agg #[.bool m0, .bool m1, .bool m2], .int .i64 K] w fun e w' => e = .returned (.bool D) ∧ Kp w w'))
    (u3 : Aside (∀ w, Calls Try.prog 11 #[.agg #[.bool a0, .bool a1, .bool a2], .agg #[.bool b0, .bool b1, .bool b2]] w fun e w' => e = .returned (.bool E) ∧ Kp w w'))
    (u4 : Aside (∀ w, Calls Try.prog 11 #[.agg #[.bool b0, .bool b1, .bool b2], .agg #[.bool a0, .bool a1, .bool a2]] w fun e w' => e = .returned (.bool G) ∧ Kp w w')) :
    Calls Try.prog 5 #[.agg #[.bool a0, .bool a1, .bool a2], .agg #[.bool b0, .bool b1, .bool b2], .agg #[.bool c0, .bool c1, .bool c2], .int .i64 access] w fun e w' => e = .returned (.bool true) ∧ Kp w w' := by
  have st : Aside (∀ w, Calls Try.prog 8 #[] w fun e w' => e = .returned (.bool true) ∧ Kp w w') := fun w => ptold_any w
  have hq := eq_permL
  have HJ : Hid _ := hJ
  have HH : Aside _ := hH
  clear hJ hH
  have hAB : A = false ∨ (A = true ∧ B = false) ∨ (A = true ∧ B = true ∧ C = true) := by
    cases A
    · exact .inl rfl
    · cases B
      · exact .inr (.inl ⟨rfl, rfl⟩)
      · exact .inr (.inr ⟨rfl, rfl, hC rfl rfl⟩)
  have hEG : (E = false ∧ H = false) ∨ (E = true ∧ G = H) := by
    cases E
    · exact .inl ⟨rfl, hE rfl⟩
    · exact .inr ⟨rfl, hG rfl⟩
  clear hC hE hG
  rcases hEG with ⟨rfl, rfl⟩ | ⟨rfl, rfl⟩ <;> rcases hAB with rfl | ⟨rfl, rfl⟩ | ⟨rfl, rfl, rfl⟩
  all_goals
    go_enter Try.func5, Try.ntmps5
    go_wp2_with fail
    with_reducible refine (s1.out _).mono ?_
    rintro e w1 ⟨rfl, K⟩
    have HK1 : Hid (Kp w w1) := ((((Kp.refl w).alloc _).alloc _).alloc _).trans K
    obtain ⟨q4, hq4⟩ : ∃ q4, q4 = w.heap.size := ⟨_, rfl⟩
    have Hq41 : Hid (PX w1 q4 a0 a1 a2) := by rw [hq4]; exact ((PX.made w a0 a1 a2).kp (((Kp.refl _).alloc _).alloc _)).kp K
    obtain ⟨q5, hq5⟩ : ∃ q5, q5 = w.heap.size + 1 := ⟨_, rfl⟩
    have Hq51 : Hid (PX w1 q5 b0 b1 b2) := by
      show PX w1 q5 b0 b1 b2
      have B := ((PX.made (w.alloc (.cells #[.bool a0, .bool a1, .bool a2] 23)) b0 b1 b2).kp ((Kp.refl _).alloc _)).kp K
      rw [hq5]
      simpa using B
    obtain ⟨q6, hq6⟩ : ∃ q6, q6 = w.heap.size + 2 := ⟨_, rfl⟩
    have Hq61 : Hid (PX w1 q6 c0 c1 c2) := by
      show PX w1 q6 c0 c1 c2
      have B := ((PX.made ((w.alloc (.cells #[.bool a0, .bool a1, .bool a2] 23)).alloc (.cells #[.bool b0, .bool b1, .bool b2] 23)) c0 c1 c2).kp (Kp.refl _)).kp K
      rw [hq6]
      simpa using B
    (try rw [← hq6])
    (try rw [← hq5])
    (try rw [← hq4])
    clear K hq4 hq5 hq6 s1
    go_wp2_with fail
    obtain ⟨w2, hw2⟩ : ∃ v, v = (w1.alloc (.cells #[.bool m0, .bool m1, .bool m2] 23)) := ⟨_, rfl⟩
    have HK2 : Hid (Kp w w2) := by rw [hw2]; exact (HK1.out.alloc _)
    have Hq42 : Hid (PX w2 q4 a0 a1 a2) := by rw [hw2]; exact Hq41.out.kp ((Kp.refl _).alloc _)
    have Hq52 : Hid (PX w2 q5 b0 b1 b2) := by rw [hw2]; exact Hq51.out.kp ((Kp.refl _).alloc _)
    have Hq62 : Hid (PX w2 q6 c0 c1 c2) := by rw [hw2]; exact Hq61.out.kp ((Kp.refl _).alloc _)
    obtain ⟨q9, hq9⟩ : ∃ q9, q9 = w1.heap.size := ⟨_, rfl⟩
    have Hq92 : Hid (PX w2 q9 m0 m1 m2) := by rw [hq9, hw2]; exact (PX.made w1 m0 m1 m2).kp (Kp.refl _)
    rw [← hw2]
    (try rw [← hq9])
    clear hw2 hq9 HK1 Hq41 Hq51 Hq61
    have q4c0 : ∀ p : KeptBy w2, p.v.cell? ⟨q4, 0, none⟩ = some (.bool a0) := fun p => (Hq42.out.kp p.k).c0
    have q4c1 : ∀ p : KeptBy w2, p.v.cell? ⟨q4, 1, none⟩ = some (.bool a1) := fun p => (Hq42.out.kp p.k).c1
    have q4c2 : ∀ p : KeptBy w2, p.v.cell? ⟨q4, 2, none⟩ = some (.bool a2) := fun p => (Hq42.out.kp p.k).c2
    have q5c0 : ∀ p : KeptBy w2, p.v.cell? ⟨q5, 0, none⟩ = some (.bool b0) := fun p => (Hq52.out.kp p.k).c0
    have q5c1 : ∀ p : KeptBy w2, p.v.cell? ⟨q5, 1, none⟩ = some (.bool b1) := fun p => (Hq52.out.kp p.k).c1
    have q5c2 : ∀ p : KeptBy w2, p.v.cell? ⟨q5, 2, none⟩ = some (.bool b2) := fun p => (Hq52.out.kp p.k).c2
    have q6c0 : ∀ p : KeptBy w2, p.v.cell? ⟨q6, 0, none⟩ = some (.bool c0) := fun p => (Hq62.out.kp p.k).c0
    have q6c1 : ∀ p : KeptBy w2, p.v.cell? ⟨q6, 1, none⟩ = some (.bool c1) := fun p => (Hq62.out.kp p.k).c1
    have q6c2 : ∀ p : KeptBy w2, p.v.cell? ⟨q6, 2, none⟩ = some (.bool c2) := fun p => (Hq62.out.kp p.k).c2
    have q9c0 : ∀ p : KeptBy w2, p.v.cell? ⟨q9, 0, none⟩ = some (.bool m0) := fun p => (Hq92.out.kp p.k).c0
    have q9c1 : ∀ p : KeptBy w2, p.v.cell? ⟨q9, 1, none⟩ = some (.bool m1) := fun p => (Hq92.out.kp p.k).c1
    have q9c2 : ∀ p : KeptBy w2, p.v.cell? ⟨q9, 2, none⟩ = some (.bool m2) := fun p => (Hq92.out.kp p.k).c2
    refine wp_region_kept mixed (by kernel_rfl) ?_
    repeat (go_big_quiet_step (first | exact rfl | (go_at_call 11; go_must (first | (with_reducible refine Calls.kept_of (t1.out _)) | (with_reducible refine Calls.kept_of (t2.out _)) | (with_reducible refine Calls.kept_of (t3.out _)) | (with_reducible refine Calls.kept_of (t4.out _)) | (with_reducible refine Calls.kept_of (t5.out _)))) | (go_at_call 9; with_reducible refine Calls.kept_of (s2.out _))))
    refine wpQuiet_nil ?_
    intro w3 hw'
    have kq : Kp w2 w3 := by obtain ⟨p, rfl⟩ := hw'; exact p.k
    clear hw' q4c0 q4c1 q4c2 q5c0 q5c1 q5c2 q6c0 q6c1 q6c2 q9c0 q9c1 q9c2
    have HK3 : Hid (Kp w w3) := HK2.out.trans kq
    have Hq43 : Hid (PX w3 q4 a0 a1 a2) := Hq42.out.kp kq
    have Hq53 : Hid (PX w3 q5 b0 b1 b2) := Hq52.out.kp kq
    have Hq63 : Hid (PX w3 q6 c0 c1 c2) := Hq62.out.kp kq
    have Hq93 : Hid (PX w3 q9 m0 m1 m2) := Hq92.out.kp kq
    clear kq HK2 Hq42 Hq52 Hq62 Hq92
    clear t1 t2 t3 t4 t5 s2
    go_wp2_with fail
    have hJ := HJ.out
    have hH := HH.out
    have q4c0 : ∀ p : KeptBy w3, p.v.cell? ⟨q4, 0, none⟩ = some (.bool a0) := fun p => (Hq43.out.kp p.k).c0
    have q4c1 : ∀ p : KeptBy w3, p.v.cell? ⟨q4, 1, none⟩ = some (.bool a1) := fun p => (Hq43.out.kp p.k).c1
    have q4c2 : ∀ p : KeptBy w3, p.v.cell? ⟨q4, 2, none⟩ = some (.bool a2) := fun p => (Hq43.out.kp p.k).c2
    have q5c0 : ∀ p : KeptBy w3, p.v.cell? ⟨q5, 0, none⟩ = some (.bool b0) := fun p => (Hq53.out.kp p.k).c0
    have q5c1 : ∀ p : KeptBy w3, p.v.cell? ⟨q5, 1, none⟩ = some (.bool b1) := fun p => (Hq53.out.kp p.k).c1
    have q5c2 : ∀ p : KeptBy w3, p.v.cell? ⟨q5, 2, none⟩ = some (.bool b2) := fun p => (Hq53.out.kp p.k).c2
    have q9c0 : ∀ p : KeptBy w3, p.v.cell? ⟨q9, 0, none⟩ = some (.bool m0) := fun p => (Hq93.out.kp p.k).c0
    have q9c1 : ∀ p : KeptBy w3, p.v.cell? ⟨q9, 1, none⟩ = some (.bool m1) := fun p => (Hq93.out.kp p.k).c1
    have q9c2 : ∀ p : KeptBy w3, p.v.cell? ⟨q9, 2, none⟩ = some (.bool m2) := fun p => (Hq93.out.kp p.k).c2
    refine wp_region_kept mixed (by kernel_rfl) ?_
    repeat (go_big_quiet_step (first | exact rfl | (go_at_call 8; with_reducible refine Calls.kept_of (st.out _)) | (go_at_call 12; with_reducible refine Calls.kept_of (u1.out _)) | (go_at_call 10; with_reducible refine Calls.kept_of (u2.out _)) | (go_at_call 11; go_must (first | (with_reducible refine Calls.kept_of (u3.out _)) | (with_reducible refine Calls.kept_of (u4.out _))))))
    refine wpQuiet_nil ?_
    intro w4 hw'
    have kq : Kp w3 w4 := by obtain ⟨p, rfl⟩ := hw'; exact p.k
    clear hw' q4c0 q4c1 q4c2 q5c0 q5c1 q5c2 q9c0 q9c1 q9c2
    have HK4 : Hid (Kp w w4) := HK3.out.trans kq
    have Hq44 : Hid (PX w4 q4 a0 a1 a2) := Hq43.out.kp kq
    have Hq54 : Hid (PX w4 q5 b0 b1 b2) := Hq53.out.kp kq
    have Hq64 : Hid (PX w4 q6 c0 c1 c2) := Hq63.out.kp kq
    have Hq94 : Hid (PX w4 q9 m0 m1 m2) := Hq93.out.kp kq
    clear kq HK3 Hq43 Hq53 Hq63 Hq93
    clear hJ hH
    go_wp2_with fail
    go_ret
    exact ⟨rfl, HK4.out⟩

theorem least_law (a0 a1 a2 b0 b1 b2 c0 c1 c2 : Bool) (access : Int) (w : World) :
    Calls Try.prog 5 #[.agg #[.bool a0, .bool a1, .bool a2], .agg #[.bool b0, .bool b1, .bool b2], .agg #[.bool c0, .bool c1, .bool c2], .int .i64 access] w fun e w' => e = .returned (.bool true) ∧ Kp w w' := by
  obtain ⟨m, p1, hm⟩ := and_lim access 3 (by decide)
  obtain ⟨t, ht⟩ : ∃ t : Nat, t = m % 3 := ⟨_, rfl⟩
  have p2 : (m : Int).tmod 3 = (t : Int) := by rw [Int.tmod_eq_emod_of_nonneg (by omega)]; omega
  obtain ⟨K, p3⟩ : ∃ K, 1 + (t : Int) = K := ⟨_, rfl⟩
  refine least_walk a0 a1 a2 b0 b1 b2 c0 c1 c2 (a0 && b0) (a1 && b1) (a2 && b2) access m t K _ _ _ _ _ _ _ _ w p1 (by omega) p2 (by omega) p3 (by omega) ?_ ?_ ?_ ?_ (eq_permP a0 a1 a2 b0 b1 b2)
    (fun w => pand_any a0 a1 a2 b0 b1 b2 w) (fun w => by have := pand_any b0 b1 b2 a0 a1 a2 w; rwa [Bool.and_comm b0, Bool.and_comm b1, Bool.and_comm b2] at this)
    (fun w => by have := pwithin_any (a0 && b0) (a1 && b1) (a2 && b2) a0 a1 a2 w; rwa [show wiP (a0 && b0) (a1 && b1) (a2 && b2) a0 a1 a2 = true from by cases a0 <;> cases a1 <;> cases a2 <;> cases b0 <;> cases b1 <;> cases b2 <;> rfl] at this)
    (fun w => by have := pwithin_any (a0 && b0) (a1 && b1) (a2 && b2) b0 b1 b2 w; rwa [show wiP (a0 && b0) (a1 && b1) (a2 && b2) b0 b1 b2 = true from by cases a0 <;> cases a1 <;> cases a2 <;> cases b0 <;> cases b1 <;> cases b2 <;> rfl] at this)
    (fun w => pwithin_any c0 c1 c2 a0 a1 a2 w) (fun w => pwithin_any c0 c1 c2 b0 b1 b2 w) (fun w => pwithin_any c0 c1 c2 _ _ _ w)
    (fun w => pjudge_any a0 a1 a2 b0 b1 b2 K w) (fun w => pallows_any _ _ _ K w) (fun w => pwithin_any a0 a1 a2 b0 b1 b2 w) (fun w => pwithin_any b0 b1 b2 a0 a1 a2 w)
  · cases a0 <;> cases a1 <;> cases a2 <;> cases b0 <;> cases b1 <;> cases b2 <;> cases c0 <;> cases c1 <;> cases c2 <;> decide
  · unfold alP juP
    clear p1 p2 ht
    split
    · cases a0 <;> cases b0 <;> rfl
    split
    · cases a1 <;> cases b1 <;> rfl
    split
    · cases a2 <;> cases b2 <;> rfl
    · rfl
  · cases a0 <;> cases a1 <;> cases a2 <;> cases b0 <;> cases b1 <;> cases b2 <;> decide
  · cases a0 <;> cases a1 <;> cases a2 <;> cases b0 <;> cases b1 <;> cases b2 <;> decide

end Go.Proofs.Ytaielngncalplaa
