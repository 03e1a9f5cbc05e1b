/- PermAsks: the walk, the rest. -/
import Derived.Test.YtaielngncalplaaQ5
namespace Go.Proofs.Ytaielngncalplaa
open Go.RowKit
set_option linter.unusedSimpArgs false

set_option maxHeartbeats 8000000 in
set_option maxRecDepth 10000 in
theorem asks_101 (a' b' c' : Bool) (k : Int) (A B : Bool) (w : World)
    (s1 : Aside (∀ w, Calls Try.prog 7 #[.agg #[.bool true, .bool false, .bool true], .int .i64 k] w fun e w' => e = .returned (.bool A) ∧ Kp w w'))
    (s2 : Aside (∀ w, Calls Try.prog 7 #[.agg #[.bool a', .bool b', .bool c'], .int .i64 k] w fun e w' => e = .returned (.bool B) ∧ Kp w w'))
    (s3 : Aside (∀ w, Calls Try.prog 9 #[.agg #[.bool true, .bool false, .bool true], .agg #[.bool a', .bool b', .bool c']] w fun e w' => e = .returned (.agg #[.bool a', .bool false, .bool c']) ∧ Kp w w'))
    (s4 : Aside (∀ w, Calls Try.prog 10 #[.agg #[.bool true, .bool false, .bool true], .int .i64 k] w fun e w' => e = .returned (.bool A) ∧ Kp w w'))
    (s5 : Aside (∀ w, Calls Try.prog 11 #[.agg #[.bool true, .bool false, .bool true], .agg #[.bool a', .bool b', .bool c']] w fun e w' => e = .returned (.bool (a' && c')) ∧ Kp w w'))
    (s6 : Aside (∀ w, Calls Try.prog 12 #[.agg #[.bool true, .bool false, .bool true], .agg #[.bool a', .bool b', .bool c'], .int .i64 k] w fun e w' => e = .returned (.int .i64 (juP A B)) ∧ Kp w w')) :
    Calls Try.prog 3 #[.agg #[.bool true, .bool false, .bool true], .agg #[.bool a', .bool b', .bool c'], .int .i64 k] w fun e w' => e = .returned (.bool true) ∧ Kp w w' := by
  have st : Aside (∀ w, Calls Try.prog 8 #[] w fun e w' => e = .returned (.bool true) ∧ Kp w w') := fun w => ptold_any w
  have hq := eq_permS
  cases A
  · have s6' : Aside (∀ w, Calls Try.prog 12 #[.agg #[.bool true, .bool false, .bool true], .agg #[.bool a', .bool b', .bool c'], .int .i64 k] w fun e w' => e = .returned (.int .i64 1) ∧ Kp w w') := s6
    clear s6
    go_enter Try.func3, Try.ntmps3
    go_wp2_with fail
    with_reducible refine (s1.out _).mono ?_
    rintro e w1 ⟨rfl, K⟩
    have HK1 : Hid (Kp w w1) := (((Kp.refl w).alloc _).alloc _).trans K
    obtain ⟨b3, hb3⟩ : ∃ b3, b3 = w.heap.size := ⟨_, rfl⟩
    have Hb31 : Hid (PX w1 b3 true false true) := by rw [hb3]; exact ((PX.made w true false true).kp ((Kp.refl _).alloc _)).kp K
    obtain ⟨b4, hb4⟩ : ∃ b4, b4 = w.heap.size + 1 := ⟨_, rfl⟩
    have Hb41 : Hid (PX w1 b4 a' b' c') := by
      show PX w1 b4 a' b' c'
      have B := ((PX.made (w.alloc (.cells #[.bool true, .bool false, .bool true] 23)) a' b' c').kp (Kp.refl _)).kp K
      rw [hb4]
      simpa using B
    (try rw [← hb4])
    (try rw [← hb3])
    clear K hb3 hb4
    have x0 := Hb41.out.c0
    have x1 := Hb41.out.c1
    have x2 := Hb41.out.c2
    go_wp2_with fail
    clear x0 x1 x2
    have b3c0 : ∀ p : KeptBy w1, p.v.cell? ⟨b3, 0, none⟩ = some (.bool true) := fun p => (Hb31.out.kp p.k).c0
    have b3c1 : ∀ p : KeptBy w1, p.v.cell? ⟨b3, 1, none⟩ = some (.bool false) := fun p => (Hb31.out.kp p.k).c1
    have b3c2 : ∀ p : KeptBy w1, p.v.cell? ⟨b3, 2, none⟩ = some (.bool true) := fun p => (Hb31.out.kp p.k).c2
    have b4c0 : ∀ p : KeptBy w1, p.v.cell? ⟨b4, 0, none⟩ = some (.bool a') := fun p => (Hb41.out.kp p.k).c0
    have b4c1 : ∀ p : KeptBy w1, p.v.cell? ⟨b4, 1, none⟩ = some (.bool b') := fun p => (Hb41.out.kp p.k).c1
    have b4c2 : ∀ p : KeptBy w1, p.v.cell? ⟨b4, 2, none⟩ = some (.bool c') := fun p => (Hb41.out.kp p.k).c2
    dsimp only [List.append]
    refine wp_region_kept mixed (by kernel_rfl) ?_
    repeat (go_big_quiet_step (first | exact rfl | (go_at_call 8; with_reducible refine Calls.kept_of (st.out _)) | (go_at_call 9; with_reducible refine Calls.kept_of (s3.out _)) | (go_at_call 10; with_reducible refine Calls.kept_of (s4.out _)) | (go_at_call 7; with_reducible refine Calls.kept_of (s1.out _)) | (go_at_call 11; with_reducible refine Calls.kept_of (s5.out _)) | (go_at_call 12; with_reducible refine Calls.kept_of (s6'.out _))))
    all_goals first | (refine wpQuiet_nil ?_; intro _ hw'; obtain ⟨⟨wq, kq⟩, hw''⟩ := hw'; subst hw''; clear b3c0 b3c1 b3c2 b4c0 b4c1 b4c2; go_wp2_with fail; go_ret; exact ⟨rfl, HK1.out.trans kq⟩) | (cases a' <;> (repeat (go_big_quiet_step (first | exact rfl | (go_at_call 8; with_reducible refine Calls.kept_of (st.out _)) | (go_at_call 9; with_reducible refine Calls.kept_of (s3.out _)) | (go_at_call 10; with_reducible refine Calls.kept_of (s4.out _)) | (go_at_call 7; with_reducible refine Calls.kept_of (s1.out _)) | (go_at_call 11; with_reducible refine Calls.kept_of (s5.out _)) | (go_at_call 12; with_reducible refine Calls.kept_of (s6'.out _))))))
    all_goals first | (refine wpQuiet_nil ?_; intro _ hw'; obtain ⟨⟨wq, kq⟩, hw''⟩ := hw'; subst hw''; clear b3c0 b3c1 b3c2 b4c0 b4c1 b4c2; go_wp2_with fail; go_ret; exact ⟨rfl, HK1.out.trans kq⟩) | (cases c' <;> (repeat (go_big_quiet_step (first | exact rfl | (go_at_call 8; with_reducible refine Calls.kept_of (st.out _)) | (go_at_call 9; with_reducible refine Calls.kept_of (s3.out _)) | (go_at_call 10; with_reducible refine Calls.kept_of (s4.out _)) | (go_at_call 7; with_reducible refine Calls.kept_of (s1.out _)) | (go_at_call 11; with_reducible refine Calls.kept_of (s5.out _)) | (go_at_call 12; with_reducible refine Calls.kept_of (s6'.out _))))))
    all_goals (refine wpQuiet_nil ?_; intro _ hw'; obtain ⟨⟨wq, kq⟩, hw''⟩ := hw'; subst hw''; clear b3c0 b3c1 b3c2 b4c0 b4c1 b4c2; go_wp2_with fail; go_ret; exact ⟨rfl, HK1.out.trans kq⟩)
  cases B
  · have s6' : Aside (∀ w, Calls Try.prog 12 #[.agg #[.bool true, .bool false, .bool true], .agg #[.bool a', .bool b', .bool c'], .int .i64 k] w fun e w' => e = .returned (.int .i64 2) ∧ Kp w w') := s6
    clear s6
    go_enter Try.func3, Try.ntmps3
    go_wp2_with fail
    with_reducible refine (s1.out _).mono ?_
    rintro e w1 ⟨rfl, K⟩
    have HK1 : Hid (Kp w w1) := (((Kp.refl w).alloc _).alloc _).trans K
    obtain ⟨b3, hb3⟩ : ∃ b3, b3 = w.heap.size := ⟨_, rfl⟩
    have Hb31 : Hid (PX w1 b3 true false true) := by rw [hb3]; exact ((PX.made w true false true).kp ((Kp.refl _).alloc _)).kp K
    obtain ⟨b4, hb4⟩ : ∃ b4, b4 = w.heap.size + 1 := ⟨_, rfl⟩
    have Hb41 : Hid (PX w1 b4 a' b' c') := by
      show PX w1 b4 a' b' c'
      have B := ((PX.made (w.alloc (.cells #[.bool true, .bool false, .bool true] 23)) a' b' c').kp (Kp.refl _)).kp K
      rw [hb4]
      simpa using B
    (try rw [← hb4])
    (try rw [← hb3])
    clear K hb3 hb4
    have x0 := Hb41.out.c0
    have x1 := Hb41.out.c1
    have x2 := Hb41.out.c2
    go_wp2_with fail
    with_reducible refine (s2.out _).mono ?_
    rintro e w2 ⟨rfl, K⟩
    have HK2 : Hid (Kp w w2) := HK1.out.trans K
    have Hb32 : Hid (PX w2 b3 true false true) := Hb31.out.kp K
    have Hb42 : Hid (PX w2 b4 a' b' c') := Hb41.out.kp K
    clear K HK1 Hb31 Hb41 x0 x1 x2
    go_wp2_with fail
    have b3c0 : ∀ p : KeptBy w2, p.v.cell? ⟨b3, 0, none⟩ = some (.bool true) := fun p => (Hb32.out.kp p.k).c0
    have b3c1 : ∀ p : KeptBy w2, p.v.cell? ⟨b3, 1, none⟩ = some (.bool false) := fun p => (Hb32.out.kp p.k).c1
    have b3c2 : ∀ p : KeptBy w2, p.v.cell? ⟨b3, 2, none⟩ = some (.bool true) := fun p => (Hb32.out.kp p.k).c2
    have b4c0 : ∀ p : KeptBy w2, p.v.cell? ⟨b4, 0, none⟩ = some (.bool a') := fun p => (Hb42.out.kp p.k).c0
    have b4c1 : ∀ p : KeptBy w2, p.v.cell? ⟨b4, 1, none⟩ = some (.bool b') := fun p => (Hb42.out.kp p.k).c1
    have b4c2 : ∀ p : KeptBy w2, p.v.cell? ⟨b4, 2, none⟩ = some (.bool c') := fun p => (Hb42.out.kp p.k).c2
    dsimp only [List.append]
    refine wp_region_kept mixed (by kernel_rfl) ?_
    repeat (go_big_quiet_step (first | exact rfl | (go_at_call 8; with_reducible refine Calls.kept_of (st.out _)) | (go_at_call 9; with_reducible refine Calls.kept_of (s3.out _)) | (go_at_call 10; with_reducible refine Calls.kept_of (s4.out _)) | (go_at_call 7; with_reducible refine Calls.kept_of (s1.out _)) | (go_at_call 11; with_reducible refine Calls.kept_of (s5.out _)) | (go_at_call 12; with_reducible refine Calls.kept_of (s6'.out _))))
    all_goals first | (refine wpQuiet_nil ?_; intro _ hw'; obtain ⟨⟨wq, kq⟩, hw''⟩ := hw'; subst hw''; clear b3c0 b3c1 b3c2 b4c0 b4c1 b4c2; go_wp2_with fail; go_ret; exact ⟨rfl, HK2.out.trans kq⟩) | (cases a' <;> (repeat (go_big_quiet_step (first | exact rfl | (go_at_call 8; with_reducible refine Calls.kept_of (st.out _)) | (go_at_call 9; with_reducible refine Calls.kept_of (s3.out _)) | (go_at_call 10; with_reducible refine Calls.kept_of (s4.out _)) | (go_at_call 7; with_reducible refine Calls.kept_of (s1.out _)) | (go_at_call 11; with_reducible refine Calls.kept_of (s5.out _)) | (go_at_call 12; with_reducible refine Calls.kept_of (s6'.out _))))))
    all_goals first | (refine wpQuiet_nil ?_; intro _ hw'; obtain ⟨⟨wq, kq⟩, hw''⟩ := hw'; subst hw''; clear b3c0 b3c1 b3c2 b4c0 b4c1 b4c2; go_wp2_with fail; go_ret; exact ⟨rfl, HK2.out.trans kq⟩) | (cases c' <;> (repeat (go_big_quiet_step (first | exact rfl | (go_at_call 8; with_reducible refine Calls.kept_of (st.out _)) | (go_at_call 9; with_reducible refine Calls.kept_of (s3.out _)) | (go_at_call 10; with_reducible refine Calls.kept_of (s4.out _)) | (go_at_call 7; with_reducible refine Calls.kept_of (s1.out _)) | (go_at_call 11; with_reducible refine Calls.kept_of (s5.out _)) | (go_at_call 12; with_reducible refine Calls.kept_of (s6'.out _))))))
    all_goals (refine wpQuiet_nil ?_; intro _ hw'; obtain ⟨⟨wq, kq⟩, hw''⟩ := hw'; subst hw''; clear b3c0 b3c1 b3c2 b4c0 b4c1 b4c2; go_wp2_with fail; go_ret; exact ⟨rfl, HK2.out.trans kq⟩)
  · have s6' : Aside (∀ w, Calls Try.prog 12 #[.agg #[.bool true, .bool false, .bool true], .agg #[.bool a', .bool b', .bool c'], .int .i64 k] w fun e w' => e = .returned (.int .i64 0) ∧ Kp w w') := s6
    clear s6
    go_enter Try.func3, Try.ntmps3
    go_wp2_with fail
    with_reducible refine (s1.out _).mono ?_
    rintro e w1 ⟨rfl, K⟩
    have HK1 : Hid (Kp w w1) := (((Kp.refl w).alloc _).alloc _).trans K
    obtain ⟨b3, hb3⟩ : ∃ b3, b3 = w.heap.size := ⟨_, rfl⟩
    have Hb31 : Hid (PX w1 b3 true false true) := by rw [hb3]; exact ((PX.made w true false true).kp ((Kp.refl _).alloc _)).kp K
    obtain ⟨b4, hb4⟩ : ∃ b4, b4 = w.heap.size + 1 := ⟨_, rfl⟩
    have Hb41 : Hid (PX w1 b4 a' b' c') := by
      show PX w1 b4 a' b' c'
      have B := ((PX.made (w.alloc (.cells #[.bool true, .bool false, .bool true] 23)) a' b' c').kp (Kp.refl _)).kp K
      rw [hb4]
      simpa using B
    (try rw [← hb4])
    (try rw [← hb3])
    clear K hb3 hb4
    have x0 := Hb41.out.c0
    have x1 := Hb41.out.c1
    have x2 := Hb41.out.c2
    go_wp2_with fail
    with_reducible refine (s2.out _).mono ?_
    rintro e w2 ⟨rfl, K⟩
    have HK2 : Hid (Kp w w2) := HK1.out.trans K
    have Hb32 : Hid (PX w2 b3 true false true) := Hb31.out.kp K
    have Hb42 : Hid (PX w2 b4 a' b' c') := Hb41.out.kp K
    clear K HK1 Hb31 Hb41 x0 x1 x2
    go_wp2_with fail
    have b3c0 : ∀ p : KeptBy w2, p.v.cell? ⟨b3, 0, none⟩ = some (.bool true) := fun p => (Hb32.out.kp p.k).c0
    have b3c1 : ∀ p : KeptBy w2, p.v.cell? ⟨b3, 1, none⟩ = some (.bool false) := fun p => (Hb32.out.kp p.k).c1
    have b3c2 : ∀ p : KeptBy w2, p.v.cell? ⟨b3, 2, none⟩ = some (.bool true) := fun p => (Hb32.out.kp p.k).c2
    have b4c0 : ∀ p : KeptBy w2, p.v.cell? ⟨b4, 0, none⟩ = some (.bool a') := fun p => (Hb42.out.kp p.k).c0
    have b4c1 : ∀ p : KeptBy w2, p.v.cell? ⟨b4, 1, none⟩ = some (.bool b') := fun p => (Hb42.out.kp p.k).c1
    have b4c2 : ∀ p : KeptBy w2, p.v.cell? ⟨b4, 2, none⟩ = some (.bool c') := fun p => (Hb42.out.kp p.k).c2
    dsimp only [List.append]
    refine wp_region_kept mixed (by kernel_rfl) ?_
    repeat (go_big_quiet_step (first | exact rfl | (go_at_call 8; with_reducible refine Calls.kept_of (st.out _)) | (go_at_call 9; with_reducible refine Calls.kept_of (s3.out _)) | (go_at_call 10; with_reducible refine Calls.kept_of (s4.out _)) | (go_at_call 7; with_reducible refine Calls.kept_of (s1.out _)) | (go_at_call 11; with_reducible refine Calls.kept_of (s5.out _)) | (go_at_call 12; with_reducible refine Calls.kept_of (s6'.out _))))
    all_goals first | (refine wpQuiet_nil ?_; intro _ hw'; obtain ⟨⟨wq, kq⟩, hw''⟩ := hw'; subst hw''; clear b3c0 b3c1 b3c2 b4c0 b4c1 b4c2; go_wp2_with fail; go_ret; exact ⟨rfl, HK2.out.trans kq⟩) | (cases a' <;> (repeat (go_big_quiet_step (first | exact rfl | (go_at_call 8; with_reducible refine Calls.kept_of (st.out _)) | (go_at_call 9; with_reducible refine Calls.kept_of (s3.out _)) | (go_at_call 10; with_reducible refine Calls.kept_of (s4.out _)) | (go_at_call 7; with_reducible refine Calls.kept_of (s1.out _)) | (go_at_call 11; with_reducible refine Calls.kept_of (s5.out _)) | (go_at_call 12; with_reducible refine Calls.kept_of (s6'.out _))))))
    all_goals first | (refine wpQuiet_nil ?_; intro _ hw'; obtain ⟨⟨wq, kq⟩, hw''⟩ := hw'; subst hw''; clear b3c0 b3c1 b3c2 b4c0 b4c1 b4c2; go_wp2_with fail; go_ret; exact ⟨rfl, HK2.out.trans kq⟩) | (cases c' <;> (repeat (go_big_quiet_step (first | exact rfl | (go_at_call 8; with_reducible refine Calls.kept_of (st.out _)) | (go_at_call 9; with_reducible refine Calls.kept_of (s3.out _)) | (go_at_call 10; with_reducible refine Calls.kept_of (s4.out _)) | (go_at_call 7; with_reducible refine Calls.kept_of (s1.out _)) | (go_at_call 11; with_reducible refine Calls.kept_of (s5.out _)) | (go_at_call 12; with_reducible refine Calls.kept_of (s6'.out _))))))
    all_goals (refine wpQuiet_nil ?_; intro _ hw'; obtain ⟨⟨wq, kq⟩, hw''⟩ := hw'; subst hw''; clear b3c0 b3c1 b3c2 b4c0 b4c1 b4c2; go_wp2_with fail; go_ret; exact ⟨rfl, HK2.out.trans kq⟩)

set_option maxHeartbeats 8000000 in
set_option maxRecDepth 10000 in
theorem asks_110 (a' b' c' : Bool) (k : Int) (A B : Bool) (w : World)
    (s1 : Aside (∀ w, Calls Try.prog 7 #[.agg #[.bool true, .bool true, .bool false], .int .i64 k] w fun e w' => e = .returned (.bool A) ∧ Kp w w'))
    (s2 : Aside (∀ w, Calls Try.prog 7 #[.agg #[.bool a', .bool b', .bool c'], .int .i64 k] w fun e w' => e = .returned (.bool B) ∧ Kp w w'))
    (s3 : Aside (∀ w, Calls Try.prog 9 #[.agg #[.bool true, .bool true, .bool false], .agg #[.bool a', .bool b', .bool c']] w fun e w' => e = .returned (.agg #[.bool a', .bool b', .bool false]) ∧ Kp w w'))
    (s4 : Aside (∀ w, Calls Try.prog 10 #[.agg #[.bool true, .bool true, .bool false], .int .i64 k] w fun e w' => e = .returned (.bool A) ∧ Kp w w'))
    (s5 : Aside (∀ w, Calls Try.prog 11 #[.agg #[.bool true, .bool true, .bool false], .agg #[.bool a', .bool b', .bool c']] w fun e w' => e = .returned (.bool (a' && b')) ∧ Kp w w'))
    (s6 : Aside (∀ w, Calls Try.prog 12 #[.agg #[.bool true, .bool true, .bool false], .agg #[.bool a', .bool b', .bool c'], .int .i64 k] w fun e w' => e = .returned (.int .i64 (juP A B)) ∧ Kp w w')) :
    Calls Try.prog 3 #[.agg #[.bool true, .bool true, .bool false], .agg #[.bool a', .bool b', .bool c'], .int .i64 k] w fun e w' => e = .returned (.bool true) ∧ Kp w w' := by
  have st : Aside (∀ w, Calls Try.prog 8 #[] w fun e w' => e = .returned (.bool true) ∧ Kp w w') := fun w => ptold_any w
  have hq := eq_permS
  cases A
  · have s6' : Aside (∀ w, Calls Try.prog 12 #[.agg #[.bool true, .bool true, .bool false], .agg #[.bool a', .bool b', .bool c'], .int .i64 k] w fun e w' => e = .returned (.int .i64 1) ∧ Kp w w') := s6
    clear s6
    go_enter Try.func3, Try.ntmps3
    go_wp2_with fail
    with_reducible refine (s1.out _).mono ?_
    rintro e w1 ⟨rfl, K⟩
    have HK1 : Hid (Kp w w1) := (((Kp.refl w).alloc _).alloc _).trans K
    obtain ⟨b3, hb3⟩ : ∃ b3, b3 = w.heap.size := ⟨_, rfl⟩
    have Hb31 : Hid (PX w1 b3 true true false) := by rw [hb3]; exact ((PX.made w true true false).kp ((Kp.refl _).alloc _)).kp K
    obtain ⟨b4, hb4⟩ : ∃ b4, b4 = w.heap.size + 1 := ⟨_, rfl⟩
    have Hb41 : Hid (PX w1 b4 a' b' c') := by
      show PX w1 b4 a' b' c'
      have B := ((PX.made (w.alloc (.cells #[.bool true, .bool true, .bool false] 23)) a' b' c').kp (Kp.refl _)).kp K
      rw [hb4]
      simpa using B
    (try rw [← hb4])
    (try rw [← hb3])
    clear K hb3 hb4
    have x0 := Hb41.out.c0
    have x1 := Hb41.out.c1
    have x2 := Hb41.out.c2
    go_wp2_with fail
    clear x0 x1 x2
    have b3c0 : ∀ p : KeptBy w1, p.v.cell? ⟨b3, 0, none⟩ = some (.bool true) := fun p => (Hb31.out.kp p.k).c0
    have b3c1 : ∀ p : KeptBy w1, p.v.cell? ⟨b3, 1, none⟩ = some (.bool true) := fun p => (Hb31.out.kp p.k).c1
    have b3c2 : ∀ p : KeptBy w1, p.v.cell? ⟨b3, 2, none⟩ = some (.bool false) := fun p => (Hb31.out.kp p.k).c2
    have b4c0 : ∀ p : KeptBy w1, p.v.cell? ⟨b4, 0, none⟩ = some (.bool a') := fun p => (Hb41.out.kp p.k).c0
    have b4c1 : ∀ p : KeptBy w1, p.v.cell? ⟨b4, 1, none⟩ = some (.bool b') := fun p => (Hb41.out.kp p.k).c1
    have b4c2 : ∀ p : KeptBy w1, p.v.cell? ⟨b4, 2, none⟩ = some (.bool c') := fun p => (Hb41.out.kp p.k).c2
    dsimp only [List.append]
    refine wp_region_kept mixed (by kernel_rfl) ?_
    repeat (go_big_quiet_step (first | exact rfl | (go_at_call 8; with_reducible refine Calls.kept_of (st.out _)) | (go_at_call 9; with_reducible refine Calls.kept_of (s3.out _)) | (go_at_call 10; with_reducible refine Calls.kept_of (s4.out _)) | (go_at_call 7; with_reducible refine Calls.kept_of (s1.out _)) | (go_at_call 11; with_reducible refine Calls.kept_of (s5.out _)) | (go_at_call 12; with_reducible refine Calls.kept_of (s6'.out _))))
    all_goals first | (refine wpQuiet_nil ?_; intro _ hw'; obtain ⟨⟨wq, kq⟩, hw''⟩ := hw'; subst hw''; clear b3c0 b3c1 b3c2 b4c0 b4c1 b4c2; go_wp2_with fail; go_ret; exact ⟨rfl, HK1.out.trans kq⟩) | (cases a' <;> (repeat (go_big_quiet_step (first | exact rfl | (go_at_call 8; with_reducible refine Calls.kept_of (st.out _)) | (go_at_call 9; with_reducible refine Calls.kept_of (s3.out _)) | (go_at_call 10; with_reducible refine Calls.kept_of (s4.out _)) | (go_at_call 7; with_reducible refine Calls.kept_of (s1.out _)) | (go_at_call 11; with_reducible refine Calls.kept_of (s5.out _)) | (go_at_call 12; with_reducible refine Calls.kept_of (s6'.out _))))))
    all_goals first | (refine wpQuiet_nil ?_; intro _ hw'; obtain ⟨⟨wq, kq⟩, hw''⟩ := hw'; subst hw''; clear b3c0 b3c1 b3c2 b4c0 b4c1 b4c2; go_wp2_with fail; go_ret; exact ⟨rfl, HK1.out.trans kq⟩) | (cases b' <;> (repeat (go_big_quiet_step (first | exact rfl | (go_at_call 8; with_reducible refine Calls.kept_of (st.out _)) | (go_at_call 9; with_reducible refine Calls.kept_of (s3.out _)) | (go_at_call 10; with_reducible refine Calls.kept_of (s4.out _)) | (go_at_call 7; with_reducible refine Calls.kept_of (s1.out _)) | (go_at_call 11; with_reducible refine Calls.kept_of (s5.out _)) | (go_at_call 12; with_reducible refine Calls.kept_of (s6'.out _))))))
    all_goals (refine wpQuiet_nil ?_; intro _ hw'; obtain ⟨⟨wq, kq⟩, hw''⟩ := hw'; subst hw''; clear b3c0 b3c1 b3c2 b4c0 b4c1 b4c2; go_wp2_with fail; go_ret; exact ⟨rfl, HK1.out.trans kq⟩)
  cases B
  · have s6' : Aside (∀ w, Calls Try.prog 12 #[.agg #[.bool true, .bool true, .bool false], .agg #[.bool a', .bool b', .bool c'], .int .i64 k] w fun e w' => e = .returned (.int .i64 2) ∧ Kp w w') := s6
    clear s6
    go_enter Try.func3, Try.ntmps3
    go_wp2_with fail
    with_reducible refine (s1.out _).mono ?_
    rintro e w1 ⟨rfl, K⟩
    have HK1 : Hid (Kp w w1) := (((Kp.refl w).alloc _).alloc _).trans K
    obtain ⟨b3, hb3⟩ : ∃ b3, b3 = w.heap.size := ⟨_, rfl⟩
    have Hb31 : Hid (PX w1 b3 true true false) := by rw [hb3]; exact ((PX.made w true true false).kp ((Kp.refl _).alloc _)).kp K
    obtain ⟨b4, hb4⟩ : ∃ b4, b4 = w.heap.size + 1 := ⟨_, rfl⟩
    have Hb41 : Hid (PX w1 b4 a' b' c') := by
      show PX w1 b4 a' b' c'
      have B := ((PX.made (w.alloc (.cells #[.bool true, .bool true, .bool false] 23)) a' b' c').kp (Kp.refl _)).kp K
      rw [hb4]
      simpa using B
    (try rw [← hb4])
    (try rw [← hb3])
    clear K hb3 hb4
    have x0 := Hb41.out.c0
    have x1 := Hb41.out.c1
    have x2 := Hb41.out.c2
    go_wp2_with fail
    with_reducible refine (s2.out _).mono ?_
    rintro e w2 ⟨rfl, K⟩
    have HK2 : Hid (Kp w w2) := HK1.out.trans K
    have Hb32 : Hid (PX w2 b3 true true false) := Hb31.out.kp K
    have Hb42 : Hid (PX w2 b4 a' b' c') := Hb41.out.kp K
    clear K HK1 Hb31 Hb41 x0 x1 x2
    go_wp2_with fail
    have b3c0 : ∀ p : KeptBy w2, p.v.cell? ⟨b3, 0, none⟩ = some (.bool true) := fun p => (Hb32.out.kp p.k).c0
    have b3c1 : ∀ p : KeptBy w2, p.v.cell? ⟨b3, 1, none⟩ = some (.bool true) := fun p => (Hb32.out.kp p.k).c1
    have b3c2 : ∀ p : KeptBy w2, p.v.cell? ⟨b3, 2, none⟩ = some (.bool false) := fun p => (Hb32.out.kp p.k).c2
    have b4c0 : ∀ p : KeptBy w2, p.v.cell? ⟨b4, 0, none⟩ = some (.bool a') := fun p => (Hb42.out.kp p.k).c0
    have b4c1 : ∀ p : KeptBy w2, p.v.cell? ⟨b4, 1, none⟩ = some (.bool b') := fun p => (Hb42.out.kp p.k).c1
    have b4c2 : ∀ p : KeptBy w2, p.v.cell? ⟨b4, 2, none⟩ = some (.bool c') := fun p => (Hb42.out.kp p.k).c2
    dsimp only [List.append]
    refine wp_region_kept mixed (by kernel_rfl) ?_
    repeat (go_big_quiet_step (first | exact rfl | (go_at_call 8; with_reducible refine Calls.kept_of (st.out _)) | (go_at_call 9; with_reducible refine Calls.kept_of (s3.out _)) | (go_at_call 10; with_reducible refine Calls.kept_of (s4.out _)) | (go_at_call 7; with_reducible refine Calls.kept_of (s1.out _)) | (go_at_call 11; with_reducible refine Calls.kept_of (s5.out _)) | (go_at_call 12; with_reducible refine Calls.kept_of (s6'.out _))))
    all_goals first | (refine wpQuiet_nil ?_; intro _ hw'; obtain ⟨⟨wq, kq⟩, hw''⟩ := hw'; subst hw''; clear b3c0 b3c1 b3c2 b4c0 b4c1 b4c2; go_wp2_with fail; go_ret; exact ⟨rfl, HK2.out.trans kq⟩) | (cases a' <;> (repeat (go_big_quiet_step (first | exact rfl | (go_at_call 8; with_reducible refine Calls.kept_of (st.out _)) | (go_at_call 9; with_reducible refine Calls.kept_of (s3.out _)) | (go_at_call 10; with_reducible refine Calls.kept_of (s4.out _)) | (go_at_call 7; with_reducible refine Calls.kept_of (s1.out _)) | (go_at_call 11; with_reducible refine Calls.kept_of (s5.out _)) | (go_at_call 12; with_reducible refine Calls.kept_of (s6'.out _))))))
    all_goals first | (refine wpQuiet_nil ?_; intro _ hw'; obtain ⟨⟨wq, kq⟩, hw''⟩ := hw'; subst hw''; clear b3c0 b3c1 b3c2 b4c0 b4c1 b4c2; go_wp2_with fail; go_ret; exact ⟨rfl, HK2.out.trans kq⟩) | (cases b' <;> (repeat (go_big_quiet_step (first | exact rfl | (go_at_call 8; with_reducible refine Calls.kept_of (st.out _)) | (go_at_call 9; with_reducible refine Calls.kept_of (s3.out _)) | (go_at_call 10; with_reducible refine Calls.kept_of (s4.out _)) | (go_at_call 7; with_reducible refine Calls.kept_of (s1.out _)) | (go_at_call 11; with_reducible refine Calls.kept_of (s5.out _)) | (go_at_call 12; with_reducible refine Calls.kept_of (s6'.out _))))))
    all_goals (refine wpQuiet_nil ?_; intro _ hw'; obtain ⟨⟨wq, kq⟩, hw''⟩ := hw'; subst hw''; clear b3c0 b3c1 b3c2 b4c0 b4c1 b4c2; go_wp2_with fail; go_ret; exact ⟨rfl, HK2.out.trans kq⟩)
  · have s6' : Aside (∀ w, Calls Try.prog 12 #[.agg #[.bool true, .bool true, .bool false], .agg #[.bool a', .bool b', .bool c'], .int .i64 k] w fun e w' => e = .returned (.int .i64 0) ∧ Kp w w') := s6
    clear s6
    go_enter Try.func3, Try.ntmps3
    go_wp2_with fail
    with_reducible refine (s1.out _).mono ?_
    rintro e w1 ⟨rfl, K⟩
    have HK1 : Hid (Kp w w1) := (((Kp.refl w).alloc _).alloc _).trans K
    obtain ⟨b3, hb3⟩ : ∃ b3, b3 = w.heap.size := ⟨_, rfl⟩
    have Hb31 : Hid (PX w1 b3 true true false) := by rw [hb3]; exact ((PX.made w true true false).kp ((Kp.refl _).alloc _)).kp K
    obtain ⟨b4, hb4⟩ : ∃ b4, b4 = w.heap.size + 1 := ⟨_, rfl⟩
    have Hb41 : Hid (PX w1 b4 a' b' c') := by
      show PX w1 b4 a' b' c'
      have B := ((PX.made (w.alloc (.cells #[.bool true, .bool true, .bool false] 23)) a' b' c').kp (Kp.refl _)).kp K
      rw [hb4]
      simpa using B
    (try rw [← hb4])
    (try rw [← hb3])
    clear K hb3 hb4
    have x0 := Hb41.out.c0
    have x1 := Hb41.out.c1
    have x2 := Hb41.out.c2
    go_wp2_with fail
    with_reducible refine (s2.out _).mono ?_
    rintro e w2 ⟨rfl, K⟩
    have HK2 : Hid (Kp w w2) := HK1.out.trans K
    have Hb32 : Hid (PX w2 b3 true true false) := Hb31.out.kp K
    have Hb42 : Hid (PX w2 b4 a' b' c') := Hb41.out.kp K
    clear K HK1 Hb31 Hb41 x0 x1 x2
    go_wp2_with fail
    have b3c0 : ∀ p : KeptBy w2, p.v.cell? ⟨b3, 0, none⟩ = some (.bool true) := fun p => (Hb32.out.kp p.k).c0
    have b3c1 : ∀ p : KeptBy w2, p.v.cell? ⟨b3, 1, none⟩ = some (.bool true) := fun p => (Hb32.out.kp p.k).c1
    have b3c2 : ∀ p : KeptBy w2, p.v.cell? ⟨b3, 2, none⟩ = some (.bool false) := fun p => (Hb32.out.kp p.k).c2
    have b4c0 : ∀ p : KeptBy w2, p.v.cell? ⟨b4, 0, none⟩ = some (.bool a') := fun p => (Hb42.out.kp p.k).c0
    have b4c1 : ∀ p : KeptBy w2, p.v.cell? ⟨b4, 1, none⟩ = some (.bool b') := fun p => (Hb42.out.kp p.k).c1
    have b4c2 : ∀ p : KeptBy w2, p.v.cell? ⟨b4, 2, none⟩ = some (.bool c') := fun p => (Hb42.out.kp p.k).c2
    dsimp only [List.append]
    refine wp_region_kept mixed (by kernel_rfl) ?_
    repeat (go_big_quiet_step (first | exact rfl | (go_at_call 8; with_reducible refine Calls.kept_of (st.out _)) | (go_at_call 9; with_reducible refine Calls.kept_of (s3.out _)) | (go_at_call 10; with_reducible refine Calls.kept_of (s4.out _)) | (go_at_call 7; with_reducible refine Calls.kept_of (s1.out _)) | (go_at_call 11; with_reducible refine Calls.kept_of (s5.out _)) | (go_at_call 12; with_reducible refine Calls.kept_of (s6'.out _))))
    all_goals first | (refine wpQuiet_nil ?_; intro _ hw'; obtain ⟨⟨wq, kq⟩, hw''⟩ := hw'; subst hw''; clear b3c0 b3c1 b3c2 b4c0 b4c1 b4c2; go_wp2_with fail; go_ret; exact ⟨rfl, HK2.out.trans kq⟩) | (cases a' <;> (repeat (go_big_quiet_step (first | exact rfl | (go_at_call 8; with_reducible refine Calls.kept_of (st.out _)) | (go_at_call 9; with_reducible refine Calls.kept_of (s3.out _)) | (go_at_call 10; with_reducible refine Calls.kept_of (s4.out _)) | (go_at_call 7; with_reducible refine Calls.kept_of (s1.out _)) | (go_at_call 11; with_reducible refine Calls.kept_of (s5.out _)) | (go_at_call 12; with_reducible refine Calls.kept_of (s6'.out _))))))
    all_goals first | (refine wpQuiet_nil ?_; intro _ hw'; obtain ⟨⟨wq, kq⟩, hw''⟩ := hw'; subst hw''; clear b3c0 b3c1 b3c2 b4c0 b4c1 b4c2; go_wp2_with fail; go_ret; exact ⟨rfl, HK2.out.trans kq⟩) | (cases b' <;> (repeat (go_big_quiet_step (first | exact rfl | (go_at_call 8; with_reducible refine Calls.kept_of (st.out _)) | (go_at_call 9; with_reducible refine Calls.kept_of (s3.out _)) | (go_at_call 10; with_reducible refine Calls.kept_of (s4.out _)) | (go_at_call 7; with_reducible refine Calls.kept_of (s1.out _)) | (go_at_call 11; with_reducible refine Calls.kept_of (s5.out _)) | (go_at_call 12; with_reducible refine Calls.kept_of (s6'.out _))))))
    all_goals (refine wpQuiet_nil ?_; intro _ hw'; obtain ⟨⟨wq, kq⟩, hw''⟩ := hw'; subst hw''; clear b3c0 b3c1 b3c2 b4c0 b4c1 b4c2; go_wp2_with fail; go_ret; exact ⟨rfl, HK2.out.trans kq⟩)

set_option maxHeartbeats 8000000 in
set_option maxRecDepth 10000 in
theorem asks_111 (a' b' c' : Bool) (k : Int) (A B : Bool) (w : World)
    (s1 : Aside (∀ w, Calls Try.prog 7 #[.agg #[.bool true, .bool true, .bool true], .int .i64 k] w fun e w' => e = .returned (.bool A) ∧ Kp w w'))
    (s2 : Aside (∀ w, Calls Try.prog 7 #[.agg #[.bool a', .bool b', .bool c'], .int .i64 k] w fun e w' => e = .returned (.bool B) ∧ Kp w w'))
    (s3 : Aside (∀ w, Calls Try.prog 9 #[.agg #[.bool true, .bool true, .bool true], .agg #[.bool a', .bool b', .bool c']] w fun e w' => e = .returned (.agg #[.bool a', .bool b', .bool c']) ∧ Kp w w'))
    (s4 : Aside (∀ w, Calls Try.prog 10 #[.agg #[.bool true, .bool true, .bool true], .int .i64 k] w fun e w' => e = .returned (.bool A) ∧ Kp w w'))
    (s5 : Aside (∀ w, Calls Try.prog 11 #[.agg #[.bool true, .bool true, .bool true], .agg #[.bool a', .bool b', .bool c']] w fun e w' => e = .returned (.bool ((a' && b') && c')) ∧ Kp w w'))
    (s6 : Aside (∀ w, Calls Try.prog 12 #[.agg #[.bool true, .bool true, .bool true], .agg #[.bool a', .bool b', .bool c'], .int .i64 k] w fun e w' => e = .returned (.int .i64 (juP A B)) ∧ Kp w w')) :
    Calls Try.prog 3 #[.agg #[.bool true, .bool true, .bool true], .agg #[.bool a', .bool b', .bool c'], .int .i64 k] w fun e w' => e = .returned (.bool true) ∧ Kp w w' := by
  have st : Aside (∀ w, Calls Try.prog 8 #[] w fun e w' => e = .returned (.bool true) ∧ Kp w w') := fun w => ptold_any w
  have hq := eq_permS
  cases A
  · have s6' : Aside (∀ w, Calls Try.prog 12 #[.agg #[.bool true, .bool true, .bool true], .agg #[.bool a', .bool b', .bool c'], .int .i64 k] w fun e w' => e = .returned (.int .i64 1) ∧ Kp w w') := s6
    clear s6
    go_enter Try.func3, Try.ntmps3
    go_wp2_with fail
    with_reducible refine (s1.out _).mono ?_
    rintro e w1 ⟨rfl, K⟩
    have HK1 : Hid (Kp w w1) := (((Kp.refl w).alloc _).alloc _).trans K
    obtain ⟨b3, hb3⟩ : ∃ b3, b3 = w.heap.size := ⟨_, rfl⟩
    have Hb31 : Hid (PX w1 b3 true true true) := by rw [hb3]; exact ((PX.made w true true true).kp ((Kp.refl _).alloc _)).kp K
    obtain ⟨b4, hb4⟩ : ∃ b4, b4 = w.heap.size + 1 := ⟨_, rfl⟩
    have Hb41 : Hid (PX w1 b4 a' b' c') := by
      show PX w1 b4 a' b' c'
      have B := ((PX.made (w.alloc (.cells #[.bool true, .bool true, .bool true] 23)) a' b' c').kp (Kp.refl _)).kp K
      rw [hb4]
      simpa using B
    (try rw [← hb4])
    (try rw [← hb3])
    clear K hb3 hb4
    have x0 := Hb41.out.c0
    have x1 := Hb41.out.c1
    have x2 := Hb41.out.c2
    go_wp2_with fail
    clear x0 x1 x2
    have b3c0 : ∀ p : KeptBy w1, p.v.cell? ⟨b3, 0, none⟩ = some (.bool true) := fun p => (Hb31.out.kp p.k).c0
    have b3c1 : ∀ p : KeptBy w1, p.v.cell? ⟨b3, 1, none⟩ = some (.bool true) := fun p => (Hb31.out.kp p.k).c1
    have b3c2 : ∀ p : KeptBy w1, p.v.cell? ⟨b3, 2, none⟩ = some (.bool true) := fun p => (Hb31.out.kp p.k).c2
    have b4c0 : ∀ p : KeptBy w1, p.v.cell? ⟨b4, 0, none⟩ = some (.bool a') := fun p => (Hb41.out.kp p.k).c0
    have b4c1 : ∀ p : KeptBy w1, p.v.cell? ⟨b4, 1, none⟩ = some (.bool b') := fun p => (Hb41.out.kp p.k).c1
    have b4c2 : ∀ p : KeptBy w1, p.v.cell? ⟨b4, 2, none⟩ = some (.bool c') := fun p => (Hb41.out.kp p.k).c2
    dsimp only [List.append]
    refine wp_region_kept mixed (by kernel_rfl) ?_
    repeat (go_big_quiet_step (first | exact rfl | (go_at_call 8; with_reducible refine Calls.kept_of (st.out _)) | (go_at_call 9; with_reducible refine Calls.kept_of (s3.out _)) | (go_at_call 10; with_reducible refine Calls.kept_of (s4.out _)) | (go_at_call 7; with_reducible refine Calls.kept_of (s1.out _)) | (go_at_call 11; with_reducible refine Calls.kept_of (s5.out _)) | (go_at_call 12; with_reducible refine Calls.kept_of (s6'.out _))))
    all_goals first | (refine wpQuiet_nil ?_; intro _ hw'; obtain ⟨⟨wq, kq⟩, hw''⟩ := hw'; subst hw''; clear b3c0 b3c1 b3c2 b4c0 b4c1 b4c2; go_wp2_with fail; go_ret; exact ⟨rfl, HK1.out.trans kq⟩) | (cases a' <;> (repeat (go_big_quiet_step (first | exact rfl | (go_at_call 8; with_reducible refine Calls.kept_of (st.out _)) | (go_at_call 9; with_reducible refine Calls.kept_of (s3.out _)) | (go_at_call 10; with_reducible refine Calls.kept_of (s4.out _)) | (go_at_call 7; with_reducible refine Calls.kept_of (s1.out _)) | (go_at_call 11; with_reducible refine Calls.kept_of (s5.out _)) | (go_at_call 12; with_reducible refine Calls.kept_of (s6'.out _))))))
    all_goals first | (refine wpQuiet_nil ?_; intro _ hw'; obtain ⟨⟨wq, kq⟩, hw''⟩ := hw'; subst hw''; clear b3c0 b3c1 b3c2 b4c0 b4c1 b4c2; go_wp2_with fail; go_ret; exact ⟨rfl, HK1.out.trans kq⟩) | (cases b' <;> (repeat (go_big_quiet_step (first | exact rfl | (go_at_call 8; with_reducible refine Calls.kept_of (st.out _)) | (go_at_call 9; with_reducible refine Calls.kept_of (s3.out _)) | (go_at_call 10; with_reducible refine Calls.kept_of (s4.out _)) | (go_at_call 7; with_reducible refine Calls.kept_of (s1.out _)) | (go_at_call 11; with_reducible refine Calls.kept_of (s5.out _)) | (go_at_call 12; with_reducible refine Calls.kept_of (s6'.out _))))))
    all_goals first | (refine wpQuiet_nil ?_; intro _ hw'; obtain ⟨⟨wq, kq⟩, hw''⟩ := hw'; subst hw''; clear b3c0 b3c1 b3c2 b4c0 b4c1 b4c2; go_wp2_with fail; go_ret; exact ⟨rfl, HK1.out.trans kq⟩) | (cases c' <;> (repeat (go_big_quiet_step (first | exact rfl | (go_at_call 8; with_reducible refine Calls.kept_of (st.out _)) | (go_at_call 9; with_reducible refine Calls.kept_of (s3.out _)) | (go_at_call 10; with_reducible refine Calls.kept_of (s4.out _)) | (go_at_call 7; with_reducible refine Calls.kept_of (s1.out _)) | (go_at_call 11; with_reducible refine Calls.kept_of (s5.out _)) | (go_at_call 12; with_reducible refine Calls.kept_of (s6'.out _))))))
    all_goals (refine wpQuiet_nil ?_; intro _ hw'; obtain ⟨⟨wq, kq⟩, hw''⟩ := hw'; subst hw''; clear b3c0 b3c1 b3c2 b4c0 b4c1 b4c2; go_wp2_with fail; go_ret; exact ⟨rfl, HK1.out.trans kq⟩)
  cases B
  · have s6' : Aside (∀ w, Calls Try.prog 12 #[.agg #[.bool true, .bool true, .bool true], .agg #[.bool a', .bool b', .bool c'], .int .i64 k] w fun e w' => e = .returned (.int .i64 2) ∧ Kp w w') := s6
    clear s6
    go_enter Try.func3, Try.ntmps3
    go_wp2_with fail
    with_reducible refine (s1.out _).mono ?_
    rintro e w1 ⟨rfl, K⟩
    have HK1 : Hid (Kp w w1) := (((Kp.refl w).alloc _).alloc _).trans K
    obtain ⟨b3, hb3⟩ : ∃ b3, b3 = w.heap.size := ⟨_, rfl⟩
    have Hb31 : Hid (PX w1 b3 true true true) := by rw [hb3]; exact ((PX.made w true true true).kp ((Kp.refl _).alloc _)).kp K
    obtain ⟨b4, hb4⟩ : ∃ b4, b4 = w.heap.size + 1 := ⟨_, rfl⟩
    have Hb41 : Hid (PX w1 b4 a' b' c') := by
      show PX w1 b4 a' b' c'
      have B := ((PX.made (w.alloc (.cells #[.bool true, .bool true, .bool true] 23)) a' b' c').kp (Kp.refl _)).kp K
      rw [hb4]
      simpa using B
    (try rw [← hb4])
    (try rw [← hb3])
    clear K hb3 hb4
    have x0 := Hb41.out.c0
    have x1 := Hb41.out.c1
    have x2 := Hb41.out.c2
    go_wp2_with fail
    with_reducible refine (s2.out _).mono ?_
    rintro e w2 ⟨rfl, K⟩
    have HK2 : Hid (Kp w w2) := HK1.out.trans K
    have Hb32 : Hid (PX w2 b3 true true true) := Hb31.out.kp K
    have Hb42 : Hid (PX w2 b4 a' b' c') := Hb41.out.kp K
    clear K HK1 Hb31 Hb41 x0 x1 x2
    go_wp2_with fail
    have b3c0 : ∀ p : KeptBy w2, p.v.cell? ⟨b3, 0, none⟩ = some (.bool true) := fun p => (Hb32.out.kp p.k).c0
    have b3c1 : ∀ p : KeptBy w2, p.v.cell? ⟨b3, 1, none⟩ = some (.bool true) := fun p => (Hb32.out.kp p.k).c1
    have b3c2 : ∀ p : KeptBy w2, p.v.cell? ⟨b3, 2, none⟩ = some (.bool true) := fun p => (Hb32.out.kp p.k).c2
    have b4c0 : ∀ p : KeptBy w2, p.v.cell? ⟨b4, 0, none⟩ = some (.bool a') := fun p => (Hb42.out.kp p.k).c0
    have b4c1 : ∀ p : KeptBy w2, p.v.cell? ⟨b4, 1, none⟩ = some (.bool b') := fun p => (Hb42.out.kp p.k).c1
    have b4c2 : ∀ p : KeptBy w2, p.v.cell? ⟨b4, 2, none⟩ = some (.bool c') := fun p => (Hb42.out.kp p.k).c2
    dsimp only [List.append]
    refine wp_region_kept mixed (by kernel_rfl) ?_
    repeat (go_big_quiet_step (first | exact rfl | (go_at_call 8; with_reducible refine Calls.kept_of (st.out _)) | (go_at_call 9; with_reducible refine Calls.kept_of (s3.out _)) | (go_at_call 10; with_reducible refine Calls.kept_of (s4.out _)) | (go_at_call 7; with_reducible refine Calls.kept_of (s1.out _)) | (go_at_call 11; with_reducible refine Calls.kept_of (s5.out _)) | (go_at_call 12; with_reducible refine Calls.kept_of (s6'.out _))))
    all_goals first | (refine wpQuiet_nil ?_; intro _ hw'; obtain ⟨⟨wq, kq⟩, hw''⟩ := hw'; subst hw''; clear b3c0 b3c1 b3c2 b4c0 b4c1 b4c2; go_wp2_with fail; go_ret; exact ⟨rfl, HK2.out.trans kq⟩) | (cases a' <;> (repeat (go_big_quiet_step (first | exact rfl | (go_at_call 8; with_reducible refine Calls.kept_of (st.out _)) | (go_at_call 9; with_reducible refine Calls.kept_of (s3.out _)) | (go_at_call 10; with_reducible refine Calls.kept_of (s4.out _)) | (go_at_call 7; with_reducible refine Calls.kept_of (s1.out _)) | (go_at_call 11; with_reducible refine Calls.kept_of (s5.out _)) | (go_at_call 12; with_reducible refine Calls.kept_of (s6'.out _))))))
    all_goals first | (refine wpQuiet_nil ?_; intro _ hw'; obtain ⟨⟨wq, kq⟩, hw''⟩ := hw'; subst hw''; clear b3c0 b3c1 b3c2 b4c0 b4c1 b4c2; go_wp2_with fail; go_ret; exact ⟨rfl, HK2.out.trans kq⟩) | (cases b' <;> (repeat (go_big_quiet_step (first | exact rfl | (go_at_call 8; with_reducible refine Calls.kept_of (st.out _)) | (go_at_call 9; with_reducible refine Calls.kept_of (s3.out _)) | (go_at_call 10; with_reducible refine Calls.kept_of (s4.out _)) | (go_at_call 7; with_reducible refine Calls.kept_of (s1.out _)) | (go_at_call 11; with_reducible refine Calls.kept_of (s5.out _)) | (go_at_call 12; with_reducible refine Calls.kept_of (s6'.out _))))))
    all_goals first | (refine wpQuiet_nil ?_; intro _ hw'; obtain ⟨⟨wq, kq⟩, hw''⟩ := hw'; subst hw''; clear b3c0 b3c1 b3c2 b4c0 b4c1 b4c2; go_wp2_with fail; go_ret; exact ⟨rfl, HK2.out.trans kq⟩) | (cases c' <;> (repeat (go_big_quiet_step (first | exact rfl | (go_at_call 8; with_reducible refine Calls.kept_of (st.out _)) | (go_at_call 9; with_reducible refine Calls.kept_of (s3.out _)) | (go_at_call 10; with_reducible refine Calls.kept_of (s4.out _)) | (go_at_call 7; with_reducible refine Calls.kept_of (s1.out _)) | (go_at_call 11; with_reducible refine Calls.kept_of (s5.out _)) | (go_at_call 12; with_reducible refine Calls.kept_of (s6'.out _))))))
    all_goals (refine wpQuiet_nil ?_; intro _ hw'; obtain ⟨⟨wq, kq⟩, hw''⟩ := hw'; subst hw''; clear b3c0 b3c1 b3c2 b4c0 b4c1 b4c2; go_wp2_with fail; go_ret; exact ⟨rfl, HK2.out.trans kq⟩)
  · have s6' : Aside (∀ w, Calls Try.prog 12 #[.agg #[.bool true, .bool true, .bool true], .agg #[.bool a', .bool b', .bool c'], .int .i64 k] w fun e w' => e = .returned (.int .i64 0) ∧ Kp w w') := s6
    clear s6
    go_enter Try.func3, Try.ntmps3
    go_wp2_with fail
    with_reducible refine (s1.out _).mono ?_
    rintro e w1 ⟨rfl, K⟩
    have HK1 : Hid (Kp w w1) := (((Kp.refl w).alloc _).alloc _).trans K
    obtain ⟨b3, hb3⟩ : ∃ b3, b3 = w.heap.size := ⟨_, rfl⟩
    have Hb31 : Hid (PX w1 b3 true true true) := by rw [hb3]; exact ((PX.made w true true true).kp ((Kp.refl _).alloc _)).kp K
    obtain ⟨b4, hb4⟩ : ∃ b4, b4 = w.heap.size + 1 := ⟨_, rfl⟩
    have Hb41 : Hid (PX w1 b4 a' b' c') := by
      show PX w1 b4 a' b' c'
      have B := ((PX.made (w.alloc (.cells #[.bool true, .bool true, .bool true] 23)) a' b' c').kp (Kp.refl _)).kp K
      rw [hb4]
      simpa using B
    (try rw [← hb4])
    (try rw [← hb3])
    clear K hb3 hb4
    have x0 := Hb41.out.c0
    have x1 := Hb41.out.c1
    have x2 := Hb41.out.c2
    go_wp2_with fail
    with_reducible refine (s2.out _).mono ?_
    rintro e w2 ⟨rfl, K⟩
    have HK2 : Hid (Kp w w2) := HK1.out.trans K
    have Hb32 : Hid (PX w2 b3 true true true) := Hb31.out.kp K
    have Hb42 : Hid (PX w2 b4 a' b' c') := Hb41.out.kp K
    clear K HK1 Hb31 Hb41 x0 x1 x2
    go_wp2_with fail
    have b3c0 : ∀ p : KeptBy w2, p.v.cell? ⟨b3, 0, none⟩ = some (.bool true) := fun p => (Hb32.out.kp p.k).c0
    have b3c1 : ∀ p : KeptBy w2, p.v.cell? ⟨b3, 1, none⟩ = some (.bool true) := fun p => (Hb32.out.kp p.k).c1
    have b3c2 : ∀ p : KeptBy w2, p.v.cell? ⟨b3, 2, none⟩ = some (.bool true) := fun p => (Hb32.out.kp p.k).c2
    have b4c0 : ∀ p : KeptBy w2, p.v.cell? ⟨b4, 0, none⟩ = some (.bool a') := fun p => (Hb42.out.kp p.k).c0
    have b4c1 : ∀ p : KeptBy w2, p.v.cell? ⟨b4, 1, none⟩ = some (.bool b') := fun p => (Hb42.out.kp p.k).c1
    have b4c2 : ∀ p : KeptBy w2, p.v.cell? ⟨b4, 2, none⟩ = some (.bool c') := fun p => (Hb42.out.kp p.k).c2
    dsimp only [List.append]
    refine wp_region_kept mixed (by kernel_rfl) ?_
    repeat (go_big_quiet_step (first | exact rfl | (go_at_call 8; with_reducible refine Calls.kept_of (st.out _)) | (go_at_call 9; with_reducible refine Calls.kept_of (s3.out _)) | (go_at_call 10; with_reducible refine Calls.kept_of (s4.out _)) | (go_at_call 7; with_reducible refine Calls.kept_of (s1.out _)) | (go_at_call 11; with_reducible refine Calls.kept_of (s5.out _)) | (go_at_call 12; with_reducible refine Calls.kept_of (s6'.out _))))
    all_goals first | (refine wpQuiet_nil ?_; intro _ hw'; obtain ⟨⟨wq, kq⟩, hw''⟩ := hw'; subst hw''; clear b3c0 b3c1 b3c2 b4c0 b4c1 b4c2; go_wp2_with fail; go_ret; exact ⟨rfl, HK2.out.trans kq⟩) | (cases a' <;> (repeat (go_big_quiet_step (first | exact rfl | (go_at_call 8; with_reducible refine Calls.kept_of (st.out _)) | (go_at_call 9; with_reducible refine Calls.kept_of (s3.out _)) | (go_at_call 10; with_reducible refine Calls.kept_of (s4.out _)) | (go_at_call 7; with_reducible refine Calls.kept_of (s1.out _)) | (go_at_call 11; with_reducible refine Calls.kept_of (s5.out _)) | (go_at_call 12; with_reducible refine Calls.kept_of (s6'.out _))))))
    all_goals first | (refine wpQuiet_nil ?_; intro _ hw'; obtain ⟨⟨wq, kq⟩, hw''⟩ := hw'; subst hw''; clear b3c0 b3c1 b3c2 b4c0 b4c1 b4c2; go_wp2_with fail; go_ret; exact ⟨rfl, HK2.out.trans kq⟩) | (cases b' <;> (repeat (go_big_quiet_step (first | exact rfl | (go_at_call 8; with_reducible refine Calls.kept_of (st.out _)) | (go_at_call 9; with_reducible refine Calls.kept_of (s3.out _)) | (go_at_call 10; with_reducible refine Calls.kept_of (s4.out _)) | (go_at_call 7; with_reducible refine Calls.kept_of (s1.out _)) | (go_at_call 11; with_reducible refine Calls.kept_of (s5.out _)) | (go_at_call 12; with_reducible refine Calls.kept_of (s6'.out _))))))
    all_goals first | (refine wpQuiet_nil ?_; intro _ hw'; obtain ⟨⟨wq, kq⟩, hw''⟩ := hw'; subst hw''; clear b3c0 b3c1 b3c2 b4c0 b4c1 b4c2; go_wp2_with fail; go_ret; exact ⟨rfl, HK2.out.trans kq⟩) | (cases c' <;> (repeat (go_big_quiet_step (first | exact rfl | (go_at_call 8; with_reducible refine Calls.kept_of (st.out _)) | (go_at_call 9; with_reducible refine Calls.kept_of (s3.out _)) | (go_at_call 10; with_reducible refine Calls.kept_of (s4.out _)) | (go_at_call 7; with_reducible refine Calls.kept_of (s1.out _)) | (go_at_call 11; with_reducible refine Calls.kept_of (s5.out _)) | (go_at_call 12; with_reducible refine Calls.kept_of (s6'.out _))))))
    all_goals (refine wpQuiet_nil ?_; intro _ hw'; obtain ⟨⟨wq, kq⟩, hw''⟩ := hw'; subst hw''; clear b3c0 b3c1 b3c2 b4c0 b4c1 b4c2; go_wp2_with fail; go_ret; exact ⟨rfl, HK2.out.trans kq⟩)

theorem asks_law (a b c a' b' c' : Bool) (k : Int) (w : World) :
    Calls Try.prog 3 #[.agg #[.bool a, .bool b, .bool c], .agg #[.bool a', .bool b', .bool c'], .int .i64 k] w fun e w' => e = .returned (.bool true) ∧ Kp w w' := by
  have s1 := fun w => lallows_any a b c k w
  have s2 := fun w => lallows_any a' b' c' k w
  have s3 := fun w => pand_any a b c a' b' c' w
  have s4 := fun w => pallows_any a b c k w
  have s5 := fun w => pwithin_any a b c a' b' c' w
  have s6 := fun w => pjudge_any a b c a' b' c' k w
  rw [wiP_eq] at s5
  cases a <;> cases b <;> cases c
  · simp only [Bool.true_and, Bool.false_and, Bool.and_true, Bool.not_true, Bool.not_false, Bool.true_or, Bool.false_or] at s3 s5
    exact asks_000 a' b' c' k _ _ w s1 s2 s3 s4 s5 s6
  · simp only [Bool.true_and, Bool.false_and, Bool.and_true, Bool.not_true, Bool.not_false, Bool.true_or, Bool.false_or] at s3 s5
    exact asks_001 a' b' c' k _ _ w s1 s2 s3 s4 s5 s6
  · simp only [Bool.true_and, Bool.false_and, Bool.and_true, Bool.not_true, Bool.not_false, Bool.true_or, Bool.false_or] at s3 s5
    exact asks_010 a' b' c' k _ _ w s1 s2 s3 s4 s5 s6
  · simp only [Bool.true_and, Bool.false_and, Bool.and_true, Bool.not_true, Bool.not_false, Bool.true_or, Bool.false_or] at s3 s5
    exact asks_011 a' b' c' k _ _ w s1 s2 s3 s4 s5 s6
  · simp only [Bool.true_and, Bool.false_and, Bool.and_true, Bool.not_true, Bool.not_false, Bool.true_or, Bool.false_or] at s3 s5
    exact asks_100 a' b' c' k _ _ w s1 s2 s3 s4 s5 s6
  · simp only [Bool.true_and, Bool.false_and, Bool.and_true, Bool.not_true, Bool.not_false, Bool.true_or, Bool.false_or] at s3 s5
    exact asks_101 a' b' c' k _ _ w s1 s2 s3 s4 s5 s6
  · simp only [Bool.true_and, Bool.false_and, Bool.and_true, Bool.not_true, Bool.not_false, Bool.true_or, Bool.false_or] at s3 s5
    exact asks_110 a' b' c' k _ _ w s1 s2 s3 s4 s5 s6
  · simp only [Bool.true_and, Bool.false_and, Bool.and_true, Bool.not_true, Bool.not_false, Bool.true_or, Bool.false_or] at s3 s5
    exact asks_111 a' b' c' k _ _ w s1 s2 s3 s4 s5 s6

end Go.Proofs.Ytaielngncalplaa
