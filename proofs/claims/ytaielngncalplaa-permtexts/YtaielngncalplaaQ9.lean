/- PermTexts: the walk. -/
import Derived.Test.YtaielngncalplaaQ4
import Derived.Laws.Concat
namespace Go.Proofs.Ytaielngncalplaa
open Go.RowKit
set_option linter.unusedVariables false

theorem eq_permT (x y z : Bool) (w : World) : (Op.equalIn 10000 23 (.agg #[.bool x, .bool y, .bool z]) (.agg #[.bool x, .bool y, .bool z])).run Try.prog w = .ok true w := by
  rw [eq_permP, samP_eq.2 ⟨rfl, rfl, rfl⟩]

set_option maxHeartbeats 16000000 in
set_option maxRecDepth 10000 in
theorem texts_len (r q x : Bool) (s : ByteArray) (hs : s.size ≠ 3) (u v y z t : ByteArray) (w : World) (hz : ∀ w, (Op.stringOp .add u v).run Try.prog w = .ok (.string z) w) (ht : ∀ w, (Op.stringOp .add z y).run Try.prog w = .ok (.string t) w)
    (s1 : Aside (∀ w, Calls Try.prog 13 #[.bool r, .string ⟨#[114]⟩] w fun e w' => e = .returned (.string u) ∧ w' = w))
    (s2 : Aside (∀ w, Calls Try.prog 13 #[.bool q, .string ⟨#[119]⟩] w fun e w' => e = .returned (.string v) ∧ w' = w))
    (s3 : Aside (∀ w, Calls Try.prog 13 #[.bool x, .string ⟨#[120]⟩] w fun e w' => e = .returned (.string y) ∧ w' = w))
    (s4 : Aside (∀ w, Calls Try.prog 14 #[.string t] w fun e w' => e = .returned (.tuple #[.agg #[.bool r, .bool q, .bool x], .int .i64 0]) ∧ Kp w w'))
    (s5 : Aside (∀ w, Calls Try.prog 14 #[.string s] w fun e w' => e = .returned (.tuple #[.agg #[.bool false, .bool false, .bool false], .int .i64 4]) ∧ Kp w w'))
    (s6 : Aside (∀ w, Calls Try.prog 15 #[.agg #[.bool r, .bool q, .bool x]] w fun e w' => e = .returned (.string t) ∧ Kp w w')) :
    Calls Try.prog 4 #[.agg #[.bool r, .bool q, .bool x], .string s] w fun e w' => e = .returned (.bool true) ∧ Kp w w' := by
  have st : Aside (∀ w, Calls Try.prog 8 #[] w fun e w' => e = .returned (.bool true) ∧ Kp w w') := fun w => ptold_any w
  have hq := eq_permT
  have h1 : ((s.size : Int) == 3) = false := by rw [beq_eq_false_iff_ne]; omega
  go_enter Try.func4, Try.ntmps4
  go_wp2_with fail
  obtain ⟨w1, hw1⟩ : ∃ v, v = (w.alloc (.cells #[.bool r, .bool q, .bool x] 23)) := ⟨_, rfl⟩
  have HK1 : Hid (Kp w w1) := by rw [hw1]; exact ((Kp.refl w).alloc _)
  obtain ⟨b2, hb2⟩ : ∃ b2, b2 = w.heap.size := ⟨_, rfl⟩
  have Hb21 : Hid (PX w1 b2 r q x) := by rw [hb2, hw1]; exact (PX.made w r q x).kp (Kp.refl _)
  rw [← hw1]
  (try rw [← hb2])
  clear hw1 hb2
  have f0 := Hb21.out.c0
  have f1 := Hb21.out.c1
  have f2 := Hb21.out.c2
  go_quiet (first | exact rfl | (go_at_call 13; go_must (first | (with_reducible refine Calls.quiet_of_same (s1.out _)) | (with_reducible refine Calls.quiet_of_same (s2.out _)) | (with_reducible refine Calls.quiet_of_same (s3.out _)))))
  obtain ⟨w2, hw2⟩ : ∃ v, v = w1.drewN nq := ⟨_, rfl⟩
  have HK2 : Hid (Kp w w2) := by rw [hw2]; exact (HK1.out.drewN nq)
  have Hb22 : Hid (PX w2 b2 r q x) := by rw [hw2]; exact Hb21.out.kp ((Kp.refl _).drewN nq)
  rw [← hw2]
  clear hw2 HK1 Hb21
  clear f0 f1 f2 hz ht s1 s2 s3
  go_wp2_with fail
  with_reducible refine (s4.out _).mono ?_
  rintro e w3 ⟨rfl, K⟩
  have HK3 : Hid (Kp w w3) := HK2.out.trans K
  have Hb23 : Hid (PX w3 b2 r q x) := Hb22.out.kp K
  clear K HK2 Hb22 s4
  go_wp2_with fail
  with_reducible refine (s5.out _).mono ?_
  rintro e w4 ⟨rfl, K⟩
  have HK4 : Hid (Kp w w4) := (HK3.out.alloc _).trans K
  have Hb24 : Hid (PX w4 b2 r q x) := (Hb23.out.kp ((Kp.refl _).alloc _)).kp K
  obtain ⟨b6, hb6⟩ : ∃ b6, b6 = w3.heap.size := ⟨_, rfl⟩
  have Hb64 : Hid (PX w4 b6 r q x) := by rw [hb6]; exact ((PX.made w3 r q x).kp (Kp.refl _)).kp K
  (try rw [← hb6])
  clear K hb6 HK3 Hb23 s5
  go_wp2_with fail
  with_reducible refine (st.out _).mono ?_
  rintro e w5 ⟨rfl, K⟩
  have HK5 : Hid (Kp w w5) := (HK4.out.alloc _).trans K
  have Hb25 : Hid (PX w5 b2 r q x) := (Hb24.out.kp ((Kp.refl _).alloc _)).kp K
  have Hb65 : Hid (PX w5 b6 r q x) := (Hb64.out.kp ((Kp.refl _).alloc _)).kp K
  obtain ⟨b8, hb8⟩ : ∃ b8, b8 = w4.heap.size := ⟨_, rfl⟩
  have Hb85 : Hid (PX w5 b8 false false false) := by rw [hb8]; exact ((PX.made w4 false false false).kp (Kp.refl _)).kp K
  (try rw [← hb8])
  clear K hb8 HK4 Hb24 Hb64 st
  have f0 := Hb25.out.c0
  have f1 := Hb25.out.c1
  have f2 := Hb25.out.c2
  go_wp2_with fail
  with_reducible refine (s6.out _).mono ?_
  rintro e w6 ⟨rfl, K⟩
  have HK6 : Hid (Kp w w6) := HK5.out.trans K
  have Hb26 : Hid (PX w6 b2 r q x) := Hb25.out.kp K
  have Hb66 : Hid (PX w6 b6 r q x) := Hb65.out.kp K
  have Hb86 : Hid (PX w6 b8 false false false) := Hb85.out.kp K
  clear K HK5 Hb25 Hb65 Hb85 s6 f0 f1 f2
  have f0 := Hb26.out.c0
  have f1 := Hb26.out.c1
  have f2 := Hb26.out.c2
  have g0 := Hb66.out.c0
  have g1 := Hb66.out.c1
  have g2 := Hb66.out.c2
  go_wp2_with fail
  go_ret
  exact ⟨rfl, HK6.out⟩

set_option maxHeartbeats 16000000 in
set_option maxRecDepth 10000 in
theorem texts_right (r q x : Bool) (a b c : UInt8) (r' q' x' : Bool) (A1 A2 : Bool) (gA1 : (((a.toNat : Nat) : Int) == 114) = A1) (gA2 : (((a.toNat : Nat) : Int) == 45) = A2) (B1 B2 : Bool) (gB1 : (((b.toNat : Nat) : Int) == 119) = B1) (gB2 : (((b.toNat : Nat) : Int) == 45) = B2) (C1 C2 : Bool) (gC1 : (((c.toNat : Nat) : Int) == 120) = C1) (gC2 : (((c.toNat : Nat) : Int) == 45) = C2) (hA : (A1 = true ∨ (A1 = false ∧ A2 = true))) (hB : (B1 = true ∨ (B1 = false ∧ B2 = true))) (hC : (C1 = true ∨ (C1 = false ∧ C2 = true))) (u v y z t : ByteArray) (w : World) (hz : ∀ w, (Op.stringOp .add u v).run Try.prog w = .ok (.string z) w) (ht : ∀ w, (Op.stringOp .add z y).run Try.prog w = .ok (.string t) w)
    (s1 : Aside (∀ w, Calls Try.prog 13 #[.bool r, .string ⟨#[114]⟩] w fun e w' => e = .returned (.string u) ∧ w' = w))
    (s2 : Aside (∀ w, Calls Try.prog 13 #[.bool q, .string ⟨#[119]⟩] w fun e w' => e = .returned (.string v) ∧ w' = w))
    (s3 : Aside (∀ w, Calls Try.prog 13 #[.bool x, .string ⟨#[120]⟩] w fun e w' => e = .returned (.string y) ∧ w' = w))
    (s4 : Aside (∀ w, Calls Try.prog 14 #[.string t] w fun e w' => e = .returned (.tuple #[.agg #[.bool r, .bool q, .bool x], .int .i64 0]) ∧ Kp w w'))
    (s5 : Aside (∀ w, Calls Try.prog 14 #[.string ⟨#[a, b, c]⟩] w fun e w' => e = .returned (.tuple #[.agg #[.bool r', .bool q', .bool x'], .int .i64 0]) ∧ Kp w w'))
    (s6 : Aside (∀ w, Calls Try.prog 15 #[.agg #[.bool r, .bool q, .bool x]] w fun e w' => e = .returned (.string t) ∧ Kp w w'))
    (s7 : Aside (∀ w, Calls Try.prog 15 #[.agg #[.bool r', .bool q', .bool x']] w fun e w' => e = .returned (.string ⟨#[a, b, c]⟩) ∧ Kp w w')) :
    Calls Try.prog 4 #[.agg #[.bool r, .bool q, .bool x], .string ⟨#[a, b, c]⟩] w fun e w' => e = .returned (.bool true) ∧ Kp w w' := by
  have st : Aside (∀ w, Calls Try.prog 8 #[] w fun e w' => e = .returned (.bool true) ∧ Kp w w') := fun w => ptold_any w
  have hq := eq_permT
  have kA1 : (((((⟨#[a, b, c]⟩ : ByteArray)[0]'(by simp [ByteArray.size])).toNat : Nat) : Int) == 114) = A1 := gA1
  have kA2 : (((((⟨#[a, b, c]⟩ : ByteArray)[0]'(by simp [ByteArray.size])).toNat : Nat) : Int) == 45) = A2 := gA2
  have kB1 : (((((⟨#[a, b, c]⟩ : ByteArray)[1]'(by simp [ByteArray.size])).toNat : Nat) : Int) == 119) = B1 := gB1
  have kB2 : (((((⟨#[a, b, c]⟩ : ByteArray)[1]'(by simp [ByteArray.size])).toNat : Nat) : Int) == 45) = B2 := gB2
  have kC1 : (((((⟨#[a, b, c]⟩ : ByteArray)[2]'(by simp [ByteArray.size])).toNat : Nat) : Int) == 120) = C1 := gC1
  have kC2 : (((((⟨#[a, b, c]⟩ : ByteArray)[2]'(by simp [ByteArray.size])).toNat : Nat) : Int) == 45) = C2 := gC2
  clear gA1 gA2 gB1 gB2 gC1 gC2
  rcases hA with rfl | ⟨rfl, rfl⟩ <;> rcases hB with rfl | ⟨rfl, rfl⟩ <;> rcases hC with rfl | ⟨rfl, rfl⟩
  all_goals
    go_enter Try.func4, Try.ntmps4
    go_wp2_with fail
    obtain ⟨w1, hw1⟩ : ∃ v, v = (w.alloc (.cells #[.bool r, .bool q, .bool x] 23)) := ⟨_, rfl⟩
    have HK1 : Hid (Kp w w1) := by rw [hw1]; exact ((Kp.refl w).alloc _)
    obtain ⟨b2, hb2⟩ : ∃ b2, b2 = w.heap.size := ⟨_, rfl⟩
    have Hb21 : Hid (PX w1 b2 r q x) := by rw [hb2, hw1]; exact (PX.made w r q x).kp (Kp.refl _)
    rw [← hw1]
    (try rw [← hb2])
    clear hw1 hb2
    have f0 := Hb21.out.c0
    have f1 := Hb21.out.c1
    have f2 := Hb21.out.c2
    go_quiet (first | exact rfl | (go_at_call 13; go_must (first | (with_reducible refine Calls.quiet_of_same (s1.out _)) | (with_reducible refine Calls.quiet_of_same (s2.out _)) | (with_reducible refine Calls.quiet_of_same (s3.out _)))))
    obtain ⟨w2, hw2⟩ : ∃ v, v = w1.drewN nq := ⟨_, rfl⟩
    have HK2 : Hid (Kp w w2) := by rw [hw2]; exact (HK1.out.drewN nq)
    have Hb22 : Hid (PX w2 b2 r q x) := by rw [hw2]; exact Hb21.out.kp ((Kp.refl _).drewN nq)
    rw [← hw2]
    clear hw2 HK1 Hb21
    clear f0 f1 f2 hz ht s1 s2 s3
    go_wp2_with fail
    with_reducible refine (s4.out _).mono ?_
    rintro e w3 ⟨rfl, K⟩
    have HK3 : Hid (Kp w w3) := HK2.out.trans K
    have Hb23 : Hid (PX w3 b2 r q x) := Hb22.out.kp K
    clear K HK2 Hb22 s4
    go_wp2_with fail
    with_reducible refine (s5.out _).mono ?_
    rintro e w4 ⟨rfl, K⟩
    have HK4 : Hid (Kp w w4) := (HK3.out.alloc _).trans K
    have Hb24 : Hid (PX w4 b2 r q x) := (Hb23.out.kp ((Kp.refl _).alloc _)).kp K
    obtain ⟨b6, hb6⟩ : ∃ b6, b6 = w3.heap.size := ⟨_, rfl⟩
    have Hb64 : Hid (PX w4 b6 r q x) := by rw [hb6]; exact ((PX.made w3 r q x).kp (Kp.refl _)).kp K
    (try rw [← hb6])
    clear K hb6 HK3 Hb23 s5
    go_wp2_with fail
    with_reducible refine (st.out _).mono ?_
    rintro e w5 ⟨rfl, K⟩
    have HK5 : Hid (Kp w w5) := (HK4.out.alloc _).trans K
    have Hb25 : Hid (PX w5 b2 r q x) := (Hb24.out.kp ((Kp.refl _).alloc _)).kp K
    have Hb65 : Hid (PX w5 b6 r q x) := (Hb64.out.kp ((Kp.refl _).alloc _)).kp K
    obtain ⟨b8, hb8⟩ : ∃ b8, b8 = w4.heap.size := ⟨_, rfl⟩
    have Hb85 : Hid (PX w5 b8 r' q' x') := by rw [hb8]; exact ((PX.made w4 r' q' x').kp (Kp.refl _)).kp K
    (try rw [← hb8])
    clear K hb8 HK4 Hb24 Hb64 st
    have f0 := Hb25.out.c0
    have f1 := Hb25.out.c1
    have f2 := Hb25.out.c2
    go_wp2_with fail
    with_reducible refine (s6.out _).mono ?_
    rintro e w6 ⟨rfl, K⟩
    have HK6 : Hid (Kp w w6) := HK5.out.trans K
    have Hb26 : Hid (PX w6 b2 r q x) := Hb25.out.kp K
    have Hb66 : Hid (PX w6 b6 r q x) := Hb65.out.kp K
    have Hb86 : Hid (PX w6 b8 r' q' x') := Hb85.out.kp K
    clear K HK5 Hb25 Hb65 Hb85 s6 f0 f1 f2
    have f0 := Hb26.out.c0
    have f1 := Hb26.out.c1
    have f2 := Hb26.out.c2
    have g0 := Hb66.out.c0
    have g1 := Hb66.out.c1
    have g2 := Hb66.out.c2
    have h0 := Hb86.out.c0
    have h1 := Hb86.out.c1
    have h2 := Hb86.out.c2
    go_wp2_with fail
    with_reducible refine (s7.out _).mono ?_
    rintro e w7 ⟨rfl, K⟩
    have HK7 : Hid (Kp w w7) := HK6.out.trans K
    have Hb27 : Hid (PX w7 b2 r q x) := Hb26.out.kp K
    have Hb67 : Hid (PX w7 b6 r q x) := Hb66.out.kp K
    have Hb87 : Hid (PX w7 b8 r' q' x') := Hb86.out.kp K
    clear K HK6 Hb26 Hb66 Hb86 s7 f0 f1 f2 g0 g1 g2 h0 h1 h2
    go_wp2_with fail
    go_ret
    exact ⟨rfl, HK7.out⟩

set_option maxHeartbeats 16000000 in
set_option maxRecDepth 10000 in
theorem texts_wrong (r q x : Bool) (a b c : UInt8) (A1 A2 : Bool) (gA1 : (((a.toNat : Nat) : Int) == 114) = A1) (gA2 : (((a.toNat : Nat) : Int) == 45) = A2) (B1 B2 : Bool) (gB1 : (((b.toNat : Nat) : Int) == 119) = B1) (gB2 : (((b.toNat : Nat) : Int) == 45) = B2) (C1 C2 : Bool) (gC1 : (((c.toNat : Nat) : Int) == 120) = C1) (gC2 : (((c.toNat : Nat) : Int) == 45) = C2) (hN : (A1 = false ∧ A2 = false) ∨ ((A1 = true ∨ (A1 = false ∧ A2 = true)) ∧ (B1 = false ∧ B2 = false)) ∨ ((A1 = true ∨ (A1 = false ∧ A2 = true)) ∧ (B1 = true ∨ (B1 = false ∧ B2 = true)) ∧ (C1 = false ∧ C2 = false))) (u v y z t : ByteArray) (w : World) (hz : ∀ w, (Op.stringOp .add u v).run Try.prog w = .ok (.string z) w) (ht : ∀ w, (Op.stringOp .add z y).run Try.prog w = .ok (.string t) w)
    (s1 : Aside (∀ w, Calls Try.prog 13 #[.bool r, .string ⟨#[114]⟩] w fun e w' => e = .returned (.string u) ∧ w' = w))
    (s2 : Aside (∀ w, Calls Try.prog 13 #[.bool q, .string ⟨#[119]⟩] w fun e w' => e = .returned (.string v) ∧ w' = w))
    (s3 : Aside (∀ w, Calls Try.prog 13 #[.bool x, .string ⟨#[120]⟩] w fun e w' => e = .returned (.string y) ∧ w' = w))
    (s4 : Aside (∀ w, Calls Try.prog 14 #[.string t] w fun e w' => e = .returned (.tuple #[.agg #[.bool r, .bool q, .bool x], .int .i64 0]) ∧ Kp w w'))
    (s5 : Aside (∀ w, Calls Try.prog 14 #[.string ⟨#[a, b, c]⟩] w fun e w' => e = .returned (.tuple #[.agg #[.bool false, .bool false, .bool false], .int .i64 4]) ∧ Kp w w'))
    (s6 : Aside (∀ w, Calls Try.prog 15 #[.agg #[.bool r, .bool q, .bool x]] w fun e w' => e = .returned (.string t) ∧ Kp w w')) :
    Calls Try.prog 4 #[.agg #[.bool r, .bool q, .bool x], .string ⟨#[a, b, c]⟩] w fun e w' => e = .returned (.bool true) ∧ Kp w w' := by
  have st : Aside (∀ w, Calls Try.prog 8 #[] w fun e w' => e = .returned (.bool true) ∧ Kp w w') := fun w => ptold_any w
  have hq := eq_permT
  have kA1 : (((((⟨#[a, b, c]⟩ : ByteArray)[0]'(by simp [ByteArray.size])).toNat : Nat) : Int) == 114) = A1 := gA1
  have kA2 : (((((⟨#[a, b, c]⟩ : ByteArray)[0]'(by simp [ByteArray.size])).toNat : Nat) : Int) == 45) = A2 := gA2
  have kB1 : (((((⟨#[a, b, c]⟩ : ByteArray)[1]'(by simp [ByteArray.size])).toNat : Nat) : Int) == 119) = B1 := gB1
  have kB2 : (((((⟨#[a, b, c]⟩ : ByteArray)[1]'(by simp [ByteArray.size])).toNat : Nat) : Int) == 45) = B2 := gB2
  have kC1 : (((((⟨#[a, b, c]⟩ : ByteArray)[2]'(by simp [ByteArray.size])).toNat : Nat) : Int) == 120) = C1 := gC1
  have kC2 : (((((⟨#[a, b, c]⟩ : ByteArray)[2]'(by simp [ByteArray.size])).toNat : Nat) : Int) == 45) = C2 := gC2
  clear gA1 gA2 gB1 gB2 gC1 gC2
  rcases hN with ⟨rfl, rfl⟩ | ⟨rfl | ⟨rfl, rfl⟩, rfl, rfl⟩ | ⟨rfl | ⟨rfl, rfl⟩, rfl | ⟨rfl, rfl⟩, rfl, rfl⟩
  all_goals
    go_enter Try.func4, Try.ntmps4
    go_wp2_with fail
    obtain ⟨w1, hw1⟩ : ∃ v, v = (w.alloc (.cells #[.bool r, .bool q, .bool x] 23)) := ⟨_, rfl⟩
    have HK1 : Hid (Kp w w1) := by rw [hw1]; exact ((Kp.refl w).alloc _)
    obtain ⟨b2, hb2⟩ : ∃ b2, b2 = w.heap.size := ⟨_, rfl⟩
    have Hb21 : Hid (PX w1 b2 r q x) := by rw [hb2, hw1]; exact (PX.made w r q x).kp (Kp.refl _)
    rw [← hw1]
    (try rw [← hb2])
    clear hw1 hb2
    have f0 := Hb21.out.c0
    have f1 := Hb21.out.c1
    have f2 := Hb21.out.c2
    go_quiet (first | exact rfl | (go_at_call 13; go_must (first | (with_reducible refine Calls.quiet_of_same (s1.out _)) | (with_reducible refine Calls.quiet_of_same (s2.out _)) | (with_reducible refine Calls.quiet_of_same (s3.out _)))))
    obtain ⟨w2, hw2⟩ : ∃ v, v = w1.drewN nq := ⟨_, rfl⟩
    have HK2 : Hid (Kp w w2) := by rw [hw2]; exact (HK1.out.drewN nq)
    have Hb22 : Hid (PX w2 b2 r q x) := by rw [hw2]; exact Hb21.out.kp ((Kp.refl _).drewN nq)
    rw [← hw2]
    clear hw2 HK1 Hb21
    clear f0 f1 f2 hz ht s1 s2 s3
    go_wp2_with fail
    with_reducible refine (s4.out _).mono ?_
    rintro e w3 ⟨rfl, K⟩
    have HK3 : Hid (Kp w w3) := HK2.out.trans K
    have Hb23 : Hid (PX w3 b2 r q x) := Hb22.out.kp K
    clear K HK2 Hb22 s4
    go_wp2_with fail
    with_reducible refine (s5.out _).mono ?_
    rintro e w4 ⟨rfl, K⟩
    have HK4 : Hid (Kp w w4) := (HK3.out.alloc _).trans K
    have Hb24 : Hid (PX w4 b2 r q x) := (Hb23.out.kp ((Kp.refl _).alloc _)).kp K
    obtain ⟨b6, hb6⟩ : ∃ b6, b6 = w3.heap.size := ⟨_, rfl⟩
    have Hb64 : Hid (PX w4 b6 r q x) := by rw [hb6]; exact ((PX.made w3 r q x).kp (Kp.refl _)).kp K
    (try rw [← hb6])
    clear K hb6 HK3 Hb23 s5
    go_wp2_with fail
    with_reducible refine (st.out _).mono ?_
    rintro e w5 ⟨rfl, K⟩
    have HK5 : Hid (Kp w w5) := (HK4.out.alloc _).trans K
    have Hb25 : Hid (PX w5 b2 r q x) := (Hb24.out.kp ((Kp.refl _).alloc _)).kp K
    have Hb65 : Hid (PX w5 b6 r q x) := (Hb64.out.kp ((Kp.refl _).alloc _)).kp K
    obtain ⟨b8, hb8⟩ : ∃ b8, b8 = w4.heap.size := ⟨_, rfl⟩
    have Hb85 : Hid (PX w5 b8 false false false) := by rw [hb8]; exact ((PX.made w4 false false false).kp (Kp.refl _)).kp K
    (try rw [← hb8])
    clear K hb8 HK4 Hb24 Hb64 st
    have f0 := Hb25.out.c0
    have f1 := Hb25.out.c1
    have f2 := Hb25.out.c2
    go_wp2_with fail
    with_reducible refine (s6.out _).mono ?_
    rintro e w6 ⟨rfl, K⟩
    have HK6 : Hid (Kp w w6) := HK5.out.trans K
    have Hb26 : Hid (PX w6 b2 r q x) := Hb25.out.kp K
    have Hb66 : Hid (PX w6 b6 r q x) := Hb65.out.kp K
    have Hb86 : Hid (PX w6 b8 false false false) := Hb85.out.kp K
    clear K HK5 Hb25 Hb65 Hb85 s6 f0 f1 f2
    have f0 := Hb26.out.c0
    have f1 := Hb26.out.c1
    have f2 := Hb26.out.c2
    have g0 := Hb66.out.c0
    have g1 := Hb66.out.c1
    have g2 := Hb66.out.c2
    go_wp2_with fail
    go_ret
    exact ⟨rfl, HK6.out⟩

end Go.Proofs.Ytaielngncalplaa
