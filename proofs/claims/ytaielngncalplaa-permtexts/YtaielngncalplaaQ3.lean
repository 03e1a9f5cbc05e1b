/- perm: Parse. -/
import Derived.Test.YtaielngncalplaaQ2
namespace Go.Proofs.Ytaielngncalplaa
open Go.RowKit

set_option maxHeartbeats 4000000 in
theorem parse_len (s : ByteArray) (w : World) (h : s.size ≠ 3) :
    Calls Try.prog 14 #[.string s] w fun e w' => e = .returned (.tuple #[.agg #[.bool false, .bool false, .bool false], .int .i64 4]) ∧ Kp w w' := by
  have h1 : ((s.size : Int) != 3) = true := by rw [bne_iff_ne]; omega
  go_enter Try.func14, Try.ntmps14
  go_wp2_with fail
  exact bodyPost_ret (res_p2 rfl rfl (PX.made w _ _ _)) rfl ⟨rfl, (Kp.refl _).alloc _⟩

theorem str_0 (a b c : UInt8) (h : 0 < (ByteArray.mk #[a, b, c]).size) : (ByteArray.mk #[a, b, c])[0]'h = a := rfl
theorem str_1 (a b c : UInt8) (h : 1 < (ByteArray.mk #[a, b, c]).size) : (ByteArray.mk #[a, b, c])[1]'h = b := rfl
theorem str_2 (a b c : UInt8) (h : 2 < (ByteArray.mk #[a, b, c]).size) : (ByteArray.mk #[a, b, c])[2]'h = c := rfl

set_option maxHeartbeats 4000000 in
theorem parse_three (a b c : UInt8) (r q x : Bool) (E : Bool) (w : World) (h0 : (((a.toNat : Nat) : Int) == 114) = r) (h1 : (((b.toNat : Nat) : Int) == 119) = q) (h2 : (((c.toNat : Nat) : Int) == 120) = x) (h : ((txt r q x).toList == [a, b, c]) = E) :
    Calls Try.prog 14 #[.string ⟨#[a, b, c]⟩] w fun e w' => e = .returned (.tuple #[.agg #[.bool (E && r), .bool (E && q), .bool (E && x)], .int .i64 (if E then 0 else 4)]) ∧ Kp w w' := by
  have s1 : Aside (∀ w, Calls Try.prog 15 #[.agg #[.bool r, .bool q, .bool x]] w fun e w' => e = .returned (.string (txt r q x)) ∧ Kp w w') := fun w => ptext_any r q x w
  generalize txt r q x = t at *
  have H0 : Hid _ := h0
  have H1 : Hid _ := h1
  have H2 : Hid _ := h2
  have H : Hid _ := h
  clear h0 h1 h2 h
  cases E
  all_goals
    go_enter Try.func14, Try.ntmps14
    go_wp2_with fail
    go_region
    simp only [str_0, str_1, str_2, H0.out, H1.out, H2.out]
    have B4 : PX ((w.alloc (.cells #[.bool false, .bool false, .bool false] 23)).alloc (.cells #[.bool r, .bool q, .bool x] 23)).drew (w.heap.size + 1) r q x := PX.made1 w _ r q x
    have B2 : PX ((w.alloc (.cells #[.bool false, .bool false, .bool false] 23)).alloc (.cells #[.bool r, .bool q, .bool x] 23)).drew w.heap.size false false false := (PX.made w false false false).kp ((Kp.refl _).alloc _).drew
    have HK : Hid (Kp w ((w.alloc (.cells #[.bool false, .bool false, .bool false] 23)).alloc (.cells #[.bool r, .bool q, .bool x] 23)).drew) := (((Kp.refl w).alloc _).alloc _).drew
    obtain ⟨W1, hW1⟩ : ∃ W1, W1 = ((w.alloc (.cells #[.bool false, .bool false, .bool false] 23)).alloc (.cells #[.bool r, .bool q, .bool x] 23)).drew := ⟨_, rfl⟩
    rw [← hW1] at B4 B2 HK ⊢
    obtain ⟨b4, hb4⟩ : ∃ b4, b4 = w.heap.size + 1 := ⟨_, rfl⟩
    obtain ⟨b2, hb2⟩ : ∃ b2, b2 = w.heap.size := ⟨_, rfl⟩
    have HL : Hid (w.heap.size ≤ b2) := Nat.le_of_eq hb2.symm
    rw [← hb4] at B4
    rw [← hb2] at B2
    rw [← hb4, ← hb2]
    clear hW1 hb4 hb2
    have HB4 : Hid (PX W1 b4 r q x) := B4
    have HB2 : Hid (PX W1 b2 false false false) := B2
    have x0 := B4.c0
    have x1 := B4.c1
    have x2 := B4.c2
    clear B4 B2
    go_wp2_with fail
    with_reducible refine (s1.out _).mono ?_
    rintro e w1 ⟨rfl, K⟩
    have HK' : Hid (Kp w w1) := HK.out.trans K
    have B2 := HB2.out.kp K
    have B4 := HB4.out.kp K
    have HB : Hid (PX w1 b2 false false false) := B2
    have x0 := B4.c0
    have x1 := B4.c1
    have x2 := B4.c2
    have y0 := B2.c0
    have y1 := B2.c1
    have y2 := B2.c2
    have z0 := B2.fz 0
    have z1 := B2.fz 1
    have z2 := B2.fz 2
    have h := H.out
    clear K B2 B4 HK HB2 HB4
    go_wp2_with fail
    exact bodyPost_ret (res_p2 rfl rfl (PX.put HB.out _ _ _)) rfl ⟨rfl, HK'.out.putP HL.out⟩

/-- What a text is read as. -/
theorem parse_any (s : ByteArray) :
    (∃ r q x, s = txt r q x ∧ ∀ w, Calls Try.prog 14 #[.string s] w fun e w' => e = .returned (.tuple #[.agg #[.bool r, .bool q, .bool x], .int .i64 0]) ∧ Kp w w') ∨
    ((∀ r q x, s ≠ txt r q x) ∧ ∀ w, Calls Try.prog 14 #[.string s] w fun e w' => e = .returned (.tuple #[.agg #[.bool false, .bool false, .bool false], .int .i64 4]) ∧ Kp w w') := by
  by_cases h : s.size = 3
  · obtain ⟨⟨l⟩⟩ := s
    match l, h with
    | [a, b, c], _ =>
      obtain ⟨r, h0⟩ : ∃ r, (((a.toNat : Nat) : Int) == 114) = r := ⟨_, rfl⟩
      obtain ⟨q, h1⟩ : ∃ q, (((b.toNat : Nat) : Int) == 119) = q := ⟨_, rfl⟩
      obtain ⟨x, h2⟩ : ∃ x, (((c.toNat : Nat) : Int) == 120) = x := ⟨_, rfl⟩
      by_cases e : txt r q x = ⟨#[a, b, c]⟩
      · exact .inl ⟨r, q, x, e.symm, fun w => parse_three a b c r q x true w h0 h1 h2 (by rw [e, ByteArray.toList_eq]; simp)⟩
      · refine .inr ⟨fun r' q' x' e' => e ?_, fun w => parse_three a b c r q x false w h0 h1 h2 (by rw [ByteArray.toList_eq, beq_eq_false_iff_ne]; intro e2; exact e (by cases ht : txt r q x; rw [ht] at e2; congr 1; exact Array.toList_inj.1 e2))⟩
        have e3 : (ByteArray.mk #[a, b, c]) = txt r' q' x' := e'
        rw [e3]
        simp only [txt, ByteArray.mk.injEq, Array.mk.injEq, List.cons.injEq, and_true] at e3
        obtain ⟨ea, eb, ec⟩ := e3
        subst ea eb ec h0 h1 h2
        cases r' <;> cases q' <;> cases x' <;> decide
  · refine .inr ⟨fun r q x e => h (by rw [e]; rfl), fun w => parse_len s w h⟩

theorem parse_txt (r q x : Bool) (w : World) : Calls Try.prog 14 #[.string (txt r q x)] w fun e w' => e = .returned (.tuple #[.agg #[.bool r, .bool q, .bool x], .int .i64 0]) ∧ Kp w w' := by
  rcases parse_any (txt r q x) with ⟨r', q', x', e, h⟩ | ⟨h, _⟩
  · have : r = r' ∧ q = q' ∧ x = x' := by
      simp only [txt, ByteArray.mk.injEq, Array.mk.injEq, List.cons.injEq, and_true] at e
      obtain ⟨ea, eb, ec⟩ := e
      clear h
      refine ⟨?_, ?_, ?_⟩
      · revert ea; cases r <;> cases r' <;> decide
      · revert eb; cases q <;> cases q' <;> decide
      · revert ec; cases x <;> cases x' <;> decide
    obtain ⟨rfl, rfl, rfl⟩ := this
    exact h w
  · exact absurd rfl (h r q x)

end Go.Proofs.Ytaielngncalplaa
