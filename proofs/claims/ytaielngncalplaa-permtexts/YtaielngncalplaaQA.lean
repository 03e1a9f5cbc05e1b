/- PermTexts: the law. -/
import Derived.Test.YtaielngncalplaaQ9
namespace Go.Proofs.Ytaielngncalplaa
open Go.RowKit

theorem let_of {a : UInt8} {n : Nat} {m : Int} (hm : m = (n : Int)) (h : (((a.toNat : Nat) : Int) == m) = true ∨ ((((a.toNat : Nat) : Int) == m) = false ∧ (((a.toNat : Nat) : Int) == 45) = true)) :
    UInt8.ofNat (letN (((a.toNat : Nat) : Int) == m) n) = a := by
  rcases h with h | ⟨h, g⟩
  · rw [h]
    have e : a.toNat = n := by have := eq_of_beq h; omega
    show UInt8.ofNat n = a
    rw [← e]
    exact UInt8.ofNat_toNat
  · rw [h]
    have e : a.toNat = 45 := by have := eq_of_beq g; omega
    show UInt8.ofNat 45 = a
    rw [← e]
    exact UInt8.ofNat_toNat

/-- One letter, as the law lays it. -/
def letS (a : Bool) (n : UInt8) : ByteArray := if a then ⟨#[n]⟩ else ⟨#[45]⟩
theorem letS_size (a : Bool) (n : UInt8) : (letS a n).size = 1 := by cases a <;> rfl
theorem two_letters (r q : Bool) (w : World) : (Op.stringOp .add (letS r 114) (letS q 119)).run Try.prog w = .ok (.string ⟨#[UInt8.ofNat (letN r 114), UInt8.ofNat (letN q 119)]⟩) w := by
  rw [run_string_add_sum w _ _ (by rw [letS_size, letS_size]; decide)]
  cases r <;> cases q <;> (simp only [letS, if_true, Bool.false_eq_true, if_false, ByteArray.mk_append_mk]; rfl)
theorem three_letters (r q x : Bool) (w : World) : (Op.stringOp .add ⟨#[UInt8.ofNat (letN r 114), UInt8.ofNat (letN q 119)]⟩ (letS x 120)).run Try.prog w = .ok (.string (txt r q x)) w := by
  rw [run_string_add_sum w _ _ (by rw [letS_size]; show 2 + 1 ≤ _; decide)]
  cases x <;> (simp only [letS, if_true, Bool.false_eq_true, if_false, ByteArray.mk_append_mk]; rfl)

theorem three_cases (A B : Bool) : (A = true ∨ (A = false ∧ B = true)) ∨ (A = false ∧ B = false) := by cases A <;> cases B <;> simp

theorem texts_law (r q x : Bool) (s : ByteArray) (w : World) :
    Calls Try.prog 4 #[.agg #[.bool r, .bool q, .bool x], .string s] w fun e w' => e = .returned (.bool true) ∧ Kp w w' := by
  have s1 := fun w => lletter_any r ⟨#[114]⟩ w
  have s2 := fun w => lletter_any q ⟨#[119]⟩ w
  have s3 := fun w => lletter_any x ⟨#[120]⟩ w
  have s4 := fun w => parse_txt r q x w
  have s6 := fun w => ptext_any r q x w
  by_cases hs : s.size = 3
  · obtain ⟨⟨l⟩⟩ := s
    match l, hs with
    | [a, b, c], _ =>
      rcases parse_any ⟨#[a, b, c]⟩ with ⟨r', q', x', e, s5⟩ | ⟨h, s5⟩
      · have s7 := fun w => ptext_any r' q' x' w
        rw [← e] at s7
        simp only [txt, ByteArray.mk.injEq, Array.mk.injEq, List.cons.injEq, and_true] at e
        obtain ⟨ea, eb, ec⟩ := e
        exact texts_right r q x a b c r' q' x' _ _ rfl rfl _ _ rfl rfl _ _ rfl rfl (by rw [ea]; cases r' <;> decide) (by rw [eb]; cases q' <;> decide) (by rw [ec]; cases x' <;> decide) _ _ _ _ _ w (two_letters r q) (three_letters r q x) s1 s2 s3 s4 s5 s6 s7
      · refine texts_wrong r q x a b c _ _ rfl rfl _ _ rfl rfl _ _ rfl rfl ?_ _ _ _ _ _ w (two_letters r q) (three_letters r q x) s1 s2 s3 s4 s5 s6
        rcases three_cases (((a.toNat : Nat) : Int) == 114) (((a.toNat : Nat) : Int) == 45) with hA | hA
        · rcases three_cases (((b.toNat : Nat) : Int) == 119) (((b.toNat : Nat) : Int) == 45) with hB | hB
          · rcases three_cases (((c.toNat : Nat) : Int) == 120) (((c.toNat : Nat) : Int) == 45) with hC | hC
            · refine absurd ?_ (h (((a.toNat : Nat) : Int) == 114) (((b.toNat : Nat) : Int) == 119) (((c.toNat : Nat) : Int) == 120))
              unfold txt
              rw [let_of (n := 114) (m := 114) rfl hA, let_of (n := 119) (m := 119) rfl hB, let_of (n := 120) (m := 120) rfl hC]
            · exact .inr (.inr ⟨hA, hB, hC⟩)
          · exact .inr (.inl ⟨hA, hB⟩)
        · exact .inl hA
  · exact texts_len r q x s hs _ _ _ _ _ w (two_letters r q) (three_letters r q x) s1 s2 s3 s4 (fun w => parse_len s w hs) s6

end Go.Proofs.Ytaielngncalplaa
