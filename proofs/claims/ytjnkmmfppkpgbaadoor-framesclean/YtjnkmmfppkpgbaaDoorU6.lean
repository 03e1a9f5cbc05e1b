/- buddy.Buddy: Take. -/
import Derived.Test.YtjnkmmfppkpgbaaDoorU5
namespace Go.Proofs.YtjnkmmfppkpgbaaDoor
open Go.RowKit

theorem jump_mono {P : Program} {c : Code} {l : Nat} {J J' : Act → World → Prop} {Q : Exit → Act → World → Prop} {a : Act} {w : World} (hJ : ∀ a w, J' a w → J a w) (h : c.wp P (Exit.jump l J' Q) a w) : c.wp P (Exit.jump l J Q) a w :=
  Code.wp_mono (fun e a w => by
    cases e with
    | goto l' => exact fun hq => ⟨hq.1, hJ _ _ hq.2⟩
    | _ => exact id) h
/-- A scope that is left to its one label again and again: the rest behind the label is walked once. -/
theorem scope_again {P : Program} {c X : Code} {a : Act} {w : World} {Q : Exit → Act → World → Prop} (l : Nat) (J : Act → World → Prop) (μ : Act → World → Nat) (hf : findLabel c l = some (Code.skip.seq X))
    (first : (∀ a w, J a w → X.wp P (Exit.jump l J Q) a w) → c.wp P (Exit.jump l J Q) a w)
    (pass : ∀ a w, J a w → X.wp P (Exit.jump l (fun a' w' => J a' w' ∧ μ a' w' < μ a w) Q) a w) : (Code.scope c).wp P Q a w :=
  wp_scope_jumps l J μ hf (first fun a w hJ => jump_mono (fun _ _ h => h.1) (pass a w hJ)) (fun a w hJ => wp_seq (wp_skip (pass a w hJ)))

def takeInv (p o a0 f : Nat) (Inv : Nat → World → Prop) : Act → World → Prop := fun a' w' => ∃ (a : Nat) (u2 u3 u4 u5 u8 u9 u10 u11 u12 u13 u14 u15 u16 u17 u18 u19 u20 u21 u22 u23 u24 u25 u26 u27 u28 u29 u30 u31 u32 u33 u34 u35 u36 u37 u38 u39 u40 u41 : Value), a' = { tmps := #[.pointer (some ⟨p, 0, none⟩), .int .i64 (o : Int), u2, u3, u4, u5, .int .i64 (a : Int), .int .i64 (f : Int), u8, u9, u10, u11, u12, u13, u14, u15, u16, u17, u18, u19, u20, u21, u22, u23, u24, u25, u26, u27, u28, u29, u30, u31, u32, u33, u34, u35, u36, u37, u38, u39, u40, u41], defers := [] } ∧ o ≤ a ∧ a ≤ a0 ∧ Inv a w'
set_option maxHeartbeats 4000000 in
set_option maxRecDepth 1000000 in
theorem take_walk (p o a0 f i : Nat) (w : World) (P1 : World → Prop) (Inv : Nat → World → Prop) (h1 : o ≤ a0) (h2 : a0 ≤ 9) (hf : (f : Int) ≤ 1048576) (hi : wrap64 ((i : Int) * 2 ^ a0) = (f : Int))
    (cF : Calls Tryd.prog 64 #[.pointer (some ⟨p, 0, none⟩), .int .i64 (o : Int)] w fun e w' => e = .returned (.int .i64 (a0 : Int)) ∧ w' = w)
    (cL : Calls Tryd.prog 65 #[.pointer (some ⟨p, 3 + a0 * 3, none⟩)] w fun e w' => e = .returned (.int .i64 (i : Int)) ∧ P1 w')
    (cR : ∀ w', P1 w' → Calls Tryd.prog 66 #[.pointer (some ⟨p, 0, none⟩), .int .i64 (f : Int), .int .i64 (a0 : Int)] w' fun e w'' => e = .returned (.tuple #[]) ∧ Inv a0 w'')
    (cA : ∀ (a s : Nat) w', o ≤ a → a < a0 → s = 2 ^ a → Inv (a + 1) w' → Calls Tryd.prog 51 #[.pointer (some ⟨p, 0, none⟩), .int .i64 ((f : Int) + s), .int .i64 (a : Int)] w' fun e w'' => e = .returned (.tuple #[]) ∧ Inv a w'') :
    Calls Tryd.prog 52 #[.pointer (some ⟨p, 0, none⟩), .int .i64 (o : Int)] w fun e w' => e = .returned (.tuple #[.int .i64 (f : Int), .int .i64 0]) ∧ Inv o w' := by
  have c1 := fun w => isOrder_any (o : Int) w
  rw [decide_eq_true (by omega), decide_eq_true (by omega), Bool.true_and] at c1
  have c2 := fun w => isOrder_any (a0 : Int) w
  rw [decide_eq_true (by omega), decide_eq_true (by omega), Bool.true_and] at c2
  have CR : Aside (∀ w', P1 w' → Calls Tryd.prog 66 #[.pointer (some ⟨p, 0, none⟩), .int .i64 (f : Int), .int .i64 (a0 : Int)] w' fun e w'' => e = .returned (.tuple #[]) ∧ Inv a0 w'') := cR
  have CA : Aside (∀ (a s : Nat) w', o ≤ a → a < a0 → s = 2 ^ a → Inv (a + 1) w' → Calls Tryd.prog 51 #[.pointer (some ⟨p, 0, none⟩), .int .i64 ((f : Int) + s), .int .i64 (a : Int)] w' fun e w'' => e = .returned (.tuple #[]) ∧ Inv a w'') := cA
  clear cR cA
  have y1 : (a0 : Int) < 10 := by omega
  go_enter Tryd.func52, Tryd.ntmps52
  go_wp2_with fail
  refine scope_again 0 (takeInv p o a0 f Inv) (fun a' _ => (intOf (a'.tmps.getD 6 undef)).toNat) rfl (fun pass => ?_) ?_
  · have PASS : Aside (∀ a w, takeInv p o a0 f Inv a w → _) := pass
    clear pass
    go_wp2_with (first | (go_at_call 63; go_must (with_reducible first | refine (c1 _).mono ?_ | refine (c2 _).mono ?_); rintro e w' ⟨rfl, rfl⟩) | (go_at_call 64; go_must (with_reducible refine cF.mono ?_); rintro e w' ⟨rfl, rfl⟩) | (go_at_call 65; go_must (with_reducible refine cL.mono ?_); rintro e w1 ⟨rfl, H1⟩; have cR := CR.out w1 H1; clear H1) | (go_at_call 66; go_must (with_reducible refine cR.mono ?_); rintro e w2 ⟨rfl, H2⟩))
    go_step3
    rename_i hK
    exact hK _ _ (PASS.out _ _ ⟨a0, _, _, _, _, _, _, _, _, _, _, _, _, _, _, _, _, _, _, _, _, _, _, _, _, _, _, _, _, _, _, _, _, _, _, _, _, _, _, rfl, h1, Nat.le_refl _, H2⟩)
  · rintro a' w' ⟨a, u2, u3, u4, u5, u8, u9, u10, u11, u12, u13, u14, u15, u16, u17, u18, u19, u20, u21, u22, u23, u24, u25, u26, u27, u28, u29, u30, u31, u32, u33, u34, u35, u36, u37, u38, u39, u40, u41, rfl, ha1, ha2, HI⟩
    by_cases e : a = o
    · subst e
      go_wp2_with fail
      simp only [Exit.jump]
      go_ret2
      exact ⟨rfl, HI⟩
    · obtain ⟨b, rfl⟩ : ∃ b, a = b + 1 := ⟨a - 1, by omega⟩
      have y2 : (o : Int) < (b : Int) + 1 := by omega
      have y3 : (b : Int) < 9 := by omega
      obtain ⟨e1, e2⟩ := pow_wrap (show b < 10 by omega)
      have c3 := CA.out b (2 ^ b) w' (by omega) (by omega) rfl HI
      rw [show ((b + 1 : Nat) : Int) = (b : Int) + 1 by omega]
      generalize 2 ^ b = s at *
      go_wp2_with (first | (go_at_call 51; go_must (with_reducible refine c3.mono ?_); rintro e w2 ⟨rfl, H2⟩))
      go_step3
      refine ⟨rfl, ⟨b, _, _, _, _, _, _, _, _, _, _, _, _, _, _, _, _, _, _, _, _, _, _, _, _, _, _, _, _, _, _, _, _, _, _, _, _, _, _, rfl, by omega, by omega, H2⟩, ?_⟩
      simp [intOf]
end Go.Proofs.YtjnkmmfppkpgbaaDoor
