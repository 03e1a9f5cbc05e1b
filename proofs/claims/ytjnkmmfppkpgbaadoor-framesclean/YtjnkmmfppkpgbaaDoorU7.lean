/- buddy.Buddy: Take's refusals; Give. -/
import Derived.Test.YtjnkmmfppkpgbaaDoorU6
namespace Go.Proofs.YtjnkmmfppkpgbaaDoor
open Go.RowKit

set_option maxHeartbeats 4000000 in
set_option maxRecDepth 1000000 in
theorem take_no_walk (p o : Nat) (w : World) (h1 : o ≤ 9)
    (cF : Calls Tryd.prog 64 #[.pointer (some ⟨p, 0, none⟩), .int .i64 (o : Int)] w fun e w' => e = .returned (.int .i64 10) ∧ w' = w) :
    Calls Tryd.prog 52 #[.pointer (some ⟨p, 0, none⟩), .int .i64 (o : Int)] w fun e w' => e = .returned (.tuple #[.int .i64 0, .int .i64 10]) ∧ w' = w := by
  have c1 := fun w => isOrder_any (o : Int) w
  rw [decide_eq_true (by omega), decide_eq_true (by omega), Bool.true_and] at c1
  have c2 : ∀ w, Calls Tryd.prog 63 #[.int .i64 10] w fun e w' => e = .returned (.bool false) ∧ w' = w := fun w => isOrder_any 10 w
  go_enter Tryd.func52, Tryd.ntmps52
  go_wp2_with fail
  refine scope_again 0 (fun _ _ => False) (fun _ _ => 0) rfl (fun pass => ?_) (fun _ _ h => h.elim)
  clear pass
  go_wp2_with (first | (go_at_call 63; go_must (with_reducible first | refine (c1 _).mono ?_ | refine (c2 _).mono ?_); rintro e w' ⟨rfl, rfl⟩) | (go_at_call 64; go_must (with_reducible refine cF.mono ?_); rintro e w' ⟨rfl, rfl⟩))
  simp only [Exit.jump]
  go_ret2
  exact ⟨rfl, rfl⟩
set_option maxHeartbeats 4000000 in
set_option maxRecDepth 1000000 in
theorem take_arg (p : Nat) (o : Int) (w : World) (h : ¬ (0 ≤ o ∧ o ≤ 9)) :
    Calls Tryd.prog 52 #[.pointer (some ⟨p, 0, none⟩), .int .i64 o] w fun e w' => e = .returned (.tuple #[.int .i64 0, .int .i64 1]) ∧ w' = w := by
  have c1 := fun w => isOrder_any o w
  rw [show (decide (0 ≤ o) && decide (o ≤ 9)) = false by
    by_cases c : 0 ≤ o
    · rw [decide_eq_false (by omega : ¬ o ≤ 9), Bool.and_false]
    · rw [decide_eq_false c]; rfl] at c1
  clear h
  go_enter Tryd.func52, Tryd.ntmps52
  go_wp2_with fail
  refine scope_again 0 (fun _ _ => False) (fun _ _ => 0) rfl (fun pass => ?_) (fun _ _ h => h.elim)
  clear pass
  go_wp2_with (first | (go_at_call 63; go_must (with_reducible refine (c1 _).mono ?_); rintro e w' ⟨rfl, rfl⟩))
  simp only [Exit.jump]
  go_ret2
  exact ⟨rfl, rfl⟩

theorem xor_i64 (a b : Nat) (ha : a < 4611686018427387904) (hb : b < 4611686018427387904) : bits .xor .i64 (a : Int) (b : Int) = ((a ^^^ b : Nat) : Int) := by
  have h : a ^^^ b < 2 ^ 62 := Nat.xor_lt_two_pow (n := 62) ha hb
  have key : (BitVec.ofInt 64 (a : Int) ^^^ BitVec.ofInt 64 (b : Int)).toNat = a ^^^ b := by
    rw [BitVec.toNat_xor, BitVec.toNat_ofInt, BitVec.toNat_ofInt]
    congr 1 <;> omega
  show IntKind.i64.wrap ((BitVec.ofInt 64 (a : Int) ^^^ BitVec.ofInt 64 (b : Int)).toNat : Nat) = _
  rw [key, IntKind.wrap_i64]
  omega
def giveInv (p : Nat) (Inv : Nat → Nat → World → Prop) : Act → World → Prop := fun a' w' => ∃ (f o : Nat) (u3 u4 u5 u6 u7 u8 u9 u10 u11 u12 u13 u14 u15 u16 u17 u18 u19 u20 u21 u22 u23 u24 u25 u26 u27 u28 u29 u30 u31 u32 u33 u34 u35 u36 u37 u38 u39 u40 u41 u42 u43 u44 u45 u46 : Value), a' = { tmps := #[.pointer (some ⟨p, 0, none⟩), .int .i64 (f : Int), .int .i64 (o : Int), u3, u4, u5, u6, u7, u8, u9, u10, u11, u12, u13, u14, u15, u16, u17, u18, u19, u20, u21, u22, u23, u24, u25, u26, u27, u28, u29, u30, u31, u32, u33, u34, u35, u36, u37, u38, u39, u40, u41, u42, u43, u44, u45, u46], defers := [] } ∧ f ≤ 2097152 ∧ o ≤ 9 ∧ Inv f o w'
set_option maxHeartbeats 4000000 in
set_option maxRecDepth 1000000 in
theorem give_walk (p f0 o0 : Nat) (w : World) (Inv : Nat → Nat → World → Prop) (B : Nat → Nat → Bool) (Q : World → Prop) (hf0 : f0 ≤ 2097152) (ho0 : o0 ≤ 9)
    (cO : Calls Tryd.prog 68 #[.pointer (some ⟨p, 0, none⟩), .int .i64 (f0 : Int), .int .i64 (o0 : Int)] w fun e w' => e = .returned (.bool true) ∧ w' = w)
    (cN : Calls Tryd.prog 69 #[.pointer (some ⟨p, 0, none⟩), .int .i64 (f0 : Int), .int .i64 (o0 : Int)] w fun e w' => e = .returned (.bool false) ∧ Inv f0 o0 w')
    (hD : ∀ f o w' n, Inv f o w' → Inv f o (w'.drewN n))
    (cH : ∀ f o w', f ≤ 2097152 → o < 9 → Inv f o w' → Calls Tryd.prog 70 #[.pointer (some ⟨p, 3 + o * 3, none⟩), .int .i64 (((f ^^^ 2 ^ o) / 2 ^ o : Nat) : Int)] w' fun e w'' => e = .returned (.bool (B f o)) ∧ w'' = w')
    (cR : ∀ f o w', o < 9 → B f o = true → Inv f o w' → Calls Tryd.prog 66 #[.pointer (some ⟨p, 0, none⟩), .int .i64 ((f ^^^ 2 ^ o : Nat) : Int), .int .i64 (o : Int)] w' fun e w'' => e = .returned (.tuple #[]) ∧ Inv (min f (f ^^^ 2 ^ o)) (o + 1) w'')
    (cA : ∀ f o w', o = 9 ∨ B f o = false → o ≤ 9 → Inv f o w' → Calls Tryd.prog 51 #[.pointer (some ⟨p, 0, none⟩), .int .i64 (f : Int), .int .i64 (o : Int)] w' fun e w'' => e = .returned (.tuple #[]) ∧ Q w'') :
    Calls Tryd.prog 55 #[.pointer (some ⟨p, 0, none⟩), .int .i64 (f0 : Int), .int .i64 (o0 : Int)] w fun e w' => e = .returned (.int .i64 0) ∧ Q w' := by
  have HD : Aside (∀ f o w' n, Inv f o w' → Inv f o (w'.drewN n)) := hD
  have CH : Aside (∀ f o w', f ≤ 2097152 → o < 9 → Inv f o w' → Calls Tryd.prog 70 #[.pointer (some ⟨p, 3 + o * 3, none⟩), .int .i64 (((f ^^^ 2 ^ o) / 2 ^ o : Nat) : Int)] w' fun e w'' => e = .returned (.bool (B f o)) ∧ w'' = w') := cH
  have CR : Aside (∀ f o w', o < 9 → B f o = true → Inv f o w' → Calls Tryd.prog 66 #[.pointer (some ⟨p, 0, none⟩), .int .i64 ((f ^^^ 2 ^ o : Nat) : Int), .int .i64 (o : Int)] w' fun e w'' => e = .returned (.tuple #[]) ∧ Inv (min f (f ^^^ 2 ^ o)) (o + 1) w'') := cR
  have CA : Aside (∀ f o w', o = 9 ∨ B f o = false → o ≤ 9 → Inv f o w' → Calls Tryd.prog 51 #[.pointer (some ⟨p, 0, none⟩), .int .i64 (f : Int), .int .i64 (o : Int)] w' fun e w'' => e = .returned (.tuple #[]) ∧ Q w'') := cA
  clear hD cH cR cA
  go_enter Tryd.func55, Tryd.ntmps55
  go_wp2_with fail
  refine scope_again 0 (giveInv p Inv) (fun a' _ => 10 - (intOf (a'.tmps.getD 2 undef)).toNat) rfl (fun pass => ?_) ?_
  · have PASS : Aside (∀ a w, giveInv p Inv a w → _) := pass
    clear pass
    go_wp2_with (first | (go_at_call 68; go_must (with_reducible refine cO.mono ?_); rintro e w' ⟨rfl, rfl⟩) | (go_at_call 69; go_must (with_reducible refine cN.mono ?_); rintro e w1 ⟨rfl, H1⟩))
    go_step3
    rename_i hK
    exact hK _ _ (PASS.out _ _ ⟨f0, o0, _, _, _, _, _, _, _, _, _, _, _, _, _, _, _, _, _, _, _, _, _, _, _, _, _, _, _, _, _, _, _, _, _, _, _, _, _, _, _, _, _, _, _, _, rfl, hf0, ho0, H1⟩)
  · clear cO cN
    rintro a' w' ⟨f, o, u3, u4, u5, u6, u7, u8, u9, u10, u11, u12, u13, u14, u15, u16, u17, u18, u19, u20, u21, u22, u23, u24, u25, u26, u27, u28, u29, u30, u31, u32, u33, u34, u35, u36, u37, u38, u39, u40, u41, u42, u43, u44, u45, u46, rfl, hf, ho, HI⟩
    obtain ⟨e1, e2⟩ := pow_wrap (show o < 10 by omega)
    have hx := xor_i64 f (2 ^ o) (by omega) (by omega)
    have hxl : f ^^^ 2 ^ o < 2 ^ 22 := Nat.xor_lt_two_pow (n := 22) (by omega) (by omega)
    have hsh := shr_nat (f ^^^ 2 ^ o) o
    have y1 : (o : Int) < 10 := by omega
    have y3 : (f : Int) ≤ 2097152 := by omega
    by_cases e9 : o = 9
    · subst e9
      have c3 : ∀ n, Calls Tryd.prog 51 #[.pointer (some ⟨p, 0, none⟩), .int .i64 (f : Int), .int .i64 9] (w'.drewN n) fun e w'' => e = .returned (.tuple #[]) ∧ Q w'' := fun n => CA.out f 9 (w'.drewN n) (.inl rfl) (by omega) (HD.out _ _ _ n HI)
      rw [show ((2 ^ 9 : Nat) : Int) = 512 from rfl] at hx e1
      have hx2 : bits .xor .i64 (f : Int) 512 = ((f ^^^ 512 : Nat) : Int) := hx
      generalize f ^^^ 512 = g at *
      clear hx hsh e1 e2 hxl
      go_wp2_with fail
      go_quiet (fail)
      go_wp2_with (first | (go_at_call 51; go_must (with_reducible refine (c3 _).mono ?_); rintro e w2 ⟨rfl, H2⟩))
      simp only [Exit.jump]
      go_ret
      exact ⟨rfl, H2⟩
    · have y2 : (o : Int) < 9 := by omega
      have c1 := fun n => CH.out f o (w'.drewN n) hf (by omega) (HD.out _ _ _ n HI)
      cases hB : B f o
      · rw [hB] at c1
        have c3 := fun n => CA.out f o (w'.drewN n) (.inr hB) (by omega) (HD.out _ _ _ n HI)
        clear hB
        generalize (f ^^^ 2 ^ o) / 2 ^ o = j at *
        generalize f ^^^ 2 ^ o = g at *
        generalize 2 ^ o = s at *
        go_wp2_with fail
        have yb : decide ((o : Int) < 9) = true := decide_eq_true (by omega)
        have yc : decide (o < 9) = true := decide_eq_true (by omega)
        go_quiet (first | (go_at_call 70; go_must (exact (c1 _).mono fun e w' h => ⟨h.1, _, h.2⟩)))
        go_wp2_with (first | (go_at_call 51; go_must (with_reducible refine (c3 _).mono ?_); rintro e w2 ⟨rfl, H2⟩))
        simp only [Exit.jump]
        go_ret
        exact ⟨rfl, H2⟩
      · rw [hB] at c1
        have c3 := fun n => CR.out f o (w'.drewN n) (by omega) hB (HD.out _ _ _ n HI)
        clear hB
        have hml : min f (f ^^^ 2 ^ o) ≤ 2097152 := by omega
        obtain ⟨m, hm⟩ : ∃ m, m = min f (f ^^^ 2 ^ o) := ⟨_, rfl⟩
        rw [← hm] at hml
        simp only [← hm] at c3
        have HM : Hid (m = min f (f ^^^ 2 ^ o)) := hm
        clear hm
        generalize (f ^^^ 2 ^ o) / 2 ^ o = j at *
        generalize f ^^^ 2 ^ o = g at *
        generalize 2 ^ o = s at *
        go_wp2_with fail
        have yb : decide ((o : Int) < 9) = true := decide_eq_true (by omega)
        have yc : decide (o < 9) = true := decide_eq_true (by omega)
        go_quiet (first | (go_at_call 70; go_must (exact (c1 _).mono fun e w' h => ⟨h.1, _, h.2⟩)))
        go_wp2_with (first | (go_at_call 66; go_must (with_reducible refine (c3 _).mono ?_); rintro e w2 ⟨rfl, H2⟩))
        · have em : m = g := by have := HM.out; omega
          subst em
          go_step3
          refine ⟨rfl, ⟨m, o + 1, _, _, _, _, _, _, _, _, _, _, _, _, _, _, _, _, _, _, _, _, _, _, _, _, _, _, _, _, _, _, _, _, _, _, _, _, _, _, _, _, _, _, _, _, rfl, hml, by omega, H2⟩, ?_⟩
          simp [intOf]
          omega
        · have em : m = f := by have := HM.out; omega
          subst em
          go_step3
          refine ⟨rfl, ⟨m, o + 1, _, _, _, _, _, _, _, _, _, _, _, _, _, _, _, _, _, _, _, _, _, _, _, _, _, _, _, _, _, _, _, _, _, _, _, _, _, _, _, _, _, _, _, _, rfl, hml, by omega, H2⟩, ?_⟩
          simp [intOf]
          omega
end Go.Proofs.YtjnkmmfppkpgbaaDoor
