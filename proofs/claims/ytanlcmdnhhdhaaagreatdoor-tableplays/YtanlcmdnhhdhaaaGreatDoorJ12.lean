/- Joined: U6, U7, U8. -/
import Derived.Test.YtanlcmdnhhdhaaaGreatDoorJ11
import Derived.Test.YtanlcmdnhhdhaaaGreatDoorJ03
/- buddy.Buddy: Take. -/
namespace Go.Proofs.YtanlcmdnhhdhaaaGreatDoor
open Go.RowKit

def takeInv (p o a0 f : Nat) (Inv : Nat → World → Prop) : Act → World → Prop := fun a' w' => ∃ (a : Nat) (u2 u3 u4 u5 u8 u9 u10 u11 u12 u13 u14 u15 u16 u17 u18 u19 u20 u21 u22 u23 u24 u25 u26 u27 u28 u29 u30 u31 u32 u33 u34 u35 u36 u37 u38 u39 u40 u41 : Value), a' = { tmps := #[.pointer (some ⟨p, 0, none⟩), .int .i64 (o : Int), u2, u3, u4, u5, .int .i64 (a : Int), .int .i64 (f : Int), u8, u9, u10, u11, u12, u13, u14, u15, u16, u17, u18, u19, u20, u21, u22, u23, u24, u25, u26, u27, u28, u29, u30, u31, u32, u33, u34, u35, u36, u37, u38, u39, u40, u41], defers := [] } ∧ o ≤ a ∧ a ≤ a0 ∧ Inv a w'
set_option maxHeartbeats 4000000 in
set_option maxRecDepth 1000000 in
theorem take_walk (p o a0 f i : Nat) (w : World) (P1 : World → Prop) (Inv : Nat → World → Prop) (h1 : o ≤ a0) (h2 : a0 ≤ 9) (hf : (f : Int) ≤ 1048576) (hi : wrap64 ((i : Int) * 2 ^ a0) = (f : Int))
    (cF : Calls Tryz.prog 125 #[.pointer (some ⟨p, 0, none⟩), .int .i64 (o : Int)] w fun e w' => e = .returned (.int .i64 (a0 : Int)) ∧ w' = w)
    (cL : Calls Tryz.prog 126 #[.pointer (some ⟨p, 3 + a0 * 3, none⟩)] w fun e w' => e = .returned (.int .i64 (i : Int)) ∧ P1 w')
    (cR : ∀ w', P1 w' → Calls Tryz.prog 127 #[.pointer (some ⟨p, 0, none⟩), .int .i64 (f : Int), .int .i64 (a0 : Int)] w' fun e w'' => e = .returned (.tuple #[]) ∧ Inv a0 w'')
    (cA : ∀ (a s : Nat) w', o ≤ a → a < a0 → s = 2 ^ a → Inv (a + 1) w' → Calls Tryz.prog 103 #[.pointer (some ⟨p, 0, none⟩), .int .i64 ((f : Int) + s), .int .i64 (a : Int)] w' fun e w'' => e = .returned (.tuple #[]) ∧ Inv a w'') :
    Calls Tryz.prog 104 #[.pointer (some ⟨p, 0, none⟩), .int .i64 (o : Int)] w fun e w' => e = .returned (.tuple #[.int .i64 (f : Int), .int .i64 0]) ∧ Inv o w' := by
  have c1 := fun w => isOrder_any (o : Int) w
  rw [decide_eq_true (by omega), decide_eq_true (by omega), Bool.true_and] at c1
  have c2 := fun w => isOrder_any (a0 : Int) w
  rw [decide_eq_true (by omega), decide_eq_true (by omega), Bool.true_and] at c2
  have CR : Aside (∀ w', P1 w' → Calls Tryz.prog 127 #[.pointer (some ⟨p, 0, none⟩), .int .i64 (f : Int), .int .i64 (a0 : Int)] w' fun e w'' => e = .returned (.tuple #[]) ∧ Inv a0 w'') := cR
  have CA : Aside (∀ (a s : Nat) w', o ≤ a → a < a0 → s = 2 ^ a → Inv (a + 1) w' → Calls Tryz.prog 103 #[.pointer (some ⟨p, 0, none⟩), .int .i64 ((f : Int) + s), .int .i64 (a : Int)] w' fun e w'' => e = .returned (.tuple #[]) ∧ Inv a w'') := cA
  clear cR cA
  have y1 : (a0 : Int) < 10 := by omega
  go_enter Tryz.func104, Tryz.ntmps104
  go_wp2_with fail
  refine scope_again 0 (takeInv p o a0 f Inv) (fun a' _ => (intOf (a'.tmps.getD 6 undef)).toNat) rfl (fun pass => ?_) ?_
  · have PASS : Aside (∀ a w, takeInv p o a0 f Inv a w → _) := pass
    clear pass
    go_wp2_with (first | (go_at_call 124; go_must (with_reducible first | refine (c1 _).mono ?_ | refine (c2 _).mono ?_); rintro e w' ⟨rfl, rfl⟩) | (go_at_call 125; go_must (with_reducible refine cF.mono ?_); rintro e w' ⟨rfl, rfl⟩) | (go_at_call 126; go_must (with_reducible refine cL.mono ?_); rintro e w1 ⟨rfl, H1⟩; have cR := CR.out w1 H1; clear H1) | (go_at_call 127; go_must (with_reducible refine cR.mono ?_); rintro e w2 ⟨rfl, H2⟩))
    go_step3
    rename_i hK
    exact hK _ _ (PASS.out _ _ ⟨a0, _, _, _, _, _, _, _, _, _, _, _, _, _, _, _, _, _, _, _, _, _, _, _, _, _, _, _, _, _, _, _, _, _, _, _, _, _, _, rfl, h1, Nat.le_refl _, H2⟩)
  · rintro a' w' ⟨a, u2, u3, u4, u5, u8, u9, u10, u11, u12, u13, u14, u15, u16, u17, u18, u19, u20, u21, u22, u23, u24, u25, u26, u27, u28, u29, u30, u31, u32, u33, u34, u35, u36, u37, u38, u39, u40, u41, rfl, ha1, ha2, HI⟩
    by_cases e : a = o
    · subst e
      go_wp2_with fail
      simp only [Exit.jump]
      go_ret2
      exact ⟨rfl, HI⟩
    · obtain ⟨b, rfl⟩ : ∃ b, a = b + 1 := ⟨a - 1, by omega⟩
      have y2 : (o : Int) < (b : Int) + 1 := by omega
      have y3 : (b : Int) < 9 := by omega
      obtain ⟨e1, e2⟩ := pow_wrap (show b < 10 by omega)
      have c3 := CA.out b (2 ^ b) w' (by omega) (by omega) rfl HI
      rw [show ((b + 1 : Nat) : Int) = (b : Int) + 1 by omega]
      generalize 2 ^ b = s at *
      go_wp2_with (first | (go_at_call 103; go_must (with_reducible refine c3.mono ?_); rintro e w2 ⟨rfl, H2⟩))
      go_step3
      refine ⟨rfl, ⟨b, _, _, _, _, _, _, _, _, _, _, _, _, _, _, _, _, _, _, _, _, _, _, _, _, _, _, _, _, _, _, _, _, _, _, _, _, _, _, rfl, by omega, by omega, H2⟩, ?_⟩
      simp [intOf]
end Go.Proofs.YtanlcmdnhhdhaaaGreatDoor

/- buddy.Buddy: Take's refusals; Give. -/
namespace Go.Proofs.YtanlcmdnhhdhaaaGreatDoor
open Go.RowKit

set_option maxHeartbeats 4000000 in
set_option maxRecDepth 1000000 in
theorem take_no_walk (p o : Nat) (w : World) (h1 : o ≤ 9)
    (cF : Calls Tryz.prog 125 #[.pointer (some ⟨p, 0, none⟩), .int .i64 (o : Int)] w fun e w' => e = .returned (.int .i64 10) ∧ w' = w) :
    Calls Tryz.prog 104 #[.pointer (some ⟨p, 0, none⟩), .int .i64 (o : Int)] w fun e w' => e = .returned (.tuple #[.int .i64 0, .int .i64 10]) ∧ w' = w := by
  have c1 := fun w => isOrder_any (o : Int) w
  rw [decide_eq_true (by omega), decide_eq_true (by omega), Bool.true_and] at c1
  have c2 : ∀ w, Calls Tryz.prog 124 #[.int .i64 10] w fun e w' => e = .returned (.bool false) ∧ w' = w := fun w => isOrder_any 10 w
  go_enter Tryz.func104, Tryz.ntmps104
  go_wp2_with fail
  refine scope_again 0 (fun _ _ => False) (fun _ _ => 0) rfl (fun pass => ?_) (fun _ _ h => h.elim)
  clear pass
  go_wp2_with (first | (go_at_call 124; go_must (with_reducible first | refine (c1 _).mono ?_ | refine (c2 _).mono ?_); rintro e w' ⟨rfl, rfl⟩) | (go_at_call 125; go_must (with_reducible refine cF.mono ?_); rintro e w' ⟨rfl, rfl⟩))
  simp only [Exit.jump]
  go_ret2
  exact ⟨rfl, rfl⟩
set_option maxHeartbeats 4000000 in
set_option maxRecDepth 1000000 in
theorem take_arg (p : Nat) (o : Int) (w : World) (h : ¬ (0 ≤ o ∧ o ≤ 9)) :
    Calls Tryz.prog 104 #[.pointer (some ⟨p, 0, none⟩), .int .i64 o] w fun e w' => e = .returned (.tuple #[.int .i64 0, .int .i64 1]) ∧ w' = w := by
  have c1 := fun w => isOrder_any o w
  rw [show (decide (0 ≤ o) && decide (o ≤ 9)) = false by
    by_cases c : 0 ≤ o
    · rw [decide_eq_false (by omega : ¬ o ≤ 9), Bool.and_false]
    · rw [decide_eq_false c]; rfl] at c1
  clear h
  go_enter Tryz.func104, Tryz.ntmps104
  go_wp2_with fail
  refine scope_again 0 (fun _ _ => False) (fun _ _ => 0) rfl (fun pass => ?_) (fun _ _ h => h.elim)
  clear pass
  go_wp2_with (first | (go_at_call 124; go_must (with_reducible refine (c1 _).mono ?_); rintro e w' ⟨rfl, rfl⟩))
  simp only [Exit.jump]
  go_ret2
  exact ⟨rfl, rfl⟩

theorem xor_i64 (a b : Nat) (ha : a < 4611686018427387904) (hb : b < 4611686018427387904) : bits .xor .i64 (a : Int) (b : Int) = ((a ^^^ b : Nat) : Int) := by
  have h : a ^^^ b < 2 ^ 62 := Nat.xor_lt_two_pow (n := 62) ha hb
  have key : (BitVec.ofInt 64 (a : Int) ^^^ BitVec.ofInt 64 (b : Int)).toNat = a ^^^ b := by
    rw [BitVec.toNat_xor, BitVec.toNat_ofInt, BitVec.toNat_ofInt]
    congr 1 <;> omega
  show IntKind.i64.wrap ((BitVec.ofInt 64 (a : Int) ^^^ BitVec.ofInt 64 (b : Int)).toNat : Nat) = _
  rw [key, IntKind.wrap_i64]
  omega
def giveInv (p : Nat) (Inv : Nat → Nat → World → Prop) : Act → World → Prop := fun a' w' => ∃ (f o : Nat) (u3 u4 u5 u6 u7 u8 u9 u10 u11 u12 u13 u14 u15 u16 u17 u18 u19 u20 u21 u22 u23 u24 u25 u26 u27 u28 u29 u30 u31 u32 u33 u34 u35 u36 u37 u38 u39 u40 u41 u42 u43 u44 u45 u46 : Value), a' = { tmps := #[.pointer (some ⟨p, 0, none⟩), .int .i64 (f : Int), .int .i64 (o : Int), u3, u4, u5, u6, u7, u8, u9, u10, u11, u12, u13, u14, u15, u16, u17, u18, u19, u20, u21, u22, u23, u24, u25, u26, u27, u28, u29, u30, u31, u32, u33, u34, u35, u36, u37, u38, u39, u40, u41, u42, u43, u44, u45, u46], defers := [] } ∧ f ≤ 2097152 ∧ o ≤ 9 ∧ Inv f o w'
set_option maxHeartbeats 4000000 in
set_option maxRecDepth 1000000 in
theorem give_walk (p f0 o0 : Nat) (w : World) (Inv : Nat → Nat → World → Prop) (B : Nat → Nat → Bool) (Q : World → Prop) (hf0 : f0 ≤ 2097152) (ho0 : o0 ≤ 9)
    (cO : Calls Tryz.prog 137 #[.pointer (some ⟨p, 0, none⟩), .int .i64 (f0 : Int), .int .i64 (o0 : Int)] w fun e w' => e = .returned (.bool true) ∧ w' = w)
    (cN : Calls Tryz.prog 138 #[.pointer (some ⟨p, 0, none⟩), .int .i64 (f0 : Int), .int .i64 (o0 : Int)] w fun e w' => e = .returned (.bool false) ∧ Inv f0 o0 w')
    (hD : ∀ f o w' n, Inv f o w' → Inv f o (w'.drewN n))
    (cH : ∀ f o w', f ≤ 2097152 → o < 9 → Inv f o w' → Calls Tryz.prog 139 #[.pointer (some ⟨p, 3 + o * 3, none⟩), .int .i64 (((f ^^^ 2 ^ o) / 2 ^ o : Nat) : Int)] w' fun e w'' => e = .returned (.bool (B f o)) ∧ w'' = w')
    (cR : ∀ f o w', o < 9 → B f o = true → Inv f o w' → Calls Tryz.prog 127 #[.pointer (some ⟨p, 0, none⟩), .int .i64 ((f ^^^ 2 ^ o : Nat) : Int), .int .i64 (o : Int)] w' fun e w'' => e = .returned (.tuple #[]) ∧ Inv (min f (f ^^^ 2 ^ o)) (o + 1) w'')
    (cA : ∀ f o w', o = 9 ∨ B f o = false → o ≤ 9 → Inv f o w' → Calls Tryz.prog 103 #[.pointer (some ⟨p, 0, none⟩), .int .i64 (f : Int), .int .i64 (o : Int)] w' fun e w'' => e = .returned (.tuple #[]) ∧ Q w'') :
    Calls Tryz.prog 120 #[.pointer (some ⟨p, 0, none⟩), .int .i64 (f0 : Int), .int .i64 (o0 : Int)] w fun e w' => e = .returned (.int .i64 0) ∧ Q w' := by
  have HD : Aside (∀ f o w' n, Inv f o w' → Inv f o (w'.drewN n)) := hD
  have CH : Aside (∀ f o w', f ≤ 2097152 → o < 9 → Inv f o w' → Calls Tryz.prog 139 #[.pointer (some ⟨p, 3 + o * 3, none⟩), .int .i64 (((f ^^^ 2 ^ o) / 2 ^ o : Nat) : Int)] w' fun e w'' => e = .returned (.bool (B f o)) ∧ w'' = w') := cH
  have CR : Aside (∀ f o w', o < 9 → B f o = true → Inv f o w' → Calls Tryz.prog 127 #[.pointer (some ⟨p, 0, none⟩), .int .i64 ((f ^^^ 2 ^ o : Nat) : Int), .int .i64 (o : Int)] w' fun e w'' => e = .returned (.tuple #[]) ∧ Inv (min f (f ^^^ 2 ^ o)) (o + 1) w'') := cR
  have CA : Aside (∀ f o w', o = 9 ∨ B f o = false → o ≤ 9 → Inv f o w' → Calls Tryz.prog 103 #[.pointer (some ⟨p, 0, none⟩), .int .i64 (f : Int), .int .i64 (o : Int)] w' fun e w'' => e = .returned (.tuple #[]) ∧ Q w'') := cA
  clear hD cH cR cA
  go_enter Tryz.func120, Tryz.ntmps120
  go_wp2_with fail
  refine scope_again 0 (giveInv p Inv) (fun a' _ => 10 - (intOf (a'.tmps.getD 2 undef)).toNat) rfl (fun pass => ?_) ?_
  · have PASS : Aside (∀ a w, giveInv p Inv a w → _) := pass
    clear pass
    go_wp2_with (first | (go_at_call 137; go_must (with_reducible refine cO.mono ?_); rintro e w' ⟨rfl, rfl⟩) | (go_at_call 138; go_must (with_reducible refine cN.mono ?_); rintro e w1 ⟨rfl, H1⟩))
    go_step3
    rename_i hK
    exact hK _ _ (PASS.out _ _ ⟨f0, o0, _, _, _, _, _, _, _, _, _, _, _, _, _, _, _, _, _, _, _, _, _, _, _, _, _, _, _, _, _, _, _, _, _, _, _, _, _, _, _, _, _, _, _, _, rfl, hf0, ho0, H1⟩)
  · clear cO cN
    rintro a' w' ⟨f, o, u3, u4, u5, u6, u7, u8, u9, u10, u11, u12, u13, u14, u15, u16, u17, u18, u19, u20, u21, u22, u23, u24, u25, u26, u27, u28, u29, u30, u31, u32, u33, u34, u35, u36, u37, u38, u39, u40, u41, u42, u43, u44, u45, u46, rfl, hf, ho, HI⟩
    obtain ⟨e1, e2⟩ := pow_wrap (show o < 10 by omega)
    have hx := xor_i64 f (2 ^ o) (by omega) (by omega)
    have hxl : f ^^^ 2 ^ o < 2 ^ 22 := Nat.xor_lt_two_pow (n := 22) (by omega) (by omega)
    have hsh := shr_nat (f ^^^ 2 ^ o) o
    have y1 : (o : Int) < 10 := by omega
    have y3 : (f : Int) ≤ 2097152 := by omega
    by_cases e9 : o = 9
    · subst e9
      have c3 : ∀ n, Calls Tryz.prog 103 #[.pointer (some ⟨p, 0, none⟩), .int .i64 (f : Int), .int .i64 9] (w'.drewN n) fun e w'' => e = .returned (.tuple #[]) ∧ Q w'' := fun n => CA.out f 9 (w'.drewN n) (.inl rfl) (by omega) (HD.out _ _ _ n HI)
      rw [show ((2 ^ 9 : Nat) : Int) = 512 from rfl] at hx e1
      have hx2 : bits .xor .i64 (f : Int) 512 = ((f ^^^ 512 : Nat) : Int) := hx
      generalize f ^^^ 512 = g at *
      clear hx hsh e1 e2 hxl
      go_wp2_with fail
      go_quiet (fail)
      go_wp2_with (first | (go_at_call 103; go_must (with_reducible refine (c3 _).mono ?_); rintro e w2 ⟨rfl, H2⟩))
      simp only [Exit.jump]
      go_ret
      exact ⟨rfl, H2⟩
    · have y2 : (o : Int) < 9 := by omega
      have c1 := fun n => CH.out f o (w'.drewN n) hf (by omega) (HD.out _ _ _ n HI)
      cases hB : B f o
      · rw [hB] at c1
        have c3 := fun n => CA.out f o (w'.drewN n) (.inr hB) (by omega) (HD.out _ _ _ n HI)
        clear hB
        generalize (f ^^^ 2 ^ o) / 2 ^ o = j at *
        generalize f ^^^ 2 ^ o = g at *
        generalize 2 ^ o = s at *
        go_wp2_with fail
        have yb : decide ((o : Int) < 9) = true := decide_eq_true (by omega)
        have yc : decide (o < 9) = true := decide_eq_true (by omega)
        go_quiet (first | (go_at_call 139; go_must (exact (c1 _).mono fun e w' h => ⟨h.1, _, h.2⟩)))
        go_wp2_with (first | (go_at_call 103; go_must (with_reducible refine (c3 _).mono ?_); rintro e w2 ⟨rfl, H2⟩))
        simp only [Exit.jump]
        go_ret
        exact ⟨rfl, H2⟩
      · rw [hB] at c1
        have c3 := fun n => CR.out f o (w'.drewN n) (by omega) hB (HD.out _ _ _ n HI)
        clear hB
        have hml : min f (f ^^^ 2 ^ o) ≤ 2097152 := by omega
        obtain ⟨m, hm⟩ : ∃ m, m = min f (f ^^^ 2 ^ o) := ⟨_, rfl⟩
        rw [← hm] at hml
        simp only [← hm] at c3
        have HM : Hid (m = min f (f ^^^ 2 ^ o)) := hm
        clear hm
        generalize (f ^^^ 2 ^ o) / 2 ^ o = j at *
        generalize f ^^^ 2 ^ o = g at *
        generalize 2 ^ o = s at *
        go_wp2_with fail
        have yb : decide ((o : Int) < 9) = true := decide_eq_true (by omega)
        have yc : decide (o < 9) = true := decide_eq_true (by omega)
        go_quiet (first | (go_at_call 139; go_must (exact (c1 _).mono fun e w' h => ⟨h.1, _, h.2⟩)))
        go_wp2_with (first | (go_at_call 127; go_must (with_reducible refine (c3 _).mono ?_); rintro e w2 ⟨rfl, H2⟩))
        · have em : m = g := by have := HM.out; omega
          subst em
          go_step3
          refine ⟨rfl, ⟨m, o + 1, _, _, _, _, _, _, _, _, _, _, _, _, _, _, _, _, _, _, _, _, _, _, _, _, _, _, _, _, _, _, _, _, _, _, _, _, _, _, _, _, _, _, _, _, rfl, hml, by omega, H2⟩, ?_⟩
          simp [intOf]
          omega
        · have em : m = f := by have := HM.out; omega
          subst em
          go_step3
          refine ⟨rfl, ⟨m, o + 1, _, _, _, _, _, _, _, _, _, _, _, _, _, _, _, _, _, _, _, _, _, _, _, _, _, _, _, _, _, _, _, _, _, _, _, _, _, _, _, _, _, _, _, _, rfl, hml, by omega, H2⟩, ?_⟩
          simp [intOf]
          omega
end Go.Proofs.YtanlcmdnhhdhaaaGreatDoor

/- buddy.Buddy: what Take and Give do to the free frames. -/
namespace Go.Proofs.YtanlcmdnhhdhaaaGreatDoor
open Go.RowKit

theorem Al.range {F : Nat → Bool} {lo hi o i : Nat} (h : Al F o i) (dom : ∀ k, F k = true → lo ≤ k ∧ k < hi) : lo ≤ i * 2 ^ o ∧ i * 2 ^ o + 2 ^ o ≤ hi := by
  have hp := Nat.two_pow_pos o
  have h1 := dom _ (h (i * 2 ^ o) (rep i o))
  have h2 := dom _ (h (i * 2 ^ o + (2 ^ o - 1)) ((blk_iff ..).2 ⟨Nat.le_add_right _ _, by omega⟩))
  generalize i * 2 ^ o = q at *
  generalize 2 ^ o = r at *
  omega
theorem run_lt {hi o i : Nat} (h : i * 2 ^ o + 2 ^ o ≤ hi) : i < hi / 2 ^ o := by
  have := (Nat.le_div_iff_mul_le (Nat.two_pow_pos o) (x := i + 1) (y := hi)).2 (by rw [Nat.add_mul, Nat.one_mul]; exact h)
  omega
theorem rn_subB {F : Nat → Bool} {o j : Nat} (h : Rn F o j) (ho : o ≤ 9) (o' i : Nat) (ho' : o' < 10) : rn (subF F o j) o' i = delS (rn F) o j o' i := by
  apply Bool.eq_iff_iff.2
  rw [rn_iff, rn_subF h ho (by omega)]
  unfold delS
  by_cases c : o' = o ∧ i = j
  · rw [if_pos c]; simp [c]
  · rw [if_neg c, rn_iff]; simp [c]
theorem rn_addB {F : Nat → Bool} {o j : Nat} (h : ∀ k, k / 2 ^ o = j → F k = false) (hb : o = 9 ∨ ∃ k, k / 2 ^ (o + 1) = j / 2 ∧ k / 2 ^ o ≠ j ∧ F k = false) (ho : o ≤ 9) (o' i : Nat) (ho' : o' < 10) : rn (addF F o j) o' i = insS (rn F) o j o' i := by
  apply Bool.eq_iff_iff.2
  rw [rn_iff, rn_addF h hb ho (by omega)]
  unfold insS
  by_cases c : o' = o ∧ i = j
  · rw [if_pos c]; simp [c]
  · rw [if_neg c, rn_iff]; simp [c]
section
variable {w : World} {U : Nat → Prop} {p lo hi fr : Nat} {F : Nat → Bool}
theorem brem_bf (h : BF w U p lo hi F) (o j f : Nat) (ho : o ≤ 9) (hr : Rn F o j) (hf : f / 2 ^ o = j) :
    Calls Tryz.prog 127 #[.pointer (some ⟨p, 0, none⟩), .int .i64 (f : Int), .int .i64 (o : Int)] w fun e w' => e = .returned (.tuple #[]) ∧ BF w' U p lo hi (subF F o j) ∧ Fr U w w' := by
  have hc := cnt_subF hr.1 (hr.1.range h.dom).2
  refine (brem_ok h.bd o j f (by omega) ((rn_iff ..).2 hr) hf (Nat.le_trans (cnt_le _ _) h.hh) (by omega)).mono fun e w' ⟨e1, e2, e3⟩ => ⟨e1, ⟨e2.like (fun o' i ho' => rn_subB hr ho o' i ho') (by omega), fun k hk => h.dom k ((subF_iff ..).1 hk).1, h.le⟩, e3⟩
theorem badd_bf (h : BF w U p lo hi F) (o j f : Nat) (ho : o ≤ 9) (hn : ∀ k, k / 2 ^ o = j → F k = false) (hb : o = 9 ∨ ∃ k, k / 2 ^ (o + 1) = j / 2 ∧ k / 2 ^ o ≠ j ∧ F k = false) (hf : f / 2 ^ o = j) (h1 : lo ≤ j * 2 ^ o) (h2 : j * 2 ^ o + 2 ^ o ≤ hi) :
    Calls Tryz.prog 103 #[.pointer (some ⟨p, 0, none⟩), .int .i64 (f : Int), .int .i64 (o : Int)] w fun e w' => e = .returned (.tuple #[]) ∧ BF w' U p lo hi (addF F o j) ∧ Fr U w w' := by
  have hc := cnt_addF hn h2
  refine (badd_ok h.bd o j f (by omega) (run_lt h2) ((rn_false ..).2 (fun c => by have := c.1 _ (rep j o); rw [hn _ (rep j o)] at this; cases this)) hf (Nat.le_trans (cnt_le _ _) h.hh)).mono fun e w' ⟨e1, e2, e3⟩ => ⟨e1, ⟨e2.like (fun o' i ho' => rn_addB hn hb ho o' i ho') hc, fun k hk => ?_, h.le⟩, e3⟩
  rcases (addF_iff ..).1 hk with c | c
  · exact h.dom k c
  · have := (blk_iff ..).1 c
    generalize j * 2 ^ o = q at *
    generalize 2 ^ o = r at *
    omega

theorem odd_at {x t : Nat} (h1 : ∀ b, b < t → x.testBit b = false) (h2 : x.testBit t = true) : ∃ r, x = 2 ^ t * (2 * r + 1) := by
  have e0 : x % 2 ^ t = 0 := by
    apply Nat.eq_of_testBit_eq
    intro b
    rw [Nat.testBit_mod_two_pow, Nat.zero_testBit]
    by_cases c : b < t
    · rw [h1 b c, Bool.and_false]
    · rw [decide_eq_false c, Bool.false_and]
  rw [Nat.testBit_eq_decide_div_mod_eq] at h2
  have h3 := of_decide_eq_true h2
  refine ⟨x / 2 ^ t / 2, ?_⟩
  have := Nat.div_add_mod x (2 ^ t)
  rw [e0, Nat.add_zero] at this
  rw [show 2 * (x / 2 ^ t / 2) + 1 = x / 2 ^ t by omega]
  exact this.symm
theorem word_zero {x : Nat} (hx : x < 18446744073709551616) (h : ∀ b, b < 64 → x.testBit b = false) : x = 0 := by
  apply Nat.eq_of_testBit_eq
  intro b
  rw [Nat.zero_testBit]
  by_cases c : b < 64
  · exact h b c
  · exact Nat.testBit_lt_two_pow (Nat.lt_of_lt_of_le hx (Nat.pow_le_pow_right (n := 2) (by omega) (show 64 ≤ b by omega)))
theorem sleast_any {S : Nat → Nat → Bool} (h : BD w U p lo hi S fr) (o i : Nat) (ho : o < 10) (hS : S o i = true) (hl : ∀ j, j < i → S o j = false) :
    Calls Tryz.prog 126 #[.pointer (some ⟨p, 3 + o * 3, none⟩)] w fun e w' => e = .returned (.int .i64 (i : Int)) ∧ BD w' U p lo hi S fr ∧ Fr U w w' := by
  obtain ⟨wb, sz, lw, W, h, k⟩ := h
  have hi' := k.dom o i ho hS
  have hq := in_words hi'
  have hll := ln_le h.hh o
  have hw := h.hw o (i / 64)
  have bt : ∀ b, b < i % 64 → (W o (i / 64)).testBit b = false := fun b hb => by rw [k.bit o _ b ho (by omega)]; exact hl _ (by omega)
  have bs : (W o (i / 64)).testBit (i % 64) = true := by rw [k.bit o _ _ ho (by omega), show 64 * (i / 64) + i % 64 = i by omega]; exact hS
  obtain ⟨r, hr⟩ := odd_at bt bs
  have hne : W o (i / 64) ≠ 0 := fun e => by rw [e, Nat.zero_testBit] at bs; cases bs
  refine (sleast_walk p (3 + o * 3) (wb o) (ln hi o) (lw o) (i / 64) i (i % 64) (W o) w (· = p) rfl (h.cs o ho) (h.cl o ho) (h.fz _) (h.nb o ho) (h.cw o ho) (k.low o i ho hS) hq (fun q q1 q2 => word_zero (h.hw o q) (fun b hb => by rw [k.bit o q b ho hb]; exact hl _ (by omega))) (by simpa using hne) (by omega) (by omega) (fun w' hw' => tz_ok (h.tab.fr hw' (fun e => h.p0 e.symm)) _ (i % 64) r hw (by omega) hr) (by omega)).mono fun e w' ⟨e1, e2, e3⟩ => ⟨e1, ⟨wb, sz, _, W, h.chL o (i / 64) ho e2 e3, k.bit, k.dom, k.cnt, fun o' j ho' hj => ?_⟩, e2.fr.mono (fun x _ hx => by rw [hx]; exact h.up)⟩
  show (if o' = o then _ else _ : Nat) ≤ _
  by_cases c : o' = o
  · subst c
    rw [if_pos rfl]
    by_cases d : j < i
    · rw [hl j d] at hj; cases hj
    · omega
  · rw [if_neg c]; exact k.low o' j ho' hj

/-! ### Take -/
structure Tk (F : Nat → Bool) (o o' i : Nat) : Prop where
  le : o ≤ o'
  h9 : o' ≤ 9
  run : Rn F o' i
  no : ∀ a, o ≤ a → a < o' → ∀ j, ¬ Rn F a j
  least : ∀ j, j < i → ¬ Rn F o' j
theorem least_ex {P : Nat → Prop} (h : ∃ n, P n) : ∃ n, P n ∧ ∀ m, m < n → ¬ P m := by
  obtain ⟨n, hn⟩ := h
  induction n using Nat.strongRecOn with
  | ind n ih =>
    by_cases c : ∃ m, m < n ∧ P m
    · obtain ⟨m, h1, h2⟩ := c
      exact ih m h1 h2
    · exact ⟨n, hn, fun m hm hP => c ⟨m, hm, hP⟩⟩
theorem tk_or (F : Nat → Bool) (o : Nat) : (∃ o' i, Tk F o o' i) ∨ ∀ a, o ≤ a → a ≤ 9 → ∀ j, ¬ Rn F a j := by
  by_cases c : ∃ a, o ≤ a ∧ a ≤ 9 ∧ ∃ j, Rn F a j
  · obtain ⟨a, ⟨h1, h2, h3⟩, h4⟩ := least_ex c
    obtain ⟨i, h5, h6⟩ := least_ex h3
    exact .inl ⟨a, i, h1, h2, h5, fun b hb1 hb2 j hj => h4 b hb2 ⟨hb1, by omega, j, hj⟩, h6⟩
  · exact .inr fun a h1 h2 j h3 => c ⟨a, h1, h2, j, h3⟩
theorem fit_ok (h : BF w U p lo hi F) (o r : Nat) (h1 : o ≤ r) (h2 : r ≤ 10) (h3 : ∀ a, o ≤ a → a < r → ∀ j, ¬ Rn F a j) (h4 : r < 10 → ∃ j, Rn F r j) :
    Calls Tryz.prog 125 #[.pointer (some ⟨p, 0, none⟩), .int .i64 (o : Int)] w fun e w' => e = .returned (.int .i64 (r : Int)) ∧ w' = w := by
  obtain ⟨wb, sz, lw, W, h, k⟩ := h.bd
  refine fitting_walk p o r (fun a => decide (sz a = 0)) w (fun a ha => sempty_walk p (3 + a * 3) (sz a) w (h.cz a ha)) h1 h2 (fun a ha hr => decide_eq_true ?_) (fun hr => decide_eq_false ?_)
  · rw [k.cnt a (by omega), cnt_zero]
    intro j _
    exact (rn_false ..).2 (h3 a ha hr j)
  · rw [k.cnt r hr, cnt_zero]
    intro hz
    obtain ⟨j, hj⟩ := h4 hr
    have hj' := (rn_iff ..).2 hj
    rw [hz j (k.dom r j hr hj')] at hj'
    cases hj'
theorem half_eq {F : Nat → Bool} {a c : Nat} (h : Al F (a + 1) c) : addF (subF F (a + 1) c) a (2 * c + 1) = subF F a (2 * c) := by
  funext k
  apply Bool.eq_iff_iff.2
  rw [addF_iff, subF_iff, subF_iff]
  have e := div_par k a
  constructor
  · rintro (⟨h1, h2⟩ | h1)
    · exact ⟨h1, fun h3 => h2 (by omega)⟩
    · exact ⟨h k (by omega), by omega⟩
  · rintro ⟨h1, h2⟩
    by_cases c1 : k / 2 ^ a = 2 * c + 1
    · exact .inr c1
    · exact .inl ⟨h1, by omega⟩
theorem take_ok (h : BF w U p lo hi F) (o o' i : Nat) (t : Tk F o o' i) :
    Calls Tryz.prog 104 #[.pointer (some ⟨p, 0, none⟩), .int .i64 (o : Int)] w fun e w' => e = .returned (.tuple #[.int .i64 ((i * 2 ^ o' : Nat) : Int), .int .i64 0]) ∧ BF w' U p lo hi (subF F o (i * 2 ^ o' / 2 ^ o)) ∧ Fr U w w' := by
  have hr := t.run.1.range h.dom
  have hh := h.hh
  have hp := Nat.two_pow_pos o'
  have hfl : i * 2 ^ o' ≤ 1048576 := by
    generalize i * 2 ^ o' = q at *
    generalize 2 ^ o' = r at *
    omega
  have hpc : (i : Int) * 2 ^ o' = ((i * 2 ^ o' : Nat) : Int) := by push_cast; rfl
  refine take_walk p o o' (i * 2 ^ o') i w (fun w' => BF w' U p lo hi F ∧ Fr U w w') (fun a w' => BF w' U p lo hi (subF F a (i * 2 ^ o' / 2 ^ a)) ∧ Fr U w w') t.le t.h9 (by omega) (by rw [hpc]; unfold wrap64; omega)
    (fit_ok h o o' t.le (by have := t.h9; omega) t.no (fun _ => ⟨i, t.run⟩))
    ((sleast_any h.bd o' i (by have := t.h9; omega) ((rn_iff ..).2 t.run) (fun j hj => (rn_false ..).2 (t.least j hj))).mono fun e w' ⟨e1, e2, e3⟩ => ⟨e1, ⟨e2, h.dom, h.le⟩, e3⟩)
    (fun w' hw' => ?_) (fun a s w' h1 h2 hs hw' => ?_)
  · have := brem_bf hw'.1 o' i (i * 2 ^ o') t.h9 t.run (rep i o')
    refine this.mono fun e w'' ⟨e1, e2, e3⟩ => ⟨e1, ?_, hw'.2.trans e3⟩
    rw [rep]; exact e2
  · subst hs
    obtain ⟨c, hc⟩ : ∃ c, i * 2 ^ o' = c * 2 ^ (a + 1) := ⟨i * 2 ^ (o' - (a + 1)), by rw [Nat.mul_assoc, ← Nat.pow_add]; congr 2; omega⟩
    rw [hc] at hw' ⊢
    have hA : Al F (a + 1) c := by
      refine t.run.1.sub (k := c * 2 ^ (a + 1)) (by omega) (rep c (a + 1)) ?_
      rw [← hc, rep]
    have hrg := hA.range h.dom
    rw [rep] at hw'
    have e2c : c * 2 ^ (a + 1) = 2 * c * 2 ^ a := by rw [Nat.pow_succ, Nat.mul_comm (2 ^ a) 2, ← Nat.mul_assoc, Nat.mul_comm c 2]
    have hpa := Nat.two_pow_pos a
    have e3 : c * 2 ^ (a + 1) / 2 ^ a = 2 * c := by rw [e2c, rep]
    have := badd_bf hw'.1 a (2 * c + 1) (c * 2 ^ (a + 1) + 2 ^ a) (by have := t.h9; omega) (fun k hk => by
        cases hv : subF F (a + 1) c k
        · rfl
        · have := ((subF_iff ..).1 hv).2
          rw [div_par, hk] at this; omega) (.inr ⟨c * 2 ^ (a + 1), by rw [rep]; omega, by rw [e3]; omega, by
        cases hv : subF F (a + 1) c (c * 2 ^ (a + 1))
        · rfl
        · exact absurd (rep c (a + 1)) ((subF_iff ..).1 hv).2⟩) (by rw [Nat.add_div_right _ hpa, e3]) (by
        rw [Nat.add_mul, ← e2c]; have := hrg.1; generalize c * 2 ^ (a + 1) = q at *; generalize 2 ^ a = r at *; omega) (by
        rw [Nat.add_mul, ← e2c, Nat.one_mul]
        have := hrg.2
        rw [show 2 ^ (a + 1) = 2 ^ a + 2 ^ a by rw [Nat.pow_succ]; omega] at this ⊢
        generalize c * (2 ^ a + 2 ^ a) = q at *; generalize 2 ^ a = r at *; omega)
    rw [half_eq hA] at this
    rw [show ((c * 2 ^ (a + 1) : Nat) : Int) + ((2 ^ a : Nat) : Int) = ((c * 2 ^ (a + 1) + 2 ^ a : Nat) : Int) by generalize c * 2 ^ (a + 1) = q; generalize 2 ^ a = r; omega]
    refine this.mono fun e w'' ⟨e1, e4, e5⟩ => ⟨e1, ?_, hw'.2.trans e5⟩
    rw [e3]; exact e4
theorem take_no (h : BF w U p lo hi F) (o : Nat) (ho : o ≤ 9) (t : ∀ a, o ≤ a → a ≤ 9 → ∀ j, ¬ Rn F a j) :
    Calls Tryz.prog 104 #[.pointer (some ⟨p, 0, none⟩), .int .i64 (o : Int)] w fun e w' => e = .returned (.tuple #[.int .i64 0, .int .i64 10]) ∧ w' = w :=
  take_no_walk p o w ho (fit_ok h o 10 (by omega) (by omega) (fun a h1 h2 => t a h1 (by omega)) (fun h => by omega))
end
end Go.Proofs.YtanlcmdnhhdhaaaGreatDoor
