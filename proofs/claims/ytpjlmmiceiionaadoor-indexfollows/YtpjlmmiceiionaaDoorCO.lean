/- IndexFollows. -/
import Derived.Test.YtpjlmmiceiionaaDoorJ46
import Derived.Deep.DeepCutAuto
namespace Go.Proofs.YtpjlmmiceiionaaDoor
open Go.RowKit Go.Maps
set_option maxRecDepth 10000

set_option maxHeartbeats 32000000 in
theorem follows20_any (a0 a1 a2 : Int) (w : World) (_h0 : (Lit.int .i64 a0).wf = true) (h1 : (Lit.int .u64 a1).wf = true) (h2 : (Lit.int .u64 a2).wf = true) (T : TAB w) :
    Calls Tryd.prog 5 #[.int .i64 a0, .int .u64 a1, .int .u64 a2] w fun e w' => e = .returned (.bool true) ∧ Kp w w' := by
  obtain ⟨t, f, e1, e2, e3, e4, hf⟩ := place_of a0 12 (by decide)
  rw [show ((12 : Nat) : Int) = 12 from rfl] at e1 e2 e3 e4
  obtain ⟨u1, u2⟩ := wf_word h1
  obtain ⟨u3, u4⟩ := wf_word h2
  obtain ⟨a, rfl⟩ : ∃ a : Nat, a1 = (a : Int) := ⟨a1.toNat, by omega⟩
  obtain ⟨b, rfl⟩ : ∃ b : Nat, a2 = (b : Int) := ⟨a2.toNat, by omega⟩
  obtain ⟨A, hA⟩ : ∃ A, A = a ||| 1048576 := ⟨_, rfl⟩
  obtain ⟨B0, hB0⟩ : ∃ B, B = b ||| 2097152 := ⟨_, rfl⟩
  have lA : A < 18446744073709551616 := by rw [hA]; exact or_l64 (by omega) (by decide)
  have lB0 : B0 < 18446744073709551616 := by rw [hB0]; exact or_l64 (by omega) (by decide)
  have o1 : bits .or .u64 (a : Int) 1048576 = (A : Int) := by rw [hA]; exact u64_or_nat a 1048576 (by omega) (by decide)
  have o2 : bits .or .u64 (b : Int) 2097152 = (B0 : Int) := by rw [hB0]; exact u64_or_nat b 2097152 (by omega) (by decide)
  have o3 : bits .xor .u64 (B0 : Int) 1 = ((B0 ^^^ 1 : Nat) : Int) := u64_xor_nat B0 1 lB0 (by decide)
  obtain ⟨B, hB⟩ : ∃ B, B = if A = B0 then B0 ^^^ 1 else B0 := ⟨_, rfl⟩
  have lB : B < 18446744073709551616 := by rw [hB]; split; exact xor_l64 lB0 (by decide); exact lB0
  have nB : A ≠ B := by
    rw [hB]
    split
    · rename_i c; rw [c]; exact fun q => xor1_ne B0 q.symm
    · assumption
  have c1 := imade_any w T
  have HN : Hid (A < 18446744073709551616 ∧ B < 18446744073709551616 ∧ A ≠ B ∧ f < 12 ∧ (B = if A = B0 then B0 ^^^ 1 else B0)) := ⟨lA, lB, nB, hf, hB⟩
  obtain ⟨X, hX⟩ : ∃ X : Nat → Prop, X = fun k => k < w.heap.size := ⟨_, rfl⟩
  have HX : Hid (∀ k, k < w.heap.size → X k) := fun k hk => by rw [hX]; exact hk
  rw [← hX] at c1
  have y1 : (f : Int) < 12 := by omega
  have okf : Hid (okI (f : Int)) := WalkArith.wf_i64 (by omega)
  clear hX hA hB0 hB nB lA lB lB0 T h1 h2 u1 u2 u3 u4 hf
  go_enter Tryd.func5, Tryd.ntmps5
  go_wp2_with fail
  with_reducible refine c1.mono ?_
  rintro e w1 ⟨p, pm, rfl, t1, k1⟩
  have H1 : Hid (TIx w1 X p pm 0 (fun _ => z0) (fun _ => none) ∧ Kp w w1) := ⟨t1, k1⟩
  clear t1 k1 c1
  go_upto_if 40 with fail
  go_cut [2] (fun v wx => v = .int .u64 (B : Int) ∧ wx = w1)
  case first =>
    by_cases c : A = B0
    · have hB : B = B0 ^^^ 1 := by rw [HN.out.2.2.2.2, if_pos c]
      subst c
      clear HN
      go_wp2_with fail
      go_meet
      exact ⟨by rw [hB], rfl⟩
    · have hB : B = B0 := by rw [HN.out.2.2.2.2, if_neg c]
      have c2 : ¬ (A : Int) = (B0 : Int) := by omega
      clear HN c
      go_wp2_with fail
      go_meet
      exact ⟨by rw [hB], rfl⟩
  case rest =>
    obtain ⟨rfl, rfl⟩ := hcut
    have A0 := TIx.write H1.out.1 (f * 4096 + 8) 8 A (by have := HN.out.2.2.2.1; omega) (chk_8 HN.out.2.2.2.1 8 rfl (by decide)) HN.out.1 (by decide)
    rw [show (f * 4096 + 8) / 4096 = f by omega, show (f * 4096 + 8) % 4096 = 8 by omega, show ((8 : Nat) : Int) = 8 from rfl, show ((f * 4096 + 8 : Nat) : Int) = (f : Int) * 4096 + 8 by omega] at A0
    obtain ⟨hA, ehA⟩ : ∃ h, h = putF z0 8 8 A := ⟨_, rfl⟩
    rw [← ehA] at A0
    obtain ⟨F1, hF1⟩ : ∃ F, F = putFr (fun _ => z0) f hA := ⟨_, rfl⟩
    have F1f : F1 f = hA := by rw [hF1]; exact putFr_same _ _ _
    rw [← hF1] at A0
    obtain ⟨hB, ehB⟩ : ∃ h, h = putF hA 8 8 B := ⟨_, rfl⟩
    obtain ⟨F2, hF2⟩ : ∃ F, F = putFr F1 f (putF (F1 f) 8 8 B) := ⟨_, rfl⟩
    have F2f : F2 f = hB := by rw [hF2, putFr_same, F1f, ehB]
    have far : alike (F2 f) hA 4096 = false := by rw [F2f, ehB, ehA]; exact far_put HN.out.1 HN.out.2.1 HN.out.2.2.1
    have HF : Hid (F1 f = hA ∧ F2 f = hB ∧ alike (F2 f) hA 4096 = false ∧ F2 = putFr F1 f (putF (F1 f) 8 8 B)) := ⟨F1f, F2f, far, hF2⟩
    have hasf : hasF 12 (f : Int) = true := (hasF_iff 12 _).2 (by have := HN.out.2.2.2.1; omega)
    have a0 : addA (fun _ => none) (f : Int) = 0 := by unfold addA; rw [hasf, if_neg (by decide)]; rfl
    have s0 : ∀ F h, F f = h → addS (fun _ => none) F (f : Int) = S1o f (dgt h) := fun F h e => by unfold addS; rw [if_pos a0, Int.toNat_natCast, e]; rfl
    have sg : ∀ d, sgI (S1o f d) (f : Int) = some (cK d) := fun d => by rw [sgI_nat]; unfold S1o; rw [setS_same]; rfl
    have d0 : ∀ d, dropA (S1o f d) (f : Int) = 0 := fun d => by unfold dropA; rw [sg]; rfl
    have d1 : ∀ d, dropS (S1o f d) (f : Int) = fun _ => none := fun d => by
      unfold dropS
      rw [sg, Int.toNat_natCast, Option.isSome_some, if_pos rfl]
      funext i
      unfold S1o setS
      split <;> rfl
    have HS : Hid (addA (fun _ => none) (f : Int) = 0 ∧ (∀ F h, F f = h → addS (fun _ => none) F (f : Int) = S1o f (dgt h)) ∧ (∀ d, dropA (S1o f d) (f : Int) = 0) ∧ (∀ d, dropS (S1o f d) (f : Int) = fun _ => none)) := ⟨a0, s0, d0, d1⟩
    clear ehA ehB hF1 hF2 F1f F2f far hasf a0 s0 sg d0 d1
    go_wp2_with fail
    with_reducible refine A0.mono ?_
    rintro e w2 ⟨rfl, t2, f2⟩
    have H2 : Hid (TIx w2 X p pm (0 + 1) F1 (fun _ => none) ∧ Kp w w2) := ⟨t2, f2.up H1.out.2 HX.out⟩
    clear A0 t2 f2 H1
    have A1 := TIx.add H2.out.1 (f : Int)
    rw [HS.out.1, HS.out.2.1 F1 hA HF.out.1] at A1
    go_wp2_with fail
    with_reducible refine A1.mono ?_
    rintro e w3 ⟨rfl, t3, f3⟩
    have H3 : Hid (TIx w3 X p pm (0 + 1) F1 (S1o f (dgt hA)) ∧ Kp w w3) := ⟨t3, f3.up H2.out.2 HX.out⟩
    clear A1 t3 f3 H2
    have A2 := TIx.get_ok H3.out.1 f HN.out.2.2.2.1
    rw [HF.out.1] at A2
    go_wp2_with fail
    with_reducible refine A2.mono ?_
    rintro e w4 ⟨rfl, b4, t4, k4⟩
    obtain ⟨b, hb⟩ : ∃ b, b = w3.heap.size := ⟨_, rfl⟩
    rw [← hb] at b4 t4 ⊢
    have bl := b4.lt
    have H4 : Hid (TIx w4 (fun k => X k ∨ k = b) p pm (0 + 1) F1 (S1o f (dgt hA)) ∧ Kp w w4 ∧ BS w4 b 0 4096 hA) := ⟨t4.less (fun k hk => hk.imp id (by omega)), H3.out.2.trans k4, b4⟩
    clear A2 b4 t4 k4 bl hb H3
    have A3 := TIx.find (cap := 4096) H4.out.1 H4.out.2.2 (Nat.le_refl _) (-1)
    rw [S1o_find HN.out.2.2.2.1, if_pos ⟨rfl, by omega, by rw [HF.out.1]; exact alike_refl _ _⟩, Option.getD_some, Option.isSome_some] at A3
    go_wp2_with fail
    with_reducible refine A3.mono ?_
    rintro e w5 ⟨rfl, t5, k5⟩
    have H5 : Hid (TIx w5 (fun k => X k ∨ k = b) p pm (0 + 1) F1 (S1o f (dgt hA)) ∧ Kp w w5 ∧ BS w5 b 0 4096 hA) := ⟨t5, H4.out.2.1.trans k5, H4.out.2.2.kp k5⟩
    clear A3 t5 k5 H4
    have A4 := TIx.write H5.out.1 (f * 4096 + 8) 8 B (by have := HN.out.2.2.2.1; omega) (chk_8 HN.out.2.2.2.1 8 rfl (by decide)) HN.out.2.1 (by decide)
    rw [show (f * 4096 + 8) / 4096 = f by omega, show (f * 4096 + 8) % 4096 = 8 by omega, show ((8 : Nat) : Int) = 8 from rfl, show ((f * 4096 + 8 : Nat) : Int) = (f : Int) * 4096 + 8 by omega, ← HF.out.2.2.2] at A4
    go_wp2_with fail
    with_reducible refine A4.mono ?_
    rintro e w6 ⟨rfl, t6, f6⟩
    have H6 : Hid (TIx w6 (fun k => X k ∨ k = b) p pm (0 + 1 + 1) F2 (S1o f (dgt hA)) ∧ Kp w w6 ∧ BS w6 b 0 4096 hA) := ⟨t6, f6.up H5.out.2.1 (fun k hk => .inl (HX.out k hk)), f6.bs H5.out.2.2 (.inr rfl)⟩
    clear A4 t6 f6 H5
    have A5 := TIx.get_ok H6.out.1 f HN.out.2.2.2.1
    rw [HF.out.2.1] at A5
    go_wp2_with fail
    with_reducible refine A5.mono ?_
    rintro e w7 ⟨rfl, b7, t7, k7⟩
    obtain ⟨c, hc⟩ : ∃ c, c = w6.heap.size := ⟨_, rfl⟩
    rw [← hc] at b7 t7 ⊢
    have bl := b7.lt
    have H7 : Hid (TIx w7 (fun k => X k ∨ k = b ∨ k = c) p pm (0 + 1 + 1) F2 (S1o f (dgt hA)) ∧ Kp w w7 ∧ BS w7 b 0 4096 hA ∧ BS w7 c 0 4096 hB) := ⟨t7.less (fun k hk => by rcases hk with hk | hk | hk; exact .inl (.inl hk); exact .inl (.inr hk); exact .inr (by omega)), H6.out.2.1.trans k7, H6.out.2.2.kp k7, b7⟩
    clear A5 b7 t7 k7 bl hc H6
    have A6 := TIx.find (cap := 4096) H7.out.1 H7.out.2.2.1 (Nat.le_refl _) (-1)
    rw [S1o_find HN.out.2.2.2.1, HF.out.2.2.1, if_neg (fun q => by cases q.2.2), Option.getD_none, Option.isSome_none] at A6
    go_wp2_with fail
    with_reducible refine A6.mono ?_
    rintro e w8 ⟨rfl, t8, k8⟩
    have H8 : Hid (TIx w8 (fun k => X k ∨ k = b ∨ k = c) p pm (0 + 1 + 1) F2 (S1o f (dgt hA)) ∧ Kp w w8 ∧ BS w8 b 0 4096 hA ∧ BS w8 c 0 4096 hB) := ⟨t8, H7.out.2.1.trans k8, H7.out.2.2.1.kp k8, H7.out.2.2.2.kp k8⟩
    clear A6 t8 k8 H7
    have A7 := TIx.drop H8.out.1 (f : Int) okf
    rw [HS.out.2.2.1, HS.out.2.2.2] at A7
    go_wp2_with fail
    with_reducible refine A7.mono ?_
    rintro e w9 ⟨rfl, t9, f9⟩
    have H9 : Hid (TIx w9 (fun k => X k ∨ k = b ∨ k = c) p pm (0 + 1 + 1) F2 (fun _ => none) ∧ Kp w w9 ∧ BS w9 b 0 4096 hA ∧ BS w9 c 0 4096 hB) := ⟨t9, f9.up H8.out.2.1 (fun k hk => .inl (HX.out k hk)), f9.bs H8.out.2.2.1 (.inr (.inl rfl)), f9.bs H8.out.2.2.2 (.inr (.inr rfl))⟩
    clear A7 t9 f9 H8
    have A8 := TIx.add H9.out.1 (f : Int)
    rw [HS.out.1, HS.out.2.1 F2 hB HF.out.2.1] at A8
    go_wp2_with fail
    with_reducible refine A8.mono ?_
    rintro e wa ⟨rfl, ta, fa⟩
    have Ha : Hid (TIx wa (fun k => X k ∨ k = b ∨ k = c) p pm (0 + 1 + 1) F2 (S1o f (dgt hB)) ∧ Kp w wa ∧ BS wa b 0 4096 hA ∧ BS wa c 0 4096 hB) := ⟨ta, fa.up H9.out.2.1 (fun k hk => .inl (HX.out k hk)), fa.bs H9.out.2.2.1 (.inr (.inl rfl)), fa.bs H9.out.2.2.2 (.inr (.inr rfl))⟩
    clear A8 ta fa H9
    have A9 := TIx.find (cap := 4096) Ha.out.1 Ha.out.2.2.2 (Nat.le_refl _) (-1)
    rw [S1o_find HN.out.2.2.2.1, if_pos ⟨rfl, by omega, by rw [HF.out.2.1]; exact alike_refl _ _⟩, Option.getD_some, Option.isSome_some] at A9
    go_wp2_with fail
    with_reducible refine A9.mono ?_
    rintro e wb ⟨rfl, tb, kb⟩
    have Hb : Hid (TIx wb (fun k => X k ∨ k = b ∨ k = c) p pm (0 + 1 + 1) F2 (S1o f (dgt hB)) ∧ Kp w wb ∧ BS wb b 0 4096 hA ∧ BS wb c 0 4096 hB) := ⟨tb, Ha.out.2.1.trans kb, Ha.out.2.2.1.kp kb, Ha.out.2.2.2.kp kb⟩
    clear A9 tb kb Ha
    have A10 := TIx.find (cap := 4096) Hb.out.1 Hb.out.2.2.1 (Nat.le_refl _) (-1)
    rw [S1o_find HN.out.2.2.2.1, HF.out.2.2.1, if_neg (fun q => by cases q.2.2), Option.getD_none, Option.isSome_none] at A10
    go_wp2_with fail
    with_reducible refine A10.mono ?_
    rintro e wc ⟨rfl, tc, kc⟩
    have Hc : Hid (TIx wc (fun k => X k ∨ k = b ∨ k = c) p pm (0 + 1 + 1) F2 (S1o f (dgt hB)) ∧ Kp w wc ∧ BS wc c 0 4096 hB) := ⟨tc, Hb.out.2.1.trans kc, Hb.out.2.2.2.kp kc⟩
    clear A10 tc kc Hb
    have A11 := TIx.find (cap := 4096) Hc.out.1 Hc.out.2.2 (Nat.le_refl _) (f : Int)
    rw [S1o_find HN.out.2.2.2.1, if_neg (fun q => q.2.1 rfl), Option.getD_none, Option.isSome_none] at A11
    go_wp2_with fail
    with_reducible refine A11.mono ?_
    rintro e wd ⟨rfl, td, kd⟩
    have A12 := itold_any wd td.tab
    have Hd : Hid (Kp w wd) := Hc.out.2.1.trans kd
    clear A11 td kd Hc
    go_wp2_with fail
    with_reducible refine A12.mono ?_
    rintro e we ⟨rfl, ke⟩
    have He : Hid (Kp w we) := Hd.out.trans ke
    clear A12 ke Hd
    go_wp2_with fail
    go_ret
    exact ⟨rfl, He.out⟩

end Go.Proofs.YtpjlmmiceiionaaDoor
