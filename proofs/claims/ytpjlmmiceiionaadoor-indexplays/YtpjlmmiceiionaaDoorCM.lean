/- index: told. -/
import Derived.Test.YtpjlmmiceiionaaDoorJ34
namespace Go.Proofs.YtpjlmmiceiionaaDoor
open Go.RowKit Go.Maps
set_option maxRecDepth 10000

theorem alike_refl (f : Nat → Nat) (n : Nat) : alike f f n = true := (alike_iff f f n).2 fun _ _ => rfl
theorem S2o_find (d0 : CN) (hd : d0 = dgt z0) (F : Nat → Nat → Nat) : fndR (S2o d0) 12 F z0 0 = if alike (F 1) z0 4096 = true then some 1 else none := by
  unfold fndR
  rw [← hd, S2o_mk, if_pos rfl, blF_3]
  by_cases c : alike (F 1) z0 4096 = true
  · rw [if_pos c]; simp [c]
  · rw [if_neg c]; simp [c]
set_option maxHeartbeats 16000000 in
theorem itold_any (w : World) (T : TAB w) :
    Calls Tryd.prog 22 #[] w fun e w' => e = .returned (.bool true) ∧ Kp w w' := by
  have c1 := imade_any w T
  have c2 := fun w => inew_nil w
  clear T
  have hmk := make_page
  obtain ⟨d0, hd0⟩ : ∃ d0, d0 = dgt z0 := ⟨_, rfl⟩
  have HD : Hid (d0 = dgt z0) := hd0
  have a0 : addA (fun _ => none) 0 = 0 := by decide
  have s0 : addS (fun _ => none) (fun _ => z0) 0 = setS (fun _ => none) 0 (some d0) := by unfold addS; rw [if_pos a0, hd0]; rfl
  have a1 : addA (setS (fun _ => none) 0 (some d0)) 1 = 0 := by unfold addA; rw [if_neg (by decide)]; rfl
  have s1 : addS (setS (fun _ => none) 0 (some d0)) (fun _ => z0) 1 = S2o d0 := by unfold addS; rw [if_pos a1, hd0]; rfl
  have a2 : addA (S2o d0) 1 = 22 := by unfold addA; rw [if_neg (by decide)]; rfl
  have s2 : addS (S2o d0) (fun _ => z0) 1 = S2o d0 := by unfold addS; rw [if_neg (by rw [a2]; decide)]
  have a3 : addA (S2o d0) 12 = 2 := by unfold addA; rw [if_pos (by decide)]
  have s3 : addS (S2o d0) (fun _ => z0) 12 = S2o d0 := by unfold addS; rw [if_neg (by rw [a3]; decide)]
  have HS : Hid ((addA (fun _ => none) 0 = 0 ∧ addS (fun _ => none) (fun _ => z0) 0 = setS (fun _ => none) 0 (some d0)) ∧ (addA (setS (fun _ => none) 0 (some d0)) 1 = 0 ∧ addS (setS (fun _ => none) 0 (some d0)) (fun _ => z0) 1 = S2o d0) ∧ (addA (S2o d0) 1 = 22 ∧ addS (S2o d0) (fun _ => z0) 1 = S2o d0) ∧ (addA (S2o d0) 12 = 2 ∧ addS (S2o d0) (fun _ => z0) 12 = S2o d0)) := ⟨⟨a0, s0⟩, ⟨a1, s1⟩, ⟨a2, s2⟩, a3, s3⟩
  clear hd0 a0 s0 a1 s1 a2 s2 a3 s3
  obtain ⟨X, hX⟩ : ∃ X : Nat → Prop, X = fun k => k < w.heap.size := ⟨_, rfl⟩
  have HX : Hid (∀ k, k < w.heap.size → X k) := fun k hk => by rw [hX]; exact hk
  rw [← hX] at c1
  clear hX
  go_enter Tryd.func22, Tryd.ntmps22
  go_wp2_with fail
  with_reducible refine c1.mono ?_
  rintro e w1 ⟨p, pm, rfl, t1, k1⟩
  have H1 : Hid (TIx w1 X p pm 0 (fun _ => z0) (fun _ => none) ∧ Kp w w1) := ⟨t1, k1⟩
  clear t1 k1 c1
  go_wp2_with fail
  with_reducible refine (c2 _).mono ?_
  rintro e w1 ⟨rfl, rfl⟩
  clear c2
  have A0 := TIx.add H1.out.1 0
  rw [HS.out.1.1, HS.out.1.2] at A0
  go_wp2_with fail
  with_reducible refine A0.mono ?_
  rintro e w2 ⟨rfl, t2, f2⟩
  have H2 : Hid (TIx w2 X p pm 0 (fun _ => z0) (setS (fun _ => none) 0 (some d0)) ∧ Kp w w2) := ⟨t2, f2.up H1.out.2 HX.out⟩
  clear A0 t2 f2 H1
  have A1 := TIx.add H2.out.1 1
  rw [HS.out.2.1.1, HS.out.2.1.2] at A1
  go_wp2_with fail
  with_reducible refine A1.mono ?_
  rintro e w3 ⟨rfl, t3, f3⟩
  have H3 : Hid (TIx w3 X p pm 0 (fun _ => z0) (S2o d0) ∧ Kp w w3) := ⟨t3, f3.up H2.out.2 HX.out⟩
  clear A1 t3 f3 H2
  have A2 := TIx.add H3.out.1 1
  rw [HS.out.2.2.1.1, HS.out.2.2.1.2] at A2
  go_wp2_with fail
  with_reducible refine A2.mono ?_
  rintro e w4 ⟨rfl, t4, f4⟩
  have H4 : Hid (TIx w4 X p pm 0 (fun _ => z0) (S2o d0) ∧ Kp w w4) := ⟨t4, f4.up H3.out.2 HX.out⟩
  clear A2 t4 f4 H3
  have A3 := TIx.add H4.out.1 12
  rw [HS.out.2.2.2.1, HS.out.2.2.2.2] at A3
  go_wp2_with fail
  with_reducible refine A3.mono ?_
  rintro e w5 ⟨rfl, t5, f5⟩
  have k5 := f5.up H4.out.2 HX.out
  have kz : Kp w5 (w5.alloc (.cells (bytesOf z0 4096).toArray 5)) := (Kp.refl w5).alloc _
  have rb := (RB.made w5 4096).bs z0_byte
  obtain ⟨b, hb⟩ : ∃ b, b = w5.heap.size := ⟨_, rfl⟩
  have t6 : TIx (w5.alloc (.cells (bytesOf z0 4096).toArray 5)) (fun k => X k ∨ k = b) p pm 0 (fun _ => z0) (S2o d0) := (t5.kp kz).less (fun k hk => hk.imp id fun e => by simp; omega)
  have H5 : Hid (TIx (w5.alloc (.cells (bytesOf z0 4096).toArray 5)) (fun k => X k ∨ k = b) p pm 0 (fun _ => z0) (S2o d0) ∧ Kp w (w5.alloc (.cells (bytesOf z0 4096).toArray 5)) ∧ BS (w5.alloc (.cells (bytesOf z0 4096).toArray 5)) b 0 4096 z0) := ⟨t6, k5.trans kz, by rw [hb]; exact rb⟩
  have HB : Hid (b = w5.heap.size) := hb
  clear A3 t5 f5 k5 kz rb hb t6 H4 HS
  generalize (bytesOf z0 4096).toArray = A at *
  go_wp2_with fail
  rw [← HB.out]
  have HZ : Hid True := trivial
  clear hmk
  generalize w5.alloc (.cells A 5) = w6 at *
  have A4 := TIx.find (cap := 4096) H5.out.1 H5.out.2.2 (Nat.le_refl _) 0
  rw [S2o_find d0 HD.out, if_pos (alike_refl _ _), Option.getD_some, Option.isSome_some] at A4
  with_reducible refine A4.mono ?_
  rintro e w7 ⟨rfl, t7, k7⟩
  have H7 : Hid (TIx w7 (fun k => X k ∨ k = b) p pm 0 (fun _ => z0) (S2o d0) ∧ Kp w w7 ∧ BS w7 b 0 4096 z0) := ⟨t7, H5.out.2.1.trans k7, H5.out.2.2.kp k7⟩
  clear A4 t7 k7 H5 HB HZ
  have A5 := TIx.write H7.out.1 4096 1 3 (by decide) (by decide) (by decide) (by decide)
  rw [show ((4096 : Nat) : Int) = 4096 from rfl, show ((1 : Nat) : Int) = 1 from rfl, show ((3 : Nat) : Int) = 3 from rfl] at A5
  obtain ⟨F1, hF1⟩ : ∃ F1, F1 = putFr (fun _ => z0) (4096 / 4096) (putF z0 (4096 % 4096) 1 3) := ⟨_, rfl⟩
  have HF : Hid (alike (F1 1) z0 4096 = false) := z0_far (by rw [hF1]; decide)
  rw [← hF1] at A5
  clear hF1
  go_wp2_with fail
  with_reducible refine A5.mono ?_
  rintro e w8 ⟨rfl, t8, f8⟩
  have H8 : Hid (TIx w8 (fun k => X k ∨ k = b) p pm (0 + 1) F1 (S2o d0) ∧ Kp w w8 ∧ BS w8 b 0 4096 z0) := ⟨t8, f8.up H7.out.2.1 (fun k hk => .inl (HX.out k hk)), f8.bs H7.out.2.2 (.inr rfl)⟩
  clear A5 t8 f8 H7
  have A6 := TIx.find (cap := 4096) H8.out.1 H8.out.2.2 (Nat.le_refl _) 0
  rw [S2o_find d0 HD.out, HF.out, if_neg (by decide), Option.getD_none, Option.isSome_none] at A6
  go_wp2_with fail
  with_reducible refine A6.mono ?_
  rintro e w9 ⟨rfl, t9, k9⟩
  have H9 : Hid (TIx w9 X p pm (0 + 1) F1 (S2o d0) ∧ Kp w w9) := ⟨t9.less fun _ h => .inl h, H8.out.2.1.trans k9⟩
  clear A6 t9 k9 H8 HF
  have A7 := TIx.alike H9.out.1
  go_wp2_with fail
  with_reducible refine A7.mono ?_
  rintro e wa ⟨v, L, D, rfl, q1, q2, _, ta, ka⟩
  obtain ⟨e, rfl, he⟩ := S2o_alike q1 q2
  obtain ⟨na, cap, rfl, _, hna, hcell⟩ := q1.ax.form LTge_ok
  obtain ⟨g, rfl, hg, _, hc⟩ := hcell 0 e rfl
  have c0 : wa.cell? ⟨g, 0, none⟩ = some (geV e) := by
    have := hc 0 (geV e) rfl
    simpa [LTge] using this
  have Ha : Hid (TIx wa X p pm (0 + 1) F1 (S2o d0) ∧ Kp w wa ∧ AX LTfr wa w9.heap.size (geV e) [0, 1]) := ⟨ta.less fun _ h => .inl h, H9.out.2.trans ka, he⟩
  have iv : ∃ a b c, geV e = .slice a b c := ⟨_, _, _, rfl⟩
  obtain ⟨xa, xb, xc, hx⟩ := iv
  rw [hx] at c0 Ha
  clear A7 ta ka q1 q2 he hna hcell hc hx H9
  have kt : Kp wa (wa.alloc (.cells #[.int .i64 0, .int .i64 1] 3)) := (Kp.refl wa).alloc _
  have sB : SVw LTfr (wa.alloc (.cells #[.int .i64 0, .int .i64 1] 3)) (.slice (some ⟨wa.heap.size, 0, none⟩) 2 2) [0, 1] := ⟨some ⟨wa.heap.size, 0, none⟩, 2, rfl, AS.made (T := LTfr) wa [0, 1]⟩
  have A8 := intsF_any (Ha.out.2.2.kp kt |>.sv LTfr_ok) sB (by decide)
  rw [decide_eq_true rfl] at A8
  have Hb : Hid (TIx (wa.alloc (.cells #[.int .i64 0, .int .i64 1] 3)) X p pm (0 + 1) F1 (S2o d0) ∧ Kp w (wa.alloc (.cells #[.int .i64 0, .int .i64 1] 3))) := ⟨Ha.out.1.kpl kt, Ha.out.2.1.trans kt⟩
  clear kt sB Ha hg
  go_wp2_with fail
  with_reducible refine A8.mono ?_
  rintro e wb ⟨rfl, kb⟩
  have Hc : Hid (TIx wb X p pm (0 + 1) F1 (S2o d0) ∧ Kp w wb) := ⟨Hb.out.1.kpl kb, Hb.out.2.trans kb⟩
  clear A8 kb Hb c0
  have A9 := TIx.count Hc.out.1
  go_wp2_with fail
  with_reducible refine A9.mono ?_
  rintro e wb ⟨⟨Ks, rfl, nd, hK⟩, rfl⟩
  have e2 := S2o_count nd hK
  rw [e2]
  clear A9 nd hK e2
  have A10 := TIx.has Hc.out.1 0 (show (Lit.int .i64 0).wf = true by decide)
  rw [show (sgI (S2o d0) 0).isSome = true from rfl] at A10
  go_wp2_with fail
  with_reducible refine A10.mono ?_
  rintro e wb ⟨rfl, rfl⟩
  clear A10
  have A11 := TIx.drop Hc.out.1 0 (show (Lit.int .i64 0).wf = true by decide)
  rw [show dropA (S2o d0) 0 = 0 from rfl] at A11
  go_wp2_with fail
  with_reducible refine A11.mono ?_
  rintro e wc ⟨rfl, tc, fc⟩
  have Hd : Hid (TIx wc X p pm (0 + 1) F1 (dropS (S2o d0) 0) ∧ Kp w wc) := ⟨tc, fc.up Hc.out.2 HX.out⟩
  clear A11 tc fc Hc
  have A12 := TIx.drop Hd.out.1 0 (show (Lit.int .i64 0).wf = true by decide)
  rw [show dropA (dropS (S2o d0) 0) 0 = 23 from rfl] at A12
  go_wp2_with fail
  with_reducible refine A12.mono ?_
  rintro e wd ⟨rfl, td, fd⟩
  have He : Hid (Kp w wd) := fd.up Hd.out.2 HX.out
  clear A12 td fd Hd
  go_wp2_with fail
  go_ret
  exact ⟨rfl, He.out⟩

end Go.Proofs.YtpjlmmiceiionaaDoor
