/- PermOrder: the walk. -/
import Derived.Test.YtaielngncalplaaQ4
import Derived.Test.YtaielngncalplaaEQ
namespace Go.Proofs.Ytaielngncalplaa
open Go.RowKit
set_option linter.unusedVariables false

theorem eq_permO (x y z : Bool) (w : World) : (Op.equalIn 10000 23 (.agg #[.bool x, .bool y, .bool z]) (.agg #[.bool x, .bool y, .bool z])).run Try.prog w = .ok true w := by
  rw [eq_permP, samP_eq.2 ⟨rfl, rfl, rfl⟩]

/-- The frame at the region, with what its operations lay. -/
def oAct (d1 d2 d3 c3 c4 c5 g10 g11 g12 g13 g14 g15 g16 g17 g18 g19 g20 g21 g22 g23 g24 g25 g26 g27 g28 g29 u7 u8 u30 u31 u32 u33 u34 u35 u36 u37 u38 u39 : Value) : Act := { tmps := #[d1, d2, d3, c3, c4, c5, .bool false, u7, u8, undef, g10, g11, g12, g13, g14, g15, g16, g17, g18, g19, g20, g21, g22, g23, g24, g25, g26, g27, g28, g29, u30, u31, u32, u33, u34, u35, u36, u37, u38, u39, undef, undef, undef, undef, undef, undef, undef, undef, undef, undef, undef, undef, undef, undef, undef, undef, undef, undef, undef, undef, undef, undef, undef, undef, undef, undef, undef, undef, undef, undef, undef, undef, undef, undef, undef, undef, undef, undef, undef, undef, undef, undef, undef, undef, undef, undef, undef, undef, undef, undef, undef, undef, undef, undef, undef, undef, undef, undef, undef, undef, undef, undef, undef, undef, undef, undef, undef, undef, undef, undef, undef, undef], defers := [] }
/-- A block that a permission was put into, or not yet. -/
def MP3 (w : World) (b : Nat) (t : Bool) (r q x : Bool) : Prop := PX w b (cond t r false) (cond t q false) (cond t x false)
/-- What holds where these operations are done. -/
structure OI3 (W1 : World) (d1 d2 d3 dm dn dx : Value) (M8 : World → Nat → Bool → Prop) (l0 l1 l2 l3 l4 l5 l6 l7 l8 l9 l10 l11 l12 l13 : Bool) (u7 u8 u30 u31 u32 u33 u34 u35 u36 u37 u38 u39 : Value) (n7 n8 : Nat) (w : World) : Prop where
  kp : Kp W1 w
  h0 : l0 = true → u30 = d1
  h1 : l1 = true → u31 = d2
  h2 : l2 = true → u32 = dm
  h3 : l3 = true → u33 = d3
  h4 : l4 = true → u34 = dx
  h5 : l5 = true → u35 = d1
  h6 : l6 = true → u36 = d2
  h7 : l7 = true → u37 = d3
  h8 : l8 = true → u38 = dn
  h9 : l9 = true → u39 = dx
  h10 : l10 = true → u7 = .pointer (some ⟨n7, 0, none⟩) ∧ W1.heap.size ≤ n7 ∧ M8 w n7 l12
  h11 : l11 = true → u8 = .pointer (some ⟨n8, 0, none⟩) ∧ W1.heap.size ≤ n8 ∧ M8 w n8 l13
  hne : l10 = true → l11 = true → n7 ≠ n8
  m12 : l12 = true → l10 = true
  m13 : l13 = true → l11 = true

set_option maxHeartbeats 16000000 in
set_option maxRecDepth 10000 in
theorem order_walk (a0 a1 a2 b0 b1 b2 c0 c1 c2 m0 m1 m2 n0 n1 n2 x0 x1 x2 : Bool) (A B C H : Bool) (ta tb : ByteArray) (α β γ : Nat → Bool) (w : World)
    (hC : A = true → B = true → C = true) (hab : ∀ i, A = true → α i = true → β i = true) (hT : (ta.toList == tb.toList) = H)
    (hH : ∀ w, (Op.equalIn 10000 23 (.agg #[.bool a0, .bool a1, .bool a2]) (.agg #[.bool b0, .bool b1, .bool b2])).run Try.prog w = .ok H w)
    (hM : ∀ w, (Op.equalIn 10000 23 (.agg #[.bool m0, .bool m1, .bool m2]) (.agg #[.bool a0, .bool a1, .bool a2])).run Try.prog w = .ok A w)
    (t1 : Aside (∀ w, Calls Try.prog 11 #[.agg #[.bool a0, .bool a1, .bool a2], .agg #[.bool b0, .bool b1, .bool b2]] w fun e w' => e = .returned (.bool A) ∧ Kp w w'))
    (t2 : Aside (∀ w, Calls Try.prog 11 #[.agg #[.bool b0, .bool b1, .bool b2], .agg #[.bool c0, .bool c1, .bool c2]] w fun e w' => e = .returned (.bool B) ∧ Kp w w'))
    (t3 : Aside (∀ w, Calls Try.prog 11 #[.agg #[.bool a0, .bool a1, .bool a2], .agg #[.bool c0, .bool c1, .bool c2]] w fun e w' => e = .returned (.bool C) ∧ Kp w w'))
    (t4 : Aside (∀ w, Calls Try.prog 11 #[.agg #[.bool a0, .bool a1, .bool a2], .agg #[.bool a0, .bool a1, .bool a2]] w fun e w' => e = .returned (.bool true) ∧ Kp w w'))
    (r1 : Aside (∀ w, Calls Try.prog 9 #[.agg #[.bool a0, .bool a1, .bool a2], .agg #[.bool b0, .bool b1, .bool b2]] w fun e w' => e = .returned (.agg #[.bool m0, .bool m1, .bool m2]) ∧ Kp w w'))
    (r2 : Aside (∀ w, Calls Try.prog 9 #[.agg #[.bool m0, .bool m1, .bool m2], .agg #[.bool c0, .bool c1, .bool c2]] w fun e w' => e = .returned (.agg #[.bool x0, .bool x1, .bool x2]) ∧ Kp w w'))
    (r3 : Aside (∀ w, Calls Try.prog 9 #[.agg #[.bool b0, .bool b1, .bool b2], .agg #[.bool c0, .bool c1, .bool c2]] w fun e w' => e = .returned (.agg #[.bool n0, .bool n1, .bool n2]) ∧ Kp w w'))
    (r4 : Aside (∀ w, Calls Try.prog 9 #[.agg #[.bool a0, .bool a1, .bool a2], .agg #[.bool n0, .bool n1, .bool n2]] w fun e w' => e = .returned (.agg #[.bool x0, .bool x1, .bool x2]) ∧ Kp w w'))
    (r5 : Aside (∀ w, Calls Try.prog 9 #[.agg #[.bool a0, .bool a1, .bool a2], .agg #[.bool a0, .bool a1, .bool a2]] w fun e w' => e = .returned (.agg #[.bool a0, .bool a1, .bool a2]) ∧ Kp w w'))
    (k0 : ∀ i : Nat, i < 4 → Aside (∀ w, Calls Try.prog 10 #[.agg #[.bool x0, .bool x1, .bool x2], .int .i64 (i : Int)] w fun e w' => e = .returned (.bool (α i && β i && γ i)) ∧ Kp w w'))
    (k1 : ∀ i : Nat, i < 4 → Aside (∀ w, Calls Try.prog 10 #[.agg #[.bool a0, .bool a1, .bool a2], .int .i64 (i : Int)] w fun e w' => e = .returned (.bool (α i)) ∧ Kp w w'))
    (k2 : ∀ i : Nat, i < 4 → Aside (∀ w, Calls Try.prog 10 #[.agg #[.bool b0, .bool b1, .bool b2], .int .i64 (i : Int)] w fun e w' => e = .returned (.bool (β i)) ∧ Kp w w'))
    (k3 : ∀ i : Nat, i < 4 → Aside (∀ w, Calls Try.prog 10 #[.agg #[.bool c0, .bool c1, .bool c2], .int .i64 (i : Int)] w fun e w' => e = .returned (.bool (γ i)) ∧ Kp w w'))
    (v1 : Aside (∀ w, Calls Try.prog 15 #[.agg #[.bool a0, .bool a1, .bool a2]] w fun e w' => e = .returned (.string ta) ∧ Kp w w'))
    (v2 : Aside (∀ w, Calls Try.prog 15 #[.agg #[.bool b0, .bool b1, .bool b2]] w fun e w' => e = .returned (.string tb) ∧ Kp w w')) :
    Calls Try.prog 6 #[.agg #[.bool a0, .bool a1, .bool a2], .agg #[.bool b0, .bool b1, .bool b2], .agg #[.bool c0, .bool c1, .bool c2]] w fun e w' => e = .returned (.bool true) ∧ Kp w w' := by
  have st : Aside (∀ w, Calls Try.prog 8 #[] w fun e w' => e = .returned (.bool true) ∧ Kp w w') := fun w => ptold_any w
  have hq := eq_permO
  have HT : Hid _ := hT
  have HH : Aside _ := hH
  have HM : Aside _ := hM
  have KK0 : Aside _ := k0
  have KK1 : Aside _ := k1
  have KK2 : Aside _ := k2
  have KK3 : Aside _ := k3
  have Hab : Aside _ := hab
  clear hT hH hM k0 k1 k2 k3 hab
  have hAB : A = false ∨ (A = true ∧ B = false) ∨ (A = true ∧ B = true ∧ C = true) := by
    cases A
    · exact .inl rfl
    · cases B
      · exact .inr (.inl ⟨rfl, rfl⟩)
      · exact .inr (.inr ⟨rfl, rfl, hC rfl rfl⟩)
  clear hC
  rcases hAB with rfl | ⟨rfl, rfl⟩ | ⟨rfl, rfl, rfl⟩
  · go_enter Try.func6, Try.ntmps6
    go_wp2_with fail
    with_reducible refine (t1.out _).mono ?_
    rintro e w1 ⟨rfl, K⟩
    have HK1 : Hid (Kp w w1) := ((((Kp.refl w).alloc _).alloc _).alloc _).trans K
    obtain ⟨q3, hq3⟩ : ∃ q3, q3 = w.heap.size := ⟨_, rfl⟩
    have Hq31 : Hid (PX w1 q3 a0 a1 a2) := by rw [hq3]; exact ((PX.made w a0 a1 a2).kp (((Kp.refl _).alloc _).alloc _)).kp K
    obtain ⟨q4, hq4⟩ : ∃ q4, q4 = w.heap.size + 1 := ⟨_, rfl⟩
    have Hq41 : Hid (PX w1 q4 b0 b1 b2) := by
      show PX w1 q4 b0 b1 b2
      have B := ((PX.made (w.alloc (.cells #[.bool a0, .bool a1, .bool a2] 23)) b0 b1 b2).kp ((Kp.refl _).alloc _)).kp K
      rw [hq4]
      simpa using B
    obtain ⟨q5, hq5⟩ : ∃ q5, q5 = w.heap.size + 2 := ⟨_, rfl⟩
    have Hq51 : Hid (PX w1 q5 c0 c1 c2) := by
      show PX w1 q5 c0 c1 c2
      have B := ((PX.made ((w.alloc (.cells #[.bool a0, .bool a1, .bool a2] 23)).alloc (.cells #[.bool b0, .bool b1, .bool b2] 23)) c0 c1 c2).kp (Kp.refl _)).kp K
      rw [hq5]
      simpa using B
    (try rw [← hq5])
    (try rw [← hq4])
    (try rw [← hq3])
    clear K hq3 hq4 hq5
    have f0 := Hq31.out.c0
    have f1 := Hq31.out.c1
    have f2 := Hq31.out.c2
    go_wp2_with fail
    with_reducible refine (t4.out _).mono ?_
    rintro e w2 ⟨rfl, K⟩
    have HK2 : Hid (Kp w w2) := HK1.out.trans K
    have Hq32 : Hid (PX w2 q3 a0 a1 a2) := Hq31.out.kp K
    have Hq42 : Hid (PX w2 q4 b0 b1 b2) := Hq41.out.kp K
    have Hq52 : Hid (PX w2 q5 c0 c1 c2) := Hq51.out.kp K
    clear K HK1 Hq31 Hq41 Hq51 f0 f1 f2
    go_wp2_with fail
    have B3 : PX w2 q3 a0 a1 a2 := Hq32.out
    have B4 : PX w2 q4 b0 b1 b2 := Hq42.out
    have B5 : PX w2 q5 c0 c1 c2 := Hq52.out
    refine wp_region_inv mixed (fun listed a w => ∃ (l0 l1 l2 l3 l4 l5 l6 l7 l8 l9 l10 l11 l12 l13 : Bool) (u7 u8 u30 u31 u32 u33 u34 u35 u36 u37 u38 u39 : Value) (n7 n8 : Nat), listed = #[l0, l1, l2, l3, l4, l5, l6, l7, l8, l9, l10, l11, l12, l13] ∧ a = oAct (.agg #[.bool a0, .bool a1, .bool a2]) (.agg #[.bool b0, .bool b1, .bool b2]) (.agg #[.bool c0, .bool c1, .bool c2]) (.pointer (some ⟨q3, 0, none⟩)) (.pointer (some ⟨q4, 0, none⟩)) (.pointer (some ⟨q5, 0, none⟩)) (.agg #[.bool a0, .bool a1, .bool a2]) (.agg #[.bool b0, .bool b1, .bool b2]) (.bool false) (.bool false) undef undef undef (.bool false) (.bool false) undef undef undef undef (.bool false) (.bool false) (.agg #[.bool a0, .bool a1, .bool a2]) (.agg #[.bool a0, .bool a1, .bool a2]) (.bool true) (.bool false) (.bool false) u7 u8 u30 u31 u32 u33 u34 u35 u36 u37 u38 u39 ∧ OI3 w2 (.agg #[.bool a0, .bool a1, .bool a2]) (.agg #[.bool b0, .bool b1, .bool b2]) (.agg #[.bool c0, .bool c1, .bool c2]) (.agg #[.bool m0, .bool m1, .bool m2]) (.agg #[.bool n0, .bool n1, .bool n2]) (.agg #[.bool x0, .bool x1, .bool x2]) (fun w b t => MP3 w b t x0 x1 x2) l0 l1 l2 l3 l4 l5 l6 l7 l8 l9 l10 l11 l12 l13 u7 u8 u30 u31 u32 u33 u34 u35 u36 u37 u38 u39 n7 n8 w) ?_ ?_ ?_
    · exact ⟨false, false, false, false, false, false, false, false, false, false, false, false, false, false, undef, undef, undef, undef, undef, undef, undef, undef, undef, undef, undef, undef, 0, 0, rfl, rfl, ⟨(Kp.refl w2).drew, (fun h => by cases h), (fun h => by cases h), (fun h => by cases h), (fun h => by cases h), (fun h => by cases h), (fun h => by cases h), (fun h => by cases h), (fun h => by cases h), (fun h => by cases h), (fun h => by cases h), (fun h => by cases h), (fun h => by cases h), (fun h => by cases h), (fun h => by cases h), (fun h => by cases h)⟩⟩
    · rintro listed a v i ⟨l0, l1, l2, l3, l4, l5, l6, l7, l8, l9, l10, l11, l12, l13, u7, u8, u30, u31, u32, u33, u34, u35, u36, u37, u38, u39, n7, n8, rfl, rfl, h⟩ hi
      obtain ⟨hl, oo, ho, ha⟩ := mem_ready.1 hi
      have hlt : i < 14 := (Array.getElem?_eq_some_iff.1 ho).1
      clear hi
      rcases (by omega : i = 0 ∨ i = 1 ∨ i = 2 ∨ i = 3 ∨ i = 4 ∨ i = 5 ∨ i = 6 ∨ i = 7 ∨ i = 8 ∨ i = 9 ∨ i = 10 ∨ i = 11 ∨ i = 12 ∨ i = 13) with rfl | rfl | rfl | rfl | rfl | rfl | rfl | rfl | rfl | rfl | rfl | rfl | rfl | rfl
      · refine wpOp_of rfl rfl (wp_load_p rfl rfl (B3.kp h.kp) ?_)
        exact ⟨true, l1, l2, l3, l4, l5, l6, l7, l8, l9, l10, l11, l12, l13, u7, u8, (.agg #[.bool a0, .bool a1, .bool a2]), u31, u32, u33, u34, u35, u36, u37, u38, u39, n7, n8, rfl, rfl, ⟨h.kp, fun _ => rfl, h.h1, h.h2, h.h3, h.h4, h.h5, h.h6, h.h7, h.h8, h.h9, h.h10, h.h11, h.hne, h.m12, h.m13⟩⟩
      · refine wpOp_of rfl rfl (wp_load_p rfl rfl (B4.kp h.kp) ?_)
        exact ⟨l0, true, l2, l3, l4, l5, l6, l7, l8, l9, l10, l11, l12, l13, u7, u8, u30, (.agg #[.bool b0, .bool b1, .bool b2]), u32, u33, u34, u35, u36, u37, u38, u39, n7, n8, rfl, rfl, ⟨h.kp, h.h0, fun _ => rfl, h.h2, h.h3, h.h4, h.h5, h.h6, h.h7, h.h8, h.h9, h.h10, h.h11, h.hne, h.m12, h.m13⟩⟩
      · simp at ho
        subst ho
        have e0 : l0 = true := by simpa using ha ⟨0, .data⟩ (by simp) rfl
        have e1 : l1 = true := by simpa using ha ⟨1, .data⟩ (by simp) rfl
        refine wpOp_of rfl rfl (wp_call2 rfl Try.func9 rfl (by decide) (h.h0 e0) (h.h1 e1) (r1.out v) (fun w' KK => ?_))
        exact ⟨l0, l1, true, l3, l4, l5, l6, l7, l8, l9, l10, l11, l12, l13, u7, u8, u30, u31, (.agg #[.bool m0, .bool m1, .bool m2]), u33, u34, u35, u36, u37, u38, u39, n7, n8, rfl, rfl, ⟨h.kp.trans KK, h.h0, h.h1, fun _ => rfl, h.h3, h.h4, h.h5, h.h6, h.h7, h.h8, h.h9, fun c => ⟨(h.h10 c).1, (h.h10 c).2.1, PX.kp (h.h10 c).2.2 KK⟩, fun c => ⟨(h.h11 c).1, (h.h11 c).2.1, PX.kp (h.h11 c).2.2 KK⟩, h.hne, h.m12, h.m13⟩⟩
      · refine wpOp_of rfl rfl (wp_load_p rfl rfl (B5.kp h.kp) ?_)
        exact ⟨l0, l1, l2, true, l4, l5, l6, l7, l8, l9, l10, l11, l12, l13, u7, u8, u30, u31, u32, (.agg #[.bool c0, .bool c1, .bool c2]), u34, u35, u36, u37, u38, u39, n7, n8, rfl, rfl, ⟨h.kp, h.h0, h.h1, h.h2, fun _ => rfl, h.h4, h.h5, h.h6, h.h7, h.h8, h.h9, h.h10, h.h11, h.hne, h.m12, h.m13⟩⟩
      · simp at ho
        subst ho
        have e2 : l2 = true := by simpa using ha ⟨2, .data⟩ (by simp) rfl
        have e3 : l3 = true := by simpa using ha ⟨3, .data⟩ (by simp) rfl
        refine wpOp_of rfl rfl (wp_call2 rfl Try.func9 rfl (by decide) (h.h2 e2) (h.h3 e3) (r2.out v) (fun w' KK => ?_))
        exact ⟨l0, l1, l2, l3, true, l5, l6, l7, l8, l9, l10, l11, l12, l13, u7, u8, u30, u31, u32, u33, (.agg #[.bool x0, .bool x1, .bool x2]), u35, u36, u37, u38, u39, n7, n8, rfl, rfl, ⟨h.kp.trans KK, h.h0, h.h1, h.h2, h.h3, fun _ => rfl, h.h5, h.h6, h.h7, h.h8, h.h9, fun c => ⟨(h.h10 c).1, (h.h10 c).2.1, PX.kp (h.h10 c).2.2 KK⟩, fun c => ⟨(h.h11 c).1, (h.h11 c).2.1, PX.kp (h.h11 c).2.2 KK⟩, h.hne, h.m12, h.m13⟩⟩
      · refine wpOp_of rfl rfl (wp_load_p rfl rfl (B3.kp h.kp) ?_)
        exact ⟨l0, l1, l2, l3, l4, true, l6, l7, l8, l9, l10, l11, l12, l13, u7, u8, u30, u31, u32, u33, u34, (.agg #[.bool a0, .bool a1, .bool a2]), u36, u37, u38, u39, n7, n8, rfl, rfl, ⟨h.kp, h.h0, h.h1, h.h2, h.h3, h.h4, fun _ => rfl, h.h6, h.h7, h.h8, h.h9, h.h10, h.h11, h.hne, h.m12, h.m13⟩⟩
      · refine wpOp_of rfl rfl (wp_load_p rfl rfl (B4.kp h.kp) ?_)
        exact ⟨l0, l1, l2, l3, l4, l5, true, l7, l8, l9, l10, l11, l12, l13, u7, u8, u30, u31, u32, u33, u34, u35, (.agg #[.bool b0, .bool b1, .bool b2]), u37, u38, u39, n7, n8, rfl, rfl, ⟨h.kp, h.h0, h.h1, h.h2, h.h3, h.h4, h.h5, fun _ => rfl, h.h7, h.h8, h.h9, h.h10, h.h11, h.hne, h.m12, h.m13⟩⟩
      · refine wpOp_of rfl rfl (wp_load_p rfl rfl (B5.kp h.kp) ?_)
        exact ⟨l0, l1, l2, l3, l4, l5, l6, true, l8, l9, l10, l11, l12, l13, u7, u8, u30, u31, u32, u33, u34, u35, u36, (.agg #[.bool c0, .bool c1, .bool c2]), u38, u39, n7, n8, rfl, rfl, ⟨h.kp, h.h0, h.h1, h.h2, h.h3, h.h4, h.h5, h.h6, fun _ => rfl, h.h8, h.h9, h.h10, h.h11, h.hne, h.m12, h.m13⟩⟩
      · simp at ho
        subst ho
        have e6 : l6 = true := by simpa using ha ⟨6, .data⟩ (by simp) rfl
        have e7 : l7 = true := by simpa using ha ⟨7, .data⟩ (by simp) rfl
        refine wpOp_of rfl rfl (wp_call2 rfl Try.func9 rfl (by decide) (h.h6 e6) (h.h7 e7) (r3.out v) (fun w' KK => ?_))
        exact ⟨l0, l1, l2, l3, l4, l5, l6, l7, true, l9, l10, l11, l12, l13, u7, u8, u30, u31, u32, u33, u34, u35, u36, u37, (.agg #[.bool n0, .bool n1, .bool n2]), u39, n7, n8, rfl, rfl, ⟨h.kp.trans KK, h.h0, h.h1, h.h2, h.h3, h.h4, h.h5, h.h6, h.h7, fun _ => rfl, h.h9, fun c => ⟨(h.h10 c).1, (h.h10 c).2.1, PX.kp (h.h10 c).2.2 KK⟩, fun c => ⟨(h.h11 c).1, (h.h11 c).2.1, PX.kp (h.h11 c).2.2 KK⟩, h.hne, h.m12, h.m13⟩⟩
      · simp at ho
        subst ho
        have e5 : l5 = true := by simpa using ha ⟨5, .data⟩ (by simp) rfl
        have e8 : l8 = true := by simpa using ha ⟨8, .data⟩ (by simp) rfl
        refine wpOp_of rfl rfl (wp_call2 rfl Try.func9 rfl (by decide) (h.h5 e5) (h.h8 e8) (r4.out v) (fun w' KK => ?_))
        exact ⟨l0, l1, l2, l3, l4, l5, l6, l7, l8, true, l10, l11, l12, l13, u7, u8, u30, u31, u32, u33, u34, u35, u36, u37, u38, (.agg #[.bool x0, .bool x1, .bool x2]), n7, n8, rfl, rfl, ⟨h.kp.trans KK, h.h0, h.h1, h.h2, h.h3, h.h4, h.h5, h.h6, h.h7, h.h8, fun _ => rfl, fun c => ⟨(h.h10 c).1, (h.h10 c).2.1, PX.kp (h.h10 c).2.2 KK⟩, fun c => ⟨(h.h11 c).1, (h.h11 c).2.1, PX.kp (h.h11 c).2.2 KK⟩, h.hne, h.m12, h.m13⟩⟩
      · have e10 : l10 = false := by simpa using hl
        have e12 : l12 = false := by
          cases hc : l12
          · rfl
          · rw [h.m12 hc] at e10; cases e10
        subst e12
        have KK : Kp v (v.alloc (.cells #[.bool false, .bool false, .bool false] 23)) := (Kp.refl v).alloc _
        refine wpOp_of rfl rfl (wp_alloc_p rfl ?_)
        exact ⟨l0, l1, l2, l3, l4, l5, l6, l7, l8, l9, true, l11, false, l13, .pointer (some ⟨v.heap.size, 0, none⟩), u8, u30, u31, u32, u33, u34, u35, u36, u37, u38, u39, v.heap.size, n8, rfl, rfl, ⟨h.kp.trans KK, h.h0, h.h1, h.h2, h.h3, h.h4, h.h5, h.h6, h.h7, h.h8, h.h9, fun _ => ⟨rfl, h.kp.size, PX.made v false false false⟩, fun c => ⟨(h.h11 c).1, (h.h11 c).2.1, PX.kp (h.h11 c).2.2 KK⟩, fun _ c => Nat.ne_of_gt (PX.lt (h.h11 c).2.2), fun _ => rfl, h.m13⟩⟩
      · have e11 : l11 = false := by simpa using hl
        have e13 : l13 = false := by
          cases hc : l13
          · rfl
          · rw [h.m13 hc] at e11; cases e11
        subst e13
        have KK : Kp v (v.alloc (.cells #[.bool false, .bool false, .bool false] 23)) := (Kp.refl v).alloc _
        refine wpOp_of rfl rfl (wp_alloc_p rfl ?_)
        exact ⟨l0, l1, l2, l3, l4, l5, l6, l7, l8, l9, l10, true, l12, false, u7, .pointer (some ⟨v.heap.size, 0, none⟩), u30, u31, u32, u33, u34, u35, u36, u37, u38, u39, n7, v.heap.size, rfl, rfl, ⟨h.kp.trans KK, h.h0, h.h1, h.h2, h.h3, h.h4, h.h5, h.h6, h.h7, h.h8, h.h9, fun c => ⟨(h.h10 c).1, (h.h10 c).2.1, PX.kp (h.h10 c).2.2 KK⟩, fun _ => ⟨rfl, h.kp.size, PX.made v false false false⟩, fun c _ => Nat.ne_of_lt (PX.lt (h.h10 c).2.2), h.m12, fun _ => rfl⟩⟩
      · simp at ho
        subst ho
        have e10 : l10 = true := by simpa using ha ⟨10, .data⟩ (by simp) rfl
        have e4 : l4 = true := by simpa using ha ⟨4, .data⟩ (by simp) rfl
        refine wpOp_of rfl rfl (wp_store_p rfl (h.h10 e10).1 (h.h4 e4) (h.h10 e10).2.2 rfl ?_)
        exact ⟨l0, l1, l2, l3, l4, l5, l6, l7, l8, l9, l10, l11, true, l13, u7, u8, u30, u31, u32, u33, u34, u35, u36, u37, u38, u39, n7, n8, rfl, rfl, ⟨h.kp.putP (h.h10 e10).2.1, h.h0, h.h1, h.h2, h.h3, h.h4, h.h5, h.h6, h.h7, h.h8, h.h9, fun _ => ⟨(h.h10 e10).1, (h.h10 e10).2.1, PX.put (h.h10 e10).2.2 _ _ _⟩, fun c => ⟨(h.h11 c).1, (h.h11 c).2.1, putP_other (h.h11 c).2.2 (fun e => h.hne e10 c e.symm)⟩, h.hne, fun _ => e10, h.m13⟩⟩
      · simp at ho
        subst ho
        have e11 : l11 = true := by simpa using ha ⟨11, .data⟩ (by simp) rfl
        have e9 : l9 = true := by simpa using ha ⟨9, .data⟩ (by simp) rfl
        refine wpOp_of rfl rfl (wp_store_p rfl (h.h11 e11).1 (h.h9 e9) (h.h11 e11).2.2 rfl ?_)
        exact ⟨l0, l1, l2, l3, l4, l5, l6, l7, l8, l9, l10, l11, l12, true, u7, u8, u30, u31, u32, u33, u34, u35, u36, u37, u38, u39, n7, n8, rfl, rfl, ⟨h.kp.putP (h.h11 e11).2.1, h.h0, h.h1, h.h2, h.h3, h.h4, h.h5, h.h6, h.h7, h.h8, h.h9, fun c => ⟨(h.h10 c).1, (h.h10 c).2.1, putP_other (h.h10 c).2.2 (fun e => h.hne c e11 e)⟩, fun _ => ⟨(h.h11 e11).1, (h.h11 e11).2.1, PX.put (h.h11 e11).2.2 _ _ _⟩, h.hne, h.m12, fun _ => e11⟩⟩
    rintro listed a v ⟨l0, l1, l2, l3, l4, l5, l6, l7, l8, l9, l10, l11, l12, l13, u7, u8, u30, u31, u32, u33, u34, u35, u36, u37, u38, u39, n7, n8, rfl, rfl, h⟩ hr
    have e0 : l0 = true := by
      cases l0
      · have hm : (0 : Nat) ∈ ([] : List Nat) := by rw [← hr]; exact mem_ready.2 ⟨rfl, _, rfl, by simp⟩
        cases hm
      · rfl
    subst e0
    have e1 : l1 = true := by
      cases l1
      · have hm : (1 : Nat) ∈ ([] : List Nat) := by rw [← hr]; exact mem_ready.2 ⟨rfl, _, rfl, by simp⟩
        cases hm
      · rfl
    subst e1
    have e3 : l3 = true := by
      cases l3
      · have hm : (3 : Nat) ∈ ([] : List Nat) := by rw [← hr]; exact mem_ready.2 ⟨rfl, _, rfl, by simp⟩
        cases hm
      · rfl
    subst e3
    have e5 : l5 = true := by
      cases l5
      · have hm : (5 : Nat) ∈ ([] : List Nat) := by rw [← hr]; exact mem_ready.2 ⟨rfl, _, rfl, by simp⟩
        cases hm
      · rfl
    subst e5
    have e6 : l6 = true := by
      cases l6
      · have hm : (6 : Nat) ∈ ([] : List Nat) := by rw [← hr]; exact mem_ready.2 ⟨rfl, _, rfl, by simp⟩
        cases hm
      · rfl
    subst e6
    have e7 : l7 = true := by
      cases l7
      · have hm : (7 : Nat) ∈ ([] : List Nat) := by rw [← hr]; exact mem_ready.2 ⟨rfl, _, rfl, by simp⟩
        cases hm
      · rfl
    subst e7
    have e10 : l10 = true := by
      cases l10
      · have hm : (10 : Nat) ∈ ([] : List Nat) := by rw [← hr]; exact mem_ready.2 ⟨rfl, _, rfl, by simp⟩
        cases hm
      · rfl
    subst e10
    have e11 : l11 = true := by
      cases l11
      · have hm : (11 : Nat) ∈ ([] : List Nat) := by rw [← hr]; exact mem_ready.2 ⟨rfl, _, rfl, by simp⟩
        cases hm
      · rfl
    subst e11
    have e2 : l2 = true := by
      cases l2
      · have hm : (2 : Nat) ∈ ([] : List Nat) := by rw [← hr]; exact mem_ready.2 ⟨rfl, _, rfl, by simp⟩
        cases hm
      · rfl
    subst e2
    have e4 : l4 = true := by
      cases l4
      · have hm : (4 : Nat) ∈ ([] : List Nat) := by rw [← hr]; exact mem_ready.2 ⟨rfl, _, rfl, by simp⟩
        cases hm
      · rfl
    subst e4
    have e8 : l8 = true := by
      cases l8
      · have hm : (8 : Nat) ∈ ([] : List Nat) := by rw [← hr]; exact mem_ready.2 ⟨rfl, _, rfl, by simp⟩
        cases hm
      · rfl
    subst e8
    have e9 : l9 = true := by
      cases l9
      · have hm : (9 : Nat) ∈ ([] : List Nat) := by rw [← hr]; exact mem_ready.2 ⟨rfl, _, rfl, by simp⟩
        cases hm
      · rfl
    subst e9
    have e12 : l12 = true := by
      cases l12
      · have hm : (12 : Nat) ∈ ([] : List Nat) := by rw [← hr]; exact mem_ready.2 ⟨rfl, _, rfl, by simp⟩
        cases hm
      · rfl
    subst e12
    have e13 : l13 = true := by
      cases l13
      · have hm : (13 : Nat) ∈ ([] : List Nat) := by rw [← hr]; exact mem_ready.2 ⟨rfl, _, rfl, by simp⟩
        cases hm
      · rfl
    subst e13
    have g0 := h.h0 rfl
    subst g0
    have g1 := h.h1 rfl
    subst g1
    have g2 := h.h2 rfl
    subst g2
    have g3 := h.h3 rfl
    subst g3
    have g4 := h.h4 rfl
    subst g4
    have g5 := h.h5 rfl
    subst g5
    have g6 := h.h6 rfl
    subst g6
    have g7 := h.h7 rfl
    subst g7
    have g8 := h.h8 rfl
    subst g8
    have g9 := h.h9 rfl
    subst g9
    obtain ⟨g10, _, M7⟩ := h.h10 rfl
    obtain ⟨g11, _, M8⟩ := h.h11 rfl
    subst g10
    subst g11
    have HKv : Hid (Kp w v) := HK2.out.trans h.kp
    have Hq3v : Hid (PX v q3 a0 a1 a2) := Hq32.out.kp h.kp
    have Hq4v : Hid (PX v q4 b0 b1 b2) := Hq42.out.kp h.kp
    have Hq5v : Hid (PX v q5 c0 c1 c2) := Hq52.out.kp h.kp
    have Hn7v : Hid (PX v n7 x0 x1 x2) := M7
    have Hn8v : Hid (PX v n8 x0 x1 x2) := M8
    clear h hr M7 M8 B3 B4 B5 HK2 Hq32 Hq42 Hq52 t2 t3 t4 r2 r3 r4
    unfold oAct
    go_wp2_with fail
    go_loopg [9] 4 (fun gg v9 wr => ∃ i : Nat, v9 = .int .i64 i ∧ 1 ≤ i ∧ i ≤ 4 ∧ 4 - i ≤ gg ∧ Aside (Kp v wr))
    case atStart => exact ⟨1, rfl, by omega, by omega, by omega, Kp.refl _⟩
    case round =>
      obtain ⟨i, rfl, hi1, hi, hg, HKi⟩ := hrel
      have HKz : Hid (Kp w wr) := HKv.out.trans HKi.out
      have Hq3z : Hid (PX wr q3 a0 a1 a2) := Hq3v.out.kp HKi.out
      have Hq4z : Hid (PX wr q4 b0 b1 b2) := Hq4v.out.kp HKi.out
      have Hq5z : Hid (PX wr q5 c0 c1 c2) := Hq5v.out.kp HKi.out
      have Hn7z : Hid (PX wr n7 x0 x1 x2) := Hn7v.out.kp HKi.out
      have Hn8z : Hid (PX wr n8 x0 x1 x2) := Hn8v.out.kp HKi.out
      by_cases hlt : i < 4
      · have i1 : (i : Int) < 4 := by omega
        have c0' := KK0.out i hlt
        have c1' := KK1.out i hlt
        have c2' := KK2.out i hlt
        have c3' := KK3.out i hlt
        have hab := Hab.out i
        obtain ⟨A1, eA1⟩ : ∃ x, x = α i := ⟨_, rfl⟩
        obtain ⟨A2, eA2⟩ : ∃ x, x = β i := ⟨_, rfl⟩
        obtain ⟨A3, eA3⟩ : ∃ x, x = γ i := ⟨_, rfl⟩
        rw [← eA1, ← eA2, ← eA3] at c0'
        rw [← eA1] at c1' hab
        rw [← eA2] at c2' hab
        rw [← eA3] at c3'
        clear eA1 eA2 eA3 KK0 KK1 KK2 KK3 Hab HT HH HM v1 v2 r1 r5 st hq
        have hcs : A1 = false ∨ (A1 = true ∧ A2 = false) ∨ (A1 = true ∧ A2 = true) := by cases A1 <;> cases A2 <;> simp
        clear hab
        rcases hcs with rfl | ⟨rfl, rfl⟩ | ⟨rfl, rfl⟩
        all_goals
          simp only [Bool.false_and, Bool.true_and] at c0'
          go_wp2_with fail
          have q3c0 : ∀ p : KeptBy wr, p.v.cell? ⟨q3, 0, none⟩ = some (.bool a0) := fun p => (Hq3z.out.kp p.k).c0
          have q3c1 : ∀ p : KeptBy wr, p.v.cell? ⟨q3, 1, none⟩ = some (.bool a1) := fun p => (Hq3z.out.kp p.k).c1
          have q3c2 : ∀ p : KeptBy wr, p.v.cell? ⟨q3, 2, none⟩ = some (.bool a2) := fun p => (Hq3z.out.kp p.k).c2
          have q4c0 : ∀ p : KeptBy wr, p.v.cell? ⟨q4, 0, none⟩ = some (.bool b0) := fun p => (Hq4z.out.kp p.k).c0
          have q4c1 : ∀ p : KeptBy wr, p.v.cell? ⟨q4, 1, none⟩ = some (.bool b1) := fun p => (Hq4z.out.kp p.k).c1
          have q4c2 : ∀ p : KeptBy wr, p.v.cell? ⟨q4, 2, none⟩ = some (.bool b2) := fun p => (Hq4z.out.kp p.k).c2
          have q5c0 : ∀ p : KeptBy wr, p.v.cell? ⟨q5, 0, none⟩ = some (.bool c0) := fun p => (Hq5z.out.kp p.k).c0
          have q5c1 : ∀ p : KeptBy wr, p.v.cell? ⟨q5, 1, none⟩ = some (.bool c1) := fun p => (Hq5z.out.kp p.k).c1
          have q5c2 : ∀ p : KeptBy wr, p.v.cell? ⟨q5, 2, none⟩ = some (.bool c2) := fun p => (Hq5z.out.kp p.k).c2
          have n7c0 : ∀ p : KeptBy wr, p.v.cell? ⟨n7, 0, none⟩ = some (.bool x0) := fun p => (Hn7z.out.kp p.k).c0
          have n7c1 : ∀ p : KeptBy wr, p.v.cell? ⟨n7, 1, none⟩ = some (.bool x1) := fun p => (Hn7z.out.kp p.k).c1
          have n7c2 : ∀ p : KeptBy wr, p.v.cell? ⟨n7, 2, none⟩ = some (.bool x2) := fun p => (Hn7z.out.kp p.k).c2
          refine wp_region_kept mixed (by kernel_rfl) ?_
          repeat (go_big_quiet_step (first | exact rfl | (go_at_call 10; go_must (first | (with_reducible refine Calls.kept_of (c0'.out _)) | (with_reducible refine Calls.kept_of (c1'.out _)) | (with_reducible refine Calls.kept_of (c2'.out _)) | (with_reducible refine Calls.kept_of (c3'.out _)))) | (go_at_call 11; with_reducible refine Calls.kept_of (t1.out _))))
          refine wpQuiet_nil ?_
          intro w3 hw'
          have kq : Kp wr w3 := by obtain ⟨p, rfl⟩ := hw'; exact p.k
          clear hw' q3c0 q3c1 q3c2 q4c0 q4c1 q4c2 q5c0 q5c1 q5c2 n7c0 n7c1 n7c2
          have HKR : Hid (Kp wr w3) := kq
          have HK3 : Hid (Kp w w3) := HKz.out.trans kq
          have Hq33 : Hid (PX w3 q3 a0 a1 a2) := Hq3z.out.kp kq
          have Hq43 : Hid (PX w3 q4 b0 b1 b2) := Hq4z.out.kp kq
          have Hq53 : Hid (PX w3 q5 c0 c1 c2) := Hq5z.out.kp kq
          have Hn73 : Hid (PX w3 n7 x0 x1 x2) := Hn7z.out.kp kq
          have Hn83 : Hid (PX w3 n8 x0 x1 x2) := Hn8z.out.kp kq
          clear kq HKz Hq3z Hq4z Hq5z Hn7z Hn8z
          go_wp2_with fail
          go_roundg (4 - (i + 1))
          case measure => omega
          case rel => exact ⟨i + 1, by go_num, by omega, by omega, by omega, HKi.out.trans HKR.out⟩
      · have e4 : i = 4 := by omega
        subst e4
        go_wp2_with fail
        have hT := HT.out
        have hH := HH.out
        have hM := HM.out
        have q3c0 : ∀ p : KeptBy wr, p.v.cell? ⟨q3, 0, none⟩ = some (.bool a0) := fun p => (Hq3z.out.kp p.k).c0
        have q3c1 : ∀ p : KeptBy wr, p.v.cell? ⟨q3, 1, none⟩ = some (.bool a1) := fun p => (Hq3z.out.kp p.k).c1
        have q3c2 : ∀ p : KeptBy wr, p.v.cell? ⟨q3, 2, none⟩ = some (.bool a2) := fun p => (Hq3z.out.kp p.k).c2
        have q4c0 : ∀ p : KeptBy wr, p.v.cell? ⟨q4, 0, none⟩ = some (.bool b0) := fun p => (Hq4z.out.kp p.k).c0
        have q4c1 : ∀ p : KeptBy wr, p.v.cell? ⟨q4, 1, none⟩ = some (.bool b1) := fun p => (Hq4z.out.kp p.k).c1
        have q4c2 : ∀ p : KeptBy wr, p.v.cell? ⟨q4, 2, none⟩ = some (.bool b2) := fun p => (Hq4z.out.kp p.k).c2
        have n7c0 : ∀ p : KeptBy wr, p.v.cell? ⟨n7, 0, none⟩ = some (.bool x0) := fun p => (Hn7z.out.kp p.k).c0
        have n7c1 : ∀ p : KeptBy wr, p.v.cell? ⟨n7, 1, none⟩ = some (.bool x1) := fun p => (Hn7z.out.kp p.k).c1
        have n7c2 : ∀ p : KeptBy wr, p.v.cell? ⟨n7, 2, none⟩ = some (.bool x2) := fun p => (Hn7z.out.kp p.k).c2
        have n8c0 : ∀ p : KeptBy wr, p.v.cell? ⟨n8, 0, none⟩ = some (.bool x0) := fun p => (Hn8z.out.kp p.k).c0
        have n8c1 : ∀ p : KeptBy wr, p.v.cell? ⟨n8, 1, none⟩ = some (.bool x1) := fun p => (Hn8z.out.kp p.k).c1
        have n8c2 : ∀ p : KeptBy wr, p.v.cell? ⟨n8, 2, none⟩ = some (.bool x2) := fun p => (Hn8z.out.kp p.k).c2
        refine wp_region_kept mixed (by kernel_rfl) ?_
        repeat (go_big_quiet_step (first | exact rfl | (go_at_call 8; with_reducible refine Calls.kept_of (st.out _)) | (go_at_call 9; go_must (first | (with_reducible refine Calls.kept_of (r1.out _)) | (with_reducible refine Calls.kept_of (r5.out _)))) | (go_at_call 11; with_reducible refine Calls.kept_of (t1.out _)) | (go_at_call 15; go_must (first | (with_reducible refine Calls.kept_of (v1.out _)) | (with_reducible refine Calls.kept_of (v2.out _))))))
        refine wpQuiet_nil ?_
        intro w4 hw'
        have kq : Kp wr w4 := by obtain ⟨p, rfl⟩ := hw'; exact p.k
        clear hw' q3c0 q3c1 q3c2 q4c0 q4c1 q4c2 n7c0 n7c1 n7c2 n8c0 n8c1 n8c2
        have HK4 : Hid (Kp w w4) := HKz.out.trans kq
        have Hq34 : Hid (PX w4 q3 a0 a1 a2) := Hq3z.out.kp kq
        have Hq44 : Hid (PX w4 q4 b0 b1 b2) := Hq4z.out.kp kq
        have Hq54 : Hid (PX w4 q5 c0 c1 c2) := Hq5z.out.kp kq
        have Hn74 : Hid (PX w4 n7 x0 x1 x2) := Hn7z.out.kp kq
        have Hn84 : Hid (PX w4 n8 x0 x1 x2) := Hn8z.out.kp kq
        clear kq HKz Hq3z Hq4z Hq5z Hn7z Hn8z
        clear hT hH hM
        go_wp2_with fail
        go_ret
        exact ⟨rfl, HK4.out⟩
  · go_enter Try.func6, Try.ntmps6
    go_wp2_with fail
    with_reducible refine (t1.out _).mono ?_
    rintro e w1 ⟨rfl, K⟩
    have HK1 : Hid (Kp w w1) := ((((Kp.refl w).alloc _).alloc _).alloc _).trans K
    obtain ⟨q3, hq3⟩ : ∃ q3, q3 = w.heap.size := ⟨_, rfl⟩
    have Hq31 : Hid (PX w1 q3 a0 a1 a2) := by rw [hq3]; exact ((PX.made w a0 a1 a2).kp (((Kp.refl _).alloc _).alloc _)).kp K
    obtain ⟨q4, hq4⟩ : ∃ q4, q4 = w.heap.size + 1 := ⟨_, rfl⟩
    have Hq41 : Hid (PX w1 q4 b0 b1 b2) := by
      show PX w1 q4 b0 b1 b2
      have B := ((PX.made (w.alloc (.cells #[.bool a0, .bool a1, .bool a2] 23)) b0 b1 b2).kp ((Kp.refl _).alloc _)).kp K
      rw [hq4]
      simpa using B
    obtain ⟨q5, hq5⟩ : ∃ q5, q5 = w.heap.size + 2 := ⟨_, rfl⟩
    have Hq51 : Hid (PX w1 q5 c0 c1 c2) := by
      show PX w1 q5 c0 c1 c2
      have B := ((PX.made ((w.alloc (.cells #[.bool a0, .bool a1, .bool a2] 23)).alloc (.cells #[.bool b0, .bool b1, .bool b2] 23)) c0 c1 c2).kp (Kp.refl _)).kp K
      rw [hq5]
      simpa using B
    (try rw [← hq5])
    (try rw [← hq4])
    (try rw [← hq3])
    clear K hq3 hq4 hq5
    have f0 := Hq41.out.c0
    have f1 := Hq41.out.c1
    have f2 := Hq41.out.c2
    have g0 := Hq51.out.c0
    have g1 := Hq51.out.c1
    have g2 := Hq51.out.c2
    go_wp2_with fail
    with_reducible refine (t2.out _).mono ?_
    rintro e w2 ⟨rfl, K⟩
    have HK2 : Hid (Kp w w2) := HK1.out.trans K
    have Hq32 : Hid (PX w2 q3 a0 a1 a2) := Hq31.out.kp K
    have Hq42 : Hid (PX w2 q4 b0 b1 b2) := Hq41.out.kp K
    have Hq52 : Hid (PX w2 q5 c0 c1 c2) := Hq51.out.kp K
    clear K HK1 Hq31 Hq41 Hq51 f0 f1 f2 g0 g1 g2
    have f0 := Hq32.out.c0
    have f1 := Hq32.out.c1
    have f2 := Hq32.out.c2
    go_wp2_with fail
    with_reducible refine (t4.out _).mono ?_
    rintro e w3 ⟨rfl, K⟩
    have HK3 : Hid (Kp w w3) := HK2.out.trans K
    have Hq33 : Hid (PX w3 q3 a0 a1 a2) := Hq32.out.kp K
    have Hq43 : Hid (PX w3 q4 b0 b1 b2) := Hq42.out.kp K
    have Hq53 : Hid (PX w3 q5 c0 c1 c2) := Hq52.out.kp K
    clear K HK2 Hq32 Hq42 Hq52 f0 f1 f2
    go_wp2_with fail
    have B3 : PX w3 q3 a0 a1 a2 := Hq33.out
    have B4 : PX w3 q4 b0 b1 b2 := Hq43.out
    have B5 : PX w3 q5 c0 c1 c2 := Hq53.out
    refine wp_region_inv mixed (fun listed a w => ∃ (l0 l1 l2 l3 l4 l5 l6 l7 l8 l9 l10 l11 l12 l13 : Bool) (u7 u8 u30 u31 u32 u33 u34 u35 u36 u37 u38 u39 : Value) (n7 n8 : Nat), listed = #[l0, l1, l2, l3, l4, l5, l6, l7, l8, l9, l10, l11, l12, l13] ∧ a = oAct (.agg #[.bool a0, .bool a1, .bool a2]) (.agg #[.bool b0, .bool b1, .bool b2]) (.agg #[.bool c0, .bool c1, .bool c2]) (.pointer (some ⟨q3, 0, none⟩)) (.pointer (some ⟨q4, 0, none⟩)) (.pointer (some ⟨q5, 0, none⟩)) (.agg #[.bool a0, .bool a1, .bool a2]) (.agg #[.bool b0, .bool b1, .bool b2]) (.bool true) (.bool true) (.agg #[.bool b0, .bool b1, .bool b2]) (.agg #[.bool c0, .bool c1, .bool c2]) (.bool false) (.bool false) (.bool false) undef undef undef undef (.bool false) (.bool false) (.agg #[.bool a0, .bool a1, .bool a2]) (.agg #[.bool a0, .bool a1, .bool a2]) (.bool true) (.bool false) (.bool false) u7 u8 u30 u31 u32 u33 u34 u35 u36 u37 u38 u39 ∧ OI3 w3 (.agg #[.bool a0, .bool a1, .bool a2]) (.agg #[.bool b0, .bool b1, .bool b2]) (.agg #[.bool c0, .bool c1, .bool c2]) (.agg #[.bool m0, .bool m1, .bool m2]) (.agg #[.bool n0, .bool n1, .bool n2]) (.agg #[.bool x0, .bool x1, .bool x2]) (fun w b t => MP3 w b t x0 x1 x2) l0 l1 l2 l3 l4 l5 l6 l7 l8 l9 l10 l11 l12 l13 u7 u8 u30 u31 u32 u33 u34 u35 u36 u37 u38 u39 n7 n8 w) ?_ ?_ ?_
    · exact ⟨false, false, false, false, false, false, false, false, false, false, false, false, false, false, undef, undef, undef, undef, undef, undef, undef, undef, undef, undef, undef, undef, 0, 0, rfl, rfl, ⟨(Kp.refl w3).drew, (fun h => by cases h), (fun h => by cases h), (fun h => by cases h), (fun h => by cases h), (fun h => by cases h), (fun h => by cases h), (fun h => by cases h), (fun h => by cases h), (fun h => by cases h), (fun h => by cases h), (fun h => by cases h), (fun h => by cases h), (fun h => by cases h), (fun h => by cases h), (fun h => by cases h)⟩⟩
    · rintro listed a v i ⟨l0, l1, l2, l3, l4, l5, l6, l7, l8, l9, l10, l11, l12, l13, u7, u8, u30, u31, u32, u33, u34, u35, u36, u37, u38, u39, n7, n8, rfl, rfl, h⟩ hi
      obtain ⟨hl, oo, ho, ha⟩ := mem_ready.1 hi
      have hlt : i < 14 := (Array.getElem?_eq_some_iff.1 ho).1
      clear hi
      rcases (by omega : i = 0 ∨ i = 1 ∨ i = 2 ∨ i = 3 ∨ i = 4 ∨ i = 5 ∨ i = 6 ∨ i = 7 ∨ i = 8 ∨ i = 9 ∨ i = 10 ∨ i = 11 ∨ i = 12 ∨ i = 13) with rfl | rfl | rfl | rfl | rfl | rfl | rfl | rfl | rfl | rfl | rfl | rfl | rfl | rfl
      · refine wpOp_of rfl rfl (wp_load_p rfl rfl (B3.kp h.kp) ?_)
        exact ⟨true, l1, l2, l3, l4, l5, l6, l7, l8, l9, l10, l11, l12, l13, u7, u8, (.agg #[.bool a0, .bool a1, .bool a2]), u31, u32, u33, u34, u35, u36, u37, u38, u39, n7, n8, rfl, rfl, ⟨h.kp, fun _ => rfl, h.h1, h.h2, h.h3, h.h4, h.h5, h.h6, h.h7, h.h8, h.h9, h.h10, h.h11, h.hne, h.m12, h.m13⟩⟩
      · refine wpOp_of rfl rfl (wp_load_p rfl rfl (B4.kp h.kp) ?_)
        exact ⟨l0, true, l2, l3, l4, l5, l6, l7, l8, l9, l10, l11, l12, l13, u7, u8, u30, (.agg #[.bool b0, .bool b1, .bool b2]), u32, u33, u34, u35, u36, u37, u38, u39, n7, n8, rfl, rfl, ⟨h.kp, h.h0, fun _ => rfl, h.h2, h.h3, h.h4, h.h5, h.h6, h.h7, h.h8, h.h9, h.h10, h.h11, h.hne, h.m12, h.m13⟩⟩
      · simp at ho
        subst ho
        have e0 : l0 = true := by simpa using ha ⟨0, .data⟩ (by simp) rfl
        have e1 : l1 = true := by simpa using ha ⟨1, .data⟩ (by simp) rfl
        refine wpOp_of rfl rfl (wp_call2 rfl Try.func9 rfl (by decide) (h.h0 e0) (h.h1 e1) (r1.out v) (fun w' KK => ?_))
        exact ⟨l0, l1, true, l3, l4, l5, l6, l7, l8, l9, l10, l11, l12, l13, u7, u8, u30, u31, (.agg #[.bool m0, .bool m1, .bool m2]), u33, u34, u35, u36, u37, u38, u39, n7, n8, rfl, rfl, ⟨h.kp.trans KK, h.h0, h.h1, fun _ => rfl, h.h3, h.h4, h.h5, h.h6, h.h7, h.h8, h.h9, fun c => ⟨(h.h10 c).1, (h.h10 c).2.1, PX.kp (h.h10 c).2.2 KK⟩, fun c => ⟨(h.h11 c).1, (h.h11 c).2.1, PX.kp (h.h11 c).2.2 KK⟩, h.hne, h.m12, h.m13⟩⟩
      · refine wpOp_of rfl rfl (wp_load_p rfl rfl (B5.kp h.kp) ?_)
        exact ⟨l0, l1, l2, true, l4, l5, l6, l7, l8, l9, l10, l11, l12, l13, u7, u8, u30, u31, u32, (.agg #[.bool c0, .bool c1, .bool c2]), u34, u35, u36, u37, u38, u39, n7, n8, rfl, rfl, ⟨h.kp, h.h0, h.h1, h.h2, fun _ => rfl, h.h4, h.h5, h.h6, h.h7, h.h8, h.h9, h.h10, h.h11, h.hne, h.m12, h.m13⟩⟩
      · simp at ho
        subst ho
        have e2 : l2 = true := by simpa using ha ⟨2, .data⟩ (by simp) rfl
        have e3 : l3 = true := by simpa using ha ⟨3, .data⟩ (by simp) rfl
        refine wpOp_of rfl rfl (wp_call2 rfl Try.func9 rfl (by decide) (h.h2 e2) (h.h3 e3) (r2.out v) (fun w' KK => ?_))
        exact ⟨l0, l1, l2, l3, true, l5, l6, l7, l8, l9, l10, l11, l12, l13, u7, u8, u30, u31, u32, u33, (.agg #[.bool x0, .bool x1, .bool x2]), u35, u36, u37, u38, u39, n7, n8, rfl, rfl, ⟨h.kp.trans KK, h.h0, h.h1, h.h2, h.h3, fun _ => rfl, h.h5, h.h6, h.h7, h.h8, h.h9, fun c => ⟨(h.h10 c).1, (h.h10 c).2.1, PX.kp (h.h10 c).2.2 KK⟩, fun c => ⟨(h.h11 c).1, (h.h11 c).2.1, PX.kp (h.h11 c).2.2 KK⟩, h.hne, h.m12, h.m13⟩⟩
      · refine wpOp_of rfl rfl (wp_load_p rfl rfl (B3.kp h.kp) ?_)
        exact ⟨l0, l1, l2, l3, l4, true, l6, l7, l8, l9, l10, l11, l12, l13, u7, u8, u30, u31, u32, u33, u34, (.agg #[.bool a0, .bool a1, .bool a2]), u36, u37, u38, u39, n7, n8, rfl, rfl, ⟨h.kp, h.h0, h.h1, h.h2, h.h3, h.h4, fun _ => rfl, h.h6, h.h7, h.h8, h.h9, h.h10, h.h11, h.hne, h.m12, h.m13⟩⟩
      · refine wpOp_of rfl rfl (wp_load_p rfl rfl (B4.kp h.kp) ?_)
        exact ⟨l0, l1, l2, l3, l4, l5, true, l7, l8, l9, l10, l11, l12, l13, u7, u8, u30, u31, u32, u33, u34, u35, (.agg #[.bool b0, .bool b1, .bool b2]), u37, u38, u39, n7, n8, rfl, rfl, ⟨h.kp, h.h0, h.h1, h.h2, h.h3, h.h4, h.h5, fun _ => rfl, h.h7, h.h8, h.h9, h.h10, h.h11, h.hne, h.m12, h.m13⟩⟩
      · refine wpOp_of rfl rfl (wp_load_p rfl rfl (B5.kp h.kp) ?_)
        exact ⟨l0, l1, l2, l3, l4, l5, l6, true, l8, l9, l10, l11, l12, l13, u7, u8, u30, u31, u32, u33, u34, u35, u36, (.agg #[.bool c0, .bool c1, .bool c2]), u38, u39, n7, n8, rfl, rfl, ⟨h.kp, h.h0, h.h1, h.h2, h.h3, h.h4, h.h5, h.h6, fun _ => rfl, h.h8, h.h9, h.h10, h.h11, h.hne, h.m12, h.m13⟩⟩
      · simp at ho
        subst ho
        have e6 : l6 = true := by simpa using ha ⟨6, .data⟩ (by simp) rfl
        have e7 : l7 = true := by simpa using ha ⟨7, .data⟩ (by simp) rfl
        refine wpOp_of rfl rfl (wp_call2 rfl Try.func9 rfl (by decide) (h.h6 e6) (h.h7 e7) (r3.out v) (fun w' KK => ?_))
        exact ⟨l0, l1, l2, l3, l4, l5, l6, l7, true, l9, l10, l11, l12, l13, u7, u8, u30, u31, u32, u33, u34, u35, u36, u37, (.agg #[.bool n0, .bool n1, .bool n2]), u39, n7, n8, rfl, rfl, ⟨h.kp.trans KK, h.h0, h.h1, h.h2, h.h3, h.h4, h.h5, h.h6, h.h7, fun _ => rfl, h.h9, fun c => ⟨(h.h10 c).1, (h.h10 c).2.1, PX.kp (h.h10 c).2.2 KK⟩, fun c => ⟨(h.h11 c).1, (h.h11 c).2.1, PX.kp (h.h11 c).2.2 KK⟩, h.hne, h.m12, h.m13⟩⟩
      · simp at ho
        subst ho
        have e5 : l5 = true := by simpa using ha ⟨5, .data⟩ (by simp) rfl
        have e8 : l8 = true := by simpa using ha ⟨8, .data⟩ (by simp) rfl
        refine wpOp_of rfl rfl (wp_call2 rfl Try.func9 rfl (by decide) (h.h5 e5) (h.h8 e8) (r4.out v) (fun w' KK => ?_))
        exact ⟨l0, l1, l2, l3, l4, l5, l6, l7, l8, true, l10, l11, l12, l13, u7, u8, u30, u31, u32, u33, u34, u35, u36, u37, u38, (.agg #[.bool x0, .bool x1, .bool x2]), n7, n8, rfl, rfl, ⟨h.kp.trans KK, h.h0, h.h1, h.h2, h.h3, h.h4, h.h5, h.h6, h.h7, h.h8, fun _ => rfl, fun c => ⟨(h.h10 c).1, (h.h10 c).2.1, PX.kp (h.h10 c).2.2 KK⟩, fun c => ⟨(h.h11 c).1, (h.h11 c).2.1, PX.kp (h.h11 c).2.2 KK⟩, h.hne, h.m12, h.m13⟩⟩
      · have e10 : l10 = false := by simpa using hl
        have e12 : l12 = false := by
          cases hc : l12
          · rfl
          · rw [h.m12 hc] at e10; cases e10
        subst e12
        have KK : Kp v (v.alloc (.cells #[.bool false, .bool false, .bool false] 23)) := (Kp.refl v).alloc _
        refine wpOp_of rfl rfl (wp_alloc_p rfl ?_)
        exact ⟨l0, l1, l2, l3, l4, l5, l6, l7, l8, l9, true, l11, false, l13, .pointer (some ⟨v.heap.size, 0, none⟩), u8, u30, u31, u32, u33, u34, u35, u36, u37, u38, u39, v.heap.size, n8, rfl, rfl, ⟨h.kp.trans KK, h.h0, h.h1, h.h2, h.h3, h.h4, h.h5, h.h6, h.h7, h.h8, h.h9, fun _ => ⟨rfl, h.kp.size, PX.made v false false false⟩, fun c => ⟨(h.h11 c).1, (h.h11 c).2.1, PX.kp (h.h11 c).2.2 KK⟩, fun _ c => Nat.ne_of_gt (PX.lt (h.h11 c).2.2), fun _ => rfl, h.m13⟩⟩
      · have e11 : l11 = false := by simpa using hl
        have e13 : l13 = false := by
          cases hc : l13
          · rfl
          · rw [h.m13 hc] at e11; cases e11
        subst e13
        have KK : Kp v (v.alloc (.cells #[.bool false, .bool false, .bool false] 23)) := (Kp.refl v).alloc _
        refine wpOp_of rfl rfl (wp_alloc_p rfl ?_)
        exact ⟨l0, l1, l2, l3, l4, l5, l6, l7, l8, l9, l10, true, l12, false, u7, .pointer (some ⟨v.heap.size, 0, none⟩), u30, u31, u32, u33, u34, u35, u36, u37, u38, u39, n7, v.heap.size, rfl, rfl, ⟨h.kp.trans KK, h.h0, h.h1, h.h2, h.h3, h.h4, h.h5, h.h6, h.h7, h.h8, h.h9, fun c => ⟨(h.h10 c).1, (h.h10 c).2.1, PX.kp (h.h10 c).2.2 KK⟩, fun _ => ⟨rfl, h.kp.size, PX.made v false false false⟩, fun c _ => Nat.ne_of_lt (PX.lt (h.h10 c).2.2), h.m12, fun _ => rfl⟩⟩
      · simp at ho
        subst ho
        have e10 : l10 = true := by simpa using ha ⟨10, .data⟩ (by simp) rfl
        have e4 : l4 = true := by simpa using ha ⟨4, .data⟩ (by simp) rfl
        refine wpOp_of rfl rfl (wp_store_p rfl (h.h10 e10).1 (h.h4 e4) (h.h10 e10).2.2 rfl ?_)
        exact ⟨l0, l1, l2, l3, l4, l5, l6, l7, l8, l9, l10, l11, true, l13, u7, u8, u30, u31, u32, u33, u34, u35, u36, u37, u38, u39, n7, n8, rfl, rfl, ⟨h.kp.putP (h.h10 e10).2.1, h.h0, h.h1, h.h2, h.h3, h.h4, h.h5, h.h6, h.h7, h.h8, h.h9, fun _ => ⟨(h.h10 e10).1, (h.h10 e10).2.1, PX.put (h.h10 e10).2.2 _ _ _⟩, fun c => ⟨(h.h11 c).1, (h.h11 c).2.1, putP_other (h.h11 c).2.2 (fun e => h.hne e10 c e.symm)⟩, h.hne, fun _ => e10, h.m13⟩⟩
      · simp at ho
        subst ho
        have e11 : l11 = true := by simpa using ha ⟨11, .data⟩ (by simp) rfl
        have e9 : l9 = true := by simpa using ha ⟨9, .data⟩ (by simp) rfl
        refine wpOp_of rfl rfl (wp_store_p rfl (h.h11 e11).1 (h.h9 e9) (h.h11 e11).2.2 rfl ?_)
        exact ⟨l0, l1, l2, l3, l4, l5, l6, l7, l8, l9, l10, l11, l12, true, u7, u8, u30, u31, u32, u33, u34, u35, u36, u37, u38, u39, n7, n8, rfl, rfl, ⟨h.kp.putP (h.h11 e11).2.1, h.h0, h.h1, h.h2, h.h3, h.h4, h.h5, h.h6, h.h7, h.h8, h.h9, fun c => ⟨(h.h10 c).1, (h.h10 c).2.1, putP_other (h.h10 c).2.2 (fun e => h.hne c e11 e)⟩, fun _ => ⟨(h.h11 e11).1, (h.h11 e11).2.1, PX.put (h.h11 e11).2.2 _ _ _⟩, h.hne, h.m12, fun _ => e11⟩⟩
    rintro listed a v ⟨l0, l1, l2, l3, l4, l5, l6, l7, l8, l9, l10, l11, l12, l13, u7, u8, u30, u31, u32, u33, u34, u35, u36, u37, u38, u39, n7, n8, rfl, rfl, h⟩ hr
    have e0 : l0 = true := by
      cases l0
      · have hm : (0 : Nat) ∈ ([] : List Nat) := by rw [← hr]; exact mem_ready.2 ⟨rfl, _, rfl, by simp⟩
        cases hm
      · rfl
    subst e0
    have e1 : l1 = true := by
      cases l1
      · have hm : (1 : Nat) ∈ ([] : List Nat) := by rw [← hr]; exact mem_ready.2 ⟨rfl, _, rfl, by simp⟩
        cases hm
      · rfl
    subst e1
    have e3 : l3 = true := by
      cases l3
      · have hm : (3 : Nat) ∈ ([] : List Nat) := by rw [← hr]; exact mem_ready.2 ⟨rfl, _, rfl, by simp⟩
        cases hm
      · rfl
    subst e3
    have e5 : l5 = true := by
      cases l5
      · have hm : (5 : Nat) ∈ ([] : List Nat) := by rw [← hr]; exact mem_ready.2 ⟨rfl, _, rfl, by simp⟩
        cases hm
      · rfl
    subst e5
    have e6 : l6 = true := by
      cases l6
      · have hm : (6 : Nat) ∈ ([] : List Nat) := by rw [← hr]; exact mem_ready.2 ⟨rfl, _, rfl, by simp⟩
        cases hm
      · rfl
    subst e6
    have e7 : l7 = true := by
      cases l7
      · have hm : (7 : Nat) ∈ ([] : List Nat) := by rw [← hr]; exact mem_ready.2 ⟨rfl, _, rfl, by simp⟩
        cases hm
      · rfl
    subst e7
    have e10 : l10 = true := by
      cases l10
      · have hm : (10 : Nat) ∈ ([] : List Nat) := by rw [← hr]; exact mem_ready.2 ⟨rfl, _, rfl, by simp⟩
        cases hm
      · rfl
    subst e10
    have e11 : l11 = true := by
      cases l11
      · have hm : (11 : Nat) ∈ ([] : List Nat) := by rw [← hr]; exact mem_ready.2 ⟨rfl, _, rfl, by simp⟩
        cases hm
      · rfl
    subst e11
    have e2 : l2 = true := by
      cases l2
      · have hm : (2 : Nat) ∈ ([] : List Nat) := by rw [← hr]; exact mem_ready.2 ⟨rfl, _, rfl, by simp⟩
        cases hm
      · rfl
    subst e2
    have e4 : l4 = true := by
      cases l4
      · have hm : (4 : Nat) ∈ ([] : List Nat) := by rw [← hr]; exact mem_ready.2 ⟨rfl, _, rfl, by simp⟩
        cases hm
      · rfl
    subst e4
    have e8 : l8 = true := by
      cases l8
      · have hm : (8 : Nat) ∈ ([] : List Nat) := by rw [← hr]; exact mem_ready.2 ⟨rfl, _, rfl, by simp⟩
        cases hm
      · rfl
    subst e8
    have e9 : l9 = true := by
      cases l9
      · have hm : (9 : Nat) ∈ ([] : List Nat) := by rw [← hr]; exact mem_ready.2 ⟨rfl, _, rfl, by simp⟩
        cases hm
      · rfl
    subst e9
    have e12 : l12 = true := by
      cases l12
      · have hm : (12 : Nat) ∈ ([] : List Nat) := by rw [← hr]; exact mem_ready.2 ⟨rfl, _, rfl, by simp⟩
        cases hm
      · rfl
    subst e12
    have e13 : l13 = true := by
      cases l13
      · have hm : (13 : Nat) ∈ ([] : List Nat) := by rw [← hr]; exact mem_ready.2 ⟨rfl, _, rfl, by simp⟩
        cases hm
      · rfl
    subst e13
    have g0 := h.h0 rfl
    subst g0
    have g1 := h.h1 rfl
    subst g1
    have g2 := h.h2 rfl
    subst g2
    have g3 := h.h3 rfl
    subst g3
    have g4 := h.h4 rfl
    subst g4
    have g5 := h.h5 rfl
    subst g5
    have g6 := h.h6 rfl
    subst g6
    have g7 := h.h7 rfl
    subst g7
    have g8 := h.h8 rfl
    subst g8
    have g9 := h.h9 rfl
    subst g9
    obtain ⟨g10, _, M7⟩ := h.h10 rfl
    obtain ⟨g11, _, M8⟩ := h.h11 rfl
    subst g10
    subst g11
    have HKv : Hid (Kp w v) := HK3.out.trans h.kp
    have Hq3v : Hid (PX v q3 a0 a1 a2) := Hq33.out.kp h.kp
    have Hq4v : Hid (PX v q4 b0 b1 b2) := Hq43.out.kp h.kp
    have Hq5v : Hid (PX v q5 c0 c1 c2) := Hq53.out.kp h.kp
    have Hn7v : Hid (PX v n7 x0 x1 x2) := M7
    have Hn8v : Hid (PX v n8 x0 x1 x2) := M8
    clear h hr M7 M8 B3 B4 B5 HK3 Hq33 Hq43 Hq53 t2 t3 t4 r2 r3 r4
    unfold oAct
    go_wp2_with fail
    go_loopg [9] 4 (fun gg v9 wr => ∃ i : Nat, v9 = .int .i64 i ∧ 1 ≤ i ∧ i ≤ 4 ∧ 4 - i ≤ gg ∧ Aside (Kp v wr))
    case atStart => exact ⟨1, rfl, by omega, by omega, by omega, Kp.refl _⟩
    case round =>
      obtain ⟨i, rfl, hi1, hi, hg, HKi⟩ := hrel
      have HKz : Hid (Kp w wr) := HKv.out.trans HKi.out
      have Hq3z : Hid (PX wr q3 a0 a1 a2) := Hq3v.out.kp HKi.out
      have Hq4z : Hid (PX wr q4 b0 b1 b2) := Hq4v.out.kp HKi.out
      have Hq5z : Hid (PX wr q5 c0 c1 c2) := Hq5v.out.kp HKi.out
      have Hn7z : Hid (PX wr n7 x0 x1 x2) := Hn7v.out.kp HKi.out
      have Hn8z : Hid (PX wr n8 x0 x1 x2) := Hn8v.out.kp HKi.out
      by_cases hlt : i < 4
      · have i1 : (i : Int) < 4 := by omega
        have c0' := KK0.out i hlt
        have c1' := KK1.out i hlt
        have c2' := KK2.out i hlt
        have c3' := KK3.out i hlt
        have hab := Hab.out i
        obtain ⟨A1, eA1⟩ : ∃ x, x = α i := ⟨_, rfl⟩
        obtain ⟨A2, eA2⟩ : ∃ x, x = β i := ⟨_, rfl⟩
        obtain ⟨A3, eA3⟩ : ∃ x, x = γ i := ⟨_, rfl⟩
        rw [← eA1, ← eA2, ← eA3] at c0'
        rw [← eA1] at c1' hab
        rw [← eA2] at c2' hab
        rw [← eA3] at c3'
        clear eA1 eA2 eA3 KK0 KK1 KK2 KK3 Hab HT HH HM v1 v2 r1 r5 st hq
        have hcs : A1 = false ∨ (A1 = true ∧ A2 = false) ∨ (A1 = true ∧ A2 = true) := by cases A1 <;> cases A2 <;> simp
        rcases hcs with rfl | ⟨rfl, rfl⟩ | ⟨rfl, rfl⟩
        rotate_left
        · exact absurd (hab (by simp) (by simp)) (by decide)
        all_goals
          simp only [Bool.false_and, Bool.true_and] at c0'
          go_wp2_with fail
          have q3c0 : ∀ p : KeptBy wr, p.v.cell? ⟨q3, 0, none⟩ = some (.bool a0) := fun p => (Hq3z.out.kp p.k).c0
          have q3c1 : ∀ p : KeptBy wr, p.v.cell? ⟨q3, 1, none⟩ = some (.bool a1) := fun p => (Hq3z.out.kp p.k).c1
          have q3c2 : ∀ p : KeptBy wr, p.v.cell? ⟨q3, 2, none⟩ = some (.bool a2) := fun p => (Hq3z.out.kp p.k).c2
          have q4c0 : ∀ p : KeptBy wr, p.v.cell? ⟨q4, 0, none⟩ = some (.bool b0) := fun p => (Hq4z.out.kp p.k).c0
          have q4c1 : ∀ p : KeptBy wr, p.v.cell? ⟨q4, 1, none⟩ = some (.bool b1) := fun p => (Hq4z.out.kp p.k).c1
          have q4c2 : ∀ p : KeptBy wr, p.v.cell? ⟨q4, 2, none⟩ = some (.bool b2) := fun p => (Hq4z.out.kp p.k).c2
          have q5c0 : ∀ p : KeptBy wr, p.v.cell? ⟨q5, 0, none⟩ = some (.bool c0) := fun p => (Hq5z.out.kp p.k).c0
          have q5c1 : ∀ p : KeptBy wr, p.v.cell? ⟨q5, 1, none⟩ = some (.bool c1) := fun p => (Hq5z.out.kp p.k).c1
          have q5c2 : ∀ p : KeptBy wr, p.v.cell? ⟨q5, 2, none⟩ = some (.bool c2) := fun p => (Hq5z.out.kp p.k).c2
          have n7c0 : ∀ p : KeptBy wr, p.v.cell? ⟨n7, 0, none⟩ = some (.bool x0) := fun p => (Hn7z.out.kp p.k).c0
          have n7c1 : ∀ p : KeptBy wr, p.v.cell? ⟨n7, 1, none⟩ = some (.bool x1) := fun p => (Hn7z.out.kp p.k).c1
          have n7c2 : ∀ p : KeptBy wr, p.v.cell? ⟨n7, 2, none⟩ = some (.bool x2) := fun p => (Hn7z.out.kp p.k).c2
          refine wp_region_kept mixed (by kernel_rfl) ?_
          repeat (go_big_quiet_step (first | exact rfl | (go_at_call 10; go_must (first | (with_reducible refine Calls.kept_of (c0'.out _)) | (with_reducible refine Calls.kept_of (c1'.out _)) | (with_reducible refine Calls.kept_of (c2'.out _)) | (with_reducible refine Calls.kept_of (c3'.out _)))) | (go_at_call 11; with_reducible refine Calls.kept_of (t1.out _))))
          refine wpQuiet_nil ?_
          intro w4 hw'
          have kq : Kp wr w4 := by obtain ⟨p, rfl⟩ := hw'; exact p.k
          clear hw' q3c0 q3c1 q3c2 q4c0 q4c1 q4c2 q5c0 q5c1 q5c2 n7c0 n7c1 n7c2
          have HKR : Hid (Kp wr w4) := kq
          have HK4 : Hid (Kp w w4) := HKz.out.trans kq
          have Hq34 : Hid (PX w4 q3 a0 a1 a2) := Hq3z.out.kp kq
          have Hq44 : Hid (PX w4 q4 b0 b1 b2) := Hq4z.out.kp kq
          have Hq54 : Hid (PX w4 q5 c0 c1 c2) := Hq5z.out.kp kq
          have Hn74 : Hid (PX w4 n7 x0 x1 x2) := Hn7z.out.kp kq
          have Hn84 : Hid (PX w4 n8 x0 x1 x2) := Hn8z.out.kp kq
          clear kq HKz Hq3z Hq4z Hq5z Hn7z Hn8z
          go_wp2_with fail
          go_roundg (4 - (i + 1))
          case measure => omega
          case rel => exact ⟨i + 1, by go_num, by omega, by omega, by omega, HKi.out.trans HKR.out⟩
      · have e4 : i = 4 := by omega
        subst e4
        go_wp2_with fail
        have hT := HT.out
        have hH := HH.out
        have hM := HM.out
        have q3c0 : ∀ p : KeptBy wr, p.v.cell? ⟨q3, 0, none⟩ = some (.bool a0) := fun p => (Hq3z.out.kp p.k).c0
        have q3c1 : ∀ p : KeptBy wr, p.v.cell? ⟨q3, 1, none⟩ = some (.bool a1) := fun p => (Hq3z.out.kp p.k).c1
        have q3c2 : ∀ p : KeptBy wr, p.v.cell? ⟨q3, 2, none⟩ = some (.bool a2) := fun p => (Hq3z.out.kp p.k).c2
        have q4c0 : ∀ p : KeptBy wr, p.v.cell? ⟨q4, 0, none⟩ = some (.bool b0) := fun p => (Hq4z.out.kp p.k).c0
        have q4c1 : ∀ p : KeptBy wr, p.v.cell? ⟨q4, 1, none⟩ = some (.bool b1) := fun p => (Hq4z.out.kp p.k).c1
        have q4c2 : ∀ p : KeptBy wr, p.v.cell? ⟨q4, 2, none⟩ = some (.bool b2) := fun p => (Hq4z.out.kp p.k).c2
        have n7c0 : ∀ p : KeptBy wr, p.v.cell? ⟨n7, 0, none⟩ = some (.bool x0) := fun p => (Hn7z.out.kp p.k).c0
        have n7c1 : ∀ p : KeptBy wr, p.v.cell? ⟨n7, 1, none⟩ = some (.bool x1) := fun p => (Hn7z.out.kp p.k).c1
        have n7c2 : ∀ p : KeptBy wr, p.v.cell? ⟨n7, 2, none⟩ = some (.bool x2) := fun p => (Hn7z.out.kp p.k).c2
        have n8c0 : ∀ p : KeptBy wr, p.v.cell? ⟨n8, 0, none⟩ = some (.bool x0) := fun p => (Hn8z.out.kp p.k).c0
        have n8c1 : ∀ p : KeptBy wr, p.v.cell? ⟨n8, 1, none⟩ = some (.bool x1) := fun p => (Hn8z.out.kp p.k).c1
        have n8c2 : ∀ p : KeptBy wr, p.v.cell? ⟨n8, 2, none⟩ = some (.bool x2) := fun p => (Hn8z.out.kp p.k).c2
        refine wp_region_kept mixed (by kernel_rfl) ?_
        repeat (go_big_quiet_step (first | exact rfl | (go_at_call 8; with_reducible refine Calls.kept_of (st.out _)) | (go_at_call 9; go_must (first | (with_reducible refine Calls.kept_of (r1.out _)) | (with_reducible refine Calls.kept_of (r5.out _)))) | (go_at_call 11; with_reducible refine Calls.kept_of (t1.out _)) | (go_at_call 15; go_must (first | (with_reducible refine Calls.kept_of (v1.out _)) | (with_reducible refine Calls.kept_of (v2.out _))))))
        refine wpQuiet_nil ?_
        intro w5 hw'
        have kq : Kp wr w5 := by obtain ⟨p, rfl⟩ := hw'; exact p.k
        clear hw' q3c0 q3c1 q3c2 q4c0 q4c1 q4c2 n7c0 n7c1 n7c2 n8c0 n8c1 n8c2
        have HK5 : Hid (Kp w w5) := HKz.out.trans kq
        have Hq35 : Hid (PX w5 q3 a0 a1 a2) := Hq3z.out.kp kq
        have Hq45 : Hid (PX w5 q4 b0 b1 b2) := Hq4z.out.kp kq
        have Hq55 : Hid (PX w5 q5 c0 c1 c2) := Hq5z.out.kp kq
        have Hn75 : Hid (PX w5 n7 x0 x1 x2) := Hn7z.out.kp kq
        have Hn85 : Hid (PX w5 n8 x0 x1 x2) := Hn8z.out.kp kq
        clear kq HKz Hq3z Hq4z Hq5z Hn7z Hn8z
        clear hT hH hM
        go_wp2_with fail
        go_ret
        exact ⟨rfl, HK5.out⟩
  · go_enter Try.func6, Try.ntmps6
    go_wp2_with fail
    with_reducible refine (t1.out _).mono ?_
    rintro e w1 ⟨rfl, K⟩
    have HK1 : Hid (Kp w w1) := ((((Kp.refl w).alloc _).alloc _).alloc _).trans K
    obtain ⟨q3, hq3⟩ : ∃ q3, q3 = w.heap.size := ⟨_, rfl⟩
    have Hq31 : Hid (PX w1 q3 a0 a1 a2) := by rw [hq3]; exact ((PX.made w a0 a1 a2).kp (((Kp.refl _).alloc _).alloc _)).kp K
    obtain ⟨q4, hq4⟩ : ∃ q4, q4 = w.heap.size + 1 := ⟨_, rfl⟩
    have Hq41 : Hid (PX w1 q4 b0 b1 b2) := by
      show PX w1 q4 b0 b1 b2
      have B := ((PX.made (w.alloc (.cells #[.bool a0, .bool a1, .bool a2] 23)) b0 b1 b2).kp ((Kp.refl _).alloc _)).kp K
      rw [hq4]
      simpa using B
    obtain ⟨q5, hq5⟩ : ∃ q5, q5 = w.heap.size + 2 := ⟨_, rfl⟩
    have Hq51 : Hid (PX w1 q5 c0 c1 c2) := by
      show PX w1 q5 c0 c1 c2
      have B := ((PX.made ((w.alloc (.cells #[.bool a0, .bool a1, .bool a2] 23)).alloc (.cells #[.bool b0, .bool b1, .bool b2] 23)) c0 c1 c2).kp (Kp.refl _)).kp K
      rw [hq5]
      simpa using B
    (try rw [← hq5])
    (try rw [← hq4])
    (try rw [← hq3])
    clear K hq3 hq4 hq5
    have f0 := Hq41.out.c0
    have f1 := Hq41.out.c1
    have f2 := Hq41.out.c2
    have g0 := Hq51.out.c0
    have g1 := Hq51.out.c1
    have g2 := Hq51.out.c2
    go_wp2_with fail
    with_reducible refine (t2.out _).mono ?_
    rintro e w2 ⟨rfl, K⟩
    have HK2 : Hid (Kp w w2) := HK1.out.trans K
    have Hq32 : Hid (PX w2 q3 a0 a1 a2) := Hq31.out.kp K
    have Hq42 : Hid (PX w2 q4 b0 b1 b2) := Hq41.out.kp K
    have Hq52 : Hid (PX w2 q5 c0 c1 c2) := Hq51.out.kp K
    clear K HK1 Hq31 Hq41 Hq51 f0 f1 f2 g0 g1 g2
    have f0 := Hq32.out.c0
    have f1 := Hq32.out.c1
    have f2 := Hq32.out.c2
    have g0 := Hq52.out.c0
    have g1 := Hq52.out.c1
    have g2 := Hq52.out.c2
    go_wp2_with fail
    with_reducible refine (t3.out _).mono ?_
    rintro e w3 ⟨rfl, K⟩
    have HK3 : Hid (Kp w w3) := HK2.out.trans K
    have Hq33 : Hid (PX w3 q3 a0 a1 a2) := Hq32.out.kp K
    have Hq43 : Hid (PX w3 q4 b0 b1 b2) := Hq42.out.kp K
    have Hq53 : Hid (PX w3 q5 c0 c1 c2) := Hq52.out.kp K
    clear K HK2 Hq32 Hq42 Hq52 f0 f1 f2 g0 g1 g2
    have f0 := Hq33.out.c0
    have f1 := Hq33.out.c1
    have f2 := Hq33.out.c2
    go_wp2_with fail
    with_reducible refine (t4.out _).mono ?_
    rintro e w4 ⟨rfl, K⟩
    have HK4 : Hid (Kp w w4) := HK3.out.trans K
    have Hq34 : Hid (PX w4 q3 a0 a1 a2) := Hq33.out.kp K
    have Hq44 : Hid (PX w4 q4 b0 b1 b2) := Hq43.out.kp K
    have Hq54 : Hid (PX w4 q5 c0 c1 c2) := Hq53.out.kp K
    clear K HK3 Hq33 Hq43 Hq53 f0 f1 f2
    go_wp2_with fail
    have B3 : PX w4 q3 a0 a1 a2 := Hq34.out
    have B4 : PX w4 q4 b0 b1 b2 := Hq44.out
    have B5 : PX w4 q5 c0 c1 c2 := Hq54.out
    refine wp_region_inv mixed (fun listed a w => ∃ (l0 l1 l2 l3 l4 l5 l6 l7 l8 l9 l10 l11 l12 l13 : Bool) (u7 u8 u30 u31 u32 u33 u34 u35 u36 u37 u38 u39 : Value) (n7 n8 : Nat), listed = #[l0, l1, l2, l3, l4, l5, l6, l7, l8, l9, l10, l11, l12, l13] ∧ a = oAct (.agg #[.bool a0, .bool a1, .bool a2]) (.agg #[.bool b0, .bool b1, .bool b2]) (.agg #[.bool c0, .bool c1, .bool c2]) (.pointer (some ⟨q3, 0, none⟩)) (.pointer (some ⟨q4, 0, none⟩)) (.pointer (some ⟨q5, 0, none⟩)) (.agg #[.bool a0, .bool a1, .bool a2]) (.agg #[.bool b0, .bool b1, .bool b2]) (.bool true) (.bool true) (.agg #[.bool b0, .bool b1, .bool b2]) (.agg #[.bool c0, .bool c1, .bool c2]) (.bool true) (.bool true) (.bool true) (.agg #[.bool a0, .bool a1, .bool a2]) (.agg #[.bool c0, .bool c1, .bool c2]) (.bool true) (.bool false) (.bool false) (.bool false) (.agg #[.bool a0, .bool a1, .bool a2]) (.agg #[.bool a0, .bool a1, .bool a2]) (.bool true) (.bool false) (.bool false) u7 u8 u30 u31 u32 u33 u34 u35 u36 u37 u38 u39 ∧ OI3 w4 (.agg #[.bool a0, .bool a1, .bool a2]) (.agg #[.bool b0, .bool b1, .bool b2]) (.agg #[.bool c0, .bool c1, .bool c2]) (.agg #[.bool m0, .bool m1, .bool m2]) (.agg #[.bool n0, .bool n1, .bool n2]) (.agg #[.bool x0, .bool x1, .bool x2]) (fun w b t => MP3 w b t x0 x1 x2) l0 l1 l2 l3 l4 l5 l6 l7 l8 l9 l10 l11 l12 l13 u7 u8 u30 u31 u32 u33 u34 u35 u36 u37 u38 u39 n7 n8 w) ?_ ?_ ?_
    · exact ⟨false, false, false, false, false, false, false, false, false, false, false, false, false, false, undef, undef, undef, undef, undef, undef, undef, undef, undef, undef, undef, undef, 0, 0, rfl, rfl, ⟨(Kp.refl w4).drew, (fun h => by cases h), (fun h => by cases h), (fun h => by cases h), (fun h => by cases h), (fun h => by cases h), (fun h => by cases h), (fun h => by cases h), (fun h => by cases h), (fun h => by cases h), (fun h => by cases h), (fun h => by cases h), (fun h => by cases h), (fun h => by cases h), (fun h => by cases h), (fun h => by cases h)⟩⟩
    · rintro listed a v i ⟨l0, l1, l2, l3, l4, l5, l6, l7, l8, l9, l10, l11, l12, l13, u7, u8, u30, u31, u32, u33, u34, u35, u36, u37, u38, u39, n7, n8, rfl, rfl, h⟩ hi
      obtain ⟨hl, oo, ho, ha⟩ := mem_ready.1 hi
      have hlt : i < 14 := (Array.getElem?_eq_some_iff.1 ho).1
      clear hi
      rcases (by omega : i = 0 ∨ i = 1 ∨ i = 2 ∨ i = 3 ∨ i = 4 ∨ i = 5 ∨ i = 6 ∨ i = 7 ∨ i = 8 ∨ i = 9 ∨ i = 10 ∨ i = 11 ∨ i = 12 ∨ i = 13) with rfl | rfl | rfl | rfl | rfl | rfl | rfl | rfl | rfl | rfl | rfl | rfl | rfl | rfl
      · refine wpOp_of rfl rfl (wp_load_p rfl rfl (B3.kp h.kp) ?_)
        exact ⟨true, l1, l2, l3, l4, l5, l6, l7, l8, l9, l10, l11, l12, l13, u7, u8, (.agg #[.bool a0, .bool a1, .bool a2]), u31, u32, u33, u34, u35, u36, u37, u38, u39, n7, n8, rfl, rfl, ⟨h.kp, fun _ => rfl, h.h1, h.h2, h.h3, h.h4, h.h5, h.h6, h.h7, h.h8, h.h9, h.h10, h.h11, h.hne, h.m12, h.m13⟩⟩
      · refine wpOp_of rfl rfl (wp_load_p rfl rfl (B4.kp h.kp) ?_)
        exact ⟨l0, true, l2, l3, l4, l5, l6, l7, l8, l9, l10, l11, l12, l13, u7, u8, u30, (.agg #[.bool b0, .bool b1, .bool b2]), u32, u33, u34, u35, u36, u37, u38, u39, n7, n8, rfl, rfl, ⟨h.kp, h.h0, fun _ => rfl, h.h2, h.h3, h.h4, h.h5, h.h6, h.h7, h.h8, h.h9, h.h10, h.h11, h.hne, h.m12, h.m13⟩⟩
      · simp at ho
        subst ho
        have e0 : l0 = true := by simpa using ha ⟨0, .data⟩ (by simp) rfl
        have e1 : l1 = true := by simpa using ha ⟨1, .data⟩ (by simp) rfl
        refine wpOp_of rfl rfl (wp_call2 rfl Try.func9 rfl (by decide) (h.h0 e0) (h.h1 e1) (r1.out v) (fun w' KK => ?_))
        exact ⟨l0, l1, true, l3, l4, l5, l6, l7, l8, l9, l10, l11, l12, l13, u7, u8, u30, u31, (.agg #[.bool m0, .bool m1, .bool m2]), u33, u34, u35, u36, u37, u38, u39, n7, n8, rfl, rfl, ⟨h.kp.trans KK, h.h0, h.h1, fun _ => rfl, h.h3, h.h4, h.h5, h.h6, h.h7, h.h8, h.h9, fun c => ⟨(h.h10 c).1, (h.h10 c).2.1, PX.kp (h.h10 c).2.2 KK⟩, fun c => ⟨(h.h11 c).1, (h.h11 c).2.1, PX.kp (h.h11 c).2.2 KK⟩, h.hne, h.m12, h.m13⟩⟩
      · refine wpOp_of rfl rfl (wp_load_p rfl rfl (B5.kp h.kp) ?_)
        exact ⟨l0, l1, l2, true, l4, l5, l6, l7, l8, l9, l10, l11, l12, l13, u7, u8, u30, u31, u32, (.agg #[.bool c0, .bool c1, .bool c2]), u34, u35, u36, u37, u38, u39, n7, n8, rfl, rfl, ⟨h.kp, h.h0, h.h1, h.h2, fun _ => rfl, h.h4, h.h5, h.h6, h.h7, h.h8, h.h9, h.h10, h.h11, h.hne, h.m12, h.m13⟩⟩
      · simp at ho
        subst ho
        have e2 : l2 = true := by simpa using ha ⟨2, .data⟩ (by simp) rfl
        have e3 : l3 = true := by simpa using ha ⟨3, .data⟩ (by simp) rfl
        refine wpOp_of rfl rfl (wp_call2 rfl Try.func9 rfl (by decide) (h.h2 e2) (h.h3 e3) (r2.out v) (fun w' KK => ?_))
        exact ⟨l0, l1, l2, l3, true, l5, l6, l7, l8, l9, l10, l11, l12, l13, u7, u8, u30, u31, u32, u33, (.agg #[.bool x0, .bool x1, .bool x2]), u35, u36, u37, u38, u39, n7, n8, rfl, rfl, ⟨h.kp.trans KK, h.h0, h.h1, h.h2, h.h3, fun _ => rfl, h.h5, h.h6, h.h7, h.h8, h.h9, fun c => ⟨(h.h10 c).1, (h.h10 c).2.1, PX.kp (h.h10 c).2.2 KK⟩, fun c => ⟨(h.h11 c).1, (h.h11 c).2.1, PX.kp (h.h11 c).2.2 KK⟩, h.hne, h.m12, h.m13⟩⟩
      · refine wpOp_of rfl rfl (wp_load_p rfl rfl (B3.kp h.kp) ?_)
        exact ⟨l0, l1, l2, l3, l4, true, l6, l7, l8, l9, l10, l11, l12, l13, u7, u8, u30, u31, u32, u33, u34, (.agg #[.bool a0, .bool a1, .bool a2]), u36, u37, u38, u39, n7, n8, rfl, rfl, ⟨h.kp, h.h0, h.h1, h.h2, h.h3, h.h4, fun _ => rfl, h.h6, h.h7, h.h8, h.h9, h.h10, h.h11, h.hne, h.m12, h.m13⟩⟩
      · refine wpOp_of rfl rfl (wp_load_p rfl rfl (B4.kp h.kp) ?_)
        exact ⟨l0, l1, l2, l3, l4, l5, true, l7, l8, l9, l10, l11, l12, l13, u7, u8, u30, u31, u32, u33, u34, u35, (.agg #[.bool b0, .bool b1, .bool b2]), u37, u38, u39, n7, n8, rfl, rfl, ⟨h.kp, h.h0, h.h1, h.h2, h.h3, h.h4, h.h5, fun _ => rfl, h.h7, h.h8, h.h9, h.h10, h.h11, h.hne, h.m12, h.m13⟩⟩
      · refine wpOp_of rfl rfl (wp_load_p rfl rfl (B5.kp h.kp) ?_)
        exact ⟨l0, l1, l2, l3, l4, l5, l6, true, l8, l9, l10, l11, l12, l13, u7, u8, u30, u31, u32, u33, u34, u35, u36, (.agg #[.bool c0, .bool c1, .bool c2]), u38, u39, n7, n8, rfl, rfl, ⟨h.kp, h.h0, h.h1, h.h2, h.h3, h.h4, h.h5, h.h6, fun _ => rfl, h.h8, h.h9, h.h10, h.h11, h.hne, h.m12, h.m13⟩⟩
      · simp at ho
        subst ho
        have e6 : l6 = true := by simpa using ha ⟨6, .data⟩ (by simp) rfl
        have e7 : l7 = true := by simpa using ha ⟨7, .data⟩ (by simp) rfl
        refine wpOp_of rfl rfl (wp_call2 rfl Try.func9 rfl (by decide) (h.h6 e6) (h.h7 e7) (r3.out v) (fun w' KK => ?_))
        exact ⟨l0, l1, l2, l3, l4, l5, l6, l7, true, l9, l10, l11, l12, l13, u7, u8, u30, u31, u32, u33, u34, u35, u36, u37, (.agg #[.bool n0, .bool n1, .bool n2]), u39, n7, n8, rfl, rfl, ⟨h.kp.trans KK, h.h0, h.h1, h.h2, h.h3, h.h4, h.h5, h.h6, h.h7, fun _ => rfl, h.h9, fun c => ⟨(h.h10 c).1, (h.h10 c).2.1, PX.kp (h.h10 c).2.2 KK⟩, fun c => ⟨(h.h11 c).1, (h.h11 c).2.1, PX.kp (h.h11 c).2.2 KK⟩, h.hne, h.m12, h.m13⟩⟩
      · simp at ho
        subst ho
        have e5 : l5 = true := by simpa using ha ⟨5, .data⟩ (by simp) rfl
        have e8 : l8 = true := by simpa using ha ⟨8, .data⟩ (by simp) rfl
        refine wpOp_of rfl rfl (wp_call2 rfl Try.func9 rfl (by decide) (h.h5 e5) (h.h8 e8) (r4.out v) (fun w' KK => ?_))
        exact ⟨l0, l1, l2, l3, l4, l5, l6, l7, l8, true, l10, l11, l12, l13, u7, u8, u30, u31, u32, u33, u34, u35, u36, u37, u38, (.agg #[.bool x0, .bool x1, .bool x2]), n7, n8, rfl, rfl, ⟨h.kp.trans KK, h.h0, h.h1, h.h2, h.h3, h.h4, h.h5, h.h6, h.h7, h.h8, fun _ => rfl, fun c => ⟨(h.h10 c).1, (h.h10 c).2.1, PX.kp (h.h10 c).2.2 KK⟩, fun c => ⟨(h.h11 c).1, (h.h11 c).2.1, PX.kp (h.h11 c).2.2 KK⟩, h.hne, h.m12, h.m13⟩⟩
      · have e10 : l10 = false := by simpa using hl
        have e12 : l12 = false := by
          cases hc : l12
          · rfl
          · rw [h.m12 hc] at e10; cases e10
        subst e12
        have KK : Kp v (v.alloc (.cells #[.bool false, .bool false, .bool false] 23)) := (Kp.refl v).alloc _
        refine wpOp_of rfl rfl (wp_alloc_p rfl ?_)
        exact ⟨l0, l1, l2, l3, l4, l5, l6, l7, l8, l9, true, l11, false, l13, .pointer (some ⟨v.heap.size, 0, none⟩), u8, u30, u31, u32, u33, u34, u35, u36, u37, u38, u39, v.heap.size, n8, rfl, rfl, ⟨h.kp.trans KK, h.h0, h.h1, h.h2, h.h3, h.h4, h.h5, h.h6, h.h7, h.h8, h.h9, fun _ => ⟨rfl, h.kp.size, PX.made v false false false⟩, fun c => ⟨(h.h11 c).1, (h.h11 c).2.1, PX.kp (h.h11 c).2.2 KK⟩, fun _ c => Nat.ne_of_gt (PX.lt (h.h11 c).2.2), fun _ => rfl, h.m13⟩⟩
      · have e11 : l11 = false := by simpa using hl
        have e13 : l13 = false := by
          cases hc : l13
          · rfl
          · rw [h.m13 hc] at e11; cases e11
        subst e13
        have KK : Kp v (v.alloc (.cells #[.bool false, .bool false, .bool false] 23)) := (Kp.refl v).alloc _
        refine wpOp_of rfl rfl (wp_alloc_p rfl ?_)
        exact ⟨l0, l1, l2, l3, l4, l5, l6, l7, l8, l9, l10, true, l12, false, u7, .pointer (some ⟨v.heap.size, 0, none⟩), u30, u31, u32, u33, u34, u35, u36, u37, u38, u39, n7, v.heap.size, rfl, rfl, ⟨h.kp.trans KK, h.h0, h.h1, h.h2, h.h3, h.h4, h.h5, h.h6, h.h7, h.h8, h.h9, fun c => ⟨(h.h10 c).1, (h.h10 c).2.1, PX.kp (h.h10 c).2.2 KK⟩, fun _ => ⟨rfl, h.kp.size, PX.made v false false false⟩, fun c _ => Nat.ne_of_lt (PX.lt (h.h10 c).2.2), h.m12, fun _ => rfl⟩⟩
      · simp at ho
        subst ho
        have e10 : l10 = true := by simpa using ha ⟨10, .data⟩ (by simp) rfl
        have e4 : l4 = true := by simpa using ha ⟨4, .data⟩ (by simp) rfl
        refine wpOp_of rfl rfl (wp_store_p rfl (h.h10 e10).1 (h.h4 e4) (h.h10 e10).2.2 rfl ?_)
        exact ⟨l0, l1, l2, l3, l4, l5, l6, l7, l8, l9, l10, l11, true, l13, u7, u8, u30, u31, u32, u33, u34, u35, u36, u37, u38, u39, n7, n8, rfl, rfl, ⟨h.kp.putP (h.h10 e10).2.1, h.h0, h.h1, h.h2, h.h3, h.h4, h.h5, h.h6, h.h7, h.h8, h.h9, fun _ => ⟨(h.h10 e10).1, (h.h10 e10).2.1, PX.put (h.h10 e10).2.2 _ _ _⟩, fun c => ⟨(h.h11 c).1, (h.h11 c).2.1, putP_other (h.h11 c).2.2 (fun e => h.hne e10 c e.symm)⟩, h.hne, fun _ => e10, h.m13⟩⟩
      · simp at ho
        subst ho
        have e11 : l11 = true := by simpa using ha ⟨11, .data⟩ (by simp) rfl
        have e9 : l9 = true := by simpa using ha ⟨9, .data⟩ (by simp) rfl
        refine wpOp_of rfl rfl (wp_store_p rfl (h.h11 e11).1 (h.h9 e9) (h.h11 e11).2.2 rfl ?_)
        exact ⟨l0, l1, l2, l3, l4, l5, l6, l7, l8, l9, l10, l11, l12, true, u7, u8, u30, u31, u32, u33, u34, u35, u36, u37, u38, u39, n7, n8, rfl, rfl, ⟨h.kp.putP (h.h11 e11).2.1, h.h0, h.h1, h.h2, h.h3, h.h4, h.h5, h.h6, h.h7, h.h8, h.h9, fun c => ⟨(h.h10 c).1, (h.h10 c).2.1, putP_other (h.h10 c).2.2 (fun e => h.hne c e11 e)⟩, fun _ => ⟨(h.h11 e11).1, (h.h11 e11).2.1, PX.put (h.h11 e11).2.2 _ _ _⟩, h.hne, h.m12, fun _ => e11⟩⟩
    rintro listed a v ⟨l0, l1, l2, l3, l4, l5, l6, l7, l8, l9, l10, l11, l12, l13, u7, u8, u30, u31, u32, u33, u34, u35, u36, u37, u38, u39, n7, n8, rfl, rfl, h⟩ hr
    have e0 : l0 = true := by
      cases l0
      · have hm : (0 : Nat) ∈ ([] : List Nat) := by rw [← hr]; exact mem_ready.2 ⟨rfl, _, rfl, by simp⟩
        cases hm
      · rfl
    subst e0
    have e1 : l1 = true := by
      cases l1
      · have hm : (1 : Nat) ∈ ([] : List Nat) := by rw [← hr]; exact mem_ready.2 ⟨rfl, _, rfl, by simp⟩
        cases hm
      · rfl
    subst e1
    have e3 : l3 = true := by
      cases l3
      · have hm : (3 : Nat) ∈ ([] : List Nat) := by rw [← hr]; exact mem_ready.2 ⟨rfl, _, rfl, by simp⟩
        cases hm
      · rfl
    subst e3
    have e5 : l5 = true := by
      cases l5
      · have hm : (5 : Nat) ∈ ([] : List Nat) := by rw [← hr]; exact mem_ready.2 ⟨rfl, _, rfl, by simp⟩
        cases hm
      · rfl
    subst e5
    have e6 : l6 = true := by
      cases l6
      · have hm : (6 : Nat) ∈ ([] : List Nat) := by rw [← hr]; exact mem_ready.2 ⟨rfl, _, rfl, by simp⟩
        cases hm
      · rfl
    subst e6
    have e7 : l7 = true := by
      cases l7
      · have hm : (7 : Nat) ∈ ([] : List Nat) := by rw [← hr]; exact mem_ready.2 ⟨rfl, _, rfl, by simp⟩
        cases hm
      · rfl
    subst e7
    have e10 : l10 = true := by
      cases l10
      · have hm : (10 : Nat) ∈ ([] : List Nat) := by rw [← hr]; exact mem_ready.2 ⟨rfl, _, rfl, by simp⟩
        cases hm
      · rfl
    subst e10
    have e11 : l11 = true := by
      cases l11
      · have hm : (11 : Nat) ∈ ([] : List Nat) := by rw [← hr]; exact mem_ready.2 ⟨rfl, _, rfl, by simp⟩
        cases hm
      · rfl
    subst e11
    have e2 : l2 = true := by
      cases l2
      · have hm : (2 : Nat) ∈ ([] : List Nat) := by rw [← hr]; exact mem_ready.2 ⟨rfl, _, rfl, by simp⟩
        cases hm
      · rfl
    subst e2
    have e4 : l4 = true := by
      cases l4
      · have hm : (4 : Nat) ∈ ([] : List Nat) := by rw [← hr]; exact mem_ready.2 ⟨rfl, _, rfl, by simp⟩
        cases hm
      · rfl
    subst e4
    have e8 : l8 = true := by
      cases l8
      · have hm : (8 : Nat) ∈ ([] : List Nat) := by rw [← hr]; exact mem_ready.2 ⟨rfl, _, rfl, by simp⟩
        cases hm
      · rfl
    subst e8
    have e9 : l9 = true := by
      cases l9
      · have hm : (9 : Nat) ∈ ([] : List Nat) := by rw [← hr]; exact mem_ready.2 ⟨rfl, _, rfl, by simp⟩
        cases hm
      · rfl
    subst e9
    have e12 : l12 = true := by
      cases l12
      · have hm : (12 : Nat) ∈ ([] : List Nat) := by rw [← hr]; exact mem_ready.2 ⟨rfl, _, rfl, by simp⟩
        cases hm
      · rfl
    subst e12
    have e13 : l13 = true := by
      cases l13
      · have hm : (13 : Nat) ∈ ([] : List Nat) := by rw [← hr]; exact mem_ready.2 ⟨rfl, _, rfl, by simp⟩
        cases hm
      · rfl
    subst e13
    have g0 := h.h0 rfl
    subst g0
    have g1 := h.h1 rfl
    subst g1
    have g2 := h.h2 rfl
    subst g2
    have g3 := h.h3 rfl
    subst g3
    have g4 := h.h4 rfl
    subst g4
    have g5 := h.h5 rfl
    subst g5
    have g6 := h.h6 rfl
    subst g6
    have g7 := h.h7 rfl
    subst g7
    have g8 := h.h8 rfl
    subst g8
    have g9 := h.h9 rfl
    subst g9
    obtain ⟨g10, _, M7⟩ := h.h10 rfl
    obtain ⟨g11, _, M8⟩ := h.h11 rfl
    subst g10
    subst g11
    have HKv : Hid (Kp w v) := HK4.out.trans h.kp
    have Hq3v : Hid (PX v q3 a0 a1 a2) := Hq34.out.kp h.kp
    have Hq4v : Hid (PX v q4 b0 b1 b2) := Hq44.out.kp h.kp
    have Hq5v : Hid (PX v q5 c0 c1 c2) := Hq54.out.kp h.kp
    have Hn7v : Hid (PX v n7 x0 x1 x2) := M7
    have Hn8v : Hid (PX v n8 x0 x1 x2) := M8
    clear h hr M7 M8 B3 B4 B5 HK4 Hq34 Hq44 Hq54 t2 t3 t4 r2 r3 r4
    unfold oAct
    go_wp2_with fail
    go_loopg [9] 4 (fun gg v9 wr => ∃ i : Nat, v9 = .int .i64 i ∧ 1 ≤ i ∧ i ≤ 4 ∧ 4 - i ≤ gg ∧ Aside (Kp v wr))
    case atStart => exact ⟨1, rfl, by omega, by omega, by omega, Kp.refl _⟩
    case round =>
      obtain ⟨i, rfl, hi1, hi, hg, HKi⟩ := hrel
      have HKz : Hid (Kp w wr) := HKv.out.trans HKi.out
      have Hq3z : Hid (PX wr q3 a0 a1 a2) := Hq3v.out.kp HKi.out
      have Hq4z : Hid (PX wr q4 b0 b1 b2) := Hq4v.out.kp HKi.out
      have Hq5z : Hid (PX wr q5 c0 c1 c2) := Hq5v.out.kp HKi.out
      have Hn7z : Hid (PX wr n7 x0 x1 x2) := Hn7v.out.kp HKi.out
      have Hn8z : Hid (PX wr n8 x0 x1 x2) := Hn8v.out.kp HKi.out
      by_cases hlt : i < 4
      · have i1 : (i : Int) < 4 := by omega
        have c0' := KK0.out i hlt
        have c1' := KK1.out i hlt
        have c2' := KK2.out i hlt
        have c3' := KK3.out i hlt
        have hab := Hab.out i
        obtain ⟨A1, eA1⟩ : ∃ x, x = α i := ⟨_, rfl⟩
        obtain ⟨A2, eA2⟩ : ∃ x, x = β i := ⟨_, rfl⟩
        obtain ⟨A3, eA3⟩ : ∃ x, x = γ i := ⟨_, rfl⟩
        rw [← eA1, ← eA2, ← eA3] at c0'
        rw [← eA1] at c1' hab
        rw [← eA2] at c2' hab
        rw [← eA3] at c3'
        clear eA1 eA2 eA3 KK0 KK1 KK2 KK3 Hab HT HH HM v1 v2 r1 r5 st hq
        have hcs : A1 = false ∨ (A1 = true ∧ A2 = false) ∨ (A1 = true ∧ A2 = true) := by cases A1 <;> cases A2 <;> simp
        rcases hcs with rfl | ⟨rfl, rfl⟩ | ⟨rfl, rfl⟩
        rotate_left
        · exact absurd (hab (by simp) (by simp)) (by decide)
        all_goals
          simp only [Bool.false_and, Bool.true_and] at c0'
          go_wp2_with fail
          have q3c0 : ∀ p : KeptBy wr, p.v.cell? ⟨q3, 0, none⟩ = some (.bool a0) := fun p => (Hq3z.out.kp p.k).c0
          have q3c1 : ∀ p : KeptBy wr, p.v.cell? ⟨q3, 1, none⟩ = some (.bool a1) := fun p => (Hq3z.out.kp p.k).c1
          have q3c2 : ∀ p : KeptBy wr, p.v.cell? ⟨q3, 2, none⟩ = some (.bool a2) := fun p => (Hq3z.out.kp p.k).c2
          have q4c0 : ∀ p : KeptBy wr, p.v.cell? ⟨q4, 0, none⟩ = some (.bool b0) := fun p => (Hq4z.out.kp p.k).c0
          have q4c1 : ∀ p : KeptBy wr, p.v.cell? ⟨q4, 1, none⟩ = some (.bool b1) := fun p => (Hq4z.out.kp p.k).c1
          have q4c2 : ∀ p : KeptBy wr, p.v.cell? ⟨q4, 2, none⟩ = some (.bool b2) := fun p => (Hq4z.out.kp p.k).c2
          have q5c0 : ∀ p : KeptBy wr, p.v.cell? ⟨q5, 0, none⟩ = some (.bool c0) := fun p => (Hq5z.out.kp p.k).c0
          have q5c1 : ∀ p : KeptBy wr, p.v.cell? ⟨q5, 1, none⟩ = some (.bool c1) := fun p => (Hq5z.out.kp p.k).c1
          have q5c2 : ∀ p : KeptBy wr, p.v.cell? ⟨q5, 2, none⟩ = some (.bool c2) := fun p => (Hq5z.out.kp p.k).c2
          have n7c0 : ∀ p : KeptBy wr, p.v.cell? ⟨n7, 0, none⟩ = some (.bool x0) := fun p => (Hn7z.out.kp p.k).c0
          have n7c1 : ∀ p : KeptBy wr, p.v.cell? ⟨n7, 1, none⟩ = some (.bool x1) := fun p => (Hn7z.out.kp p.k).c1
          have n7c2 : ∀ p : KeptBy wr, p.v.cell? ⟨n7, 2, none⟩ = some (.bool x2) := fun p => (Hn7z.out.kp p.k).c2
          refine wp_region_kept mixed (by kernel_rfl) ?_
          repeat (go_big_quiet_step (first | exact rfl | (go_at_call 10; go_must (first | (with_reducible refine Calls.kept_of (c0'.out _)) | (with_reducible refine Calls.kept_of (c1'.out _)) | (with_reducible refine Calls.kept_of (c2'.out _)) | (with_reducible refine Calls.kept_of (c3'.out _)))) | (go_at_call 11; with_reducible refine Calls.kept_of (t1.out _))))
          refine wpQuiet_nil ?_
          intro w5 hw'
          have kq : Kp wr w5 := by obtain ⟨p, rfl⟩ := hw'; exact p.k
          clear hw' q3c0 q3c1 q3c2 q4c0 q4c1 q4c2 q5c0 q5c1 q5c2 n7c0 n7c1 n7c2
          have HKR : Hid (Kp wr w5) := kq
          have HK5 : Hid (Kp w w5) := HKz.out.trans kq
          have Hq35 : Hid (PX w5 q3 a0 a1 a2) := Hq3z.out.kp kq
          have Hq45 : Hid (PX w5 q4 b0 b1 b2) := Hq4z.out.kp kq
          have Hq55 : Hid (PX w5 q5 c0 c1 c2) := Hq5z.out.kp kq
          have Hn75 : Hid (PX w5 n7 x0 x1 x2) := Hn7z.out.kp kq
          have Hn85 : Hid (PX w5 n8 x0 x1 x2) := Hn8z.out.kp kq
          clear kq HKz Hq3z Hq4z Hq5z Hn7z Hn8z
          go_wp2_with fail
          go_roundg (4 - (i + 1))
          case measure => omega
          case rel => exact ⟨i + 1, by go_num, by omega, by omega, by omega, HKi.out.trans HKR.out⟩
      · have e4 : i = 4 := by omega
        subst e4
        go_wp2_with fail
        have hT := HT.out
        have hH := HH.out
        have hM := HM.out
        have q3c0 : ∀ p : KeptBy wr, p.v.cell? ⟨q3, 0, none⟩ = some (.bool a0) := fun p => (Hq3z.out.kp p.k).c0
        have q3c1 : ∀ p : KeptBy wr, p.v.cell? ⟨q3, 1, none⟩ = some (.bool a1) := fun p => (Hq3z.out.kp p.k).c1
        have q3c2 : ∀ p : KeptBy wr, p.v.cell? ⟨q3, 2, none⟩ = some (.bool a2) := fun p => (Hq3z.out.kp p.k).c2
        have q4c0 : ∀ p : KeptBy wr, p.v.cell? ⟨q4, 0, none⟩ = some (.bool b0) := fun p => (Hq4z.out.kp p.k).c0
        have q4c1 : ∀ p : KeptBy wr, p.v.cell? ⟨q4, 1, none⟩ = some (.bool b1) := fun p => (Hq4z.out.kp p.k).c1
        have q4c2 : ∀ p : KeptBy wr, p.v.cell? ⟨q4, 2, none⟩ = some (.bool b2) := fun p => (Hq4z.out.kp p.k).c2
        have n7c0 : ∀ p : KeptBy wr, p.v.cell? ⟨n7, 0, none⟩ = some (.bool x0) := fun p => (Hn7z.out.kp p.k).c0
        have n7c1 : ∀ p : KeptBy wr, p.v.cell? ⟨n7, 1, none⟩ = some (.bool x1) := fun p => (Hn7z.out.kp p.k).c1
        have n7c2 : ∀ p : KeptBy wr, p.v.cell? ⟨n7, 2, none⟩ = some (.bool x2) := fun p => (Hn7z.out.kp p.k).c2
        have n8c0 : ∀ p : KeptBy wr, p.v.cell? ⟨n8, 0, none⟩ = some (.bool x0) := fun p => (Hn8z.out.kp p.k).c0
        have n8c1 : ∀ p : KeptBy wr, p.v.cell? ⟨n8, 1, none⟩ = some (.bool x1) := fun p => (Hn8z.out.kp p.k).c1
        have n8c2 : ∀ p : KeptBy wr, p.v.cell? ⟨n8, 2, none⟩ = some (.bool x2) := fun p => (Hn8z.out.kp p.k).c2
        refine wp_region_kept mixed (by kernel_rfl) ?_
        repeat (go_big_quiet_step (first | exact rfl | (go_at_call 8; with_reducible refine Calls.kept_of (st.out _)) | (go_at_call 9; go_must (first | (with_reducible refine Calls.kept_of (r1.out _)) | (with_reducible refine Calls.kept_of (r5.out _)))) | (go_at_call 11; with_reducible refine Calls.kept_of (t1.out _)) | (go_at_call 15; go_must (first | (with_reducible refine Calls.kept_of (v1.out _)) | (with_reducible refine Calls.kept_of (v2.out _))))))
        refine wpQuiet_nil ?_
        intro w6 hw'
        have kq : Kp wr w6 := by obtain ⟨p, rfl⟩ := hw'; exact p.k
        clear hw' q3c0 q3c1 q3c2 q4c0 q4c1 q4c2 n7c0 n7c1 n7c2 n8c0 n8c1 n8c2
        have HK6 : Hid (Kp w w6) := HKz.out.trans kq
        have Hq36 : Hid (PX w6 q3 a0 a1 a2) := Hq3z.out.kp kq
        have Hq46 : Hid (PX w6 q4 b0 b1 b2) := Hq4z.out.kp kq
        have Hq56 : Hid (PX w6 q5 c0 c1 c2) := Hq5z.out.kp kq
        have Hn76 : Hid (PX w6 n7 x0 x1 x2) := Hn7z.out.kp kq
        have Hn86 : Hid (PX w6 n8 x0 x1 x2) := Hn8z.out.kp kq
        clear kq HKz Hq3z Hq4z Hq5z Hn7z Hn8z
        clear hT hH hM
        go_wp2_with fail
        go_ret
        exact ⟨rfl, HK6.out⟩

theorem txt_like (a0 a1 a2 b0 b1 b2 : Bool) : ((txt a0 a1 a2).toList == (txt b0 b1 b2).toList) = samP a0 a1 a2 b0 b1 b2 := by
  rw [ByteArray.toList_eq, ByteArray.toList_eq]
  cases a0 <;> cases a1 <;> cases a2 <;> cases b0 <;> cases b1 <;> cases b2 <;> rfl
theorem alP_and (a0 a1 a2 b0 b1 b2 c0 c1 c2 : Bool) (k : Int) : alP (a0 && b0 && c0) (a1 && b1 && c1) (a2 && b2 && c2) k = (alP a0 a1 a2 k && alP b0 b1 b2 k && alP c0 c1 c2 k) := by
  unfold alP
  split
  · rfl
  split
  · rfl
  split
  · rfl
  · rfl
theorem alP_within {a0 a1 a2 b0 b1 b2 : Bool} {k : Int} (h : wiP a0 a1 a2 b0 b1 b2 = true) (g : alP a0 a1 a2 k = true) : alP b0 b1 b2 k = true := by
  unfold wiP at h
  obtain ⟨h0, h1, h2⟩ := samP_eq.1 h
  unfold alP at g ⊢
  split
  · rename_i e; rw [if_pos e] at g; subst g; simpa using h0
  rename_i e1
  rw [if_neg e1] at g
  split
  · rename_i e; rw [if_pos e] at g; subst g; simpa using h1
  rename_i e2
  rw [if_neg e2] at g
  split
  · rename_i e; rw [if_pos e] at g; subst g; simpa using h2
  rename_i e3
  rw [if_neg e3] at g
  exact g

theorem order_law (a0 a1 a2 b0 b1 b2 c0 c1 c2 : Bool) (w : World) :
    Calls Try.prog 6 #[.agg #[.bool a0, .bool a1, .bool a2], .agg #[.bool b0, .bool b1, .bool b2], .agg #[.bool c0, .bool c1, .bool c2]] w fun e w' => e = .returned (.bool true) ∧ Kp w w' := by
  refine order_walk a0 a1 a2 b0 b1 b2 c0 c1 c2 (a0 && b0) (a1 && b1) (a2 && b2) (b0 && c0) (b1 && c1) (b2 && c2) (a0 && b0 && c0) (a1 && b1 && c1) (a2 && b2 && c2) (wiP a0 a1 a2 b0 b1 b2) (wiP b0 b1 b2 c0 c1 c2) (wiP a0 a1 a2 c0 c1 c2) (samP a0 a1 a2 b0 b1 b2) (txt a0 a1 a2) (txt b0 b1 b2)
    (fun i => alP a0 a1 a2 i) (fun i => alP b0 b1 b2 i) (fun i => alP c0 c1 c2 i) w ?_ (fun i h g => alP_within h g) (txt_like a0 a1 a2 b0 b1 b2) (eq_permP a0 a1 a2 b0 b1 b2) (eq_permP _ _ _ a0 a1 a2)
    (fun w => pwithin_any a0 a1 a2 b0 b1 b2 w) (fun w => pwithin_any b0 b1 b2 c0 c1 c2 w) (fun w => pwithin_any a0 a1 a2 c0 c1 c2 w)
    (fun w => by have := pwithin_any a0 a1 a2 a0 a1 a2 w; rwa [show wiP a0 a1 a2 a0 a1 a2 = true from by cases a0 <;> cases a1 <;> cases a2 <;> rfl] at this)
    (fun w => pand_any a0 a1 a2 b0 b1 b2 w) (fun w => pand_any _ _ _ c0 c1 c2 w) (fun w => pand_any b0 b1 b2 c0 c1 c2 w)
    (fun w => by have := pand_any a0 a1 a2 (b0 && c0) (b1 && c1) (b2 && c2) w; rwa [← Bool.and_assoc, ← Bool.and_assoc, ← Bool.and_assoc] at this)
    (fun w => by have := pand_any a0 a1 a2 a0 a1 a2 w; rwa [Bool.and_self, Bool.and_self, Bool.and_self] at this)
    (fun i _ w => by have := pallows_any (a0 && b0 && c0) (a1 && b1 && c1) (a2 && b2 && c2) i w; rwa [alP_and] at this)
    (fun i _ w => pallows_any a0 a1 a2 i w) (fun i _ w => pallows_any b0 b1 b2 i w) (fun i _ w => pallows_any c0 c1 c2 i w)
    (fun w => ptext_any a0 a1 a2 w) (fun w => ptext_any b0 b1 b2 w)
  cases a0 <;> cases a1 <;> cases a2 <;> cases b0 <;> cases b1 <;> cases b2 <;> cases c0 <;> cases c1 <;> cases c2 <;> decide

end Go.Proofs.Ytaielngncalplaa
