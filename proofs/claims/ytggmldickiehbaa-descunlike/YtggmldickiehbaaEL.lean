/- DescUnlike: the walk. -/
import Derived.Test.YtggmldickiehbaaEE
import Derived.Test.YtggmldickiehbaaEF
import Derived.Test.YtggmldickiehbaaEG
import Derived.Test.YtggmldickiehbaaEN
namespace Go.Proofs.Ytggmldickiehbaa
open Go.RowKit
set_option linter.unusedVariables false

/-- The frame at the region, with what its operations lay. -/
def uAct (c0 c1 c2 c3 c6 c7 c9 c10 c18 u11 u12 u22 u23 u24 u25 u26 u27 u28 u29 : Value) : Act := { tmps := #[c0, c1, c2, c3, undef, undef, c6, c7, .bool false, c9, c10, u11, u12, undef, undef, undef, undef, c0, c18, c9, c1, c10, u22, u23, u24, u25, u26, u27, u28, u29, undef, undef, undef, undef, undef, undef, undef, undef, undef, undef, undef, undef, undef, undef, undef, undef, undef, undef, undef, undef, undef, undef, undef, undef, undef, undef, undef, undef, undef, undef, undef, undef], defers := [] }
/-- A block that a descriptor was put into, or not yet. -/
def MB (w : World) (b : Nat) (t : Bool) (k a : Int) (r q x : Bool) (f : Int) : Prop := BX w b (cond t k 0) (cond t a 0) (cond t r false) (cond t q false) (cond t x false) (cond t f 0)
/-- What holds where these operations are done. -/
structure UI (W1 : World) (c9 c10 d6 d7 d8 d9 : Value) (M8 M9 : World → Nat → Bool → Prop) (l0 l1 l2 l3 l4 l5 l6 l7 l8 l9 l10 l11 : Bool) (u11 u12 u22 u23 u24 u25 u26 u27 u28 u29 : Value) (n11 n12 : Nat) (w : World) : Prop where
  kp : Kp W1 w
  h0 : l0 = true → u22 = c9
  h1 : l1 = true → u23 = c10
  h2 : l2 = true → u24 = d6
  h3 : l3 = true → u25 = d8
  h4 : l4 = true → u26 = c9
  h5 : l5 = true → u27 = c10
  h6 : l6 = true → u28 = d7
  h7 : l7 = true → u29 = d9
  h8 : l8 = true → u11 = .pointer (some ⟨n11, 0, none⟩) ∧ W1.heap.size ≤ n11 ∧ M8 w n11 l10
  h9 : l9 = true → u12 = .pointer (some ⟨n12, 0, none⟩) ∧ W1.heap.size ≤ n12 ∧ M9 w n12 l11
  hne : l8 = true → l9 = true → n11 ≠ n12
  m10 : l10 = true → l8 = true
  m11 : l11 = true → l9 = true

set_option maxHeartbeats 8000000 in
set_option maxRecDepth 10000 in
theorem unlike_walk (stage level : Int) (k6 : Int) (a6 : Nat) (r6 q6 x6 : Bool) (f6 : Int) (k7 : Int) (a7 : Nat) (r7 q7 x7 : Bool) (f7 : Int) (k8 : Int) (a8 : Nat) (r8 q8 x8 : Bool) (f8 : Int) (k9 : Int) (a9 : Nat) (r9 q9 x9 : Bool) (f9 : Int) (m1 l X Y : Nat) (s : Int) (B : Bool) (w : World)
    (p1 : bits .and .i64 stage 1 = (m1 : Int)) (i1 : (m1 : Int) ≤ 1) (hs : 1 + (m1 : Int) = s) (p2 : bits .and .i64 level 3 = (l : Int))
    (h1 : ((X : Int) == (Y : Int)) = B) (h2 : ∀ w, (Op.equalIn 10000 26 (.agg #[.int .i64 k8, .int .u64 (a8 : Int), .bool r8, .bool q8, .bool x8, .int .i64 f8]) (.agg #[.int .i64 k9, .int .u64 (a9 : Int), .bool r9, .bool q9, .bool x9, .int .i64 f9])).run Try.prog w = .ok B w)
    (s1 : Aside (∀ w, Calls Try.prog 8 #[.int .i64 s, .int .i64 (l : Int), .agg #[.int .i64 k6, .int .u64 (a6 : Int), .bool r6, .bool q6, .bool x6, .int .i64 f6]] w fun e w' => e = .returned (.agg #[.int .i64 k8, .int .u64 (a8 : Int), .bool r8, .bool q8, .bool x8, .int .i64 f8]) ∧ Kp w w'))
    (s2 : Aside (∀ w, Calls Try.prog 8 #[.int .i64 s, .int .i64 (l : Int), .agg #[.int .i64 k7, .int .u64 (a7 : Int), .bool r7, .bool q7, .bool x7, .int .i64 f7]] w fun e w' => e = .returned (.agg #[.int .i64 k9, .int .u64 (a9 : Int), .bool r9, .bool q9, .bool x9, .int .i64 f9]) ∧ Kp w w'))
    (s3 : Aside (∀ w, Calls Try.prog 9 #[.int .i64 s, .int .i64 (l : Int), .agg #[.int .i64 k8, .int .u64 (a8 : Int), .bool r8, .bool q8, .bool x8, .int .i64 f8]] w fun e w' => e = .returned (.tuple #[.int .u64 (X : Int), .int .i64 0]) ∧ Kp w w'))
    (s4 : Aside (∀ w, Calls Try.prog 9 #[.int .i64 s, .int .i64 (l : Int), .agg #[.int .i64 k9, .int .u64 (a9 : Int), .bool r9, .bool q9, .bool x9, .int .i64 f9]] w fun e w' => e = .returned (.tuple #[.int .u64 (Y : Int), .int .i64 0]) ∧ Kp w w')) :
    Calls Try.prog 6 #[.int .i64 stage, .int .i64 level, .agg #[.int .i64 k6, .int .u64 (a6 : Int), .bool r6, .bool q6, .bool x6, .int .i64 f6], .agg #[.int .i64 k7, .int .u64 (a7 : Int), .bool r7, .bool q7, .bool x7, .int .i64 f7]] w fun e w' => e = .returned (.bool true) ∧ Kp w w' := by
  have st : Aside (∀ w, Calls Try.prog 11 #[] w fun e w' => e = .returned (.bool true) ∧ Kp w w') := fun w => dtold_any w
  have H1 : Hid _ := h1
  have H2 : Aside _ := h2
  clear h1 h2
  go_enter Try.func6, Try.ntmps6
  go_wp2_with fail
  obtain ⟨W1, hW1⟩ : ∃ W1, W1 = (w.alloc (.cells #[.int .i64 k6, .int .u64 (a6 : Int), .bool r6, .bool q6, .bool x6, .int .i64 f6] 26)).alloc (.cells #[.int .i64 k7, .int .u64 (a7 : Int), .bool r7, .bool q7, .bool x7, .int .i64 f7] 26) := ⟨_, rfl⟩
  obtain ⟨b7, hb7⟩ : ∃ b7, b7 = w.heap.size + 1 := ⟨_, rfl⟩
  obtain ⟨b6, hb6⟩ : ∃ b6, b6 = w.heap.size := ⟨_, rfl⟩
  have B6 : BX W1 b6 k6 (a6 : Int) r6 q6 x6 f6 := by rw [hW1, hb6]; exact (BX.made w k6 (a6 : Int) r6 q6 x6 f6).kp ((Kp.refl _).alloc _)
  have B7 : BX W1 b7 k7 (a7 : Int) r7 q7 x7 f7 := by
    have := BX.made (w.alloc (.cells #[.int .i64 k6, .int .u64 (a6 : Int), .bool r6, .bool q6, .bool x6, .int .i64 f6] 26)) k7 (a7 : Int) r7 q7 x7 f7
    rw [hW1, hb7]
    simpa using this
  have HK : Kp w W1 := by rw [hW1]; exact ((Kp.refl w).alloc _).alloc _
  rw [← hW1, ← hb7, ← hb6]
  clear hW1 hb6 hb7
  refine wp_region_inv mixed (fun listed a w => ∃ (l0 l1 l2 l3 l4 l5 l6 l7 l8 l9 l10 l11 : Bool) (u11 u12 u22 u23 u24 u25 u26 u27 u28 u29 : Value) (n11 n12 : Nat), listed = #[l0, l1, l2, l3, l4, l5, l6, l7, l8, l9, l10, l11] ∧ a = uAct (.int .i64 stage) (.int .i64 level) (.agg #[.int .i64 k6, .int .u64 (a6 : Int), .bool r6, .bool q6, .bool x6, .int .i64 f6]) (.agg #[.int .i64 k7, .int .u64 (a7 : Int), .bool r7, .bool q7, .bool x7, .int .i64 f7]) (.pointer (some ⟨b6, 0, none⟩)) (.pointer (some ⟨b7, 0, none⟩)) (.int .i64 s) (.int .i64 (l : Int)) (.int .i64 (m1 : Int)) u11 u12 u22 u23 u24 u25 u26 u27 u28 u29 ∧ UI W1 (.int .i64 s) (.int .i64 (l : Int)) (.agg #[.int .i64 k6, .int .u64 (a6 : Int), .bool r6, .bool q6, .bool x6, .int .i64 f6]) (.agg #[.int .i64 k7, .int .u64 (a7 : Int), .bool r7, .bool q7, .bool x7, .int .i64 f7]) (.agg #[.int .i64 k8, .int .u64 (a8 : Int), .bool r8, .bool q8, .bool x8, .int .i64 f8]) (.agg #[.int .i64 k9, .int .u64 (a9 : Int), .bool r9, .bool q9, .bool x9, .int .i64 f9]) (fun w b t => MB w b t k8 (a8 : Int) r8 q8 x8 f8) (fun w b t => MB w b t k9 (a9 : Int) r9 q9 x9 f9) l0 l1 l2 l3 l4 l5 l6 l7 l8 l9 l10 l11 u11 u12 u22 u23 u24 u25 u26 u27 u28 u29 n11 n12 w) ?_ ?_ ?_
  · exact ⟨false, false, false, false, false, false, false, false, false, false, false, false, undef, undef, undef, undef, undef, undef, undef, undef, undef, undef, 0, 0, rfl, rfl, ⟨(Kp.refl W1).drew, (fun h => by cases h), (fun h => by cases h), (fun h => by cases h), (fun h => by cases h), (fun h => by cases h), (fun h => by cases h), (fun h => by cases h), (fun h => by cases h), (fun h => by cases h), (fun h => by cases h), (fun h => by cases h), (fun h => by cases h), (fun h => by cases h)⟩⟩
  · rintro listed a v i ⟨l0, l1, l2, l3, l4, l5, l6, l7, l8, l9, l10, l11, u11, u12, u22, u23, u24, u25, u26, u27, u28, u29, n11, n12, rfl, rfl, h⟩ hi
    obtain ⟨hl, oo, ho, ha⟩ := mem_ready.1 hi
    have hlt : i < 12 := (Array.getElem?_eq_some_iff.1 ho).1
    clear hi
    rcases (by omega : i = 0 ∨ i = 1 ∨ i = 2 ∨ i = 3 ∨ i = 4 ∨ i = 5 ∨ i = 6 ∨ i = 7 ∨ i = 8 ∨ i = 9 ∨ i = 10 ∨ i = 11) with rfl | rfl | rfl | rfl | rfl | rfl | rfl | rfl | rfl | rfl | rfl | rfl
    · refine wpOp_of rfl rfl (wp_move rfl ?_)
      exact ⟨true, l1, l2, l3, l4, l5, l6, l7, l8, l9, l10, l11, u11, u12, (.int .i64 s), u23, u24, u25, u26, u27, u28, u29, n11, n12, rfl, rfl, ⟨h.kp, fun _ => rfl, h.h1, h.h2, h.h3, h.h4, h.h5, h.h6, h.h7, h.h8, h.h9, h.hne, h.m10, h.m11⟩⟩
    · refine wpOp_of rfl rfl (wp_move rfl ?_)
      exact ⟨l0, true, l2, l3, l4, l5, l6, l7, l8, l9, l10, l11, u11, u12, u22, (.int .i64 (l : Int)), u24, u25, u26, u27, u28, u29, n11, n12, rfl, rfl, ⟨h.kp, h.h0, fun _ => rfl, h.h2, h.h3, h.h4, h.h5, h.h6, h.h7, h.h8, h.h9, h.hne, h.m10, h.m11⟩⟩
    · refine wpOp_of rfl rfl (wp_load_d rfl rfl (B6.kp h.kp) ?_)
      exact ⟨l0, l1, true, l3, l4, l5, l6, l7, l8, l9, l10, l11, u11, u12, u22, u23, (.agg #[.int .i64 k6, .int .u64 (a6 : Int), .bool r6, .bool q6, .bool x6, .int .i64 f6]), u25, u26, u27, u28, u29, n11, n12, rfl, rfl, ⟨h.kp, h.h0, h.h1, fun _ => rfl, h.h3, h.h4, h.h5, h.h6, h.h7, h.h8, h.h9, h.hne, h.m10, h.m11⟩⟩
    · simp at ho
      subst ho
      have e0 : l0 = true := by simpa using ha ⟨0, .data⟩ (by simp) rfl
      have e1 : l1 = true := by simpa using ha ⟨1, .data⟩ (by simp) rfl
      have e2 : l2 = true := by simpa using ha ⟨2, .data⟩ (by simp) rfl
      refine wpOp_of rfl rfl (wp_call3 rfl Try.func8 rfl (by decide) (h.h0 e0) (h.h1 e1) (h.h2 e2) (s1.out v) (fun w' KK => ?_))
      exact ⟨l0, l1, l2, true, l4, l5, l6, l7, l8, l9, l10, l11, u11, u12, u22, u23, u24, (.agg #[.int .i64 k8, .int .u64 (a8 : Int), .bool r8, .bool q8, .bool x8, .int .i64 f8]), u26, u27, u28, u29, n11, n12, rfl, rfl, ⟨h.kp.trans KK, h.h0, h.h1, h.h2, fun _ => rfl, h.h4, h.h5, h.h6, h.h7, fun c => ⟨(h.h8 c).1, (h.h8 c).2.1, BX.kp (h.h8 c).2.2 KK⟩, fun c => ⟨(h.h9 c).1, (h.h9 c).2.1, BX.kp (h.h9 c).2.2 KK⟩, h.hne, h.m10, h.m11⟩⟩
    · refine wpOp_of rfl rfl (wp_move rfl ?_)
      exact ⟨l0, l1, l2, l3, true, l5, l6, l7, l8, l9, l10, l11, u11, u12, u22, u23, u24, u25, (.int .i64 s), u27, u28, u29, n11, n12, rfl, rfl, ⟨h.kp, h.h0, h.h1, h.h2, h.h3, fun _ => rfl, h.h5, h.h6, h.h7, h.h8, h.h9, h.hne, h.m10, h.m11⟩⟩
    · refine wpOp_of rfl rfl (wp_move rfl ?_)
      exact ⟨l0, l1, l2, l3, l4, true, l6, l7, l8, l9, l10, l11, u11, u12, u22, u23, u24, u25, u26, (.int .i64 (l : Int)), u28, u29, n11, n12, rfl, rfl, ⟨h.kp, h.h0, h.h1, h.h2, h.h3, h.h4, fun _ => rfl, h.h6, h.h7, h.h8, h.h9, h.hne, h.m10, h.m11⟩⟩
    · refine wpOp_of rfl rfl (wp_load_d rfl rfl (B7.kp h.kp) ?_)
      exact ⟨l0, l1, l2, l3, l4, l5, true, l7, l8, l9, l10, l11, u11, u12, u22, u23, u24, u25, u26, u27, (.agg #[.int .i64 k7, .int .u64 (a7 : Int), .bool r7, .bool q7, .bool x7, .int .i64 f7]), u29, n11, n12, rfl, rfl, ⟨h.kp, h.h0, h.h1, h.h2, h.h3, h.h4, h.h5, fun _ => rfl, h.h7, h.h8, h.h9, h.hne, h.m10, h.m11⟩⟩
    · simp at ho
      subst ho
      have e4 : l4 = true := by simpa using ha ⟨4, .data⟩ (by simp) rfl
      have e5 : l5 = true := by simpa using ha ⟨5, .data⟩ (by simp) rfl
      have e6 : l6 = true := by simpa using ha ⟨6, .data⟩ (by simp) rfl
      refine wpOp_of rfl rfl (wp_call3 rfl Try.func8 rfl (by decide) (h.h4 e4) (h.h5 e5) (h.h6 e6) (s2.out v) (fun w' KK => ?_))
      exact ⟨l0, l1, l2, l3, l4, l5, l6, true, l8, l9, l10, l11, u11, u12, u22, u23, u24, u25, u26, u27, u28, (.agg #[.int .i64 k9, .int .u64 (a9 : Int), .bool r9, .bool q9, .bool x9, .int .i64 f9]), n11, n12, rfl, rfl, ⟨h.kp.trans KK, h.h0, h.h1, h.h2, h.h3, h.h4, h.h5, h.h6, fun _ => rfl, fun c => ⟨(h.h8 c).1, (h.h8 c).2.1, BX.kp (h.h8 c).2.2 KK⟩, fun c => ⟨(h.h9 c).1, (h.h9 c).2.1, BX.kp (h.h9 c).2.2 KK⟩, h.hne, h.m10, h.m11⟩⟩
    · have e8 : l8 = false := by simpa using hl
      have e10 : l10 = false := by
        cases hc : l10
        · rfl
        · rw [h.m10 hc] at e8; cases e8
      subst e10
      have KK : Kp v (v.alloc (.cells #[.int .i64 0, .int .u64 0, .bool false, .bool false, .bool false, .int .i64 0] 26)) := (Kp.refl v).alloc _
      refine wpOp_of rfl rfl (wp_alloc_d rfl ?_)
      exact ⟨l0, l1, l2, l3, l4, l5, l6, l7, true, l9, false, l11, .pointer (some ⟨v.heap.size, 0, none⟩), u12, u22, u23, u24, u25, u26, u27, u28, u29, v.heap.size, n12, rfl, rfl, ⟨h.kp.trans KK, h.h0, h.h1, h.h2, h.h3, h.h4, h.h5, h.h6, h.h7, fun _ => ⟨rfl, h.kp.size, BX.made v 0 0 false false false 0⟩, fun c => ⟨(h.h9 c).1, (h.h9 c).2.1, BX.kp (h.h9 c).2.2 KK⟩, fun _ c => Nat.ne_of_gt (BX.lt (h.h9 c).2.2), fun _ => rfl, h.m11⟩⟩
    · have e9 : l9 = false := by simpa using hl
      have e11 : l11 = false := by
        cases hc : l11
        · rfl
        · rw [h.m11 hc] at e9; cases e9
      subst e11
      have KK : Kp v (v.alloc (.cells #[.int .i64 0, .int .u64 0, .bool false, .bool false, .bool false, .int .i64 0] 26)) := (Kp.refl v).alloc _
      refine wpOp_of rfl rfl (wp_alloc_d rfl ?_)
      exact ⟨l0, l1, l2, l3, l4, l5, l6, l7, l8, true, l10, false, u11, .pointer (some ⟨v.heap.size, 0, none⟩), u22, u23, u24, u25, u26, u27, u28, u29, n11, v.heap.size, rfl, rfl, ⟨h.kp.trans KK, h.h0, h.h1, h.h2, h.h3, h.h4, h.h5, h.h6, h.h7, fun c => ⟨(h.h8 c).1, (h.h8 c).2.1, BX.kp (h.h8 c).2.2 KK⟩, fun _ => ⟨rfl, h.kp.size, BX.made v 0 0 false false false 0⟩, fun c _ => Nat.ne_of_lt (BX.lt (h.h8 c).2.2), h.m10, fun _ => rfl⟩⟩
    · simp at ho
      subst ho
      have e8 : l8 = true := by simpa using ha ⟨8, .data⟩ (by simp) rfl
      have e3 : l3 = true := by simpa using ha ⟨3, .data⟩ (by simp) rfl
      refine wpOp_of rfl rfl (wp_store_d rfl (h.h8 e8).1 (h.h3 e3) (h.h8 e8).2.2 rfl ?_)
      exact ⟨l0, l1, l2, l3, l4, l5, l6, l7, l8, l9, true, l11, u11, u12, u22, u23, u24, u25, u26, u27, u28, u29, n11, n12, rfl, rfl, ⟨h.kp.putD (h.h8 e8).2.1, h.h0, h.h1, h.h2, h.h3, h.h4, h.h5, h.h6, h.h7, fun _ => ⟨(h.h8 e8).1, (h.h8 e8).2.1, BX.put (h.h8 e8).2.2 _ _ _ _ _ _⟩, fun c => ⟨(h.h9 c).1, (h.h9 c).2.1, putD_other (h.h9 c).2.2 (fun e => h.hne e8 c e.symm)⟩, h.hne, fun _ => e8, h.m11⟩⟩
    · simp at ho
      subst ho
      have e9 : l9 = true := by simpa using ha ⟨9, .data⟩ (by simp) rfl
      have e7 : l7 = true := by simpa using ha ⟨7, .data⟩ (by simp) rfl
      refine wpOp_of rfl rfl (wp_store_d rfl (h.h9 e9).1 (h.h7 e7) (h.h9 e9).2.2 rfl ?_)
      exact ⟨l0, l1, l2, l3, l4, l5, l6, l7, l8, l9, l10, true, u11, u12, u22, u23, u24, u25, u26, u27, u28, u29, n11, n12, rfl, rfl, ⟨h.kp.putD (h.h9 e9).2.1, h.h0, h.h1, h.h2, h.h3, h.h4, h.h5, h.h6, h.h7, fun c => ⟨(h.h8 c).1, (h.h8 c).2.1, putD_other (h.h8 c).2.2 (fun e => h.hne c e9 e)⟩, fun _ => ⟨(h.h9 e9).1, (h.h9 e9).2.1, BX.put (h.h9 e9).2.2 _ _ _ _ _ _⟩, h.hne, h.m10, fun _ => e9⟩⟩
  · rintro listed a v ⟨l0, l1, l2, l3, l4, l5, l6, l7, l8, l9, l10, l11, u11, u12, u22, u23, u24, u25, u26, u27, u28, u29, n11, n12, rfl, rfl, h⟩ hr
    have e0 : l0 = true := by
      cases l0
      · have hm : (0 : Nat) ∈ ([] : List Nat) := by rw [← hr]; exact mem_ready.2 ⟨rfl, _, rfl, by simp⟩
        cases hm
      · rfl
    subst e0
    have e1 : l1 = true := by
      cases l1
      · have hm : (1 : Nat) ∈ ([] : List Nat) := by rw [← hr]; exact mem_ready.2 ⟨rfl, _, rfl, by simp⟩
        cases hm
      · rfl
    subst e1
    have e2 : l2 = true := by
      cases l2
      · have hm : (2 : Nat) ∈ ([] : List Nat) := by rw [← hr]; exact mem_ready.2 ⟨rfl, _, rfl, by simp⟩
        cases hm
      · rfl
    subst e2
    have e4 : l4 = true := by
      cases l4
      · have hm : (4 : Nat) ∈ ([] : List Nat) := by rw [← hr]; exact mem_ready.2 ⟨rfl, _, rfl, by simp⟩
        cases hm
      · rfl
    subst e4
    have e5 : l5 = true := by
      cases l5
      · have hm : (5 : Nat) ∈ ([] : List Nat) := by rw [← hr]; exact mem_ready.2 ⟨rfl, _, rfl, by simp⟩
        cases hm
      · rfl
    subst e5
    have e6 : l6 = true := by
      cases l6
      · have hm : (6 : Nat) ∈ ([] : List Nat) := by rw [← hr]; exact mem_ready.2 ⟨rfl, _, rfl, by simp⟩
        cases hm
      · rfl
    subst e6
    have e8 : l8 = true := by
      cases l8
      · have hm : (8 : Nat) ∈ ([] : List Nat) := by rw [← hr]; exact mem_ready.2 ⟨rfl, _, rfl, by simp⟩
        cases hm
      · rfl
    subst e8
    have e9 : l9 = true := by
      cases l9
      · have hm : (9 : Nat) ∈ ([] : List Nat) := by rw [← hr]; exact mem_ready.2 ⟨rfl, _, rfl, by simp⟩
        cases hm
      · rfl
    subst e9
    have e3 : l3 = true := by
      cases l3
      · have hm : (3 : Nat) ∈ ([] : List Nat) := by rw [← hr]; exact mem_ready.2 ⟨rfl, _, rfl, by simp⟩
        cases hm
      · rfl
    subst e3
    have e7 : l7 = true := by
      cases l7
      · have hm : (7 : Nat) ∈ ([] : List Nat) := by rw [← hr]; exact mem_ready.2 ⟨rfl, _, rfl, by simp⟩
        cases hm
      · rfl
    subst e7
    have e10 : l10 = true := by
      cases l10
      · have hm : (10 : Nat) ∈ ([] : List Nat) := by rw [← hr]; exact mem_ready.2 ⟨rfl, _, rfl, by simp⟩
        cases hm
      · rfl
    subst e10
    have e11 : l11 = true := by
      cases l11
      · have hm : (11 : Nat) ∈ ([] : List Nat) := by rw [← hr]; exact mem_ready.2 ⟨rfl, _, rfl, by simp⟩
        cases hm
      · rfl
    subst e11
    have g0 := h.h0 rfl
    subst g0
    have g1 := h.h1 rfl
    subst g1
    have g2 := h.h2 rfl
    subst g2
    have g3 := h.h3 rfl
    subst g3
    have g4 := h.h4 rfl
    subst g4
    have g5 := h.h5 rfl
    subst g5
    have g6 := h.h6 rfl
    subst g6
    have g7 := h.h7 rfl
    subst g7
    obtain ⟨g8, _, M11⟩ := h.h8 rfl
    obtain ⟨g9, _, M12⟩ := h.h9 rfl
    subst g8
    subst g9
    have HK0 : Hid (Kp w v) := HK.trans h.kp
    have Hn110 : Hid (BX v n11 k8 (a8 : Int) r8 q8 x8 f8) := M11
    have Hn120 : Hid (BX v n12 k9 (a9 : Int) r9 q9 x9 f9) := M12
    clear h hr M11 M12 HK B6 B7
    unfold uAct
    have x0 := Hn110.out.c0
    have x1 := Hn110.out.c1
    have x2 := Hn110.out.c2
    have x3 := Hn110.out.c3
    have x4 := Hn110.out.c4
    have x5 := Hn110.out.c5
    go_wp2_with fail
    with_reducible refine (s3.out _).mono ?_
    rintro e w1 ⟨rfl, K⟩
    have HK1 : Hid (Kp w w1) := HK0.out.trans K
    have Hn111 : Hid (BX w1 n11 k8 (a8 : Int) r8 q8 x8 f8) := Hn110.out.kp K
    have Hn121 : Hid (BX w1 n12 k9 (a9 : Int) r9 q9 x9 f9) := Hn120.out.kp K
    clear K HK0 Hn110 Hn120 s3 x0 x1 x2 x3 x4 x5
    have x0 := Hn121.out.c0
    have x1 := Hn121.out.c1
    have x2 := Hn121.out.c2
    have x3 := Hn121.out.c3
    have x4 := Hn121.out.c4
    have x5 := Hn121.out.c5
    go_wp2_with fail
    with_reducible refine (s4.out _).mono ?_
    rintro e w2 ⟨rfl, K⟩
    have HK2 : Hid (Kp w w2) := HK1.out.trans K
    have Hn112 : Hid (BX w2 n11 k8 (a8 : Int) r8 q8 x8 f8) := Hn111.out.kp K
    have Hn122 : Hid (BX w2 n12 k9 (a9 : Int) r9 q9 x9 f9) := Hn121.out.kp K
    clear K HK1 Hn111 Hn121 s4 x0 x1 x2 x3 x4 x5
    go_wp2_with fail
    with_reducible refine (st.out _).mono ?_
    rintro e w3 ⟨rfl, K⟩
    have HK3 : Hid (Kp w w3) := HK2.out.trans K
    have Hn113 : Hid (BX w3 n11 k8 (a8 : Int) r8 q8 x8 f8) := Hn112.out.kp K
    have Hn123 : Hid (BX w3 n12 k9 (a9 : Int) r9 q9 x9 f9) := Hn122.out.kp K
    clear K HK2 Hn112 Hn122 st
    have x0 := Hn113.out.c0
    have x1 := Hn113.out.c1
    have x2 := Hn113.out.c2
    have x3 := Hn113.out.c3
    have x4 := Hn113.out.c4
    have x5 := Hn113.out.c5
    have y0 := Hn123.out.c0
    have y1 := Hn123.out.c1
    have y2 := Hn123.out.c2
    have y3 := Hn123.out.c3
    have y4 := Hn123.out.c4
    have y5 := Hn123.out.c5
    have h1 := H1.out
    have h2 := H2.out
    go_wp2_with fail
    go_ret
    exact ⟨rfl, HK3.out⟩

theorem unlike_law (stage level : Int) (k6 : Int) (a6 : Nat) (r6 q6 x6 : Bool) (f6 : Int) (k7 : Int) (a7 : Nat) (r7 q7 x7 : Bool) (f7 : Int) (ha6 : a6 < 18446744073709551616) (ha7 : a7 < 18446744073709551616) (w : World) :
    Calls Try.prog 6 #[.int .i64 stage, .int .i64 level, .agg #[.int .i64 k6, .int .u64 (a6 : Int), .bool r6, .bool q6, .bool x6, .int .i64 f6], .agg #[.int .i64 k7, .int .u64 (a7 : Int), .bool r7, .bool q7, .bool x7, .int .i64 f7]] w fun e w' => e = .returned (.bool true) ∧ Kp w w' := by
  obtain ⟨m1, p1, hm1⟩ := and_lim stage 1 (by decide)
  obtain ⟨l, p2, hl⟩ := and_lim level 3 (by decide)
  obtain ⟨s, hs⟩ : ∃ s, 1 + (m1 : Int) = s := ⟨_, rfl⟩
  have hp : isPl s l = true := isPl_iff.2 ⟨by omega, by omega, by omega, by omega⟩
  obtain ⟨k8, a8, r8, q8, x8, f8, hc8, s1⟩ := near_any s l k6 a6 r6 q6 x6 f6 hp ha6
  obtain ⟨k9, a9, r9, q9, x9, f9, hc9, s2⟩ := near_any s l k7 a7 r7 q7 x7 f7 hp ha7
  have s3 := fun w => encode_any s l k8 a8 r8 q8 x8 f8 w
  have s4 := fun w => encode_any s l k9 a9 r9 q9 x9 f9 w
  have hw8 : dencN s l k8 a8 r8 q8 x8 f8 = wrd k8 a8 r8 q8 x8 f8 := by unfold dencN; rw [if_pos hc8]
  have hw9 : dencN s l k9 a9 r9 q9 x9 f9 = wrd k9 a9 r9 q9 x9 f9 := by unfold dencN; rw [if_pos hc9]
  rw [hc8, hw8] at s3
  rw [hc9, hw9] at s4
  exact unlike_walk stage level k6 a6 r6 q6 x6 f6 k7 a7 r7 q7 x7 f7 k8 a8 r8 q8 x8 f8 k9 a9 r9 q9 x9 f9 m1 l _ _ s _ w p1 (by omega) hs p2 (wrd_like hc8 hc9) (fun w => eq_desc _ _ _ _ _ _ _ _ _ _ _ _ w) s1 s2 s3 s4

end Go.Proofs.Ytggmldickiehbaa
