/- demesnelaw14: the memory of a world by its words; put, word, frame, All. -/
import Derived.Test.YtclcickhgoiooaaNC
import Derived.Test.YtclcickhgoiooaaJP
import Derived.Test.YtclcickhgoiooaaJF
namespace Go.Proofs.Ytclcickhgoiooaa
open Go.RowKit
set_option maxRecDepth 10000

/-- What a memory of words tells of a place. -/
def rdM (M : Nat → Nat → Nat) : Nat → Nat × Bool := fun a => if a % 8 = 0 ∧ a / 4096 < 40 then (M (a / 4096) (a % 4096 / 8), true) else (0, false)
theorem rdM_of (B : Nat → Nat → Nat) : rdB 40 B = rdM (wM B) := by
  funext a
  unfold rdB rdM wM
  by_cases c : a % 8 = 0 ∧ a / 4096 < 40
  · rw [if_pos c, if_pos c, show 8 * (a % 4096 / 8) = a % 4096 by omega]
  · rw [if_neg c, if_neg c]

/-- Behind W, but not X. -/
def OuX (W : World) (X : Nat → Prop) (k : Nat) : Prop := W.heap.size ≤ k ∧ ¬ X k
/-- The memory at p has the words M and at most o ops; it lies behind W, beside X. -/
def WW (W : World) (X : Nat → Prop) (p o : Nat) (M : Nat → Nat → Nat) (w : World) : Prop :=
  ∃ S B, wM B = M ∧ PMo w S p 40 o B ∧ (∀ i, S i → OuX W X i) ∧ (∀ i, X i → i < w.heap.size) ∧ Kp W w
section
variable {W w w' : World} {X Y : Nat → Prop} {p o : Nat} {M : Nat → Nat → Nat}
theorem WW.k (h : WW W X p o M w) : Kp W w := by obtain ⟨_, _, _, _, _, _, h⟩ := h; exact h
theorem WW.kp (h : WW W X p o M w) (k : Kp w w') : WW W X p o M w' := by
  obtain ⟨S, B, h1, h2, h3, h4, h5⟩ := h
  exact ⟨S, B, h1, h2.kp k, h3, fun i hi => Nat.lt_of_lt_of_le (h4 i hi) k.size, h5.trans k⟩
theorem WW.le (h : WW W X p o M w) {o' : Nat} (ho : o ≤ o') : WW W X p o' M w := by
  obtain ⟨S, B, h1, h2, h3⟩ := h
  exact ⟨S, B, h1, h2.le ho, h3⟩
theorem WW.more (h : WW W X p o M w) (k : Kp w w') (b : Nat) (hb : w.heap.size ≤ b) (hl : b < w'.heap.size) : WW W (fun i => X i ∨ i = b) p o M w' := by
  obtain ⟨S, B, h1, h2, h3, h4, h5⟩ := h
  refine ⟨S, B, h1, h2.kp k, fun i hi => ⟨(h3 i hi).1, fun c => ?_⟩, fun i hi => ?_, h5.trans k⟩
  · rcases c with c | rfl
    · exact (h3 i hi).2 c
    · have := h2.own _ hi; omega
  · have := k.size
    rcases hi with hi | rfl
    · have := h4 i hi; omega
    · exact hl
theorem WW.less (h : WW W X p o M w) (hY : ∀ i, Y i → X i) : WW W Y p o M w := by
  obtain ⟨S, B, h1, h2, h3, h4, h5⟩ := h
  exact ⟨S, B, h1, h2, fun i hi => ⟨(h3 i hi).1, fun c => (h3 i hi).2 (hY i c)⟩, fun i hi => h4 i (hY i hi), h5⟩
theorem WW.fx {T : Nat → Prop} (h : WW W X p o M w) (k : Fr T w w') (hT : ∀ i, T i → W.heap.size ≤ i ∧ X i) : WW W X p o M w' := by
  obtain ⟨S, B, h1, h2, h3, h4, h5⟩ := h
  exact ⟨S, B, h1, h2.fr k (fun i hi c => (h3 i hi).2 (hT i c).2), h3, fun i hi => Nat.lt_of_lt_of_le (h4 i hi) k.size, k.kp h5 (fun i hi => (hT i hi).1)⟩
theorem WW.lt (h : WW W X p o M w) : ∀ i, X i → i < w.heap.size := by
  obtain ⟨S, B, h1, h2, h3, h4, h5⟩ := h
  exact h4
theorem WW.write (h : WW W X p o M w) (x i v : Nat) (hx : x < 40) (hi : i < 512) (hv : v < 18446744073709551616) (ho : o < 4000000000000000000) :
    Calls Try.prog 23 #[.pointer (some ⟨p, 0, none⟩), .int .u64 ((x * 4096 + 8 * i : Nat) : Int), .int .i64 8, .int .u64 (v : Int)] w fun e w' => e = .returned (.int .i64 0) ∧ WW W X p (o + 1) (updM M x i v) w' ∧ Fr (OuX W X) w w' := by
  obtain ⟨S, B, rfl, ⟨ops, ho1, h2⟩, h3, h4, h5⟩ := h
  have k := pwrite_ok h2 (x * 4096 + 8 * i) 8 v (by omega) (chk_word hx hi) hv (by omega)
  rw [show (x * 4096 + 8 * i) / 4096 = x by omega, show (x * 4096 + 8 * i) % 4096 = 8 * i by omega] at k
  refine k.mono fun e w' ⟨e1, S', e2, e3, e4⟩ => ⟨e1, ⟨S', _, wM_put B x i v hv, ⟨ops + 1, by omega, e2⟩, fun j hj => ?_, fun j hj => Nat.lt_of_lt_of_le (h4 j hj) e3.size, e3.kp h5 (fun j hj => (h3 j hj).1)⟩, e3.mono (fun j _ hj => h3 j hj)⟩
  rcases e4 j hj with c | c
  · exact h3 j c
  · exact ⟨Nat.le_trans h5.size c, fun hX => by have := h4 j hX; omega⟩
end

/-- The closure that puts a word. -/
theorem put_any {W w : World} {X : Nat → Prop} {p o c : Nat} {M : Nat → Nat → Nat} (h : WW W X p o M w) (C : RX w c 24 [.pointer (some ⟨p, 0, none⟩)]) (x i v : Nat) (hx : x < 40) (hi : i < 512) (hv : v < 18446744073709551616) (ho : o < 4000000000000000000) :
    Calls Try.prog 22 #[.int .u64 ((x * 4096 + 8 * i : Nat) : Int), .int .u64 (v : Int), .pointer (some ⟨c, 0, none⟩)] w fun e w' => e = .returned (.bool true) ∧ WW W X p (o + 1) (updM M x i v) w' ∧ Fr (OuX W X) w w' := by
  have k := h.write x i v hx hi hv ho
  have c0 := C.cell (j := 0) rfl
  generalize ((x * 4096 + 8 * i : Nat) : Int) = a at *
  clear C h ho hi hx hv
  go_enter Try.func22, Try.ntmps22
  go_wp2_with fail
  with_reducible refine k.mono ?_
  rintro e w1 ⟨rfl, K⟩
  have HK : Hid _ := K
  clear K k
  go_wp2
  go_ret
  exact ⟨rfl, HK.out⟩
theorem den_lt (s l k : Int) (a : Nat) (r q x : Bool) (f : Int) : dencN s l k a r q x f < 18446744073709551616 := by
  unfold dencN
  by_cases h : dchk s l k a r q x f = 0
  · rw [if_pos h]
    obtain ⟨u, h1, h2, _⟩ := dec_back h
    rw [h1]; exact h2
  · rw [if_neg h]; decide
theorem lword_any (s l k : Int) (a : Nat) (r q x : Bool) (f : Int) (w : World) :
    Calls Try.prog 24 #[.int .i64 s, .int .i64 l, .agg #[.int .i64 k, .int .u64 (a : Int), .bool r, .bool q, .bool x, .int .i64 f]] w fun e w' => e = .returned (.int .u64 (dencN s l k a r q x f : Nat)) ∧ Kp w w' := by
  have k1 := fun w => rencode_any s l k a r q x f w
  generalize dencN s l k a r q x f = u at *
  generalize dchk s l k a r q x f = e at *
  go_enter Try.func24, Try.ntmps24
  go_wp2_with fail
  with_reducible refine (k1 _).mono ?_
  rintro e w1 ⟨rfl, K⟩
  have HK : Hid (Kp w w1) := ((Kp.refl w).alloc _).trans K
  clear K k1
  go_wp2
  go_ret
  exact ⟨rfl, HK.out⟩
/-- The frame of a guest's page. -/
def frN (p : Nat) : Nat := 8 + (p * 5 + 3) % 24
theorem frN_lt (p : Nat) : frN p < 32 := by unfold frN; omega
theorem lframe_any (p : Nat) (hp : p ≤ 1000) (w : World) :
    Calls Try.prog 25 #[.int .i64 (p : Int)] w fun e w' => e = .returned (.int .i64 (frN p : Nat)) ∧ w' = w := by
  have z : (p : Int) ≤ 1000 := by omega
  have y1 : ((p : Int) * 5 + 3).tmod 24 = (((p * 5 + 3) % 24 : Nat) : Int) := by rw [Int.tmod_eq_emod_of_nonneg (by omega)]; omega
  have y2 : ((p : Int) * 5 + 3) % 24 = (((p * 5 + 3) % 24 : Nat) : Int) := by omega
  have y3 : (((p * 5 + 3) % 24 : Nat) : Int) ≤ 23 := by omega
  unfold frN
  generalize (p * 5 + 3) % 24 = r at *
  go_enter Try.func25, Try.ntmps25
  go_wp2
  go_ret
  exact ⟨rfl, rfl⟩
theorem all_any (w : World) : Calls Try.prog 26 #[] w fun e w' => e = .returned (.agg #[.bool true, .bool true, .bool true]) ∧ Kp w w' := by
  go_enter Try.func26, Try.ntmps26
  go_wp2_with fail
  exact bodyPost_ret (res_p rfl rfl (PX.made w _ _ _)) rfl ⟨rfl, (Kp.refl _).alloc _⟩

end Go.Proofs.Ytclcickhgoiooaa
