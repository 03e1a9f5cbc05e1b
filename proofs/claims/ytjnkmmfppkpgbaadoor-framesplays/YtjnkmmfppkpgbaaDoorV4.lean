/- frames: New, Table, Page, Block, Ref, Drop, over what is counted alone. -/
import Derived.Test.YtjnkmmfppkpgbaaDoorV3
namespace Go.Proofs.YtjnkmmfppkpgbaaDoor
open Go.RowKit Go.Maps
set_option maxRecDepth 10000

/-- The free frames, for tables and for pages. -/
def fT (pool : Nat) (C : Nat → Nat) : Nat → Bool := fun k => decide (k < pool) && decide (C k = 0)
def fP (pool N : Nat) (C : Nat → Nat) : Nat → Bool := fun k => decide (pool ≤ k) && decide (k < N) && decide (C k = 0)
theorem fT_iff (pool : Nat) (C : Nat → Nat) (k : Nat) : fT pool C k = true ↔ k < pool ∧ C k = 0 := by unfold fT; simp
theorem fP_iff (pool N : Nat) (C : Nat → Nat) (k : Nat) : fP pool N C k = true ↔ pool ≤ k ∧ k < N ∧ C k = 0 := by unfold fP; simp [and_assoc]
theorem eq_of_iff {F G : Nat → Bool} (h : ∀ k, F k = true ↔ G k = true) : F = G := funext fun k => Bool.eq_iff_iff.2 (h k)

/-- What Take finds, or that there is none. -/
def TkR (F : Nat → Bool) (o : Nat) : Option Nat → Prop
  | some x => ∃ o' i, Tk F o o' i ∧ x = i * 2 ^ o'
  | none => ∀ a, o ≤ a → a ≤ 9 → ∀ j, ¬ Rn F a j
theorem tkr_ex (F : Nat → Bool) (o : Nat) : ∃ r, TkR F o r := by
  rcases tk_or F o with ⟨o', i, t⟩ | t
  · exact ⟨some (i * 2 ^ o'), o', i, t, rfl⟩
  · exact ⟨none, t⟩
theorem TkR.blk {F : Nat → Bool} {o x : Nat} (h : TkR F o (some x)) : x / 2 ^ o * 2 ^ o = x ∧ ∀ k, x ≤ k → k < x + 2 ^ o → F k = true := by
  obtain ⟨o', i, t, rfl⟩ := h
  have e : i * 2 ^ o' = i * 2 ^ (o' - o) * 2 ^ o := by rw [Nat.mul_assoc, ← Nat.pow_add, Nat.sub_add_cancel t.le]
  have e1 : i * 2 ^ o' / 2 ^ o * 2 ^ o = i * 2 ^ o' := by rw [e, Nat.mul_div_cancel _ (Nat.two_pow_pos o)]
  refine ⟨e1, fun k h1 h2 => t.run.1 k ?_⟩
  have hb : k / 2 ^ o = i * 2 ^ (o' - o) := (blk_iff ..).2 ⟨by rw [← e]; exact h1, by rw [← e]; exact h2⟩
  have : k / 2 ^ o' = k / 2 ^ o / 2 ^ (o' - o) := by rw [Nat.div_div_eq_div_mul, ← Nat.pow_add, show o + (o' - o) = o' by have := t.le; omega]
  rw [this, hb, Nat.mul_div_cancel _ (Nat.two_pow_pos _)]
theorem subF_at {F : Nat → Bool} {o x : Nat} (h : x / 2 ^ o * 2 ^ o = x) (k : Nat) : subF F o (x / 2 ^ o) k = true ↔ F k = true ∧ ¬ (x ≤ k ∧ k < x + 2 ^ o) := by
  rw [subF_iff, Ne, blk_iff, h]
def gotX (r : Option Nat) : Nat := match r with
  | some x => x
  | none => 0
def gotE (r : Option Nat) (lack : Int) : Int := match r with
  | some _ => 0
  | none => lack
def gotB (B : Nat → Nat → Nat) (r : Option Nat) (s : Nat) : Nat → Nat → Nat := match r with
  | some x => zerR B x s
  | none => B
def gotC (C : Nat → Nat) (r : Option Nat) (s : Nat) : Nat → Nat := match r with
  | some x => onR C x s
  | none => C
theorem fT_on {pool o x : Nat} {C : Nat → Nat} (h : x / 2 ^ o * 2 ^ o = x) : fT pool (onR C x (2 ^ o)) = subF (fT pool C) o (x / 2 ^ o) := eq_of_iff fun k => by
  rw [subF_at h, fT_iff, fT_iff]
  unfold onR
  by_cases c : x ≤ k ∧ k < x + 2 ^ o
  · rw [if_pos c]; omega
  · rw [if_neg c]; exact ⟨fun a => ⟨a, c⟩, fun a => a.1⟩
theorem fP_on {pool N o x : Nat} {C : Nat → Nat} (h : x / 2 ^ o * 2 ^ o = x) : fP pool N (onR C x (2 ^ o)) = subF (fP pool N C) o (x / 2 ^ o) := eq_of_iff fun k => by
  rw [subF_at h, fP_iff, fP_iff]
  unfold onR
  by_cases c : x ≤ k ∧ k < x + 2 ^ o
  · rw [if_pos c]; omega
  · rw [if_neg c]; exact ⟨fun a => ⟨a, c⟩, fun a => a.1⟩
theorem fT_out {pool x s : Nat} {C : Nat → Nat} (h : pool ≤ x) : fT pool (onR C x s) = fT pool C := eq_of_iff fun k => by
  rw [fT_iff, fT_iff]
  unfold onR
  by_cases c : x ≤ k ∧ k < x + s
  · rw [if_pos c]; omega
  · rw [if_neg c]
theorem fP_out {pool N x s : Nat} {C : Nat → Nat} (h : x + s ≤ pool) : fP pool N (onR C x s) = fP pool N C := eq_of_iff fun k => by
  rw [fP_iff, fP_iff]
  unfold onR
  by_cases c : x ≤ k ∧ k < x + s
  · rw [if_pos c]; omega
  · rw [if_neg c]
/-- A count that was not 0 and is not. -/
theorem fT_same {pool x v : Nat} {C : Nat → Nat} (h : C x ≠ 0) (hv : v ≠ 0) : fT pool (putC C x v) = fT pool C := eq_of_iff fun k => by
  rw [fT_iff, fT_iff]
  unfold putC
  by_cases c : k = x
  · rw [if_pos c, c]; omega
  · rw [if_neg c]
theorem fP_same {pool N x v : Nat} {C : Nat → Nat} (h : C x ≠ 0) (hv : v ≠ 0) : fP pool N (putC C x v) = fP pool N C := eq_of_iff fun k => by
  rw [fP_iff, fP_iff]
  unfold putC
  by_cases c : k = x
  · rw [if_pos c, c]; omega
  · rw [if_neg c]
theorem fT_zero {pool x : Nat} {C : Nat → Nat} (h : x < pool) : fT pool (putC C x 0) = addF (fT pool C) 0 x := eq_of_iff fun k => by
  rw [addF_iff, fT_iff, fT_iff, Nat.pow_zero, Nat.div_one]
  unfold putC
  by_cases c : k = x
  · rw [if_pos c]; exact ⟨fun _ => .inr c, fun _ => ⟨by omega, rfl⟩⟩
  · rw [if_neg c]; exact ⟨.inl, fun a => a.resolve_right c⟩
theorem fP_zero {pool N x : Nat} {C : Nat → Nat} (h : pool ≤ x) (h2 : x < N) : fP pool N (putC C x 0) = addF (fP pool N C) 0 x := eq_of_iff fun k => by
  rw [addF_iff, fP_iff, fP_iff, Nat.pow_zero, Nat.div_one]
  unfold putC
  by_cases c : k = x
  · rw [if_pos c]; exact ⟨fun _ => .inr c, fun _ => ⟨by omega, by omega, rfl⟩⟩
  · rw [if_neg c]; exact ⟨.inl, fun a => a.resolve_right c⟩
theorem fT_off {pool x v : Nat} {C : Nat → Nat} (h : pool ≤ x) : fT pool (putC C x v) = fT pool C := eq_of_iff fun k => by
  rw [fT_iff, fT_iff]
  unfold putC
  by_cases c : k = x
  · rw [if_pos c]; omega
  · rw [if_neg c]
theorem fP_off {pool N x v : Nat} {C : Nat → Nat} (h : x < pool) : fP pool N (putC C x v) = fP pool N C := eq_of_iff fun k => by
  rw [fP_iff, fP_iff]
  unfold putC
  by_cases c : k = x
  · rw [if_pos c]; omega
  · rw [if_neg c]

/-- The frames at p over the memory at pm: what is counted says what is free. -/
def FZ (w : World) (S : Nat → Prop) (p pm N pool ops : Nat) (B : Nat → Nat → Nat) (C : Nat → Nat) : Prop :=
  (∃ M U V bt bp bc, FA w S M U V p pm bt bp bc N pool ops B (fT pool C) (fP pool N C) C) ∧ ∀ k, C k ≤ 1073741824
section
variable {w w' : World} {S : Nat → Prop} {p pm N pool ops : Nat} {B : Nat → Nat → Nat} {C : Nat → Nat}
theorem FZ.fr (h : FZ w S p pm N pool ops B C) {X : Nat → Prop} (k : Fr X w w') (hX : ∀ i, S i → ¬ X i) (h0 : ¬ X 1) : FZ w' S p pm N pool ops B C := by
  obtain ⟨⟨M, U, V, bt, bp, bc, h⟩, b⟩ := h
  exact ⟨⟨M, U, V, bt, bp, bc, h.fr k hX h0⟩, b⟩
theorem FZ.kp (h : FZ w S p pm N pool ops B C) (k : Kp w w') : FZ w' S p pm N pool ops B C := h.fr (k.fr (fun _ => False)) (fun _ _ => id) id
theorem FZ.own (h : FZ w S p pm N pool ops B C) : ∀ k, S k → k < w.heap.size := by
  obtain ⟨⟨M, U, V, bt, bp, bc, h⟩, b⟩ := h
  exact h.own
theorem FZ.s0 (h : FZ w S p pm N pool ops B C) : ¬ S 1 := by
  obtain ⟨⟨M, U, V, bt, bp, bc, h⟩, b⟩ := h
  exact h.s0
theorem FZ.nums (h : FZ w S p pm N pool ops B C) : 1 ≤ pool ∧ pool < N ∧ N ≤ 1048576 := by
  obtain ⟨⟨M, U, V, bt, bp, bc, h⟩, b⟩ := h
  exact ⟨h.p1, h.p2, h.n2⟩
theorem FZ.dom (h : FZ w S p pm N pool ops B C) : ∀ x, C x ≠ 0 → x < N := by
  obtain ⟨⟨M, U, V, bt, bp, bc, h⟩, b⟩ := h
  exact h.cs.dom
theorem FZ.tab (h : FZ w S p pm N pool ops B C) : TAB w := by
  obtain ⟨⟨M, U, V, bt, bp, bc, h⟩, b⟩ := h
  exact h.tb.tab
theorem onR_le {C : Nat → Nat} (h : ∀ k, C k ≤ 1073741824) (x s : Nat) : ∀ k, onR C x s k ≤ 1073741824 := fun k => by unfold onR; split; omega; exact h k
theorem putC_le {C : Nat → Nat} (h : ∀ k, C k ≤ 1073741824) (x v : Nat) (hv : v ≤ 1073741824) : ∀ k, putC C x v k ≤ 1073741824 := fun k => by unfold putC; split; exact hv; exact h k

/-! ### Table, Page, Block -/
theorem two9 : (2 : Int) ^ 9 = ((512 : Nat) : Int) := by decide
theorem two0 : (2 : Int) ^ 0 = ((1 : Nat) : Int) := by decide
set_option maxHeartbeats 1000000 in
theorem ftable_any (h : FZ w S p pm N pool ops B C) (r : Option Nat) (hr : TkR (fT pool C) 0 r) :
    Calls Tryd.prog 12 #[.pointer (some ⟨p, 0, none⟩)] w fun e w' => e = .returned (.tuple #[.int .i64 (gotX r : Nat), .int .i64 (gotE r 11)]) ∧ FZ w' S p pm N pool ops (gotB B r 1) (gotC C r 1) ∧ Fr S w w' := by
  obtain ⟨⟨M, U, V, bt, bp, bc, h⟩, b⟩ := h
  have c2 := h.c2
  have kT : Aside (Calls Tryd.prog 34 #[.pointer (some ⟨p, 0, none⟩), .pointer (some ⟨bt, 0, none⟩), .int .i64 0, .int .i64 11] w fun e w' => e = .returned (.tuple #[.int .i64 (gotX r : Nat), .int .i64 (gotE r 11)]) ∧ FZ w' S p pm N pool ops (gotB B r 1) (gotC C r 1) ∧ Fr S w w') := by
    match r, hr with
    | none, hr => exact (ftake_no bt 0 11 (take_no h.tb 0 (by omega) hr)).mono fun e w' ⟨e1, e2⟩ => ⟨e1, by rw [e2]; exact ⟨⟨M, U, V, bt, bp, bc, h⟩, b⟩, by rw [e2]; exact Fr.refl _ _⟩
    | some x, hr =>
      obtain ⟨b1, b2⟩ := hr.blk
      have b3 := ((fT_iff ..).1 (b2 x (Nat.le_refl _) (by omega))).1
      obtain ⟨o', i, t, rfl⟩ := hr
      have cT := (take_ok h.tb 0 o' i t).mono fun e w' (q : _ ∧ _ ∧ _) => (⟨q.1, h.setU q.2.1 q.2.2, h.frU q.2.2⟩ : e = .returned (.tuple #[.int .i64 ((i * 2 ^ o' : Nat) : Int), .int .i64 0]) ∧ FA w' S M U V p pm bt bp bc N pool ops B (subF (fT pool C) 0 (i * 2 ^ o' / 2 ^ 0)) (fP pool N C) C ∧ Fr S w w')
      refine (ftake_walk bt 0 (i * 2 ^ o') 1 11 (by omega) two0 (by omega) (by have := h.p2; omega) h.n2 cT).mono fun e w' ⟨e1, e2, e3⟩ => ⟨e1, ⟨⟨M, U, V, bt, bp, bc, ?_⟩, onR_le b _ _⟩, e3⟩
      show FA w' S M U V p pm bt bp bc N pool ops (zerR B (i * 2 ^ o') 1) (fT pool (onR C (i * 2 ^ o') 1)) (fP pool N (onR C (i * 2 ^ o') 1)) _
      rw [fP_out (by omega), show fT pool (onR C (i * 2 ^ o') 1) = _ from fT_on (o := 0) b1]
      exact e2
  clear h
  go_enter Tryd.func12, Tryd.ntmps12
  go_wp2_with fail
  with_reducible refine kT.out.mono ?_
  rintro e w' ⟨rfl, h1, k1⟩
  have H1 : Hid (FZ w' S p pm N pool ops (gotB B r 1) (gotC C r 1) ∧ Fr S w w') := ⟨h1, k1⟩
  clear h1 k1 kT
  go_wp2
  go_ret2
  exact ⟨rfl, H1.out⟩
theorem fpages_low {M U V : Nat → Prop} {bt bp bc : Nat} (h : FA w S M U V p pm bt bp bc N pool ops B (fT pool C) (fP pool N C) C) (b : ∀ k, C k ≤ 1073741824) (o s : Nat) (ho : o ≤ 9) (hs : 2 ^ o = s) (hi : (2 : Int) ^ o = (s : Int)) (h5 : s ≤ 512) (r : Option Nat) (hr : TkR (fP pool N C) o r) :
    Calls Tryd.prog 34 #[.pointer (some ⟨p, 0, none⟩), .pointer (some ⟨bp, 0, none⟩), .int .i64 (o : Int), .int .i64 10] w fun e w' => e = .returned (.tuple #[.int .i64 (gotX r : Nat), .int .i64 (gotE r 10)]) ∧ FZ w' S p pm N pool ops (gotB B r s) (gotC C r s) ∧ Fr S w w' := by
  subst hs
  match r, hr with
  | none, hr => exact (ftake_no bp o 10 (take_no h.pg o ho hr)).mono fun e w' ⟨e1, e2⟩ => ⟨e1, by rw [e2]; exact ⟨⟨M, U, V, bt, bp, bc, h⟩, b⟩, by rw [e2]; exact Fr.refl _ _⟩
  | some x, hr =>
    obtain ⟨b1, b2⟩ := hr.blk
    have hp := Nat.two_pow_pos o
    have b3 := ((fP_iff ..).1 (b2 x (Nat.le_refl _) (by omega)))
    have b4 := ((fP_iff ..).1 (b2 (x + (2 ^ o - 1)) (by omega) (by omega)))
    obtain ⟨o', i, t, rfl⟩ := hr
    have cT := (take_ok h.pg o o' i t).mono fun e w' (q : _ ∧ _ ∧ _) => (⟨q.1, h.setV q.2.1 q.2.2, h.frV q.2.2⟩ : e = .returned (.tuple #[.int .i64 ((i * 2 ^ o' : Nat) : Int), .int .i64 0]) ∧ FA w' S M U V p pm bt bp bc N pool ops B (fT pool C) (subF (fP pool N C) o (i * 2 ^ o' / 2 ^ o)) C ∧ Fr S w w')
    refine (ftake_walk bp o (i * 2 ^ o') (2 ^ o) 10 ho hi (by omega) (by omega) h.n2 cT).mono fun e w' ⟨e1, e2, e3⟩ => ⟨e1, ⟨⟨M, U, V, bt, bp, bc, ?_⟩, onR_le b _ _⟩, e3⟩
    show FA w' S M U V p pm bt bp bc N pool ops (zerR B (i * 2 ^ o') (2 ^ o)) (fT pool (onR C (i * 2 ^ o') (2 ^ o))) (fP pool N (onR C (i * 2 ^ o') (2 ^ o))) _
    rw [fT_out b3.1, fP_on b1]
    exact e2
set_option maxHeartbeats 1000000 in
theorem fpage_any (h : FZ w S p pm N pool ops B C) (r : Option Nat) (hr : TkR (fP pool N C) 0 r) :
    Calls Tryd.prog 14 #[.pointer (some ⟨p, 0, none⟩)] w fun e w' => e = .returned (.tuple #[.int .i64 (gotX r : Nat), .int .i64 (gotE r 10)]) ∧ FZ w' S p pm N pool ops (gotB B r 1) (gotC C r 1) ∧ Fr S w w' := by
  obtain ⟨⟨M, U, V, bt, bp, bc, h⟩, b⟩ := h
  have c3 := h.c3
  have kT : Aside (Calls Tryd.prog 34 #[.pointer (some ⟨p, 0, none⟩), .pointer (some ⟨bp, 0, none⟩), .int .i64 0, .int .i64 10] w fun e w' => e = .returned (.tuple #[.int .i64 (gotX r : Nat), .int .i64 (gotE r 10)]) ∧ FZ w' S p pm N pool ops (gotB B r 1) (gotC C r 1) ∧ Fr S w w') := fpages_low h b 0 1 (by omega) rfl two0 (by omega) r hr
  clear h
  go_enter Tryd.func14, Tryd.ntmps14
  go_wp2_with fail
  with_reducible refine kT.out.mono ?_
  rintro e w' ⟨rfl, h1, k1⟩
  have H1 : Hid (FZ w' S p pm N pool ops (gotB B r 1) (gotC C r 1) ∧ Fr S w w') := ⟨h1, k1⟩
  clear h1 k1 kT
  go_wp2
  go_ret2
  exact ⟨rfl, H1.out⟩
set_option maxHeartbeats 1000000 in
theorem fblock_any (h : FZ w S p pm N pool ops B C) (r : Option Nat) (hr : TkR (fP pool N C) 9 r) :
    Calls Tryd.prog 16 #[.pointer (some ⟨p, 0, none⟩)] w fun e w' => e = .returned (.tuple #[.int .i64 (gotX r : Nat), .int .i64 (gotE r 10)]) ∧ FZ w' S p pm N pool ops (gotB B r 512) (gotC C r 512) ∧ Fr S w w' := by
  obtain ⟨⟨M, U, V, bt, bp, bc, h⟩, b⟩ := h
  have c3 := h.c3
  have kT : Aside (Calls Tryd.prog 34 #[.pointer (some ⟨p, 0, none⟩), .pointer (some ⟨bp, 0, none⟩), .int .i64 9, .int .i64 10] w fun e w' => e = .returned (.tuple #[.int .i64 (gotX r : Nat), .int .i64 (gotE r 10)]) ∧ FZ w' S p pm N pool ops (gotB B r 512) (gotC C r 512) ∧ Fr S w w') := fpages_low h b 9 512 (by omega) rfl two9 (by omega) r hr
  clear h
  go_enter Tryd.func16, Tryd.ntmps16
  go_wp2_with fail
  with_reducible refine kT.out.mono ?_
  rintro e w' ⟨rfl, h1, k1⟩
  have H1 : Hid (FZ w' S p pm N pool ops (gotB B r 512) (gotC C r 512) ∧ Fr S w w') := ⟨h1, k1⟩
  clear h1 k1 kT
  go_wp2
  go_ret2
  exact ⟨rfl, H1.out⟩
end
end Go.Proofs.YtjnkmmfppkpgbaaDoor
