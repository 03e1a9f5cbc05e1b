/- nested: what a permission refuses; the reader of a memory; the second stage's leaf. -/
import Derived.Test.YtclcickhgoiooaaNB
import Derived.Test.YtclcickhgoiooaaRXG
import Derived.Test.YtclcickhgoiooaaZ3
import Derived.Test.YtclcickhgoiooaaMW
import Derived.Test.YtclcickhgoiooaaQ1
namespace Go.Proofs.Ytclcickhgoiooaa
open Go.RowKit
set_option maxRecDepth 10000

/-! ### what a permission refuses -/
theorem alP_bits (r q x : Bool) (c : Int) : (!alP r q x c) = samP (r && (c == 1)) (q && (c == 2)) (x && (c == 3)) false false false := by
  unfold alP samP
  by_cases h1 : c = 1
  · subst h1; cases r <;> simp
  · by_cases h2 : c = 2
    · subst h2; cases q <;> simp
    · by_cases h3 : c = 3
      · subst h3; cases x <;> simp
      · simp [h1, h2, h3]
set_option maxHeartbeats 4000000 in
theorem refuses_any (r q x : Bool) (c : Int) (w : World) :
    Calls Try.prog 30 #[.agg #[.bool r, .bool q, .bool x], .int .i64 c] w fun e w' => e = .returned (.bool (!alP r q x c)) ∧ Kp w w' := by
  rw [alP_bits]
  obtain ⟨b1, h1⟩ : ∃ b1, (c == 1) = b1 := ⟨_, rfl⟩
  obtain ⟨b2, h2⟩ : ∃ b2, (c == 2) = b2 := ⟨_, rfl⟩
  obtain ⟨b3, h3⟩ : ∃ b3, (c == 3) = b3 := ⟨_, rfl⟩
  rw [h1, h2, h3]
  have k1 := fun w => pand_any r q x b1 b2 b3 w
  have q1 := eq_permP (r && b1) (q && b2) (x && b3) false false false
  generalize (r && b1) = y1 at *
  generalize (q && b2) = y2 at *
  generalize (x && b3) = y3 at *
  generalize samP y1 y2 y3 false false false = D at *
  go_enter Try.func30, Try.ntmps30
  go_wp2_with fail
  with_reducible refine (k1 _).mono ?_
  rintro e w1 ⟨rfl, K⟩
  have HK : Hid (Kp w w1) := (((Kp.refl w).alloc _).alloc _).trans K
  clear K k1
  go_wp2
  go_ret
  exact ⟨rfl, HK.out⟩

/-! ### a memory of at most o ops -/
def PMo (w : World) (S : Nat → Prop) (p N o : Nat) (B : Nat → Nat → Nat) : Prop := ∃ ops, ops ≤ o ∧ PM w S p N ops B
section
variable {w w' : World} {S : Nat → Prop} {p N o : Nat} {B : Nat → Nat → Nat}
theorem PMo.le (h : PMo w S p N o B) {o' : Nat} (ho : o ≤ o') : PMo w S p N o' B := by
  obtain ⟨ops, a, b⟩ := h
  exact ⟨ops, by omega, b⟩
theorem PMo.kp (h : PMo w S p N o B) (k : Kp w w') : PMo w' S p N o B := by
  obtain ⟨ops, a, b⟩ := h
  exact ⟨ops, a, b.kp k⟩
theorem PMo.fr {T : Nat → Prop} (h : PMo w S p N o B) (k : Fr T w w') (hT : ∀ i, S i → ¬ T i) : PMo w' S p N o B := by
  obtain ⟨ops, a, b⟩ := h
  exact ⟨ops, a, b.fr k hT⟩
theorem PMo.own (h : PMo w S p N o B) : ∀ i, S i → i < w.heap.size := by
  obtain ⟨ops, a, b⟩ := h
  exact b.own
theorem PMo.below {n : Nat} (h : PMo w S p N o B) (k : Go.RowKit.Below n w w') (hS : ∀ i, S i → i < n) : PMo w' S p N o B := by
  have f : Fr (fun i => n ≤ i) w w' := ⟨k.os, k.tape, k.output, k.size, fun i _ hi => k.block i (by omega)⟩
  exact h.fr f (fun i hi c => by have := hS i hi; omega)
theorem PMo.word (h : PMo w S p N o B) (a : Nat) : (rdB N B a).1 < 18446744073709551616 := by
  obtain ⟨ops, _, bm, g, h⟩ := h
  unfold rdB
  split
  · exact numb_lt (h.byte _) _ 8
  · show 0 < _; decide
theorem preads_any (h : PMo w S p N o B) (a : Nat) (ha : a < 18446744073709551616) (ho : o < 4611686018427387904) :
    Calls Try.prog 76 #[.pointer (some ⟨p, 0, none⟩), .int .u64 (a : Int), .int .i64 8] w fun e w' => (∃ r : Int, e = .returned (.tuple #[.int .u64 ((rdB N B a).1 : Int), .int .i64 r]) ∧ (rdB N B a).2 = (r == 0)) ∧ PMo w' S p N (o + 1) B ∧ Fr S w w' := by
  obtain ⟨ops, h1, h⟩ := h
  unfold rdB
  by_cases c1 : a % 8 = 0
  · by_cases c2 : a / 4096 < N
    · have hc : chkP N a (8 : Nat) = 0 := by
        unfold chkP
        rw [if_neg (by omega), if_neg (by show ¬ a % 8 ≠ 0; omega), if_neg (by omega)]
      rw [if_pos ⟨c1, c2⟩]
      exact (pread_ok h a 8 ha hc (by omega)).mono fun e w' ⟨e1, e2, e3⟩ => ⟨⟨0, e1, rfl⟩, ⟨ops + 1, by omega, e2⟩, e3⟩
    · have hc : chkP N a 8 = 2 := by
        unfold chkP
        rw [if_neg (by omega), if_neg (by show ¬ a % 8 ≠ 0; omega), if_pos (by omega)]
      rw [if_neg (by omega)]
      exact (pread_no h a 8 2 ha hc (by decide)).mono fun e w' ⟨e1, e2⟩ => ⟨⟨2, e1, rfl⟩, ⟨ops, by omega, e2 ▸ h⟩, e2 ▸ Fr.refl _ _⟩
  · have hc : chkP N a 8 = 3 := by
      unfold chkP
      rw [if_neg (by omega), if_pos (by show a % 8 ≠ 0; omega)]
    rw [if_neg (by omega)]
    exact (pread_no h a 8 3 ha hc (by decide)).mono fun e w' ⟨e1, e2⟩ => ⟨⟨3, e1, rfl⟩, ⟨ops, by omega, e2 ▸ h⟩, e2 ▸ Fr.refl _ _⟩
end

/-! ### the reader of the second stage -/
structure MI (n0 : Nat) (S : Nat → Prop) (c p N o : Nat) (B : Nat → Nat → Nat) (w : World) : Prop where
  mem : PMo w S p N o B
  box : RX w c 24 [.pointer (some ⟨p, 0, none⟩)]
  sz : n0 ≤ w.heap.size
set_option maxHeartbeats 1000000 in
theorem readM {w0 : World} {S : Nat → Prop} {c p N o : Nat} {B : Nat → Nat → Nat} (h : PMo w0 S p N o B) (X : RX w0 c 24 [.pointer (some ⟨p, 0, none⟩)]) (hX : ¬ S c) (ho : o < 4000000000000000000) :
    RD w0.heap.size 75 #[] #[.pointer (some ⟨c, 0, none⟩)] (rdB N B) S (fun n w => MI w0.heap.size S c p N (o + n) B w) where
  fn := ⟨_, Try.func75, rfl, by decide⟩
  lt := h.own
  word := h.word
  keep n w w' H k := ⟨H.mem.below k h.own, (k.block c X.lt).trans H.box, Nat.le_trans H.sz k.size⟩
  size n w H := H.sz
  call n w a H hn ha := by
    have k2 := preads_any H.mem a ha (by omega)
    have c0 : w.cell? ⟨c, 0, none⟩ = some (.pointer (some ⟨p, 0, none⟩)) := H.box.cell rfl
    have HA : Hid (MI w0.heap.size S c p N (o + n) B w) := H
    generalize (rdB N B a).1 = u at *
    generalize (rdB N B a).2 = ok at *
    clear h ho hn H X
    show Calls Try.prog 75 #[.int .u64 (a : Int), .pointer (some ⟨c, 0, none⟩)] w fun e w' => e = .returned (.tuple #[.int .u64 (u : Int), .bool ok]) ∧ MI w0.heap.size S c p N (o + (n + 1)) B w' ∧ Fr S w w'
    go_enter Try.func75, Try.ntmps75
    go_wp2_with fail
    with_reducible refine k2.mono ?_
    rintro e w2 ⟨⟨r, rfl, hr⟩, M2, F2⟩
    have HE : Hid (MI w0.heap.size S c p N (o + (n + 1)) B w2 ∧ Fr S w w2) := ⟨⟨M2, HA.out.box.fr F2 hX, Nat.le_trans HA.out.sz F2.size⟩, F2⟩
    clear HA M2 F2 k2
    subst hr
    go_wp2
    go_ret2
    exact ⟨rfl, HE.out⟩

/-! ### what a walk's list is -/
theorem goW_len (s : Int) (u : Nat) (rd : Nat → Nat × Bool) : ∀ n l t, (goW s u rd n l t).1.length ≤ n
  | 0, _, _ => Nat.le_refl _
  | n + 1, l, t => by
    cases ho : (rd (atN t u l)).2
    · rw [goW_stop ho]; exact Nat.zero_le _
    · by_cases hk : (dvN s l (rd (atN t u l)).1).k = 1
      · rw [goW_on ho hk]
        show (goW s u rd n (l + 1) _).1.length + 1 ≤ n + 1
        have := goW_len s u rd n (l + 1) (dvN s l (rd (atN t u l)).1).a
        omega
      · rw [goW_end ho hk]; show 1 ≤ n + 1; omega
theorem goW_reads (s : Int) (u : Nat) (rd : Nat → Nat × Bool) : ∀ n l t, (goW s u rd n l t).2.2 ≤ n
  | 0, _, _ => Nat.le_refl _
  | n + 1, l, t => by
    cases ho : (rd (atN t u l)).2
    · rw [goW_stop ho]; show 1 ≤ n + 1; omega
    · by_cases hk : (dvN s l (rd (atN t u l)).1).k = 1
      · rw [goW_on ho hk]
        show (goW s u rd n (l + 1) _).2.2 + 1 ≤ n + 1
        have := goW_reads s u rd n (l + 1) (dvN s l (rd (atN t u l)).1).a
        omega
      · rw [goW_end ho hk]; show 1 ≤ n + 1; omega
/-- The last step of a walk that was not stopped. -/
theorem goW_last (s : Int) (u : Nat) (rd : Nat → Nat × Bool) : ∀ n l t, n + l = 4 → 1 ≤ n → (goW s u rd n l t).2.1 ≠ -1 →
    ∃ (L : List SV) (x : SV), (goW s u rd n l t).1 = L ++ [x] ∧ x.l = l + L.length ∧ x.l ≤ 3 ∧ (rd x.p).2 = true ∧ x.u = (rd x.p).1 ∧ x.d = dvN s x.l x.u ∧ ¬ x.d.k = 1 ∧ (goW s u rd n l t).2.1 = endN x.d.k (decE s x.l x.u)
  | 0, _, _, _, h, _ => absurd h (by decide)
  | n + 1, l, t, hn, _, hk0 => by
    cases ho : (rd (atN t u l)).2
    · rw [goW_stop ho] at hk0; exact absurd rfl hk0
    · by_cases hk : (dvN s l (rd (atN t u l)).1).k = 1
      · rw [goW_on ho hk] at hk0 ⊢
        have hn1 : 1 ≤ n := by
          rcases (by omega : 1 ≤ n ∨ n = 0) with c | c
          · exact c
          · subst c
            have : l = 3 := by omega
            subst this
            exact absurd hk (dv_last s _)
        obtain ⟨L, x, h1, h2, h3, h4, h5, h6, h7, h8⟩ := goW_last s u rd n (l + 1) (dvN s l (rd (atN t u l)).1).a (by omega) hn1 hk0
        exact ⟨⟨l, atN t u l, (rd (atN t u l)).1, dvN s l (rd (atN t u l)).1⟩ :: L, x, by show _ :: (goW s u rd n (l + 1) _).1 = _; rw [h1]; rfl, by rw [h2, List.length_cons]; omega, h3, h4, h5, h6, h7, h8⟩
      · rw [goW_end ho hk]
        exact ⟨[], ⟨l, atN t u l, (rd (atN t u l)).1, dvN s l (rd (atN t u l)).1⟩, rfl, rfl, by show l ≤ 3; omega, ho, rfl, rfl, hk, rfl⟩
/-- A walk that ends at a leaf. -/
theorem goW_leaf {s : Int} {u : Nat} {rd : Nat → Nat × Bool} {t : Nat} (h : (goW s u rd 4 0 t).2.1 = 0) :
    ∃ (L : List SV) (x : SV), (goW s u rd 4 0 t).1 = L ++ [x] ∧ L.length ≤ 3 ∧ x.l = L.length ∧ x.d = dvN s x.l x.u ∧ ¬ x.d.k = 1 ∧ ¬ x.d.k = 0 := by
  obtain ⟨L, x, h1, h2, h3, _, _, h6, h7, h8⟩ := goW_last s u rd 4 0 t rfl (by decide) (by rw [h]; decide)
  refine ⟨L, x, h1, by omega, by omega, h6, h7, fun hk => ?_⟩
  rw [h8] at h
  rw [hk] at h
  unfold endN at h
  split at h
  · cases h
  · split at h
    · cases h
    · cases h

end Go.Proofs.Ytclcickhgoiooaa
