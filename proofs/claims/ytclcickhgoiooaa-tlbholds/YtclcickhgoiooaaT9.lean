/- tlb: lose. -/
import Derived.Test.YtclcickhgoiooaaT4
import Derived.Deep.CutBlock
import Derived.Deep.DeepCutAuto
namespace Go.Proofs.Ytclcickhgoiooaa
open Go.RowKit
set_option maxRecDepth 10000

/-- The function q tells a part of a line. -/
structure GT (q : FuncId) (part : LN → LN) : Prop where
  fn : ∃ fn, Try.prog.funcs[q]? = some fn ∧ fn.body.isSome = true ∧ ¬ fn.name = "runtime.NumGoroutine"
  call : ∀ l w, Calls Try.prog q #[lnV l] w fun e w' => e = .returned (lnV (part l)) ∧ Kp w w'
/-- What is left when of the first n places those are emptied whose line is such; how many. -/
def losT (T : Nat → PC) (P : LN → Bool) (n : Nat) : Nat → PC := fun i => if i < n ∧ ((T i).on && P (T i).l) = true then zP else T i
def losN (T : Nat → PC) (P : LN → Bool) : Nat → Nat
  | 0 => 0
  | n + 1 => losN T P n + if ((T n).on && P (T n).l) = true then 1 else 0
theorem losT_same (T : Nat → PC) (P : LN → Bool) (n : Nat) : losT T P n n = T n := if_neg (by omega)
theorem losT_zero (T : Nat → PC) (P : LN → Bool) : losT T P 0 = T := by
  funext i
  exact if_neg (by omega)
theorem losT_off {T : Nat → PC} {P : LN → Bool} {n : Nat} (h : ((T n).on && P (T n).l) = false) : losT T P (n + 1) = losT T P n := by
  funext i
  unfold losT
  by_cases e : i = n
  · subst e
    rw [if_neg (by rw [h]; simp), if_neg (by omega)]
  · by_cases c : i < n
    · simp only [c, show i < n + 1 by omega, true_and]
    · rw [if_neg (by omega), if_neg (by omega)]
theorem losT_on {T : Nat → PC} {P : LN → Bool} {n : Nat} (h : ((T n).on && P (T n).l) = true) : losT T P (n + 1) = updP (losT T P n) n zP := by
  funext i
  show (if i < n + 1 ∧ ((T i).on && P (T i).l) = true then zP else T i) = if i = n then zP else if i < n ∧ ((T i).on && P (T i).l) = true then zP else T i
  by_cases e : i = n
  · subst e
    rw [if_pos ⟨by omega, h⟩, if_pos rfl]
  · rw [if_neg e]
    by_cases c : i < n
    · simp only [c, show i < n + 1 by omega, true_and]
    · rw [if_neg (by omega), if_neg (by omega)]
theorem losN_le (T : Nat → PC) (P : LN → Bool) : ∀ n, losN T P n ≤ n
  | 0 => Nat.le_refl _
  | n + 1 => by
    have := losN_le T P n
    unfold losN
    split <;> omega

section
variable {w : World} {b g s k : Nat} {T : Nat → PC}
set_option maxHeartbeats 4000000 in
theorem lose_any (h : TP w b g s k T) {q : FuncId} {part : LN → LN} (R : GT q part) (m : LN) :
    Calls Try.prog 47 #[.pointer (some ⟨b, 0, none⟩), lnV m, .func (.func q) #[] #[]] w fun e w' => e = .returned (.int .i64 (losN T (fun l => samL (part l) m) (s * k) : Nat)) ∧ TP w' b g s k (losT T (fun l => samL (part l) m) (s * k)) ∧ Fr (· = g) w w' := by
  have hcf : ∀ args w, (callFunc q args).run Try.prog w = .ok (.enter q args) w := by
    obtain ⟨fn, hf, hb, hnm⟩ := R.fn
    obtain ⟨c, hb⟩ := Option.isSome_iff_exists.1 hb
    intro args w
    simp [callFunc, go_sem, hf, hb, hnm]
  obtain ⟨P, hP⟩ : ∃ P : LN → Bool, (fun l => samL (part l) m) = P := ⟨_, rfl⟩
  rw [hP]
  have HQ : Hid (∀ l, samL (part l) m = P l) := fun l => by rw [← hP]
  clear hP
  obtain ⟨w1, hw1⟩ : ∃ w1, w1 = w.alloc (.cells (encL m).toArray 54) := ⟨_, rfl⟩
  have K1 : Kp w w1 := by rw [hw1]; exact (Kp.refl w).alloc _
  have X1 : RX w1 w.heap.size 54 (encL m) := by rw [hw1]; exact RX.made w _ _
  have T1 := h.kp K1
  have c1 := T1.c1
  have n1 := h.n1
  have gb := h.row.lt
  have bb := h.bl
  have HT : Hid (TP w1 b g s k T ∧ Kp w w1 ∧ RX w1 w.heap.size 54 (encL m) ∧ g < w.heap.size ∧ b < w.heap.size ∧ b ≠ g) := ⟨T1, K1, X1, gb, bb, h.ne⟩
  obtain ⟨N, hN⟩ : ∃ N, s * k = N := ⟨_, rfl⟩
  rw [hN] at c1 n1 ⊢
  have HN : Hid (s * k = N) := hN
  have y2 : (N : Int) ≤ 512 := by omega
  have HR : Hid (GT q part) := R
  clear T1 K1 X1 gb bb h hN R
  obtain ⟨mi, ma, mv, mp, mf, mr, mq, mx, mr2, mq2, mx2⟩ := m
  rw [show lnV ⟨mi, ma, mv, mp, mf, mr, mq, mx, mr2, mq2, mx2⟩ = .agg #[.int .i64 mi, .int .i64 ma, .int .u64 (mv : Int), .int .u64 (mp : Int), .int .i64 mf, .bool mr, .bool mq, .bool mx, .bool mr2, .bool mq2, .bool mx2] from rfl]
  go_enter Try.func47, Try.ntmps47
  go_upto_region 2 with fail
  rw [show w.alloc (.cells #[.int .i64 mi, .int .i64 ma, .int .u64 (mv : Int), .int .u64 (mp : Int), .int .i64 mf, .bool mr, .bool mq, .bool mx, .bool mr2, .bool mq2, .bool mx2] 54) = w1 from hw1.symm]
  clear hw1
  go_wp2_with fail
  clear c1
  go_loopg [7, 15] N (fun gk v7 v15 wr => ∃ n : Nat, v15 = .int .i64 (n : Int) ∧ v7 = .int .i64 (losN T P n : Nat) ∧ n ≤ N ∧ N - n ≤ gk ∧ Hid (TP wr b g s k (losT T P n) ∧ Fr (· = g) w1 wr))
  case atStart => exact ⟨0, rfl, rfl, by omega, by omega, by rw [losT_zero]; exact HT.out.1, Fr.refl _ _⟩
  case round =>
    obtain ⟨n, rfl, rfl, n2, hg, HL⟩ := hrel
    by_cases hn : n < N
    · have y1 : (n : Int) < N := by omega
      have cc : ∀ m y, (encP (T n))[m]? = some y → wr.cell? ⟨g, n * 12 + m, none⟩ = some y := fun m y hy => HL.out.1.row.cell n m y (by rw [HN.out]; exact hn) (by rw [losT_same]; exact hy)
      have e1 := @losT_on T P n
      have e2 := @losT_off T P n
      have e3 : losN T P (n + 1) = losN T P n + if ((T n).on && P (T n).l) = true then 1 else 0 := rfl
      have l1 := losN_le T P n
      obtain ⟨C, hC⟩ : ∃ C, T n = C := ⟨_, rfl⟩
      rw [hC] at cc e1 e2 e3
      clear hC
      obtain ⟨on, l⟩ := C
      have o0 := cc 0 _ rfl
      have o1 := cc 1 _ rfl
      have o2 := cc 2 _ rfl
      have o3 := cc 3 _ rfl
      have o4 := cc 4 _ rfl
      have o5 := cc 5 _ rfl
      have o6 := cc 6 _ rfl
      have o7 := cc 7 _ rfl
      have o8 := cc 8 _ rfl
      have o9 := cc 9 _ rfl
      have o10 := cc 10 _ rfl
      have o11 := cc 11 _ rfl
      simp only [Nat.add_zero] at o0
      clear cc
      have X2 := HT.out.2.2.1.fr HL.out.2 (by have := HT.out; omega)
      cases on
      · rw [if_neg (by simp)] at e3
        go_upto_region 5 with fail
        go_quiet (fail)
        go_wp2_with fail
        have HL2 : Hid (∀ o m, TP ((wr.alloc o).drewN m) b g s k (losT T P (n + 1)) ∧ Fr (· = g) w1 ((wr.alloc o).drewN m)) := fun o m => by
          have K2 : Kp wr ((wr.alloc o).drewN m) := ((Kp.refl wr).alloc o).drewN m
          rw [e2 (by simp)]
          exact ⟨HL.out.1.kp K2, HL.out.2.trans (K2.fr _)⟩
        clear HL e1 e2 X2 o0 o1 o2 o3 o4 o5 o6 o7 o8 o9 o10 o11
        go_roundg (N - (n + 1))
        case measure => omega
        case rel => exact ⟨n + 1, by go_num, by rw [e3]; rfl, by omega, by omega, HL2.out _ _⟩
      · have s1 : Aside (∀ w, Calls Try.prog q #[lnV l] w fun e w' => e = .returned (lnV (part l)) ∧ Kp w w') := HR.out.call l
        have h1 : Aside (∀ w, (Op.equalIn 10000 54 (lnV (part l)) (lnV ⟨mi, ma, mv, mp, mf, mr, mq, mx, mr2, mq2, mx2⟩)).run Try.prog w = .ok (P l) w) := fun w => by rw [← HQ.out l]; exact eq_line (part l) _ w
        rw [show ((PC.on ⟨true, l⟩) && P (PC.l ⟨true, l⟩)) = P l from by simp] at e1 e2 e3
        obtain ⟨D, hD⟩ : ∃ D, P l = D := ⟨_, rfl⟩
        rw [hD] at e1 e2 e3 h1
        obtain ⟨nl, hnl⟩ : ∃ nl, part l = nl := ⟨_, rfl⟩
        rw [hnl] at s1 h1
        simp only [lnV] at s1 h1
        clear hD hnl
        go_upto_region 5 with fail
        obtain ⟨W1, hW1⟩ : ∃ W1, W1 = wr.alloc (.cells #[.bool true, .int .i64 l.i, .int .i64 l.a, .int .u64 (l.v : Int), .int .u64 (l.p : Int), .int .i64 l.f, .bool l.r, .bool l.q, .bool l.x, .bool l.r2, .bool l.q2, .bool l.x2] 113) := ⟨_, rfl⟩
        obtain ⟨b2, hb2⟩ : ∃ b2, b2 = wr.heap.size := ⟨_, rfl⟩
        obtain ⟨cb, hcb⟩ : ∃ cb, cb = w.heap.size := ⟨_, rfl⟩
        have B2 : RX W1 b2 113 (encP ⟨true, l⟩) := by rw [hW1, hb2]; exact RX.made wr _ _
        have HK : Hid (Kp wr W1) := by rw [hW1]; exact (Kp.refl wr).alloc _
        have B3 := X2.kp HK.out
        rw [← hcb] at B3
        clear X2 o0 o1 o2 o3 o4 o5 o6 o7 o8 o9 o10 o11
        rw [← hW1, ← hb2, ← hcb]
        have HCB : Hid (cb = w.heap.size) := hcb
        clear hW1 hb2 hcb
        have u0 : ∀ P : KeptBy W1, P.v.cell? ⟨b2, 0, none⟩ = some _ := fun P => (B2.kp P.k).cell (j := 0) rfl
        have u1 : ∀ P : KeptBy W1, P.v.cell? ⟨b2, 1, none⟩ = some _ := fun P => (B2.kp P.k).cell (j := 1) rfl
        have u2 : ∀ P : KeptBy W1, P.v.cell? ⟨b2, 2, none⟩ = some _ := fun P => (B2.kp P.k).cell (j := 2) rfl
        have u3 : ∀ P : KeptBy W1, P.v.cell? ⟨b2, 3, none⟩ = some _ := fun P => (B2.kp P.k).cell (j := 3) rfl
        have u4 : ∀ P : KeptBy W1, P.v.cell? ⟨b2, 4, none⟩ = some _ := fun P => (B2.kp P.k).cell (j := 4) rfl
        have u5 : ∀ P : KeptBy W1, P.v.cell? ⟨b2, 5, none⟩ = some _ := fun P => (B2.kp P.k).cell (j := 5) rfl
        have u6 : ∀ P : KeptBy W1, P.v.cell? ⟨b2, 6, none⟩ = some _ := fun P => (B2.kp P.k).cell (j := 6) rfl
        have u7 : ∀ P : KeptBy W1, P.v.cell? ⟨b2, 7, none⟩ = some _ := fun P => (B2.kp P.k).cell (j := 7) rfl
        have u8 : ∀ P : KeptBy W1, P.v.cell? ⟨b2, 8, none⟩ = some _ := fun P => (B2.kp P.k).cell (j := 8) rfl
        have u9 : ∀ P : KeptBy W1, P.v.cell? ⟨b2, 9, none⟩ = some _ := fun P => (B2.kp P.k).cell (j := 9) rfl
        have u10 : ∀ P : KeptBy W1, P.v.cell? ⟨b2, 10, none⟩ = some _ := fun P => (B2.kp P.k).cell (j := 10) rfl
        have u11 : ∀ P : KeptBy W1, P.v.cell? ⟨b2, 11, none⟩ = some _ := fun P => (B2.kp P.k).cell (j := 11) rfl
        have v0 : ∀ P : KeptBy W1, P.v.cell? ⟨cb, 0, none⟩ = some _ := fun P => (B3.kp P.k).cell (j := 0) rfl
        have v1 : ∀ P : KeptBy W1, P.v.cell? ⟨cb, 1, none⟩ = some _ := fun P => (B3.kp P.k).cell (j := 1) rfl
        have v2 : ∀ P : KeptBy W1, P.v.cell? ⟨cb, 2, none⟩ = some _ := fun P => (B3.kp P.k).cell (j := 2) rfl
        have v3 : ∀ P : KeptBy W1, P.v.cell? ⟨cb, 3, none⟩ = some _ := fun P => (B3.kp P.k).cell (j := 3) rfl
        have v4 : ∀ P : KeptBy W1, P.v.cell? ⟨cb, 4, none⟩ = some _ := fun P => (B3.kp P.k).cell (j := 4) rfl
        have v5 : ∀ P : KeptBy W1, P.v.cell? ⟨cb, 5, none⟩ = some _ := fun P => (B3.kp P.k).cell (j := 5) rfl
        have v6 : ∀ P : KeptBy W1, P.v.cell? ⟨cb, 6, none⟩ = some _ := fun P => (B3.kp P.k).cell (j := 6) rfl
        have v7 : ∀ P : KeptBy W1, P.v.cell? ⟨cb, 7, none⟩ = some _ := fun P => (B3.kp P.k).cell (j := 7) rfl
        have v8 : ∀ P : KeptBy W1, P.v.cell? ⟨cb, 8, none⟩ = some _ := fun P => (B3.kp P.k).cell (j := 8) rfl
        have v9 : ∀ P : KeptBy W1, P.v.cell? ⟨cb, 9, none⟩ = some _ := fun P => (B3.kp P.k).cell (j := 9) rfl
        have v10 : ∀ P : KeptBy W1, P.v.cell? ⟨cb, 10, none⟩ = some _ := fun P => (B3.kp P.k).cell (j := 10) rfl
        dsimp only at v0 v1 v2 v3 v4 v5 v6 v7 v8 v9 v10
        clear B2 B3
        have h1 := h1.out
        refine wp_region_kept mixed (by kernel_rfl) ?_
        repeat (go_big_quiet_step (first | exact rfl | (with_reducible refine Calls.kept_of (s1.out _))))
        refine wpQuiet_nil ?_
        intro w3 hw3
        have K3 : Kp wr w3 := by obtain ⟨p, rfl⟩ := hw3; exact HK.out.trans p.k
        have T3 := HL.out.1.kp K3
        have HF3 : Hid (Fr (· = g) w1 w3) := HL.out.2.trans (K3.fr _)
        clear hw3 HK h1 s1 u0 u1 u2 u3 u4 u5 u6 u7 u8 u9 u10 u11 v0 v1 v2 v3 v4 v5 v6 v7 v8 v9 v10 HL K3
        have hcb := HCB.out
        subst hcb
        clear HCB
        cases D
        · have HL2 : Hid (TP w3 b g s k (losT T P (n + 1)) ∧ Fr (· = g) w1 w3) := ⟨by rw [e2 rfl]; exact T3, HF3.out⟩
          rw [if_neg (by decide)] at e3
          clear T3 HF3 e1 e2
          go_wp2_with fail
          go_roundg (N - (n + 1))
          case measure => omega
          case rel => exact ⟨n + 1, by go_num, by rw [e3]; rfl, by omega, by omega, HL2⟩
        · rw [if_pos rfl] at e3
          have c1 := T3.c1
          rw [HN.out] at c1
          have cc : ∀ m y, (encP (losT T P n n))[m]? = some y → w3.cell? ⟨g, n * 12 + m, none⟩ = some y := fun m y hy => T3.row.cell n m y (by rw [HN.out]; exact hn) hy
          generalize losT T P n n = C0 at cc
          have o0 := cc 0 _ rfl
          have o1 := cc 1 _ rfl
          have o2 := cc 2 _ rfl
          have o3 := cc 3 _ rfl
          have o4 := cc 4 _ rfl
          have o5 := cc 5 _ rfl
          have o6 := cc 6 _ rfl
          have o7 := cc 7 _ rfl
          have o8 := cc 8 _ rfl
          have o9 := cc 9 _ rfl
          have o10 := cc 10 _ rfl
          have o11 := cc 11 _ rfl
          simp only [Nat.add_zero] at o0
          clear cc
          have fg := T3.row.fz
          have HL2 : Hid (TP (putR w3 g (n * 12) (encP zP)) b g s k (losT T P (n + 1)) ∧ Fr (· = g) w1 (putR w3 g (n * 12) (encP zP))) := ⟨by rw [e1 rfl]; exact T3.put n (by rw [HN.out]; exact hn) zP, HF3.out.trans (putR_fr _ _ _ _)⟩
          clear T3 HF3 e1 e2
          have y3 : (losN T P n : Int) ≤ 512 := by omega
          generalize losN T P n = ln at *
          go_upto_region 7 with fail
          rw [← putR_12]
          obtain ⟨w4, hw4⟩ : ∃ w4, w4 = putR w3 g (n * 12) (encP zP) := ⟨_, rfl⟩
          rw [show putR w3 g (n * 12) [.bool false, .int .i64 0, .int .i64 0, .int .u64 0, .int .u64 0, .int .i64 0, .bool false, .bool false, .bool false, .bool false, .bool false, .bool false] = w4 from hw4.symm]
          rw [← hw4] at HL2
          clear o0 o1 o2 o3 o4 o5 o6 o7 o8 o9 o10 o11 fg hw4 c1
          go_wp2_with fail
          go_roundg (N - (n + 1))
          case measure => omega
          case rel => exact ⟨n + 1, by go_num, by rw [e3]; go_num, by omega, by omega, HL2⟩
    · have en : n = N := by omega
      subst en
      go_wp2
      go_ret
      exact ⟨rfl, HL.out.1, ((HT.out.2.1.fr _).trans HL.out.2)⟩
end

end Go.Proofs.Ytclcickhgoiooaa
