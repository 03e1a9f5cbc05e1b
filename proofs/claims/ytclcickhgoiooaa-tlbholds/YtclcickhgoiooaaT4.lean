/- tlb: nameOf, holds, isEmpty, modulo. -/
import Derived.Test.YtclcickhgoiooaaT3
import Derived.Test.YtclcickhgoiooaaKB
namespace Go.Proofs.Ytclcickhgoiooaa
open Go.RowKit
set_option maxRecDepth 10000

def nameL (l : LN) : LN := ⟨l.i, l.a, l.v, 0, 0, false, false, false, false, false, false⟩

set_option maxHeartbeats 4000000 in
theorem nameOf_any (l : LN) (w : World) :
    Calls Try.prog 44 #[lnV l] w fun e w' => e = .returned (lnV (nameL l)) ∧ Kp w w' := by
  obtain ⟨i, a, v, p, f, r, q, x, r2, q2, x2⟩ := l
  rw [show lnV ⟨i, a, v, p, f, r, q, x, r2, q2, x2⟩ = .agg #[.int .i64 i, .int .i64 a, .int .u64 (v : Int), .int .u64 (p : Int), .int .i64 f, .bool r, .bool q, .bool x, .bool r2, .bool q2, .bool x2] from rfl]
  go_enter Try.func44, Try.ntmps44
  go_wp2
  exact bodyPost_ret (res_ln (l := nameL ⟨i, a, v, p, f, r, q, x, r2, q2, x2⟩) rfl rfl (RX.made1 w _ _ (encL (nameL ⟨i, a, v, p, f, r, q, x, r2, q2, x2⟩)))) rfl ⟨rfl, ((Kp.refl w).alloc _).alloc _⟩

theorem holds_any (l : LN) (w : World) :
    Calls Try.prog 43 #[lnV l] w fun e w' => e = .returned (.func (.func 69) #[] #[.pointer (some ⟨w.heap.size, 0, none⟩)]) ∧ w' = w.alloc (.cells (encL l).toArray 54) := by
  obtain ⟨i, a, v, p, f, r, q, x, r2, q2, x2⟩ := l
  rw [show lnV ⟨i, a, v, p, f, r, q, x, r2, q2, x2⟩ = .agg #[.int .i64 i, .int .i64 a, .int .u64 (v : Int), .int .u64 (p : Int), .int .i64 f, .bool r, .bool q, .bool x, .bool r2, .bool q2, .bool x2] from rfl]
  have hmf : ∀ (fn : Fn) (first cap : Array Value) (w : World), (Instr.makeFunc fn first cap).run Try.prog w = .ok (.func fn first cap) w := fun _ _ _ _ => rfl
  go_enter Try.func43, Try.ntmps43
  go_wp2
  go_ret
  exact ⟨rfl, rfl⟩

set_option maxHeartbeats 4000000 in
theorem holds_ft (cb : Nat) (m : LN) : FT 69 #[.pointer (some ⟨cb, 0, none⟩)] (fun c => c.on && samL (nameL c.l) m) (fun w => RX w cb 54 (encL m)) where
  fn := ⟨_, Try.func69, rfl, by decide⟩
  keep _ _ h k := h.kp k
  call w c X := by
    obtain ⟨on, l⟩ := c
    show Calls Try.prog 69 #[pcV ⟨on, l⟩, .pointer (some ⟨cb, 0, none⟩)] w fun e w' => e = .returned (.bool (on && samL (nameL l) m)) ∧ Kp w w'
    have s1 : Aside (∀ w, Calls Try.prog 44 #[lnV l] w fun e w' => e = .returned (lnV (nameL l)) ∧ Kp w w') := nameOf_any l
    have h1 : Aside (∀ w, (Op.equalIn 10000 54 (lnV (nameL l)) (lnV m)).run Try.prog w = .ok (samL (nameL l) m) w) := fun w => eq_line (nameL l) m w
    generalize samL (nameL l) m = D at *
    generalize nameL l = n at *
    obtain ⟨i, a, v, p, f, r, q, x, r2, q2, x2⟩ := l
    simp only [pcV, lnV] at s1 h1 ⊢
    cases on
    · go_enter Try.func69, Try.ntmps69
      go_wp2_with fail
      go_quiet (fail)
      go_wp2
      go_ret
      exact ⟨rfl, ((Kp.refl w).alloc _).trans ((Kp.refl _).drewN _)⟩
    · go_enter Try.func69, Try.ntmps69
      go_wp2_with fail
      obtain ⟨W1, hW1⟩ : ∃ W1, W1 = w.alloc (.cells #[.bool true, .int .i64 i, .int .i64 a, .int .u64 (v : Int), .int .u64 (p : Int), .int .i64 f, .bool r, .bool q, .bool x, .bool r2, .bool q2, .bool x2] 113) := ⟨_, rfl⟩
      obtain ⟨b2, hb2⟩ : ∃ b2, b2 = w.heap.size := ⟨_, rfl⟩
      have B2 : RX W1 b2 113 (encP ⟨true, ⟨i, a, v, p, f, r, q, x, r2, q2, x2⟩⟩) := by rw [hW1, hb2]; exact RX.made w _ _
      have HK : Hid (Kp w W1) := by rw [hW1]; exact (Kp.refl w).alloc _
      have B3 := X.kp HK.out
      clear X
      rw [← hW1, ← hb2]
      clear hW1 hb2
      have u0 : ∀ P : KeptBy W1, P.v.cell? ⟨b2, 0, none⟩ = some _ := fun P => (B2.kp P.k).cell (j := 0) rfl
      have u1 : ∀ P : KeptBy W1, P.v.cell? ⟨b2, 1, none⟩ = some _ := fun P => (B2.kp P.k).cell (j := 1) rfl
      have u2 : ∀ P : KeptBy W1, P.v.cell? ⟨b2, 2, none⟩ = some _ := fun P => (B2.kp P.k).cell (j := 2) rfl
      have u3 : ∀ P : KeptBy W1, P.v.cell? ⟨b2, 3, none⟩ = some _ := fun P => (B2.kp P.k).cell (j := 3) rfl
      have u4 : ∀ P : KeptBy W1, P.v.cell? ⟨b2, 4, none⟩ = some _ := fun P => (B2.kp P.k).cell (j := 4) rfl
      have u5 : ∀ P : KeptBy W1, P.v.cell? ⟨b2, 5, none⟩ = some _ := fun P => (B2.kp P.k).cell (j := 5) rfl
      have u6 : ∀ P : KeptBy W1, P.v.cell? ⟨b2, 6, none⟩ = some _ := fun P => (B2.kp P.k).cell (j := 6) rfl
      have u7 : ∀ P : KeptBy W1, P.v.cell? ⟨b2, 7, none⟩ = some _ := fun P => (B2.kp P.k).cell (j := 7) rfl
      have u8 : ∀ P : KeptBy W1, P.v.cell? ⟨b2, 8, none⟩ = some _ := fun P => (B2.kp P.k).cell (j := 8) rfl
      have u9 : ∀ P : KeptBy W1, P.v.cell? ⟨b2, 9, none⟩ = some _ := fun P => (B2.kp P.k).cell (j := 9) rfl
      have u10 : ∀ P : KeptBy W1, P.v.cell? ⟨b2, 10, none⟩ = some _ := fun P => (B2.kp P.k).cell (j := 10) rfl
      have u11 : ∀ P : KeptBy W1, P.v.cell? ⟨b2, 11, none⟩ = some _ := fun P => (B2.kp P.k).cell (j := 11) rfl
      have v0 : ∀ P : KeptBy W1, P.v.cell? ⟨cb, 0, none⟩ = some _ := fun P => (B3.kp P.k).cell (j := 0) rfl
      have v1 : ∀ P : KeptBy W1, P.v.cell? ⟨cb, 1, none⟩ = some _ := fun P => (B3.kp P.k).cell (j := 1) rfl
      have v2 : ∀ P : KeptBy W1, P.v.cell? ⟨cb, 2, none⟩ = some _ := fun P => (B3.kp P.k).cell (j := 2) rfl
      have v3 : ∀ P : KeptBy W1, P.v.cell? ⟨cb, 3, none⟩ = some _ := fun P => (B3.kp P.k).cell (j := 3) rfl
      have v4 : ∀ P : KeptBy W1, P.v.cell? ⟨cb, 4, none⟩ = some _ := fun P => (B3.kp P.k).cell (j := 4) rfl
      have v5 : ∀ P : KeptBy W1, P.v.cell? ⟨cb, 5, none⟩ = some _ := fun P => (B3.kp P.k).cell (j := 5) rfl
      have v6 : ∀ P : KeptBy W1, P.v.cell? ⟨cb, 6, none⟩ = some _ := fun P => (B3.kp P.k).cell (j := 6) rfl
      have v7 : ∀ P : KeptBy W1, P.v.cell? ⟨cb, 7, none⟩ = some _ := fun P => (B3.kp P.k).cell (j := 7) rfl
      have v8 : ∀ P : KeptBy W1, P.v.cell? ⟨cb, 8, none⟩ = some _ := fun P => (B3.kp P.k).cell (j := 8) rfl
      have v9 : ∀ P : KeptBy W1, P.v.cell? ⟨cb, 9, none⟩ = some _ := fun P => (B3.kp P.k).cell (j := 9) rfl
      have v10 : ∀ P : KeptBy W1, P.v.cell? ⟨cb, 10, none⟩ = some _ := fun P => (B3.kp P.k).cell (j := 10) rfl
      clear B2 B3
      have h1 := h1.out
      refine wp_region_kept mixed (by kernel_rfl) ?_
      repeat (go_big_quiet_step (first | exact rfl | (go_at_call 44; with_reducible refine Calls.kept_of (s1.out _))))
      refine wpQuiet_nil ?_
      intro _ hw'
      obtain ⟨⟨wq, kq⟩, hw''⟩ := hw'
      subst hw''
      go_wp2_with fail
      go_ret
      exact ⟨rfl, HK.out.trans kq⟩

theorem isEmpty_ft : FT 45 #[] (fun c => !c.on) (fun _ => True) where
  fn := ⟨_, Try.func45, rfl, by decide⟩
  keep _ _ _ _ := trivial
  call w c _ := by
    obtain ⟨on, l⟩ := c
    show Calls Try.prog 45 #[pcV ⟨on, l⟩] w fun e w' => e = .returned (.bool (!on)) ∧ Kp w w'
    simp only [pcV]
    go_enter Try.func45, Try.ntmps45
    go_wp2
    go_ret
    exact ⟨rfl, (Kp.refl w).alloc _⟩

theorem modulo_any (a : Int) (k m : Nat) (t : Int) (w : World) (h1 : a.tmod (k : Int) = t) (h2 : (t + (k : Int)).tmod (k : Int) = (m : Int)) (hk : 0 < k) (k1 : k ≤ 8) (t1 : -(k : Int) < t) (t2 : t < (k : Int)) :
    Calls Try.prog 46 #[.int .i64 a, .int .i64 (k : Int)] w fun e w' => e = .returned (.int .i64 (m : Int)) ∧ w' = w := by
  have z : ¬ (k : Int) = 0 := by omega
  have z2 : ¬ k = 0 := by omega
  go_enter Try.func46, Try.ntmps46
  go_wp2
  go_ret
  exact ⟨rfl, rfl⟩

end Go.Proofs.Ytclcickhgoiooaa
