/- WalkOuts: the walk. -/
import Derived.Test.YtcbciehffgaapaaZ3
import Derived.Test.YtcbciehffgaapaaEE
namespace Go.Proofs.Ytcbciehffgaapaa
open Go.RowKit

set_option maxHeartbeats 8000000 in
set_option maxRecDepth 10000 in
theorem outs_walk (u : Nat) (level k : Int) (a : Nat) (r q x : Bool) (f : Int) (m : Nat) (k' : Int) (a' : Nat) (r' q' x' : Bool) (f' : Int) (w : World) (p1 : bits .and .i64 level 3 = (m : Int)) (ha : a < 18446744073709551616) (ha' : a' < 18446744073709551616)
    (s1 : Aside (∀ w, Calls Try.prog 17 #[.int .i64 1, .int .i64 (m : Int), .agg #[.int .i64 k, .int .u64 (a : Int), .bool r, .bool q, .bool x, .int .i64 f]] w fun e w' => e = .returned (.agg #[.int .i64 k', .int .u64 (a' : Int), .bool r', .bool q', .bool x', .int .i64 f']) ∧ Kp w w')) :
    Calls Try.prog 4 #[.int .u64 (u : Int), .int .i64 level, .agg #[.int .i64 k, .int .u64 (a : Int), .bool r, .bool q, .bool x, .int .i64 f]] w fun e w' => e = .returned (.bool true) ∧ Kp w w' := by
  have st : Aside (∀ w, Calls Try.prog 16 #[] w fun e w' => e = .returned (.bool true) ∧ Kp w w') := fun w => wtold_any w
  have t1 : Aside (∀ w, Calls Try.prog 18 #[.int .u64 (u : Int), .agg #[.int .i64 level, .int .u64 0, .int .u64 0, .int .i64 k, .int .u64 (a : Int), .bool r, .bool q, .bool x, .int .i64 f]] w fun e w' => e = .returned (.int .u64 (outN u level k a : Int)) ∧ Kp w w') := fun w => out_any u a level 0 0 k r q x f w
  have t2 : Aside (∀ w, Calls Try.prog 19 #[.int .u64 (u : Int), .agg #[.int .i64 level, .int .u64 0, .int .u64 0, .int .i64 k, .int .u64 (a : Int), .bool r, .bool q, .bool x, .int .i64 f]] w fun e w' => e = .returned (.int .u64 (outN u level k a : Int)) ∧ Kp w w') := fun w => rout_any u a level 0 0 k r q x f w ha
  have t3 : Aside (∀ w, Calls Try.prog 18 #[.int .u64 (u : Int), .agg #[.int .i64 (m : Int), .int .u64 0, .int .u64 0, .int .i64 k', .int .u64 (a' : Int), .bool r', .bool q', .bool x', .int .i64 f']] w fun e w' => e = .returned (.int .u64 (outN u m k' a' : Int)) ∧ Kp w w') := fun w => out_any u a' m 0 0 k' r' q' x' f' w
  have t4 : Aside (∀ w, Calls Try.prog 19 #[.int .u64 (u : Int), .agg #[.int .i64 (m : Int), .int .u64 0, .int .u64 0, .int .i64 k', .int .u64 (a' : Int), .bool r', .bool q', .bool x', .int .i64 f']] w fun e w' => e = .returned (.int .u64 (outN u m k' a' : Int)) ∧ Kp w w') := fun w => rout_any u a' m 0 0 k' r' q' x' f' w ha'
  generalize outN u level k a = z1 at *
  generalize outN u m k' a' = z2 at *
  clear ha ha'
  go_enter Try.func4, Try.ntmps4
  go_wp2_with fail
  with_reducible refine (s1.out _).mono ?_
  rintro e w1 ⟨rfl, K⟩
  have HB : Hid (BX w1 w.heap.size k a r q x f) := (BX.made w k a r q x f).kp K
  have HK : Hid (Kp w w1) := ((Kp.refl _).alloc _).trans K
  clear K s1
  go_wp2_with fail
  obtain ⟨w2, hw2⟩ : ∃ w2, w2 = w1.alloc (.cells #[.int .i64 k', .int .u64 (a' : Int), .bool r', .bool q', .bool x', .int .i64 f'] 48) := ⟨_, rfl⟩
  have K2 : Kp w1 w2 := by rw [hw2]; exact (Kp.refl _).alloc _
  have HB2 : Hid (BX w2 w1.heap.size k' a' r' q' x' f') := by rw [hw2]; exact BX.made w1 k' a' r' q' x' f'
  have HB1 : Hid (BX w2 w.heap.size k a r q x f) := HB.out.kp K2
  have HK2 : Hid (Kp w w2) := HK.out.trans K2
  rw [← hw2]
  clear hw2 HB HK K2
  have kb : Nonempty (KeptBy w2) := KeptBy.some
  have x0 : ∀ p : KeptBy w2, p.v.cell? ⟨w.heap.size, 0, none⟩ = some (.int .i64 k) := fun p => (HB1.out.kp p.k).c0
  have x1 : ∀ p : KeptBy w2, p.v.cell? ⟨w.heap.size, 1, none⟩ = some (.int .u64 (a : Int)) := fun p => (HB1.out.kp p.k).c1
  have x2 : ∀ p : KeptBy w2, p.v.cell? ⟨w.heap.size, 2, none⟩ = some (.bool r) := fun p => (HB1.out.kp p.k).c2
  have x3 : ∀ p : KeptBy w2, p.v.cell? ⟨w.heap.size, 3, none⟩ = some (.bool q) := fun p => (HB1.out.kp p.k).c3
  have x4 : ∀ p : KeptBy w2, p.v.cell? ⟨w.heap.size, 4, none⟩ = some (.bool x) := fun p => (HB1.out.kp p.k).c4
  have x5 : ∀ p : KeptBy w2, p.v.cell? ⟨w.heap.size, 5, none⟩ = some (.int .i64 f) := fun p => (HB1.out.kp p.k).c5
  have y0 : ∀ p : KeptBy w2, p.v.cell? ⟨w1.heap.size, 0, none⟩ = some (.int .i64 k') := fun p => (HB2.out.kp p.k).c0
  have y1 : ∀ p : KeptBy w2, p.v.cell? ⟨w1.heap.size, 1, none⟩ = some (.int .u64 (a' : Int)) := fun p => (HB2.out.kp p.k).c1
  have y2 : ∀ p : KeptBy w2, p.v.cell? ⟨w1.heap.size, 2, none⟩ = some (.bool r') := fun p => (HB2.out.kp p.k).c2
  have y3 : ∀ p : KeptBy w2, p.v.cell? ⟨w1.heap.size, 3, none⟩ = some (.bool q') := fun p => (HB2.out.kp p.k).c3
  have y4 : ∀ p : KeptBy w2, p.v.cell? ⟨w1.heap.size, 4, none⟩ = some (.bool x') := fun p => (HB2.out.kp p.k).c4
  have y5 : ∀ p : KeptBy w2, p.v.cell? ⟨w1.heap.size, 5, none⟩ = some (.int .i64 f') := fun p => (HB2.out.kp p.k).c5
  refine wp_region_kept mixed (by kernel_rfl) ?_
  repeat (go_big_quiet_step (first | exact rfl | (go_at_call 16; with_reducible refine Calls.kept_of (st.out _)) | (go_at_call 18; go_must (first | (with_reducible refine Calls.kept_of (t1.out _)) | (with_reducible refine Calls.kept_of (t3.out _)))) | (go_at_call 19; go_must (first | (with_reducible refine Calls.kept_of (t2.out _)) | (with_reducible refine Calls.kept_of (t4.out _))))))
  refine wpQuiet_nil ?_
  intro _ hw'
  obtain ⟨⟨wq, kq⟩, hw''⟩ := hw'
  subst hw''
  have kq' := HK2.out.trans kq
  clear kq
  go_wp2
  go_ret
  exact ⟨rfl, kq'⟩

theorem outs_law (u level k : Int) (a : Nat) (r q x : Bool) (f : Int) (hu : (Lit.int .u64 u).wf = true) (ha : a < 18446744073709551616) (w : World) :
    Calls Try.prog 4 #[.int .u64 u, .int .i64 level, .agg #[.int .i64 k, .int .u64 (a : Int), .bool r, .bool q, .bool x, .int .i64 f]] w fun e w' => e = .returned (.bool true) ∧ Kp w w' := by
  have b := wf_word hu
  obtain ⟨u, rfl⟩ : ∃ n : Nat, u = n := ⟨u.toNat, by omega⟩
  obtain ⟨m, hm, hm'⟩ := and_lim level 3 (by decide)
  obtain ⟨k', a', r', q', x', f', h0, h1⟩ := near_any 1 m k a r q x f (isPl_iff.2 (by omega)) ha
  have := (chk_ok h0).2.2.2.2.1
  have := top_le 1
  exact outs_walk u level k a r q x f m k' a' r' q' x' f' w hm ha (by omega) h1

end Go.Proofs.Ytcbciehffgaapaa
