/- DescCodes: the walk. -/
import Derived.Test.YtggmldickiehbaaEE
import Derived.Test.YtggmldickiehbaaEF
import Derived.Test.YtggmldickiehbaaKB
namespace Go.Proofs.Ytggmldickiehbaa
open Go.RowKit

set_option maxHeartbeats 8000000 in
set_option maxRecDepth 10000 in
theorem codes_walk (stage level : Int) (k : Int) (a : Nat) (r q x : Bool) (f : Int) (m1 l X Y T : Nat) (s E C : Int) (k' : Int) (a' : Nat) (r' q' x' : Bool) (f' : Int) (w : World)
    (p1 : bits .and .i64 stage 1 = (m1 : Int)) (i1 : (m1 : Int) ≤ 1) (hs : 1 + (m1 : Int) = s) (p2 : bits .and .i64 level 3 = (l : Int))
    (s1 : Aside (∀ w, Calls Try.prog 8 #[.int .i64 s, .int .i64 (l : Int), .agg #[.int .i64 k, .int .u64 (a : Int), .bool r, .bool q, .bool x, .int .i64 f]] w fun e w' => e = .returned (.agg #[.int .i64 k', .int .u64 (a' : Int), .bool r', .bool q', .bool x', .int .i64 f']) ∧ Kp w w'))
    (s2 : Aside (∀ w, Calls Try.prog 9 #[.int .i64 stage, .int .i64 level, .agg #[.int .i64 k, .int .u64 (a : Int), .bool r, .bool q, .bool x, .int .i64 f]] w fun e w' => e = .returned (.tuple #[.int .u64 (X : Int), .int .i64 E]) ∧ Kp w w'))
    (s3 : Aside (∀ w, Calls Try.prog 10 #[.int .i64 stage, .int .i64 level, .agg #[.int .i64 k, .int .u64 (a : Int), .bool r, .bool q, .bool x, .int .i64 f]] w fun e w' => e = .returned (.tuple #[.int .u64 (X : Int), .int .i64 E]) ∧ Kp w w'))
    (s4 : Aside (∀ w, Calls Try.prog 9 #[.int .i64 s, .int .i64 (l : Int), .agg #[.int .i64 k', .int .u64 (a' : Int), .bool r', .bool q', .bool x', .int .i64 f']] w fun e w' => e = .returned (.tuple #[.int .u64 (Y : Int), .int .i64 0]) ∧ Kp w w'))
    (s5 : Aside (∀ w, Calls Try.prog 10 #[.int .i64 s, .int .i64 (l : Int), .agg #[.int .i64 k', .int .u64 (a' : Int), .bool r', .bool q', .bool x', .int .i64 f']] w fun e w' => e = .returned (.tuple #[.int .u64 (Y : Int), .int .i64 0]) ∧ Kp w w'))
    (t1 : Aside (∀ w, Calls Try.prog 12 #[.int .i64 stage, .int .i64 level, .agg #[.int .i64 k, .int .u64 (a : Int), .bool r, .bool q, .bool x, .int .i64 f]] w fun e w' => e = .returned (.int .i64 E) ∧ Kp w w'))
    (t2 : Aside (∀ w, Calls Try.prog 13 #[.int .i64 stage, .int .i64 level, .agg #[.int .i64 k, .int .u64 (a : Int), .bool r, .bool q, .bool x, .int .i64 f]] w fun e w' => e = .returned (.int .i64 E) ∧ Kp w w'))
    (t3 : Aside (∀ w, Calls Try.prog 12 #[.int .i64 s, .int .i64 (l : Int), .agg #[.int .i64 k, .int .u64 (a : Int), .bool r, .bool q, .bool x, .int .i64 f]] w fun e w' => e = .returned (.int .i64 C) ∧ Kp w w'))
    (t4 : Aside (∀ w, Calls Try.prog 13 #[.int .i64 s, .int .i64 (l : Int), .agg #[.int .i64 k, .int .u64 (a : Int), .bool r, .bool q, .bool x, .int .i64 f]] w fun e w' => e = .returned (.int .i64 C) ∧ Kp w w'))
    (t5 : Aside (∀ w, Calls Try.prog 14 #[.int .i64 stage] w fun e w' => e = .returned (.int .u64 (T : Int)) ∧ Kp w w'))
    (t6 : Aside (∀ w, Calls Try.prog 15 #[.int .i64 stage] w fun e w' => e = .returned (.int .u64 (T : Int)) ∧ Kp w w')) :
    Calls Try.prog 3 #[.int .i64 stage, .int .i64 level, .agg #[.int .i64 k, .int .u64 (a : Int), .bool r, .bool q, .bool x, .int .i64 f]] w fun e w' => e = .returned (.bool true) ∧ Kp w w' := by
  have st : Aside (∀ w, Calls Try.prog 11 #[] w fun e w' => e = .returned (.bool true) ∧ Kp w w') := fun w => dtold_any w
  go_enter Try.func3, Try.ntmps3
  go_wp2_with fail
  with_reducible refine (s1.out _).mono ?_
  rintro e w1 ⟨rfl, K⟩
  have HK1 : Hid (Kp w w1) := ((Kp.refl w).alloc _).trans K
  obtain ⟨b5, hb5⟩ : ∃ b5, b5 = w.heap.size := ⟨_, rfl⟩
  have Hb51 : Hid (BX w1 b5 k (a : Int) r q x f) := by rw [hb5]; exact ((BX.made w k (a : Int) r q x f).kp (Kp.refl _)).kp K
  (try rw [← hb5])
  clear K hb5 s1
  have Bb5 : BX (w1.alloc (.cells #[.int .i64 k', .int .u64 (a' : Int), .bool r', .bool q', .bool x', .int .i64 f'] 26)) b5 k (a : Int) r q x f := Hb51.out.kp ((Kp.refl _).alloc _)
  have x0 := Bb5.c0
  have x1 := Bb5.c1
  have x2 := Bb5.c2
  have x3 := Bb5.c3
  have x4 := Bb5.c4
  have x5 := Bb5.c5
  clear Bb5
  go_wp2_with fail
  with_reducible refine (s2.out _).mono ?_
  rintro e w2 ⟨rfl, K⟩
  have HK2 : Hid (Kp w w2) := (HK1.out.alloc _).trans K
  have Hb52 : Hid (BX w2 b5 k (a : Int) r q x f) := (Hb51.out.kp ((Kp.refl _).alloc _)).kp K
  obtain ⟨b9, hb9⟩ : ∃ b9, b9 = w1.heap.size := ⟨_, rfl⟩
  have Hb92 : Hid (BX w2 b9 k' (a' : Int) r' q' x' f') := by rw [hb9]; exact ((BX.made w1 k' (a' : Int) r' q' x' f').kp (Kp.refl _)).kp K
  (try rw [← hb9])
  clear K hb9 HK1 Hb51 s2 x0 x1 x2 x3 x4 x5
  have x0 := Hb52.out.c0
  have x1 := Hb52.out.c1
  have x2 := Hb52.out.c2
  have x3 := Hb52.out.c3
  have x4 := Hb52.out.c4
  have x5 := Hb52.out.c5
  go_wp2_with fail
  with_reducible refine (s3.out _).mono ?_
  rintro e w3 ⟨rfl, K⟩
  have HK3 : Hid (Kp w w3) := HK2.out.trans K
  have Hb53 : Hid (BX w3 b5 k (a : Int) r q x f) := Hb52.out.kp K
  have Hb93 : Hid (BX w3 b9 k' (a' : Int) r' q' x' f') := Hb92.out.kp K
  clear K HK2 Hb52 Hb92 s3 x0 x1 x2 x3 x4 x5
  have x0 := Hb93.out.c0
  have x1 := Hb93.out.c1
  have x2 := Hb93.out.c2
  have x3 := Hb93.out.c3
  have x4 := Hb93.out.c4
  have x5 := Hb93.out.c5
  go_wp2_with fail
  with_reducible refine (s4.out _).mono ?_
  rintro e w4 ⟨rfl, K⟩
  have HK4 : Hid (Kp w w4) := HK3.out.trans K
  have Hb54 : Hid (BX w4 b5 k (a : Int) r q x f) := Hb53.out.kp K
  have Hb94 : Hid (BX w4 b9 k' (a' : Int) r' q' x' f') := Hb93.out.kp K
  clear K HK3 Hb53 Hb93 s4 x0 x1 x2 x3 x4 x5
  have x0 := Hb94.out.c0
  have x1 := Hb94.out.c1
  have x2 := Hb94.out.c2
  have x3 := Hb94.out.c3
  have x4 := Hb94.out.c4
  have x5 := Hb94.out.c5
  go_wp2_with fail
  with_reducible refine (s5.out _).mono ?_
  rintro e w5 ⟨rfl, K⟩
  have HK5 : Hid (Kp w w5) := HK4.out.trans K
  have Hb55 : Hid (BX w5 b5 k (a : Int) r q x f) := Hb54.out.kp K
  have Hb95 : Hid (BX w5 b9 k' (a' : Int) r' q' x' f') := Hb94.out.kp K
  clear K HK4 Hb54 Hb94 s5 x0 x1 x2 x3 x4 x5
  go_wp2_with fail
  have x0 : ∀ p : KeptBy w5, p.v.cell? ⟨b5, 0, none⟩ = some (.int .i64 k) := fun p => (Hb55.out.kp p.k).c0
  have x1 : ∀ p : KeptBy w5, p.v.cell? ⟨b5, 1, none⟩ = some (.int .u64 (a : Int)) := fun p => (Hb55.out.kp p.k).c1
  have x2 : ∀ p : KeptBy w5, p.v.cell? ⟨b5, 2, none⟩ = some (.bool r) := fun p => (Hb55.out.kp p.k).c2
  have x3 : ∀ p : KeptBy w5, p.v.cell? ⟨b5, 3, none⟩ = some (.bool q) := fun p => (Hb55.out.kp p.k).c3
  have x4 : ∀ p : KeptBy w5, p.v.cell? ⟨b5, 4, none⟩ = some (.bool x) := fun p => (Hb55.out.kp p.k).c4
  have x5 : ∀ p : KeptBy w5, p.v.cell? ⟨b5, 5, none⟩ = some (.int .i64 f) := fun p => (Hb55.out.kp p.k).c5
  refine wp_region_kept mixed (by kernel_rfl) ?_
  repeat (go_big_quiet_step (first | exact rfl | (go_at_call 11; with_reducible refine Calls.kept_of (st.out _)) | (go_at_call 12; go_must (first | (with_reducible refine Calls.kept_of (t1.out _)) | (with_reducible refine Calls.kept_of (t3.out _)))) | (go_at_call 13; go_must (first | (with_reducible refine Calls.kept_of (t2.out _)) | (with_reducible refine Calls.kept_of (t4.out _)))) | (go_at_call 14; with_reducible refine Calls.kept_of (t5.out _)) | (go_at_call 15; with_reducible refine Calls.kept_of (t6.out _))))
  refine wpQuiet_nil ?_
  intro _ hw'
  obtain ⟨⟨wq, kq⟩, hw''⟩ := hw'
  subst hw''
  clear x0 x1 x2 x3 x4 x5
  go_wp2_with fail
  go_ret
  exact ⟨rfl, HK5.out.trans kq⟩

theorem codes_law (stage level : Int) (k : Int) (a : Nat) (r q x : Bool) (f : Int) (ha : a < 18446744073709551616) (w : World) :
    Calls Try.prog 3 #[.int .i64 stage, .int .i64 level, .agg #[.int .i64 k, .int .u64 (a : Int), .bool r, .bool q, .bool x, .int .i64 f]] w fun e w' => e = .returned (.bool true) ∧ Kp w w' := by
  obtain ⟨m1, p1, hm1⟩ := and_lim stage 1 (by decide)
  obtain ⟨l, p2, hl⟩ := and_lim level 3 (by decide)
  obtain ⟨s, hs⟩ : ∃ s, 1 + (m1 : Int) = s := ⟨_, rfl⟩
  have hp : isPl s l = true := isPl_iff.2 ⟨by omega, by omega, by omega, by omega⟩
  obtain ⟨k', a', r', q', x', f', hc, s1⟩ := near_any s l k a r q x f hp ha
  have s4 := fun w => encode_any s l k' a' r' q' x' f' w
  have s5 := fun w => rencode_any s l k' a' r' q' x' f' w
  rw [hc] at s4 s5
  exact codes_walk stage level k a r q x f m1 l _ _ _ s _ _ k' a' r' q' x' f' w p1 (by omega) hs p2 s1 (fun w => encode_any stage level k a r q x f w) (fun w => rencode_any stage level k a r q x f w) s4 s5
    (fun w => dcheck_any stage level k a r q x f w) (fun w => rcheck_any stage level k a r q x f w) (fun w => dcheck_any s l k a r q x f w) (fun w => rcheck_any s l k a r q x f w)
    (fun w => (top_any stage w).mono fun _ _ h => ⟨h.1, by rw [h.2]; exact Kp.refl _⟩) (fun w => (rtop_any stage w).mono fun _ _ h => ⟨h.1, by rw [h.2]; exact Kp.refl _⟩)

end Go.Proofs.Ytggmldickiehbaa
