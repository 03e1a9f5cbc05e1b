/- tlb: the six that lose. -/
import Derived.Test.YtclcickhgoiooaaT9
namespace Go.Proofs.Ytclcickhgoiooaa
open Go.RowKit
set_option maxRecDepth 10000

/-- The parts of a line that are named. -/
def prtL (bi ba bv bp bf : Bool) (l : LN) : LN := ⟨if bi then l.i else 0, if ba then l.a else 0, if bv then l.v else 0, if bp then l.p else 0, if bf then l.f else 0, false, false, false, false, false, false⟩
/-- Is l like m in what is named? -/
def suB (bi ba bv bp bf : Bool) (m l : LN) : Bool := (!bi || (l.i == m.i)) && (!ba || (l.a == m.a)) && (!bv || ((l.v : Int) == (m.v : Int))) && (!bp || ((l.p : Int) == (m.p : Int))) && (!bf || (l.f == m.f))
theorem suB_prt (bi ba bv bp bf : Bool) (m l : LN) : samL (prtL bi ba bv bp bf l) (prtL bi ba bv bp bf m) = suB bi ba bv bp bf m l := by
  cases bi <;> cases ba <;> cases bv <;> cases bp <;> cases bf <;> simp [samL, prtL, suB, samP]
theorem los_prt (bi ba bv bp bf : Bool) (m : LN) : (fun l => samL (prtL bi ba bv bp bf l) (prtL bi ba bv bp bf m)) = suB bi ba bv bp bf m := by
  funext l
  exact suB_prt bi ba bv bp bf m l

set_option maxHeartbeats 1000000 in
theorem all_gt : GT 52 (prtL false false false false false) where
  fn := ⟨_, Try.func52, rfl, by decide⟩
  call l w := by
    obtain ⟨i, a, v, p, f, r, q, x, r2, q2, x2⟩ := l
    rw [show lnV ⟨i, a, v, p, f, r, q, x, r2, q2, x2⟩ = .agg #[.int .i64 i, .int .i64 a, .int .u64 (v : Int), .int .u64 (p : Int), .int .i64 f, .bool r, .bool q, .bool x, .bool r2, .bool q2, .bool x2] from rfl]
    go_enter Try.func52, Try.ntmps52
    go_wp2
    exact bodyPost_ret (res_ln (l := prtL false false false false false ⟨i, a, v, p, f, r, q, x, r2, q2, x2⟩) rfl rfl (RX.made1 w _ _ (encL (prtL false false false false false ⟨i, a, v, p, f, r, q, x, r2, q2, x2⟩)))) rfl ⟨rfl, ((Kp.refl w).alloc _).alloc _⟩
theorem all_any {w : World} {b g s k : Nat} {T : Nat → PC} (h : TP w b g s k T) (m : LN) :
    Calls Try.prog 20 #[.pointer (some ⟨b, 0, none⟩)] w fun e w' => e = .returned (.int .i64 (losN T (suB false false false false false m) (s * k) : Nat)) ∧ TP w' b g s k (losT T (suB false false false false false m) (s * k)) ∧ Fr (· = g) w w' := by
  have c : Calls Try.prog 47 #[.pointer (some ⟨b, 0, none⟩), .agg #[.int .i64 0, .int .i64 0, .int .u64 0, .int .u64 0, .int .i64 0, .bool false, .bool false, .bool false, .bool false, .bool false, .bool false], .func (.func 52) #[] #[]] w fun e w' => e = .returned (.int .i64 (losN T (suB false false false false false m) (s * k) : Nat)) ∧ TP w' b g s k (losT T (suB false false false false false m) (s * k)) ∧ Fr (· = g) w w' := by
    have := lose_any h all_gt (prtL false false false false false m)
    rw [los_prt] at this
    exact this
  clear h
  generalize losN T (suB false false false false false m) (s * k) = n at *
  go_enter Try.func20, Try.ntmps20
  go_wp2_with fail
  with_reducible refine c.mono ?_
  rintro e w1 ⟨rfl, T1, F1⟩
  have HE : Hid (TP w1 b g s k (losT T (suB false false false false false m) (s * k)) ∧ Fr (· = g) w w1) := ⟨T1, F1⟩
  clear c T1 F1
  go_wp2
  go_ret
  exact ⟨rfl, HE.out⟩

set_option maxHeartbeats 1000000 in
theorem id_gt : GT 48 (prtL true false false false false) where
  fn := ⟨_, Try.func48, rfl, by decide⟩
  call l w := by
    obtain ⟨i, a, v, p, f, r, q, x, r2, q2, x2⟩ := l
    rw [show lnV ⟨i, a, v, p, f, r, q, x, r2, q2, x2⟩ = .agg #[.int .i64 i, .int .i64 a, .int .u64 (v : Int), .int .u64 (p : Int), .int .i64 f, .bool r, .bool q, .bool x, .bool r2, .bool q2, .bool x2] from rfl]
    go_enter Try.func48, Try.ntmps48
    go_wp2
    exact bodyPost_ret (res_ln (l := prtL true false false false false ⟨i, a, v, p, f, r, q, x, r2, q2, x2⟩) rfl rfl (RX.made1 w _ _ (encL (prtL true false false false false ⟨i, a, v, p, f, r, q, x, r2, q2, x2⟩)))) rfl ⟨rfl, ((Kp.refl w).alloc _).alloc _⟩
theorem id_any {w : World} {b g s k : Nat} {T : Nat → PC} (h : TP w b g s k T) (m : LN) :
    Calls Try.prog 14 #[.pointer (some ⟨b, 0, none⟩), .int .i64 m.i] w fun e w' => e = .returned (.int .i64 (losN T (suB true false false false false m) (s * k) : Nat)) ∧ TP w' b g s k (losT T (suB true false false false false m) (s * k)) ∧ Fr (· = g) w w' := by
  have c : Calls Try.prog 47 #[.pointer (some ⟨b, 0, none⟩), .agg #[.int .i64 m.i, .int .i64 0, .int .u64 0, .int .u64 0, .int .i64 0, .bool false, .bool false, .bool false, .bool false, .bool false, .bool false], .func (.func 48) #[] #[]] w fun e w' => e = .returned (.int .i64 (losN T (suB true false false false false m) (s * k) : Nat)) ∧ TP w' b g s k (losT T (suB true false false false false m) (s * k)) ∧ Fr (· = g) w w' := by
    have := lose_any h id_gt (prtL true false false false false m)
    rw [los_prt] at this
    exact this
  clear h
  generalize losN T (suB true false false false false m) (s * k) = n at *
  go_enter Try.func14, Try.ntmps14
  go_wp2_with fail
  with_reducible refine c.mono ?_
  rintro e w1 ⟨rfl, T1, F1⟩
  have HE : Hid (TP w1 b g s k (losT T (suB true false false false false m) (s * k)) ∧ Fr (· = g) w w1) := ⟨T1, F1⟩
  clear c T1 F1
  go_wp2
  go_ret
  exact ⟨rfl, HE.out⟩

set_option maxHeartbeats 1000000 in
theorem va_gt : GT 44 (prtL true true true false false) where
  fn := ⟨_, Try.func44, rfl, by decide⟩
  call l w := by
    obtain ⟨i, a, v, p, f, r, q, x, r2, q2, x2⟩ := l
    rw [show lnV ⟨i, a, v, p, f, r, q, x, r2, q2, x2⟩ = .agg #[.int .i64 i, .int .i64 a, .int .u64 (v : Int), .int .u64 (p : Int), .int .i64 f, .bool r, .bool q, .bool x, .bool r2, .bool q2, .bool x2] from rfl]
    go_enter Try.func44, Try.ntmps44
    go_wp2
    exact bodyPost_ret (res_ln (l := prtL true true true false false ⟨i, a, v, p, f, r, q, x, r2, q2, x2⟩) rfl rfl (RX.made1 w _ _ (encL (prtL true true true false false ⟨i, a, v, p, f, r, q, x, r2, q2, x2⟩)))) rfl ⟨rfl, ((Kp.refl w).alloc _).alloc _⟩
set_option maxHeartbeats 1000000 in
theorem page_gt : GT 49 (prtL true false false true false) where
  fn := ⟨_, Try.func49, rfl, by decide⟩
  call l w := by
    obtain ⟨i, a, v, p, f, r, q, x, r2, q2, x2⟩ := l
    rw [show lnV ⟨i, a, v, p, f, r, q, x, r2, q2, x2⟩ = .agg #[.int .i64 i, .int .i64 a, .int .u64 (v : Int), .int .u64 (p : Int), .int .i64 f, .bool r, .bool q, .bool x, .bool r2, .bool q2, .bool x2] from rfl]
    go_enter Try.func49, Try.ntmps49
    go_wp2
    exact bodyPost_ret (res_ln (l := prtL true false false true false ⟨i, a, v, p, f, r, q, x, r2, q2, x2⟩) rfl rfl (RX.made1 w _ _ (encL (prtL true false false true false ⟨i, a, v, p, f, r, q, x, r2, q2, x2⟩)))) rfl ⟨rfl, ((Kp.refl w).alloc _).alloc _⟩
theorem page_any {w : World} {b g s k : Nat} {T : Nat → PC} (h : TP w b g s k T) (m : LN) :
    Calls Try.prog 15 #[.pointer (some ⟨b, 0, none⟩), .int .i64 m.i, .int .u64 (m.p : Int)] w fun e w' => e = .returned (.int .i64 (losN T (suB true false false true false m) (s * k) : Nat)) ∧ TP w' b g s k (losT T (suB true false false true false m) (s * k)) ∧ Fr (· = g) w w' := by
  have c : Calls Try.prog 47 #[.pointer (some ⟨b, 0, none⟩), .agg #[.int .i64 m.i, .int .i64 0, .int .u64 0, .int .u64 (m.p : Int), .int .i64 0, .bool false, .bool false, .bool false, .bool false, .bool false, .bool false], .func (.func 49) #[] #[]] w fun e w' => e = .returned (.int .i64 (losN T (suB true false false true false m) (s * k) : Nat)) ∧ TP w' b g s k (losT T (suB true false false true false m) (s * k)) ∧ Fr (· = g) w w' := by
    have := lose_any h page_gt (prtL true false false true false m)
    rw [los_prt] at this
    exact this
  clear h
  generalize losN T (suB true false false true false m) (s * k) = n at *
  go_enter Try.func15, Try.ntmps15
  go_wp2_with fail
  with_reducible refine c.mono ?_
  rintro e w1 ⟨rfl, T1, F1⟩
  have HE : Hid (TP w1 b g s k (losT T (suB true false false true false m) (s * k)) ∧ Fr (· = g) w w1) := ⟨T1, F1⟩
  clear c T1 F1
  go_wp2
  go_ret
  exact ⟨rfl, HE.out⟩

set_option maxHeartbeats 1000000 in
theorem frame_gt : GT 50 (prtL false false false false true) where
  fn := ⟨_, Try.func50, rfl, by decide⟩
  call l w := by
    obtain ⟨i, a, v, p, f, r, q, x, r2, q2, x2⟩ := l
    rw [show lnV ⟨i, a, v, p, f, r, q, x, r2, q2, x2⟩ = .agg #[.int .i64 i, .int .i64 a, .int .u64 (v : Int), .int .u64 (p : Int), .int .i64 f, .bool r, .bool q, .bool x, .bool r2, .bool q2, .bool x2] from rfl]
    go_enter Try.func50, Try.ntmps50
    go_wp2
    exact bodyPost_ret (res_ln (l := prtL false false false false true ⟨i, a, v, p, f, r, q, x, r2, q2, x2⟩) rfl rfl (RX.made1 w _ _ (encL (prtL false false false false true ⟨i, a, v, p, f, r, q, x, r2, q2, x2⟩)))) rfl ⟨rfl, ((Kp.refl w).alloc _).alloc _⟩
theorem frame_any {w : World} {b g s k : Nat} {T : Nat → PC} (h : TP w b g s k T) (m : LN) :
    Calls Try.prog 16 #[.pointer (some ⟨b, 0, none⟩), .int .i64 m.f] w fun e w' => e = .returned (.int .i64 (losN T (suB false false false false true m) (s * k) : Nat)) ∧ TP w' b g s k (losT T (suB false false false false true m) (s * k)) ∧ Fr (· = g) w w' := by
  have c : Calls Try.prog 47 #[.pointer (some ⟨b, 0, none⟩), .agg #[.int .i64 0, .int .i64 0, .int .u64 0, .int .u64 0, .int .i64 m.f, .bool false, .bool false, .bool false, .bool false, .bool false, .bool false], .func (.func 50) #[] #[]] w fun e w' => e = .returned (.int .i64 (losN T (suB false false false false true m) (s * k) : Nat)) ∧ TP w' b g s k (losT T (suB false false false false true m) (s * k)) ∧ Fr (· = g) w w' := by
    have := lose_any h frame_gt (prtL false false false false true m)
    rw [los_prt] at this
    exact this
  clear h
  generalize losN T (suB false false false false true m) (s * k) = n at *
  go_enter Try.func16, Try.ntmps16
  go_wp2_with fail
  with_reducible refine c.mono ?_
  rintro e w1 ⟨rfl, T1, F1⟩
  have HE : Hid (TP w1 b g s k (losT T (suB false false false false true m) (s * k)) ∧ Fr (· = g) w w1) := ⟨T1, F1⟩
  clear c T1 F1
  go_wp2
  go_ret
  exact ⟨rfl, HE.out⟩

end Go.Proofs.Ytclcickhgoiooaa
