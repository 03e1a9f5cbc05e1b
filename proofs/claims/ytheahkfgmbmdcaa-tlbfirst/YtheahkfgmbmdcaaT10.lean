/- tlb: the six that lose. -/
import Derived.Test.YtheahkfgmbmdcaaT9
namespace Go.Proofs.Ytheahkfgmbmdcaa
open Go.RowKit
set_option maxRecDepth 10000

/-- The parts of a line that are named. -/
def prtL (bi ba bv bp bf : Bool) (l : LN) : LN := ⟨if bi then l.i else 0, if ba then l.a else 0, if bv then l.v else 0, if bp then l.p else 0, if bf then l.f else 0, false, false, false, false, false, false⟩
/-- Is l like m in what is named? -/
def suB (bi ba bv bp bf : Bool) (m l : LN) : Bool := (!bi || (l.i == m.i)) && (!ba || (l.a == m.a)) && (!bv || ((l.v : Int) == (m.v : Int))) && (!bp || ((l.p : Int) == (m.p : Int))) && (!bf || (l.f == m.f))
theorem suB_prt (bi ba bv bp bf : Bool) (m l : LN) : samL (prtL bi ba bv bp bf l) (prtL bi ba bv bp bf m) = suB bi ba bv bp bf m l := by
  cases bi <;> cases ba <;> cases bv <;> cases bp <;> cases bf <;> simp [samL, prtL, suB, samP]
theorem los_prt (bi ba bv bp bf : Bool) (m : LN) : (fun l => samL (prtL bi ba bv bp bf l) (prtL bi ba bv bp bf m)) = suB bi ba bv bp bf m := by
  funext l
  exact suB_prt bi ba bv bp bf m l

set_option maxHeartbeats 1000000 in
theorem all_gt : GT 39 (prtL false false false false false) where
  fn := ⟨_, Try.func39, rfl, by decide⟩
  call l w := by
    obtain ⟨i, a, v, p, f, r, q, x, r2, q2, x2⟩ := l
    rw [show lnV ⟨i, a, v, p, f, r, q, x, r2, q2, x2⟩ = .agg #[.int .i64 i, .int .i64 a, .int .u64 (v : Int), .int .u64 (p : Int), .int .i64 f, .bool r, .bool q, .bool x, .bool r2, .bool q2, .bool x2] from rfl]
    go_enter Try.func39, Try.ntmps39
    go_wp2
    exact bodyPost_ret (res_ln (l := prtL false false false false false ⟨i, a, v, p, f, r, q, x, r2, q2, x2⟩) rfl rfl (RX.made1 w _ _ (encL (prtL false false false false false ⟨i, a, v, p, f, r, q, x, r2, q2, x2⟩)))) rfl ⟨rfl, ((Kp.refl w).alloc _).alloc _⟩
theorem all_any {w : World} {b g s k : Nat} {T : Nat → PC} (h : TP w b g s k T) (m : LN) :
    Calls Try.prog 23 #[.pointer (some ⟨b, 0, none⟩)] w fun e w' => e = .returned (.int .i64 (losN T (suB false false false false false m) (s * k) : Nat)) ∧ TP w' b g s k (losT T (suB false false false false false m) (s * k)) ∧ Fr (· = g) w w' := by
  have c : Calls Try.prog 35 #[.pointer (some ⟨b, 0, none⟩), .agg #[.int .i64 0, .int .i64 0, .int .u64 0, .int .u64 0, .int .i64 0, .bool false, .bool false, .bool false, .bool false, .bool false, .bool false], .func (.func 39) #[] #[]] w fun e w' => e = .returned (.int .i64 (losN T (suB false false false false false m) (s * k) : Nat)) ∧ TP w' b g s k (losT T (suB false false false false false m) (s * k)) ∧ Fr (· = g) w w' := by
    have := lose_any h all_gt (prtL false false false false false m)
    rw [los_prt] at this
    exact this
  clear h
  generalize losN T (suB false false false false false m) (s * k) = n at *
  go_enter Try.func23, Try.ntmps23
  go_wp2_with fail
  with_reducible refine c.mono ?_
  rintro e w1 ⟨rfl, T1, F1⟩
  have HE : Hid (TP w1 b g s k (losT T (suB false false false false false m) (s * k)) ∧ Fr (· = g) w w1) := ⟨T1, F1⟩
  clear c T1 F1
  go_wp2
  go_ret
  exact ⟨rfl, HE.out⟩

set_option maxHeartbeats 1000000 in
theorem id_gt : GT 36 (prtL true false false false false) where
  fn := ⟨_, Try.func36, rfl, by decide⟩
  call l w := by
    obtain ⟨i, a, v, p, f, r, q, x, r2, q2, x2⟩ := l
    rw [show lnV ⟨i, a, v, p, f, r, q, x, r2, q2, x2⟩ = .agg #[.int .i64 i, .int .i64 a, .int .u64 (v : Int), .int .u64 (p : Int), .int .i64 f, .bool r, .bool q, .bool x, .bool r2, .bool q2, .bool x2] from rfl]
    go_enter Try.func36, Try.ntmps36
    go_wp2
    exact bodyPost_ret (res_ln (l := prtL true false false false false ⟨i, a, v, p, f, r, q, x, r2, q2, x2⟩) rfl rfl (RX.made1 w _ _ (encL (prtL true false false false false ⟨i, a, v, p, f, r, q, x, r2, q2, x2⟩)))) rfl ⟨rfl, ((Kp.refl w).alloc _).alloc _⟩
theorem id_any {w : World} {b g s k : Nat} {T : Nat → PC} (h : TP w b g s k T) (m : LN) :
    Calls Try.prog 20 #[.pointer (some ⟨b, 0, none⟩), .int .i64 m.i] w fun e w' => e = .returned (.int .i64 (losN T (suB true false false false false m) (s * k) : Nat)) ∧ TP w' b g s k (losT T (suB true false false false false m) (s * k)) ∧ Fr (· = g) w w' := by
  have c : Calls Try.prog 35 #[.pointer (some ⟨b, 0, none⟩), .agg #[.int .i64 m.i, .int .i64 0, .int .u64 0, .int .u64 0, .int .i64 0, .bool false, .bool false, .bool false, .bool false, .bool false, .bool false], .func (.func 36) #[] #[]] w fun e w' => e = .returned (.int .i64 (losN T (suB true false false false false m) (s * k) : Nat)) ∧ TP w' b g s k (losT T (suB true false false false false m) (s * k)) ∧ Fr (· = g) w w' := by
    have := lose_any h id_gt (prtL true false false false false m)
    rw [los_prt] at this
    exact this
  clear h
  generalize losN T (suB true false false false false m) (s * k) = n at *
  go_enter Try.func20, Try.ntmps20
  go_wp2_with fail
  with_reducible refine c.mono ?_
  rintro e w1 ⟨rfl, T1, F1⟩
  have HE : Hid (TP w1 b g s k (losT T (suB true false false false false m) (s * k)) ∧ Fr (· = g) w w1) := ⟨T1, F1⟩
  clear c T1 F1
  go_wp2
  go_ret
  exact ⟨rfl, HE.out⟩

set_option maxHeartbeats 1000000 in
theorem asid_gt : GT 40 (prtL true true false false false) where
  fn := ⟨_, Try.func40, rfl, by decide⟩
  call l w := by
    obtain ⟨i, a, v, p, f, r, q, x, r2, q2, x2⟩ := l
    rw [show lnV ⟨i, a, v, p, f, r, q, x, r2, q2, x2⟩ = .agg #[.int .i64 i, .int .i64 a, .int .u64 (v : Int), .int .u64 (p : Int), .int .i64 f, .bool r, .bool q, .bool x, .bool r2, .bool q2, .bool x2] from rfl]
    go_enter Try.func40, Try.ntmps40
    go_wp2
    exact bodyPost_ret (res_ln (l := prtL true true false false false ⟨i, a, v, p, f, r, q, x, r2, q2, x2⟩) rfl rfl (RX.made1 w _ _ (encL (prtL true true false false false ⟨i, a, v, p, f, r, q, x, r2, q2, x2⟩)))) rfl ⟨rfl, ((Kp.refl w).alloc _).alloc _⟩
theorem asid_any {w : World} {b g s k : Nat} {T : Nat → PC} (h : TP w b g s k T) (m : LN) :
    Calls Try.prog 24 #[.pointer (some ⟨b, 0, none⟩), .int .i64 m.i, .int .i64 m.a] w fun e w' => e = .returned (.int .i64 (losN T (suB true true false false false m) (s * k) : Nat)) ∧ TP w' b g s k (losT T (suB true true false false false m) (s * k)) ∧ Fr (· = g) w w' := by
  have c : Calls Try.prog 35 #[.pointer (some ⟨b, 0, none⟩), .agg #[.int .i64 m.i, .int .i64 m.a, .int .u64 0, .int .u64 0, .int .i64 0, .bool false, .bool false, .bool false, .bool false, .bool false, .bool false], .func (.func 40) #[] #[]] w fun e w' => e = .returned (.int .i64 (losN T (suB true true false false false m) (s * k) : Nat)) ∧ TP w' b g s k (losT T (suB true true false false false m) (s * k)) ∧ Fr (· = g) w w' := by
    have := lose_any h asid_gt (prtL true true false false false m)
    rw [los_prt] at this
    exact this
  clear h
  generalize losN T (suB true true false false false m) (s * k) = n at *
  go_enter Try.func24, Try.ntmps24
  go_wp2_with fail
  with_reducible refine c.mono ?_
  rintro e w1 ⟨rfl, T1, F1⟩
  have HE : Hid (TP w1 b g s k (losT T (suB true true false false false m) (s * k)) ∧ Fr (· = g) w w1) := ⟨T1, F1⟩
  clear c T1 F1
  go_wp2
  go_ret
  exact ⟨rfl, HE.out⟩

set_option maxHeartbeats 1000000 in
theorem va_gt : GT 28 (prtL true true true false false) where
  fn := ⟨_, Try.func28, rfl, by decide⟩
  call l w := by
    obtain ⟨i, a, v, p, f, r, q, x, r2, q2, x2⟩ := l
    rw [show lnV ⟨i, a, v, p, f, r, q, x, r2, q2, x2⟩ = .agg #[.int .i64 i, .int .i64 a, .int .u64 (v : Int), .int .u64 (p : Int), .int .i64 f, .bool r, .bool q, .bool x, .bool r2, .bool q2, .bool x2] from rfl]
    go_enter Try.func28, Try.ntmps28
    go_wp2
    exact bodyPost_ret (res_ln (l := prtL true true true false false ⟨i, a, v, p, f, r, q, x, r2, q2, x2⟩) rfl rfl (RX.made1 w _ _ (encL (prtL true true true false false ⟨i, a, v, p, f, r, q, x, r2, q2, x2⟩)))) rfl ⟨rfl, ((Kp.refl w).alloc _).alloc _⟩
theorem va_any {w : World} {b g s k : Nat} {T : Nat → PC} (h : TP w b g s k T) (m : LN) :
    Calls Try.prog 34 #[.pointer (some ⟨b, 0, none⟩), .int .i64 m.i, .int .i64 m.a, .int .u64 (m.v : Int)] w fun e w' => e = .returned (.int .i64 (losN T (suB true true true false false m) (s * k) : Nat)) ∧ TP w' b g s k (losT T (suB true true true false false m) (s * k)) ∧ Fr (· = g) w w' := by
  have c : Calls Try.prog 35 #[.pointer (some ⟨b, 0, none⟩), .agg #[.int .i64 m.i, .int .i64 m.a, .int .u64 (m.v : Int), .int .u64 0, .int .i64 0, .bool false, .bool false, .bool false, .bool false, .bool false, .bool false], .func (.func 28) #[] #[]] w fun e w' => e = .returned (.int .i64 (losN T (suB true true true false false m) (s * k) : Nat)) ∧ TP w' b g s k (losT T (suB true true true false false m) (s * k)) ∧ Fr (· = g) w w' := by
    have := lose_any h va_gt (prtL true true true false false m)
    rw [los_prt] at this
    exact this
  clear h
  generalize losN T (suB true true true false false m) (s * k) = n at *
  go_enter Try.func34, Try.ntmps34
  go_wp2_with fail
  with_reducible refine c.mono ?_
  rintro e w1 ⟨rfl, T1, F1⟩
  have HE : Hid (TP w1 b g s k (losT T (suB true true true false false m) (s * k)) ∧ Fr (· = g) w w1) := ⟨T1, F1⟩
  clear c T1 F1
  go_wp2
  go_ret
  exact ⟨rfl, HE.out⟩

set_option maxHeartbeats 1000000 in
theorem page_gt : GT 37 (prtL true false false true false) where
  fn := ⟨_, Try.func37, rfl, by decide⟩
  call l w := by
    obtain ⟨i, a, v, p, f, r, q, x, r2, q2, x2⟩ := l
    rw [show lnV ⟨i, a, v, p, f, r, q, x, r2, q2, x2⟩ = .agg #[.int .i64 i, .int .i64 a, .int .u64 (v : Int), .int .u64 (p : Int), .int .i64 f, .bool r, .bool q, .bool x, .bool r2, .bool q2, .bool x2] from rfl]
    go_enter Try.func37, Try.ntmps37
    go_wp2
    exact bodyPost_ret (res_ln (l := prtL true false false true false ⟨i, a, v, p, f, r, q, x, r2, q2, x2⟩) rfl rfl (RX.made1 w _ _ (encL (prtL true false false true false ⟨i, a, v, p, f, r, q, x, r2, q2, x2⟩)))) rfl ⟨rfl, ((Kp.refl w).alloc _).alloc _⟩
theorem page_any {w : World} {b g s k : Nat} {T : Nat → PC} (h : TP w b g s k T) (m : LN) :
    Calls Try.prog 21 #[.pointer (some ⟨b, 0, none⟩), .int .i64 m.i, .int .u64 (m.p : Int)] w fun e w' => e = .returned (.int .i64 (losN T (suB true false false true false m) (s * k) : Nat)) ∧ TP w' b g s k (losT T (suB true false false true false m) (s * k)) ∧ Fr (· = g) w w' := by
  have c : Calls Try.prog 35 #[.pointer (some ⟨b, 0, none⟩), .agg #[.int .i64 m.i, .int .i64 0, .int .u64 0, .int .u64 (m.p : Int), .int .i64 0, .bool false, .bool false, .bool false, .bool false, .bool false, .bool false], .func (.func 37) #[] #[]] w fun e w' => e = .returned (.int .i64 (losN T (suB true false false true false m) (s * k) : Nat)) ∧ TP w' b g s k (losT T (suB true false false true false m) (s * k)) ∧ Fr (· = g) w w' := by
    have := lose_any h page_gt (prtL true false false true false m)
    rw [los_prt] at this
    exact this
  clear h
  generalize losN T (suB true false false true false m) (s * k) = n at *
  go_enter Try.func21, Try.ntmps21
  go_wp2_with fail
  with_reducible refine c.mono ?_
  rintro e w1 ⟨rfl, T1, F1⟩
  have HE : Hid (TP w1 b g s k (losT T (suB true false false true false m) (s * k)) ∧ Fr (· = g) w w1) := ⟨T1, F1⟩
  clear c T1 F1
  go_wp2
  go_ret
  exact ⟨rfl, HE.out⟩

set_option maxHeartbeats 1000000 in
theorem frame_gt : GT 38 (prtL false false false false true) where
  fn := ⟨_, Try.func38, rfl, by decide⟩
  call l w := by
    obtain ⟨i, a, v, p, f, r, q, x, r2, q2, x2⟩ := l
    rw [show lnV ⟨i, a, v, p, f, r, q, x, r2, q2, x2⟩ = .agg #[.int .i64 i, .int .i64 a, .int .u64 (v : Int), .int .u64 (p : Int), .int .i64 f, .bool r, .bool q, .bool x, .bool r2, .bool q2, .bool x2] from rfl]
    go_enter Try.func38, Try.ntmps38
    go_wp2
    exact bodyPost_ret (res_ln (l := prtL false false false false true ⟨i, a, v, p, f, r, q, x, r2, q2, x2⟩) rfl rfl (RX.made1 w _ _ (encL (prtL false false false false true ⟨i, a, v, p, f, r, q, x, r2, q2, x2⟩)))) rfl ⟨rfl, ((Kp.refl w).alloc _).alloc _⟩
theorem frame_any {w : World} {b g s k : Nat} {T : Nat → PC} (h : TP w b g s k T) (m : LN) :
    Calls Try.prog 22 #[.pointer (some ⟨b, 0, none⟩), .int .i64 m.f] w fun e w' => e = .returned (.int .i64 (losN T (suB false false false false true m) (s * k) : Nat)) ∧ TP w' b g s k (losT T (suB false false false false true m) (s * k)) ∧ Fr (· = g) w w' := by
  have c : Calls Try.prog 35 #[.pointer (some ⟨b, 0, none⟩), .agg #[.int .i64 0, .int .i64 0, .int .u64 0, .int .u64 0, .int .i64 m.f, .bool false, .bool false, .bool false, .bool false, .bool false, .bool false], .func (.func 38) #[] #[]] w fun e w' => e = .returned (.int .i64 (losN T (suB false false false false true m) (s * k) : Nat)) ∧ TP w' b g s k (losT T (suB false false false false true m) (s * k)) ∧ Fr (· = g) w w' := by
    have := lose_any h frame_gt (prtL false false false false true m)
    rw [los_prt] at this
    exact this
  clear h
  generalize losN T (suB false false false false true m) (s * k) = n at *
  go_enter Try.func22, Try.ntmps22
  go_wp2_with fail
  with_reducible refine c.mono ?_
  rintro e w1 ⟨rfl, T1, F1⟩
  have HE : Hid (TP w1 b g s k (losT T (suB false false false false true m) (s * k)) ∧ Fr (· = g) w w1) := ⟨T1, F1⟩
  clear c T1 F1
  go_wp2
  go_ret
  exact ⟨rfl, HE.out⟩

end Go.Proofs.Ytheahkfgmbmdcaa
