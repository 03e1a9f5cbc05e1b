/- nested: faults and Outs that are alike. -/
import Derived.Test.YtaldekfaebkpkaaNE
namespace Go.Proofs.Ytaldekfaebkpkaa
open Go.RowKit
set_option maxRecDepth 10000

/-- Are two faults alike? -/
theorem eq_fault (x0 x1 x2 x3 x0' x1' x2' x3' : Int) (x4 x4' : Bool) (w : World) : (Op.equalIn 10000 33 (.agg #[.int .i64 x0, .int .i64 x1, .int .i64 x2, .int .u64 x3, .bool x4]) (.agg #[.int .i64 x0', .int .i64 x1', .int .i64 x2', .int .u64 x3', .bool x4'])).run Try.prog w =
    .ok ((x0 == x0') && (x1 == x1') && (x2 == x2') && (x3 == x3') && (x4 == x4')) w := by
  rw [show (10000 : Nat) = 9999 + 1 from rfl, run_equalIn_struct w 9999 _ _ _ (by kernel_rfl) (by kernel_rfl)]
  have e0 : (Op.equalIn 9999 3 (.int .i64 x0) (.int .i64 x0')).run Try.prog w = .ok (x0 == x0') w := run_equalIn_int w 9998 3 .i64 .i64 x0 x0' Try.underlying3
  have e1 : (Op.equalIn 9999 3 (.int .i64 x1) (.int .i64 x1')).run Try.prog w = .ok (x1 == x1') w := run_equalIn_int w 9998 3 .i64 .i64 x1 x1' Try.underlying3
  have e2 : (Op.equalIn 9999 3 (.int .i64 x2) (.int .i64 x2')).run Try.prog w = .ok (x2 == x2') w := run_equalIn_int w 9998 3 .i64 .i64 x2 x2' Try.underlying3
  have e3 : (Op.equalIn 9999 23 (.int .u64 x3) (.int .u64 x3')).run Try.prog w = .ok (x3 == x3') w := run_equalIn_int w 9998 23 .u64 .u64 x3 x3' Try.underlying23
  have e4 : (Op.equalIn 9999 4 (.bool x4) (.bool x4')).run Try.prog w = .ok (x4 == x4') w := run_equalIn_bool w 9998 4 x4 x4' Try.underlying4
  have h0 : ∀ (x0 x1 x2 x3 : Int) (x4 : Bool), (part 3 #[.int .i64 x0, .int .i64 x1, .int .i64 x2, .int .u64 x3, .bool x4] 0).run Try.prog w = .ok (.int .i64 x0) w := fun x0 x1 x2 x3 x4 => by simp [part, isAgg, run_underlying Try.underlying3]
  have h1 : ∀ (x0 x1 x2 x3 : Int) (x4 : Bool), (part 3 #[.int .i64 x0, .int .i64 x1, .int .i64 x2, .int .u64 x3, .bool x4] 1).run Try.prog w = .ok (.int .i64 x1) w := fun x0 x1 x2 x3 x4 => by simp [part, isAgg, run_underlying Try.underlying3]
  have h2 : ∀ (x0 x1 x2 x3 : Int) (x4 : Bool), (part 3 #[.int .i64 x0, .int .i64 x1, .int .i64 x2, .int .u64 x3, .bool x4] 2).run Try.prog w = .ok (.int .i64 x2) w := fun x0 x1 x2 x3 x4 => by simp [part, isAgg, run_underlying Try.underlying3]
  have h3 : ∀ (x0 x1 x2 x3 : Int) (x4 : Bool), (part 23 #[.int .i64 x0, .int .i64 x1, .int .i64 x2, .int .u64 x3, .bool x4] 3).run Try.prog w = .ok (.int .u64 x3) w := fun x0 x1 x2 x3 x4 => by simp [part, isAgg, run_underlying Try.underlying23]
  have h4 : ∀ (x0 x1 x2 x3 : Int) (x4 : Bool), (part 4 #[.int .i64 x0, .int .i64 x1, .int .i64 x2, .int .u64 x3, .bool x4] 4).run Try.prog w = .ok (.bool x4) w := fun x0 x1 x2 x3 x4 => by simp [part, isAgg, run_underlying Try.underlying4]
  generalize (x0 == x0') = c0 at *
  generalize (x1 == x1') = c1 at *
  generalize (x2 == x2') = c2 at *
  generalize (x3 == x3') = c3 at *
  generalize (x4 == x4') = c4 at *
  simp only [Program.fieldsOf, Try.underlying33, Op.eqFields]
  cases c0 <;> cases c1 <;> cases c2 <;> cases c3 <;> cases c4 <;> simp [h0, h1, h2, h3, h4, e0, e1, e2, e3, e4]
/-- Are two Outs alike? -/
theorem eq_out (x0 x1 x0' x1' : Int) (x2a x2b x2c x3a x3b x3c x2a' x2b' x2c' x3a' x3b' x3c' : Bool) (w : World) : (Op.equalIn 10000 31 (.agg #[.int .i64 x0, .int .u64 x1, .bool x2a, .bool x2b, .bool x2c, .bool x3a, .bool x3b, .bool x3c]) (.agg #[.int .i64 x0', .int .u64 x1', .bool x2a', .bool x2b', .bool x2c', .bool x3a', .bool x3b', .bool x3c'])).run Try.prog w =
    .ok ((x0 == x0') && (x1 == x1') && samP x2a x2b x2c x2a' x2b' x2c' && samP x3a x3b x3c x3a' x3b' x3c') w := by
  rw [show (10000 : Nat) = 9999 + 1 from rfl, run_equalIn_struct w 9999 _ _ _ (by kernel_rfl) (by kernel_rfl)]
  have e0 : (Op.equalIn 9999 3 (.int .i64 x0) (.int .i64 x0')).run Try.prog w = .ok (x0 == x0') w := run_equalIn_int w 9998 3 .i64 .i64 x0 x0' Try.underlying3
  have e1 : (Op.equalIn 9999 23 (.int .u64 x1) (.int .u64 x1')).run Try.prog w = .ok (x1 == x1') w := run_equalIn_int w 9998 23 .u64 .u64 x1 x1' Try.underlying23
  have e2 : (Op.equalIn 9999 29 (.agg #[.bool x2a, .bool x2b, .bool x2c]) (.agg #[.bool x2a', .bool x2b', .bool x2c'])).run Try.prog w = .ok (samP x2a x2b x2c x2a' x2b' x2c') w := eq_perm 9997 x2a x2b x2c x2a' x2b' x2c' w
  have e3 : (Op.equalIn 9999 29 (.agg #[.bool x3a, .bool x3b, .bool x3c]) (.agg #[.bool x3a', .bool x3b', .bool x3c'])).run Try.prog w = .ok (samP x3a x3b x3c x3a' x3b' x3c') w := eq_perm 9997 x3a x3b x3c x3a' x3b' x3c' w
  have h0 : ∀ (x0 x1 : Int) (x2a x2b x2c x3a x3b x3c : Bool), (part 3 #[.int .i64 x0, .int .u64 x1, .bool x2a, .bool x2b, .bool x2c, .bool x3a, .bool x3b, .bool x3c] 0).run Try.prog w = .ok (.int .i64 x0) w := fun x0 x1 x2a x2b x2c x3a x3b x3c => by simp [part, isAgg, run_underlying Try.underlying3]
  have h1 : ∀ (x0 x1 : Int) (x2a x2b x2c x3a x3b x3c : Bool), (part 23 #[.int .i64 x0, .int .u64 x1, .bool x2a, .bool x2b, .bool x2c, .bool x3a, .bool x3b, .bool x3c] 1).run Try.prog w = .ok (.int .u64 x1) w := fun x0 x1 x2a x2b x2c x3a x3b x3c => by simp [part, isAgg, run_underlying Try.underlying23]
  have h2 : ∀ (x0 x1 : Int) (x2a x2b x2c x3a x3b x3c : Bool), (part 29 #[.int .i64 x0, .int .u64 x1, .bool x2a, .bool x2b, .bool x2c, .bool x3a, .bool x3b, .bool x3c] 2).run Try.prog w = .ok (.agg #[.bool x2a, .bool x2b, .bool x2c]) w := fun x0 x1 x2a x2b x2c x3a x3b x3c => by simp [part, isAgg, run_underlying Try.underlying29]
  have h3 : ∀ (x0 x1 : Int) (x2a x2b x2c x3a x3b x3c : Bool), (part 29 #[.int .i64 x0, .int .u64 x1, .bool x2a, .bool x2b, .bool x2c, .bool x3a, .bool x3b, .bool x3c] 5).run Try.prog w = .ok (.agg #[.bool x3a, .bool x3b, .bool x3c]) w := fun x0 x1 x2a x2b x2c x3a x3b x3c => by simp [part, isAgg, run_underlying Try.underlying29]
  generalize (x0 == x0') = c0 at *
  generalize (x1 == x1') = c1 at *
  generalize samP x2a x2b x2c x2a' x2b' x2c' = c2 at *
  generalize samP x3a x3b x3c x3a' x3b' x3c' = c3 at *
  simp only [Program.fieldsOf, Try.underlying31, Op.eqFields]
  cases c0 <;> cases c1 <;> cases c2 <;> cases c3 <;> simp [h0, h1, h2, h3, e0, e1, e2, e3]

end Go.Proofs.Ytaldekfaebkpkaa
