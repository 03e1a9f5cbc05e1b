/- desc: what the program tells of a few. -/
import Derived.Test.YtcbciehffgaapaaEC
namespace Go.Proofs.Ytcbciehffgaapaa
open Go.RowKit

theorem eq_like (k a : Int) (r q x : Bool) (f : Int) (w : World) : (Op.equalIn 10000 48 (.agg #[.int .i64 k, .int .u64 a, .bool r, .bool q, .bool x, .int .i64 f]) (.agg #[.int .i64 k, .int .u64 a, .bool r, .bool q, .bool x, .int .i64 f])).run Try.prog w = .ok true w := by
  rw [eq_desc]; simp

theorem t_enc1 : dchk 1 3 3 12288 true true false 0 = 0 ∧ dencN 1 3 3 12288 true true false 0 = 12483 := by decide +kernel
theorem t_enc2 : dchk 2 0 1 12288 false false false 0 = 0 ∧ dencN 2 0 1 12288 false false false 0 = 12291 := by decide +kernel
theorem t_dec1 : decG 1 3 12483 = true ∧ decE 1 3 12483 = 0 ∧ kdN 3 12483 = 3 ∧ adN 12483 = 12288 ∧ btN 12483 6 = true ∧ btN 12483 7 = true ∧ btN 12483 8 = false ∧ fieldN 12483 55 4 = 0 := by decide +kernel
theorem t_dec2 : decG 1 3 12289 = false ∧ decE 1 3 12289 = 4 := by decide +kernel
theorem t_dec3 : decG 2 3 4294967299 = false ∧ decE 2 3 4294967299 = 2 := by decide +kernel
theorem t_chk : dchk 1 4 3 12288 true true false 0 = 1 := by decide +kernel

end Go.Proofs.Ytcbciehffgaapaa
