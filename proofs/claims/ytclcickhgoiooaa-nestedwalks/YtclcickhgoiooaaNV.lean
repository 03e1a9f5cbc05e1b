/- NestedBounds. -/
import Derived.Test.YtclcickhgoiooaaJR
import Derived.Test.YtclcickhgoiooaaNU
namespace Go.Proofs.Ytclcickhgoiooaa
open Go.RowKit
set_option maxRecDepth 10000

set_option maxHeartbeats 4000000 in
theorem allows_any (r q x : Bool) (c : Int) (w : World) :
    Calls Try.prog 37 #[.agg #[.bool r, .bool q, .bool x], .int .i64 c] w fun e w' => e = .returned (.bool (alP r q x c)) ∧ Kp w w' := by
  unfold alP
  by_cases h1 : c = 1
  · subst h1
    rw [if_pos rfl]
    cases r
    all_goals
      go_enter Try.func37, Try.ntmps37
      go_wp2
      go_ret
      exact ⟨rfl, (Kp.refl _).alloc _⟩
  have d1 : (c == 1) = false := by rw [beq_eq_false_iff_ne]; exact h1
  rw [if_neg h1]
  by_cases h2 : c = 2
  · subst h2
    rw [if_pos rfl]
    cases q
    all_goals
      go_enter Try.func37, Try.ntmps37
      go_wp2
      go_ret
      exact ⟨rfl, (Kp.refl _).alloc _⟩
  have d2 : (c == 2) = false := by rw [beq_eq_false_iff_ne]; exact h2
  rw [if_neg h2]
  by_cases h3 : c = 3
  · subst h3
    rw [if_pos rfl]
    go_enter Try.func37, Try.ntmps37
    go_wp2
    go_ret
    exact ⟨rfl, (Kp.refl _).alloc _⟩
  have d3 : (c == 3) = false := by rw [beq_eq_false_iff_ne]; exact h3
  rw [if_neg h3]
  go_enter Try.func37, Try.ntmps37
  go_wp2
  go_ret
  exact ⟨rfl, (Kp.refl _).alloc _⟩

/-- Walk, on, of any address: an answer that may be. -/
theorem wansw_any {W w : World} {X : Nat → Prop} {p o : Nat} {M : Nat → Nat → Nat} (h : WW W X p o M w) (root u : Nat) (acc : Int) (hr1 : root % 4096 = 0) (hr2 : root < 1099511627776) (ho : o < 1000000000000000000) :
    ∃ ov fv n, okB u acc ov fv n ∧ (fv = zF → u < 281474976710656) ∧ Calls Try.prog 6 #[.pointer (some ⟨p, 0, none⟩), .agg #[.int .u64 4096, .bool true, .int .u64 (root : Int)], .int .u64 (u : Int), .int .i64 acc] w fun e w' => e = .returned (.tuple #[ouV ov, faV fv, .int .i64 (n : Int)]) ∧ WW W X p (o + 24) M w' := by
  by_cases c : 281474976710656 ≤ u
  · refine ⟨zO, ⟨1, 3, -1, u, acc == 2⟩, 0, ⟨by decide, .inr ⟨.inl rfl, (show (3 : Int) ≠ 0 by decide), fun _ => rfl, rfl, rfl, (show (-1 : Int) ≤ -1 by decide), (show (-1 : Int) ≤ 3 by decide)⟩⟩, (fun e => by have := congrArg FV.s e; exact absurd this (show ¬ (1 : Int) = 0 by decide)), ?_⟩
    exact (walk_size (.pointer (some ⟨p, 0, none⟩)) 4096 root true u acc w c).mono fun e w' ⟨e1, e2⟩ => ⟨e1, (h.kp e2).le (by omega)⟩
  · obtain ⟨ov, fv, n, h1, h2⟩ := onC_some (rdM M) 4096 root u acc
    exact ⟨ov, fv, n, h2, fun _ => by omega, (won_any h 4096 root u acc (by decide) (by omega) hr1 hr2 ho ov fv n h1).mono fun e w' ⟨e1, e2, _⟩ => ⟨e1, e2⟩⟩

end Go.Proofs.Ytclcickhgoiooaa
