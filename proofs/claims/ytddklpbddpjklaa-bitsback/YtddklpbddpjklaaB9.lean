/- told. -/
import Derived.Test.YtddklpbddpjklaaB5
import Derived.Test.YtddklpbddpjklaaB6
import Derived.Test.YtddklpbddpjklaaB8
namespace Go.Proofs.Ytddklpbddpjklaa
open Go.RowKit

def four : Nat → Nat := fun i => if i < 4 then i + 1 else 0
theorem four_byte : Bytes four := fun i => by unfold four; split <;> omega
theorem four_bs (w : World) : BS (w.alloc (.cells #[.int .u8 1, .int .u8 2, .int .u8 3, .int .u8 4] 5)) w.heap.size 0 4 four :=
  ⟨by simp, fun i hi => by
    rw [World.cell?_alloc_at _ _ _ _ rfl]
    match i, hi with
    | 0, _ => rfl
    | 1, _ => rfl
    | 2, _ => rfl
    | 3, _ => rfl, fun i _ => by rw [World.frozen?_alloc_at _ _ _ _ rfl], four_byte⟩
theorem two_bs (w : World) : BS (w.alloc (.cells #[.int .u8 1, .int .u8 2] 5)) w.heap.size 0 2 four :=
  ⟨by simp, fun i hi => by
    rw [World.cell?_alloc_at _ _ _ _ rfl]
    match i, hi with
    | 0, _ => rfl
    | 1, _ => rfl, fun i _ => by rw [World.frozen?_alloc_at _ _ _ _ rfl], four_byte⟩

theorem told_get (w : World) : Calls Try.prog 10 #[.slice (some ⟨w.heap.size, 0, none⟩) 4 4, .int .i64 2, .int .i64 2] (w.alloc (.cells #[.int .u8 1, .int .u8 2, .int .u8 3, .int .u8 4] 5)) fun e w' => e = .returned (.tuple #[.int .u64 1027, .int .i64 0]) ∧ w' = w.alloc (.cells #[.int .u8 1, .int .u8 2, .int .u8 3, .int .u8 4] 5) := by
  have := get_some w.heap.size 4 4 2 2 four _ (four_bs w) (by decide) (by decide) (by decide) (by decide) (by decide) (by decide)
  rwa [show numb four 2 2 = 1027 by decide] at this
theorem told_put (w : World) : Calls Try.prog 12 #[.slice (some ⟨w.heap.size, 0, none⟩) 2 2, .int .i64 1, .int .i64 1, .int .u64 9] (w.alloc (.cells #[.int .u8 1, .int .u8 2] 5)) fun e w' => ∃ g cap', e = .returned (.tuple #[.slice (some ⟨g, 0, none⟩) 2 cap', .int .i64 0]) ∧ OP w' (w.heap.size + 1) g 2 cap' (putF four 1 1 9) ∧ Kp (w.alloc (.cells #[.int .u8 1, .int .u8 2] 5)) w' := by
  have := put_some w.heap.size 2 2 1 1 9 four _ (two_bs w) (by decide) (by decide) (by decide) (by decide) (by decide)
  rwa [show (w.alloc (.cells #[.int .u8 1, .int .u8 2] 5)).heap.size = w.heap.size + 1 by simp] at this
theorem told_str : strOf (putF four 1 1 9) 2 = { data := #[1, 9] } := by decide

theorem told_index0 (w : World) : Calls Try.prog 19 #[.int .u64 549755817984, .int .i64 0] w fun e w' => e = .returned (.int .i64 1) ∧ Dr w w' := by
  have := index_any 549755817984 0 w (by decide)
  rwa [show idx 549755817984 0 = 1 by decide] at this
theorem told_index3 (w : World) : Calls Try.prog 19 #[.int .u64 549755817984, .int .i64 3] w fun e w' => e = .returned (.int .i64 1) ∧ Dr w w' := by
  have := index_any 549755817984 3 w (by decide)
  rwa [show idx 549755817984 3 = 1 by decide] at this
theorem told_span (w : World) : Calls Try.prog 21 #[.int .i64 2] w fun e w' => e = .returned (.int .u64 2097152) ∧ w' = w := by
  have := span_any 2 w
  rwa [show spn 2 = 2097152 by decide] at this
theorem told_field (w : World) : Calls Try.prog 15 #[.int .u64 240, .int .i64 4, .int .i64 4] w fun e w' => e = .returned (.int .u64 15) ∧ Dr w w' := by
  have := field_any 240 4 4 w (by decide) (by decide) (by decide)
  rwa [show fieldN 240 4 4 = 15 by decide] at this
theorem told_set (w : World) : Calls Try.prog 17 #[.int .u64 0, .int .i64 4, .int .i64 4, .int .u64 15] w fun e w' => e = .returned (.int .u64 240) ∧ Dr w w' := by
  have := set_any 0 4 4 15 w (by decide) (by decide) (by decide) (by decide)
  rwa [show setN 0 4 4 15 = 240 by decide] at this

set_option maxHeartbeats 4000000 in
set_option maxRecDepth 100000 in
theorem told_any (w : World) : Calls Try.prog 14 #[] w fun e w' => e = .returned (.bool true) ∧ Kp w w' := by
  have c1 := told_get
  have c2 := fun (w : World) => get_none (some ⟨w.heap.size, 0, none⟩) 4 4 1 2 3 (w.alloc (.cells #[.int .u8 1, .int .u8 2, .int .u8 3, .int .u8 4] 5)) (by decide) (by decide) (by decide) (by decide) (by decide)
  go_enter Try.func14, Try.ntmps14
  go_wp2_with fail
  with_reducible refine (c1 _).mono ?_
  rintro e w' ⟨rfl, rfl⟩
  have K1 : Kp w (w.alloc (.cells #[.int .u8 1, .int .u8 2, .int .u8 3, .int .u8 4] 5)) := (Kp.refl w).alloc _
  generalize w.alloc (.cells #[.int .u8 1, .int .u8 2, .int .u8 3, .int .u8 4] 5) = wa at *
  have HK1 : Hid (Kp w wa) := K1
  clear c1 K1
  go_wp2_with fail
  with_reducible refine (c2 _).mono ?_
  rintro e w' ⟨rfl, rfl⟩
  have K2 : Hid (Kp w (wa.alloc (.cells #[.int .u8 1, .int .u8 2, .int .u8 3, .int .u8 4] 5))) := HK1.out.alloc _
  generalize wa.alloc (.cells #[.int .u8 1, .int .u8 2, .int .u8 3, .int .u8 4] 5) = wb at *
  clear c2 HK1
  go_wp2_with fail
  with_reducible refine (told_put _).mono ?_
  rintro e w3 ⟨g, cap', rfl, O3, K3⟩
  have q := string_any w3 g 0 2 cap' _ O3.bs.cells
  rw [told_str] at q
  have HK3 : Hid (Kp w w3) := (K2.out.alloc (.cells #[.int .u8 1, .int .u8 2] 5)).trans K3
  clear O3 K3 K2
  go_wp2_with fail
  with_reducible refine (told_index0 _).mono ?_
  rintro e w4 ⟨rfl, D⟩
  have H4 : Hid (Kp w w4) := HK3.out.trans D.kp
  clear D HK3
  go_wp2_with fail
  with_reducible refine (told_index3 _).mono ?_
  rintro e w5 ⟨rfl, D⟩
  have H5 : Hid (Kp w w5) := H4.out.trans D.kp
  clear D H4
  go_wp2_with (go_at_call 21; with_reducible refine (told_span _).mono ?_; rintro e w' ⟨rfl, rfl⟩)
  with_reducible refine (told_field _).mono ?_
  rintro e w6 ⟨rfl, D⟩
  have H6 : Hid (Kp w w6) := H5.out.trans D.kp
  clear D H5
  go_wp2_with fail
  with_reducible refine (told_set _).mono ?_
  rintro e w7 ⟨rfl, D⟩
  have H7 : Hid (Kp w w7) := H6.out.trans D.kp
  clear D H6
  go_wp2_with fail
  go_ret
  exact ⟨rfl, H7.out⟩

end Go.Proofs.Ytddklpbddpjklaa
