/- desc: what a word's parts say. -/
import Derived.Test.YtcbciehffgaapaaE4
namespace Go.Proofs.Ytcbciehffgaapaa
open Go.RowKit

section
variable {W w : World} {b : Nat} {k a : Int} {r q x : Bool} {f : Int}
theorem BX.fz (h : BX w b k a r q x f) (j : Nat) : w.frozen? ⟨b, j, none⟩ = false := frozen_of_row w b j _ _ h
/-- The world behind a store of a whole descriptor. -/
def putD (w : World) (b : Nat) (k a : Int) (r q x : Bool) (f : Int) : World :=
  (((((w.setCell ⟨b, 0, none⟩ (.int .i64 k)).setCell ⟨b, 1, none⟩ (.int .u64 a)).setCell ⟨b, 2, none⟩ (.bool r)).setCell ⟨b, 3, none⟩ (.bool q)).setCell ⟨b, 4, none⟩ (.bool x)).setCell ⟨b, 5, none⟩ (.int .i64 f)
theorem BX.put (h : BX w b k a r q x f) (k' a' : Int) (r' q' x' : Bool) (f' : Int) : BX (putD w b k' a' r' q' x' f') b k' a' r' q' x' f' := by
  have h0 := heap_setCell_same w b 0 _ _ (.int .i64 k') h
  have h1 := heap_setCell_same _ b 1 _ _ (.int .u64 a') h0
  have h2 := heap_setCell_same _ b 2 _ _ (.bool r') h1
  have h3 := heap_setCell_same _ b 3 _ _ (.bool q') h2
  have h4 := heap_setCell_same _ b 4 _ _ (.bool x') h3
  have h5 := heap_setCell_same _ b 5 _ _ (.int .i64 f') h4
  exact h5
theorem Kp.putD (h : Kp W w) (hb : W.heap.size ≤ b) : Kp W (putD w b k a r q x f) :=
  (((((h.set _ _ hb).set _ _ hb).set _ _ hb).set _ _ hb).set _ _ hb).set _ _ hb
theorem putD_other {c : Nat} {k' a' : Int} {r' q' x' : Bool} {f' : Int} (h : BX w c k' a' r' q' x' f') (hb : c ≠ b) : BX (Go.Proofs.Ytcbciehffgaapaa.putD w b k a r q x f) c k' a' r' q' x' f' := by
  show (Go.Proofs.Ytcbciehffgaapaa.putD w b k a r q x f).heap[c]? = _
  unfold Go.Proofs.Ytcbciehffgaapaa.putD
  rw [heap_setCell_other _ _ _ _ hb, heap_setCell_other _ _ _ _ hb, heap_setCell_other _ _ _ _ hb, heap_setCell_other _ _ _ _ hb, heap_setCell_other _ _ _ _ hb, heap_setCell_other _ _ _ _ hb]
  exact h
theorem BX.load (h : BX w b k a r q x f) : (loadVar 48 ⟨b, 0, none⟩).run Try.prog w = .ok (.agg #[.int .i64 k, .int .u64 a, .bool r, .bool q, .bool x, .int .i64 f]) w :=
  run_loadVar_row w b _ 48 _ _ _ h Try.underlying48 rfl (by kernel_rfl)
theorem res_d {fn : Func} {c : Tmp} {tmps : Array Value} (hf : fn.results = #[.cell c 48]) (hc : tmps.getD c undef = .pointer (some ⟨b, 0, none⟩)) (B : BX w b k a r q x f) :
    (results fn tmps).run Try.prog w = .ok (.agg #[.int .i64 k, .int .u64 a, .bool r, .bool q, .bool x, .int .i64 f]) w := by
  have hc' : tmps[c]?.getD undef = .pointer (some ⟨b, 0, none⟩) := by simpa using hc
  simp [results, hf, hc', asAddr, B.load]
theorem res_d2 {fn : Func} {c t : Tmp} {tmps : Array Value} (hf : fn.results = #[.cell c 48, .tmp t]) (hc : tmps.getD c undef = .pointer (some ⟨b, 0, none⟩)) (B : BX w b k a r q x f) :
    (results fn tmps).run Try.prog w = .ok (.tuple #[.agg #[.int .i64 k, .int .u64 a, .bool r, .bool q, .bool x, .int .i64 f], tmps.getD t undef]) w := by
  have hc' : tmps[c]?.getD undef = .pointer (some ⟨b, 0, none⟩) := by simpa using hc
  simp [results, hf, hc', asAddr, B.load]
end

/-- The address that a word says. -/
def adN (u : Nat) : Nat := fieldN u 12 36 * 4096

set_option maxHeartbeats 4000000 in
theorem dparts_any (l : Int) (u : Nat) (w : World) (hu : u < 18446744073709551616) :
    Calls Try.prog 43 #[.int .i64 l, .int .u64 (u : Int)] w fun e w' => e = .returned (.agg #[.int .i64 (kdN l u), .int .u64 (adN u : Nat), .bool (btN u 6), .bool (btN u 7), .bool (btN u 8), .int .i64 (fieldN u 55 4 : Nat)]) ∧ Kp w w' := by
  have s1 : Aside (∀ w, Calls Try.prog 51 #[.int .i64 l, .int .u64 (u : Int)] w fun e w' => e = .returned (.int .i64 (kdN l u)) ∧ Dr w w') := fun w => kindOf_any l u w hu
  have s2 : Aside (∀ w, Calls Try.prog 38 #[.int .u64 (u : Int), .int .i64 12, .int .i64 36] w fun e w' => e = .returned (.int .u64 (fieldN u 12 36 : Nat)) ∧ Dr w w') := fun w => field_any u 12 36 w hu (by decide) (by decide)
  have s3 : Aside (∀ w, Calls Try.prog 42 #[.int .u64 (u : Int), .int .i64 6] w fun e w' => e = .returned (.bool (btN u 6)) ∧ Dr w w') := fun w => hasBit_any u 6 w hu (by decide)
  have s4 : Aside (∀ w, Calls Try.prog 42 #[.int .u64 (u : Int), .int .i64 7] w fun e w' => e = .returned (.bool (btN u 7)) ∧ Dr w w') := fun w => hasBit_any u 7 w hu (by decide)
  have s5 : Aside (∀ w, Calls Try.prog 42 #[.int .u64 (u : Int), .int .i64 8] w fun e w' => e = .returned (.bool (btN u 8)) ∧ Dr w w') := fun w => hasBit_any u 8 w hu (by decide)
  have s6 : Aside (∀ w, Calls Try.prog 38 #[.int .u64 (u : Int), .int .i64 55, .int .i64 4] w fun e w' => e = .returned (.int .u64 (fieldN u 55 4 : Nat)) ∧ Dr w w') := fun w => field_any u 55 4 w hu (by decide) (by decide)
  have l1 := field_lt u 12 36
  have l2 := field_lt u 55 4
  unfold adN
  clear hu
  generalize fieldN u 12 36 = a at *
  generalize fieldN u 55 4 = f at *
  generalize kdN l u = k at *
  generalize btN u 6 = r at *
  generalize btN u 7 = q at *
  generalize btN u 8 = x at *
  go_enter Try.func43, Try.ntmps43
  go_wp2_with fail
  with_reducible refine (s1.out _).mono ?_
  rintro e w1 ⟨rfl, D⟩
  have B1 := (BX.made w 0 0 false false false 0).kp D.kp
  have HK : Hid (Kp w w1) := ((Kp.refl _).alloc _).trans D.kp
  have HB : Hid (BX w1 w.heap.size 0 0 false false false 0) := B1
  clear D B1
  go_wp2_with fail
  with_reducible refine (s2.out _).mono ?_
  rintro e w2 ⟨rfl, D⟩
  have HK' : Hid (Kp w w2) := HK.out.trans D.kp
  have HB' : Hid (BX w2 w.heap.size 0 0 false false false 0) := HB.out.kp D.kp
  clear D HK HB
  go_wp2_with fail
  with_reducible refine (s3.out _).mono ?_
  rintro e w3 ⟨rfl, D⟩
  have HK : Hid (Kp w w3) := HK'.out.trans D.kp
  have HB : Hid (BX w3 w.heap.size 0 0 false false false 0) := HB'.out.kp D.kp
  clear D HK' HB'
  go_wp2_with fail
  with_reducible refine (s4.out _).mono ?_
  rintro e w4 ⟨rfl, D⟩
  have HK' : Hid (Kp w w4) := HK.out.trans D.kp
  have HB' : Hid (BX w4 w.heap.size 0 0 false false false 0) := HB.out.kp D.kp
  clear D HK HB
  go_wp2_with fail
  with_reducible refine (s5.out _).mono ?_
  rintro e w5 ⟨rfl, D⟩
  have HK : Hid (Kp w w5) := HK'.out.trans D.kp
  have HB : Hid (BX w5 w.heap.size 0 0 false false false 0) := HB'.out.kp D.kp
  clear D HK' HB'
  go_wp2_with fail
  with_reducible refine (s6.out _).mono ?_
  rintro e w6 ⟨rfl, D⟩
  have HK' : Hid (Kp w w6) := HK.out.trans D.kp
  have B := HB.out.kp D.kp
  have x0 := B.c0
  have x1 := B.c1
  have x2 := B.c2
  have x3 := B.c3
  have x4 := B.c4
  have x5 := B.c5
  have y0 := B.fz 0
  have y1 := B.fz 1
  have y2 := B.fz 2
  have y3 := B.fz 3
  have y4 := B.fz 4
  have y5 := B.fz 5
  have HB2 : Hid (BX w6 w.heap.size 0 0 false false false 0) := B
  have f1 : (f : Int) < 16 := by omega
  have a1 : (a : Int) < 68719476736 := by omega
  clear D B HK l1 l2
  go_wp2_with fail
  refine bodyPost_ret (res_d rfl rfl (BX.put HB2.out k (a * 4096) r q x f)) rfl ⟨?_, HK'.out.putD (Nat.le_refl _)⟩
  rw [show ((a * 4096 : Nat) : Int) = (a : Int) * 4096 from by omega]

end Go.Proofs.Ytcbciehffgaapaa
