/- demesnelaw15: told. -/
import Derived.Test.YtclcickhgoiooaaT6
import Derived.Test.YtclcickhgoiooaaT7
import Derived.Test.YtclcickhgoiooaaT8
import Derived.Test.YtclcickhgoiooaaT10
import Derived.Test.YtclcickhgoiooaaT11
namespace Go.Proofs.Ytclcickhgoiooaa
open Go.RowKit
set_option maxRecDepth 10000

def tdA : LN := ⟨1, 0, 5, 0, 7, false, false, false, false, false, false⟩
def tdB : LN := ⟨1, 0, 6, 0, 0, false, false, false, false, false, false⟩
def tdC : LN := ⟨2, 0, 5, 0, 0, false, false, false, false, false, false⟩
def td0 : Nat → PC := fun _ => zP
def td1 : Nat → PC := updP td0 0 ⟨true, tdA⟩
def td2 : Nat → PC := updP td1 1 ⟨true, tdB⟩
def td3 : Nat → PC := updP td2 1 ⟨true, tdC⟩
def td4 : Nat → PC := losT td3 (suB true false false false false tdA) 2
def td5 : Nat → PC := losT td4 (suB false false false false false zL) 2
theorem td_f1 : filI td0 1 2 tdA 0 = 0 := by kernel_rfl
theorem td_f2 : filI td1 1 2 tdB 0 = 1 := by kernel_rfl
theorem td_f3 : filI td2 1 2 tdC 5 = 1 := by kernel_rfl
theorem td_n1 : losN td3 (suB true false false false false tdA) 2 = 1 := by kernel_rfl
theorem td_n2 : losN td4 (suB false false false false false zL) 2 = 1 := by kernel_rfl
theorem td_e : evB td5 1 2 0 0 = false := by kernel_rfl
theorem td_b1 : fndB td3 1 2 1 0 5 = true := by kernel_rfl
theorem td_b2 : fndB td3 1 2 1 0 6 = false := by kernel_rfl
theorem td_l1 : fndL td3 1 2 1 0 5 = tdA := by kernel_rfl
theorem td_l2 : fndL td3 1 2 1 0 6 = zL := by kernel_rfl
theorem td_ls : (lsT td3 2).length = 2 := by kernel_rfl
section
variable {w : World} {b g : Nat}
theorem td_fill1 (h : TP w b g 1 2 td0) : Calls Try.prog 12 #[.pointer (some ⟨b, 0, none⟩), .agg #[.int .i64 1, .int .i64 0, .int .u64 5, .int .u64 0, .int .i64 7, .bool false, .bool false, .bool false, .bool false, .bool false, .bool false], .int .i64 0] w fun e w' => e = .returned (.tuple #[.agg #[.int .i64 0, .int .i64 0, .int .u64 0, .int .u64 0, .int .i64 0, .bool false, .bool false, .bool false, .bool false, .bool false, .bool false], .bool false]) ∧ TP w' b g 1 2 td1 ∧ Fr (· = g) w w' := by
  have := fill_any h tdA 0
  rw [td_f1] at this
  exact this
theorem td_fill2 (h : TP w b g 1 2 td1) : Calls Try.prog 12 #[.pointer (some ⟨b, 0, none⟩), .agg #[.int .i64 1, .int .i64 0, .int .u64 6, .int .u64 0, .int .i64 0, .bool false, .bool false, .bool false, .bool false, .bool false, .bool false], .int .i64 0] w fun e w' => e = .returned (.tuple #[.agg #[.int .i64 0, .int .i64 0, .int .u64 0, .int .u64 0, .int .i64 0, .bool false, .bool false, .bool false, .bool false, .bool false, .bool false], .bool false]) ∧ TP w' b g 1 2 td2 ∧ Fr (· = g) w w' := by
  have := fill_any h tdB 0
  rw [td_f2] at this
  exact this
theorem td_fill3 (h : TP w b g 1 2 td2) : Calls Try.prog 12 #[.pointer (some ⟨b, 0, none⟩), .agg #[.int .i64 2, .int .i64 0, .int .u64 5, .int .u64 0, .int .i64 0, .bool false, .bool false, .bool false, .bool false, .bool false, .bool false], .int .i64 5] w fun e w' => e = .returned (.tuple #[.agg #[.int .i64 1, .int .i64 0, .int .u64 6, .int .u64 0, .int .i64 0, .bool false, .bool false, .bool false, .bool false, .bool false, .bool false], .bool true]) ∧ TP w' b g 1 2 td3 ∧ Fr (· = g) w w' := by
  have := fill_any h tdC 5
  rw [td_f3] at this
  exact this
theorem td_find1 (h : TP w b g 1 2 td3) : Calls Try.prog 13 #[.pointer (some ⟨b, 0, none⟩), .int .i64 1, .int .i64 0, .int .u64 5] w fun e w' => e = .returned (.tuple #[.agg #[.int .i64 1, .int .i64 0, .int .u64 5, .int .u64 0, .int .i64 7, .bool false, .bool false, .bool false, .bool false, .bool false, .bool false], .bool true]) ∧ Kp w w' := by
  have := find_any h 1 0 5
  rw [td_b1, td_l1] at this
  exact this
theorem td_find2 (h : TP w b g 1 2 td3) : Calls Try.prog 13 #[.pointer (some ⟨b, 0, none⟩), .int .i64 1, .int .i64 0, .int .u64 6] w fun e w' => e = .returned (.tuple #[.agg #[.int .i64 0, .int .i64 0, .int .u64 0, .int .u64 0, .int .i64 0, .bool false, .bool false, .bool false, .bool false, .bool false, .bool false], .bool false]) ∧ Kp w w' := by
  have := find_any h 1 0 6
  rw [td_b2, td_l2] at this
  exact this
theorem td_id (h : TP w b g 1 2 td3) : Calls Try.prog 14 #[.pointer (some ⟨b, 0, none⟩), .int .i64 1] w fun e w' => e = .returned (.int .i64 1) ∧ TP w' b g 1 2 td4 ∧ Fr (· = g) w w' := by
  have := id_any h tdA
  rw [show 1 * 2 = 2 from rfl, td_n1] at this
  exact this
theorem td_all (h : TP w b g 1 2 td4) : Calls Try.prog 20 #[.pointer (some ⟨b, 0, none⟩)] w fun e w' => e = .returned (.int .i64 1) ∧ TP w' b g 1 2 td5 ∧ Fr (· = g) w w' := by
  have := all_any h zL
  rw [show 1 * 2 = 2 from rfl, td_n2] at this
  exact this
theorem td_evict (h : TP w b g 1 2 td5) : Calls Try.prog 17 #[.pointer (some ⟨b, 0, none⟩), .int .i64 0, .int .i64 0] w fun e w' => e = .returned (.bool false) ∧ Fr (· = g) w w' := by
  have := evict_any h 0 0
  rw [td_e] at this
  exact this.mono fun e w' ⟨h1, _, h3⟩ => ⟨h1, h3⟩
theorem td_list (h : TP w b g 1 2 td3) : Calls Try.prog 18 #[.pointer (some ⟨b, 0, none⟩)] w fun e w' => (∃ na cap, e = .returned (.slice na 2 cap)) ∧ Kp w w' :=
  (list_any h).mono fun e w' ⟨⟨v, h1, h2⟩, h3⟩ => by
    obtain ⟨na, cap, rfl, _⟩ := h2.form
    rw [show 1 * 2 = 2 from rfl, td_ls] at h1
    exact ⟨⟨na, cap, h1⟩, h3⟩
end

structure TD (W w : World) (b g b5 b6 b7 : Nat) (T : Nat → PC) : Prop where
  tp : TP w b g 1 2 T
  x5 : RX w b5 54 (encL tdA)
  x6 : RX w b6 54 (encL tdB)
  x7 : RX w b7 54 (encL tdC)
  k : Kp W w
  hg : W.heap.size ≤ g
  n5 : b5 ≠ g
  n6 : b6 ≠ g
  n7 : b7 ≠ g
theorem TD.st {W w w' : World} {b g b5 b6 b7 : Nat} {T T' : Nat → PC} (h : TD W w b g b5 b6 b7 T) (t : TP w' b g 1 2 T') (f : Fr (· = g) w w') : TD W w' b g b5 b6 b7 T' :=
  ⟨t, h.x5.fr f h.n5, h.x6.fr f h.n6, h.x7.fr f h.n7, f.kp h.k (fun i hi => by have := h.hg; omega), h.hg, h.n5, h.n6, h.n7⟩
theorem TD.kp {W w w' : World} {b g b5 b6 b7 : Nat} {T : Nat → PC} (h : TD W w b g b5 b6 b7 T) (f : Kp w w') : TD W w' b g b5 b6 b7 T :=
  ⟨h.tp.kp f, h.x5.kp f, h.x6.kp f, h.x7.kp f, h.k.trans f, h.hg, h.n5, h.n6, h.n7⟩

set_option maxHeartbeats 8000000 in
theorem ttold_any (w : World) : Calls Try.prog 19 #[] w fun e w' => e = .returned (.bool true) ∧ Kp w w' := by
  have cN : Calls Try.prog 11 #[.int .i64 1, .int .i64 2] w fun e w' => e = .returned (.tuple #[.pointer (some ⟨w.heap.size + 1, 0, none⟩), .int .i64 0]) ∧ TP w' (w.heap.size + 1) w.heap.size 1 2 td0 ∧ Kp w w' := tnew_ok 1 2 w rfl (by decide) (by decide)
  have cM : ∀ w, Calls Try.prog 11 #[.int .i64 3, .int .i64 2] w fun e w' => e = .returned (.tuple #[.pointer none, .int .i64 1]) ∧ w' = w := fun w => tnew_no 3 2 w (by decide)
  have q1 : ∀ w, (Op.equalIn 10000 54 (.agg #[.int .i64 1, .int .i64 0, .int .u64 5, .int .u64 0, .int .i64 7, .bool false, .bool false, .bool false, .bool false, .bool false, .bool false]) (.agg #[.int .i64 1, .int .i64 0, .int .u64 5, .int .u64 0, .int .i64 7, .bool false, .bool false, .bool false, .bool false, .bool false, .bool false])).run Try.prog w = .ok true w := fun w => eq_line tdA tdA w
  have q2 : ∀ w, (Op.equalIn 10000 54 (.agg #[.int .i64 1, .int .i64 0, .int .u64 6, .int .u64 0, .int .i64 0, .bool false, .bool false, .bool false, .bool false, .bool false, .bool false]) (.agg #[.int .i64 1, .int .i64 0, .int .u64 6, .int .u64 0, .int .i64 0, .bool false, .bool false, .bool false, .bool false, .bool false, .bool false])).run Try.prog w = .ok true w := fun w => eq_line tdB tdB w
  obtain ⟨b, hb⟩ : ∃ b, b = w.heap.size + 1 := ⟨_, rfl⟩
  obtain ⟨g, hg⟩ : ∃ g, g = w.heap.size := ⟨_, rfl⟩
  rw [← hb, ← hg] at cN
  have HG : Hid (w.heap.size ≤ g) := by rw [hg]; exact Nat.le_refl _
  clear hb hg
  go_enter Try.func19, Try.ntmps19
  go_wp2_with fail
  with_reducible refine cN.mono ?_
  rintro e w1 ⟨rfl, T1, K1⟩
  have HT : Hid (TP w1 b g 1 2 td0 ∧ Kp w w1) := ⟨T1, K1⟩
  clear T1 K1 cN
  go_wp2_with fail
  with_reducible refine (cM _).mono ?_
  rintro e w1 ⟨rfl, rfl⟩
  clear cM
  go_upto_region 6 with fail
  obtain ⟨w2, hw2⟩ : ∃ w2, w2 = ((w1.alloc (.cells #[.int .i64 1, .int .i64 0, .int .u64 5, .int .u64 0, .int .i64 7, .bool false, .bool false, .bool false, .bool false, .bool false, .bool false] 54)).alloc (.cells #[.int .i64 1, .int .i64 0, .int .u64 6, .int .u64 0, .int .i64 0, .bool false, .bool false, .bool false, .bool false, .bool false, .bool false] 54)).alloc (.cells #[.int .i64 2, .int .i64 0, .int .u64 5, .int .u64 0, .int .i64 0, .bool false, .bool false, .bool false, .bool false, .bool false, .bool false] 54) := ⟨_, rfl⟩
  obtain ⟨b5, hb5⟩ : ∃ b5, b5 = w1.heap.size := ⟨_, rfl⟩
  obtain ⟨b6, hb6⟩ : ∃ b6, b6 = w1.heap.size + 1 := ⟨_, rfl⟩
  obtain ⟨b7, hb7⟩ : ∃ b7, b7 = w1.heap.size + 1 + 1 := ⟨_, rfl⟩
  rw [← hw2, ← hb7, ← hb6, ← hb5]
  have K2 : Kp w1 w2 := by rw [hw2]; exact (((Kp.refl w1).alloc _).alloc _).alloc _
  have X5 : RX w2 b5 54 (encL tdA) := by rw [hw2, hb5]; exact (RX.made w1 _ _).kp (((Kp.refl _).alloc _).alloc _)
  have X6 : RX w2 b6 54 (encL tdB) := by rw [hw2, hb6]; exact (RX.made1 w1 _ _ _).kp ((Kp.refl _).alloc _)
  have X7 : RX w2 b7 54 (encL tdC) := by rw [hw2, hb7]; have := RX.made1 (w1.alloc (.cells #[.int .i64 1, .int .i64 0, .int .u64 5, .int .u64 0, .int .i64 7, .bool false, .bool false, .bool false, .bool false, .bool false, .bool false] 54)) (.cells #[.int .i64 1, .int .i64 0, .int .u64 6, .int .u64 0, .int .i64 0, .bool false, .bool false, .bool false, .bool false, .bool false, .bool false] 54) 54 (encL tdC); rw [show (w1.alloc (.cells #[.int .i64 1, .int .i64 0, .int .u64 5, .int .u64 0, .int .i64 7, .bool false, .bool false, .bool false, .bool false, .bool false, .bool false] 54)).heap.size = w1.heap.size + 1 by simp] at this; exact this
  have gl := HT.out.1.row.lt
  have S2 : TD w w2 b g b5 b6 b7 td0 := ⟨HT.out.1.kp K2, X5, X6, X7, HT.out.2.trans K2, HG.out, by omega, by omega, by omega⟩
  clear hw2 hb7 hb6 hb5 K2 X5 X6 X7 gl HT HG
  have c0 : w2.cell? ⟨b5, 0, none⟩ = some (.int .i64 1) := S2.x5.cell (j := 0) rfl
  have c1 : w2.cell? ⟨b5, 1, none⟩ = some (.int .i64 0) := S2.x5.cell (j := 1) rfl
  have c2 : w2.cell? ⟨b5, 2, none⟩ = some (.int .u64 5) := S2.x5.cell (j := 2) rfl
  have c3 : w2.cell? ⟨b5, 3, none⟩ = some (.int .u64 0) := S2.x5.cell (j := 3) rfl
  have c4 : w2.cell? ⟨b5, 4, none⟩ = some (.int .i64 7) := S2.x5.cell (j := 4) rfl
  have c5 : w2.cell? ⟨b5, 5, none⟩ = some (.bool false) := S2.x5.cell (j := 5) rfl
  have c6 : w2.cell? ⟨b5, 6, none⟩ = some (.bool false) := S2.x5.cell (j := 6) rfl
  have c7 : w2.cell? ⟨b5, 7, none⟩ = some (.bool false) := S2.x5.cell (j := 7) rfl
  have c8 : w2.cell? ⟨b5, 8, none⟩ = some (.bool false) := S2.x5.cell (j := 8) rfl
  have c9 : w2.cell? ⟨b5, 9, none⟩ = some (.bool false) := S2.x5.cell (j := 9) rfl
  have c10 : w2.cell? ⟨b5, 10, none⟩ = some (.bool false) := S2.x5.cell (j := 10) rfl
  have f1 := td_fill1 S2.tp
  have HS : Hid (TD w w2 b g b5 b6 b7 td0) := S2
  clear S2
  go_wp2_with fail
  with_reducible refine f1.mono ?_
  rintro e w3 ⟨rfl, T3, F3⟩
  have S3 := HS.out.st T3 F3
  clear HS T3 F3 f1 c0 c1 c2 c3 c4 c5 c6 c7 c8 c9 c10
  have c0 : w3.cell? ⟨b6, 0, none⟩ = some (.int .i64 1) := S3.x6.cell (j := 0) rfl
  have c1 : w3.cell? ⟨b6, 1, none⟩ = some (.int .i64 0) := S3.x6.cell (j := 1) rfl
  have c2 : w3.cell? ⟨b6, 2, none⟩ = some (.int .u64 6) := S3.x6.cell (j := 2) rfl
  have c3 : w3.cell? ⟨b6, 3, none⟩ = some (.int .u64 0) := S3.x6.cell (j := 3) rfl
  have c4 : w3.cell? ⟨b6, 4, none⟩ = some (.int .i64 0) := S3.x6.cell (j := 4) rfl
  have c5 : w3.cell? ⟨b6, 5, none⟩ = some (.bool false) := S3.x6.cell (j := 5) rfl
  have c6 : w3.cell? ⟨b6, 6, none⟩ = some (.bool false) := S3.x6.cell (j := 6) rfl
  have c7 : w3.cell? ⟨b6, 7, none⟩ = some (.bool false) := S3.x6.cell (j := 7) rfl
  have c8 : w3.cell? ⟨b6, 8, none⟩ = some (.bool false) := S3.x6.cell (j := 8) rfl
  have c9 : w3.cell? ⟨b6, 9, none⟩ = some (.bool false) := S3.x6.cell (j := 9) rfl
  have c10 : w3.cell? ⟨b6, 10, none⟩ = some (.bool false) := S3.x6.cell (j := 10) rfl
  have f1 := td_fill2 S3.tp
  have HS : Hid (TD w w3 b g b5 b6 b7 td1) := S3
  clear S3
  go_wp2_with fail
  with_reducible refine f1.mono ?_
  rintro e w4 ⟨rfl, T4, F4⟩
  have S4 := HS.out.st T4 F4
  have HS4 : Hid (TD w w4 b g b5 b6 b7 td2) := S4
  clear HS T4 F4 f1 c0 c1 c2 c3 c4 c5 c6 c7 c8 c9 c10 S4
  go_upto_region 8 with fail
  obtain ⟨w5, hw5⟩ : ∃ w5, w5 = w4.alloc (.cells #[.int .i64 0, .int .i64 0, .int .u64 0, .int .u64 0, .int .i64 0, .bool false, .bool false, .bool false, .bool false, .bool false, .bool false] 54) := ⟨_, rfl⟩
  rw [← hw5]
  have S5 : TD w w5 b g b5 b6 b7 td2 := HS4.out.kp (by rw [hw5]; exact (Kp.refl _).alloc _)
  clear hw5 HS4
  have c0 : w5.cell? ⟨b7, 0, none⟩ = some (.int .i64 2) := S5.x7.cell (j := 0) rfl
  have c1 : w5.cell? ⟨b7, 1, none⟩ = some (.int .i64 0) := S5.x7.cell (j := 1) rfl
  have c2 : w5.cell? ⟨b7, 2, none⟩ = some (.int .u64 5) := S5.x7.cell (j := 2) rfl
  have c3 : w5.cell? ⟨b7, 3, none⟩ = some (.int .u64 0) := S5.x7.cell (j := 3) rfl
  have c4 : w5.cell? ⟨b7, 4, none⟩ = some (.int .i64 0) := S5.x7.cell (j := 4) rfl
  have c5 : w5.cell? ⟨b7, 5, none⟩ = some (.bool false) := S5.x7.cell (j := 5) rfl
  have c6 : w5.cell? ⟨b7, 6, none⟩ = some (.bool false) := S5.x7.cell (j := 6) rfl
  have c7 : w5.cell? ⟨b7, 7, none⟩ = some (.bool false) := S5.x7.cell (j := 7) rfl
  have c8 : w5.cell? ⟨b7, 8, none⟩ = some (.bool false) := S5.x7.cell (j := 8) rfl
  have c9 : w5.cell? ⟨b7, 9, none⟩ = some (.bool false) := S5.x7.cell (j := 9) rfl
  have c10 : w5.cell? ⟨b7, 10, none⟩ = some (.bool false) := S5.x7.cell (j := 10) rfl
  have f1 := td_fill3 S5.tp
  have HS : Hid (TD w w5 b g b5 b6 b7 td2) := S5
  clear S5
  go_wp2_with fail
  with_reducible refine f1.mono ?_
  rintro e w6 ⟨rfl, T6, F6⟩
  have HS6 : Hid (TD w w6 b g b5 b6 b7 td3) := HS.out.st T6 F6
  clear HS T6 F6 f1 c0 c1 c2 c3 c4 c5 c6 c7 c8 c9 c10
  go_upto_region 9 with fail
  obtain ⟨w7, hw7⟩ : ∃ w7, w7 = w6.alloc (.cells #[.int .i64 1, .int .i64 0, .int .u64 6, .int .u64 0, .int .i64 0, .bool false, .bool false, .bool false, .bool false, .bool false, .bool false] 54) := ⟨_, rfl⟩
  obtain ⟨b10, hb10⟩ : ∃ b10, b10 = w6.heap.size := ⟨_, rfl⟩
  rw [← hw7, ← hb10]
  have S7 : TD w w7 b g b5 b6 b7 td3 := HS6.out.kp (by rw [hw7]; exact (Kp.refl _).alloc _)
  have X10 : RX w7 b10 54 (encL tdB) := by rw [hw7, hb10]; exact RX.made w6 _ _
  clear hw7 hb10 HS6
  have f1 := td_find1 S7.tp
  have HS : Hid (TD w w7 b g b5 b6 b7 td3 ∧ RX w7 b10 54 (encL tdB)) := ⟨S7, X10⟩
  clear S7 X10
  go_wp2_with fail
  with_reducible refine f1.mono ?_
  rintro e w8 ⟨rfl, K8⟩
  have HS8 : Hid (TD w w8 b g b5 b6 b7 td3 ∧ RX w8 b10 54 (encL tdB)) := ⟨HS.out.1.kp K8, HS.out.2.kp K8⟩
  clear HS K8 f1
  go_upto_region 10 with fail
  obtain ⟨w9, hw9⟩ : ∃ w9, w9 = w8.alloc (.cells #[.int .i64 1, .int .i64 0, .int .u64 5, .int .u64 0, .int .i64 7, .bool false, .bool false, .bool false, .bool false, .bool false, .bool false] 54) := ⟨_, rfl⟩
  obtain ⟨b12, hb12⟩ : ∃ b12, b12 = w8.heap.size := ⟨_, rfl⟩
  rw [← hw9, ← hb12]
  have K9 : Kp w8 w9 := by rw [hw9]; exact (Kp.refl _).alloc _
  have X12 : RX w9 b12 54 (encL tdA) := by rw [hw9, hb12]; exact RX.made w8 _ _
  have f1 := td_find2 (HS8.out.1.kp K9).tp
  have HS : Hid (TD w w9 b g b5 b6 b7 td3 ∧ RX w9 b10 54 (encL tdB) ∧ RX w9 b12 54 (encL tdA)) := ⟨HS8.out.1.kp K9, HS8.out.2.kp K9, X12⟩
  clear hw9 hb12 HS8 K9 X12
  go_wp2_with fail
  with_reducible refine f1.mono ?_
  rintro e w10 ⟨rfl, K10⟩
  have HS10 : Hid (TD w w10 b g b5 b6 b7 td3 ∧ RX w10 b10 54 (encL tdB) ∧ RX w10 b12 54 (encL tdA)) := ⟨HS.out.1.kp K10, HS.out.2.1.kp K10, HS.out.2.2.kp K10⟩
  clear HS K10 f1
  go_upto_region 11 with fail
  obtain ⟨w11, hw11⟩ : ∃ w11, w11 = w10.alloc (.cells #[.int .i64 0, .int .i64 0, .int .u64 0, .int .u64 0, .int .i64 0, .bool false, .bool false, .bool false, .bool false, .bool false, .bool false] 54) := ⟨_, rfl⟩
  rw [← hw11]
  have K11 : Kp w10 w11 := by rw [hw11]; exact (Kp.refl _).alloc _
  have S11 := HS10.out.1.kp K11
  have X10 := HS10.out.2.1.kp K11
  have X12 := HS10.out.2.2.kp K11
  clear hw11 HS10 K11
  have c0 : w11.cell? ⟨b5, 0, none⟩ = some (.int .i64 1) := S11.x5.cell (j := 0) rfl
  have c1 : w11.cell? ⟨b5, 1, none⟩ = some (.int .i64 0) := S11.x5.cell (j := 1) rfl
  have c2 : w11.cell? ⟨b5, 2, none⟩ = some (.int .u64 5) := S11.x5.cell (j := 2) rfl
  have c3 : w11.cell? ⟨b5, 3, none⟩ = some (.int .u64 0) := S11.x5.cell (j := 3) rfl
  have c4 : w11.cell? ⟨b5, 4, none⟩ = some (.int .i64 7) := S11.x5.cell (j := 4) rfl
  have c5 : w11.cell? ⟨b5, 5, none⟩ = some (.bool false) := S11.x5.cell (j := 5) rfl
  have c6 : w11.cell? ⟨b5, 6, none⟩ = some (.bool false) := S11.x5.cell (j := 6) rfl
  have c7 : w11.cell? ⟨b5, 7, none⟩ = some (.bool false) := S11.x5.cell (j := 7) rfl
  have c8 : w11.cell? ⟨b5, 8, none⟩ = some (.bool false) := S11.x5.cell (j := 8) rfl
  have c9 : w11.cell? ⟨b5, 9, none⟩ = some (.bool false) := S11.x5.cell (j := 9) rfl
  have c10 : w11.cell? ⟨b5, 10, none⟩ = some (.bool false) := S11.x5.cell (j := 10) rfl
  have d0 : w11.cell? ⟨b6, 0, none⟩ = some (.int .i64 1) := S11.x6.cell (j := 0) rfl
  have d1 : w11.cell? ⟨b6, 1, none⟩ = some (.int .i64 0) := S11.x6.cell (j := 1) rfl
  have d2 : w11.cell? ⟨b6, 2, none⟩ = some (.int .u64 6) := S11.x6.cell (j := 2) rfl
  have d3 : w11.cell? ⟨b6, 3, none⟩ = some (.int .u64 0) := S11.x6.cell (j := 3) rfl
  have d4 : w11.cell? ⟨b6, 4, none⟩ = some (.int .i64 0) := S11.x6.cell (j := 4) rfl
  have d5 : w11.cell? ⟨b6, 5, none⟩ = some (.bool false) := S11.x6.cell (j := 5) rfl
  have d6 : w11.cell? ⟨b6, 6, none⟩ = some (.bool false) := S11.x6.cell (j := 6) rfl
  have d7 : w11.cell? ⟨b6, 7, none⟩ = some (.bool false) := S11.x6.cell (j := 7) rfl
  have d8 : w11.cell? ⟨b6, 8, none⟩ = some (.bool false) := S11.x6.cell (j := 8) rfl
  have d9 : w11.cell? ⟨b6, 9, none⟩ = some (.bool false) := S11.x6.cell (j := 9) rfl
  have d10 : w11.cell? ⟨b6, 10, none⟩ = some (.bool false) := S11.x6.cell (j := 10) rfl
  have e0 : w11.cell? ⟨b10, 0, none⟩ = some (.int .i64 1) := X10.cell (j := 0) rfl
  have e1 : w11.cell? ⟨b10, 1, none⟩ = some (.int .i64 0) := X10.cell (j := 1) rfl
  have e2 : w11.cell? ⟨b10, 2, none⟩ = some (.int .u64 6) := X10.cell (j := 2) rfl
  have e3 : w11.cell? ⟨b10, 3, none⟩ = some (.int .u64 0) := X10.cell (j := 3) rfl
  have e4 : w11.cell? ⟨b10, 4, none⟩ = some (.int .i64 0) := X10.cell (j := 4) rfl
  have e5 : w11.cell? ⟨b10, 5, none⟩ = some (.bool false) := X10.cell (j := 5) rfl
  have e6 : w11.cell? ⟨b10, 6, none⟩ = some (.bool false) := X10.cell (j := 6) rfl
  have e7 : w11.cell? ⟨b10, 7, none⟩ = some (.bool false) := X10.cell (j := 7) rfl
  have e8 : w11.cell? ⟨b10, 8, none⟩ = some (.bool false) := X10.cell (j := 8) rfl
  have e9 : w11.cell? ⟨b10, 9, none⟩ = some (.bool false) := X10.cell (j := 9) rfl
  have e10 : w11.cell? ⟨b10, 10, none⟩ = some (.bool false) := X10.cell (j := 10) rfl
  have f0 : w11.cell? ⟨b12, 0, none⟩ = some (.int .i64 1) := X12.cell (j := 0) rfl
  have f1 : w11.cell? ⟨b12, 1, none⟩ = some (.int .i64 0) := X12.cell (j := 1) rfl
  have f2 : w11.cell? ⟨b12, 2, none⟩ = some (.int .u64 5) := X12.cell (j := 2) rfl
  have f3 : w11.cell? ⟨b12, 3, none⟩ = some (.int .u64 0) := X12.cell (j := 3) rfl
  have f4 : w11.cell? ⟨b12, 4, none⟩ = some (.int .i64 7) := X12.cell (j := 4) rfl
  have f5 : w11.cell? ⟨b12, 5, none⟩ = some (.bool false) := X12.cell (j := 5) rfl
  have f6 : w11.cell? ⟨b12, 6, none⟩ = some (.bool false) := X12.cell (j := 6) rfl
  have f7 : w11.cell? ⟨b12, 7, none⟩ = some (.bool false) := X12.cell (j := 7) rfl
  have f8 : w11.cell? ⟨b12, 8, none⟩ = some (.bool false) := X12.cell (j := 8) rfl
  have f9 : w11.cell? ⟨b12, 9, none⟩ = some (.bool false) := X12.cell (j := 9) rfl
  have f10 : w11.cell? ⟨b12, 10, none⟩ = some (.bool false) := X12.cell (j := 10) rfl
  have g1 := td_list S11.tp
  have HS : Hid (TD w w11 b g b5 b6 b7 td3) := S11
  clear S11 X10 X12
  go_wp2_with fail
  with_reducible refine g1.mono ?_
  rintro e w12 ⟨⟨na, cap, rfl⟩, K12⟩
  have g2 := td_id (HS.out.kp K12).tp
  have HS12 : Hid (TD w w12 b g b5 b6 b7 td3) := HS.out.kp K12
  clear HS K12 g1 c0 c1 c2 c3 c4 c5 c6 c7 c8 c9 c10 d0 d1 d2 d3 d4 d5 d6 d7 d8 d9 d10 e0 e1 e2 e3 e4 e5 e6 e7 e8 e9 e10 f0 f1 f2 f3 f4 f5 f6 f7 f8 f9 f10
  go_wp2_with fail
  with_reducible refine g2.mono ?_
  rintro e w13 ⟨rfl, T13, F13⟩
  have HS13 : Hid (TD w w13 b g b5 b6 b7 td4) := HS12.out.st T13 F13
  have g3 := td_all T13
  clear HS12 T13 F13 g2
  go_wp2_with fail
  with_reducible refine g3.mono ?_
  rintro e w14 ⟨rfl, T14, F14⟩
  have HS14 : Hid (TD w w14 b g b5 b6 b7 td5) := HS13.out.st T14 F14
  have g4 := td_evict T14
  clear HS13 T14 F14 g3
  go_wp2_with fail
  with_reducible refine g4.mono ?_
  rintro e w15 ⟨rfl, F15⟩
  have HK : Hid (Kp w w15) := F15.kp HS14.out.k (fun i hi => by have := HS14.out.hg; omega)
  clear HS14 F15 g4
  go_wp2
  go_ret
  exact ⟨rfl, HK.out⟩

end Go.Proofs.Ytclcickhgoiooaa
