/- The buddy beside other things; told. -/
import Derived.Test.YtlclpnaaaiimaaaDoorUB
import Derived.ChangeKeysEq
namespace Go.Proofs.YtlclpnaaaiimaaaDoor
open Go.RowKit

/-- The buddy, made since W; its blocks lie below B. -/
structure BU (W : World) (B : Nat) (U : Nat → Prop) (w : World) (p lo hi : Nat) (F : Nat → Bool) : Prop where
  bf : BF w U p lo hi F
  kp : Kp W w
  new : ∀ k, U k → W.heap.size ≤ k ∧ k < B
  bs : B ≤ w.heap.size
section
variable {W w w' : World} {B : Nat} {U : Nat → Prop} {p lo hi : Nat} {F F' : Nat → Bool}
theorem BU.next (h : BU W B U w p lo hi F) (b : BF w' U p lo hi F') (k : Fr U w w') : BU W B U w' p lo hi F' := ⟨b, k.kp h.kp (fun i hi => (h.new i hi).1), h.new, Nat.le_trans h.bs k.size⟩
theorem BU.kps (h : BU W B U w p lo hi F) (k : Kp w w') : BU W B U w' p lo hi F := ⟨h.bf.kp k, h.kp.trans k, h.new, Nat.le_trans h.bs k.size⟩
theorem BU.frs {X : Nat → Prop} (h : BU W B U w p lo hi F) (k : Fr X w w') (hX : ∀ i, X i → B ≤ i) (hB : 1 ≤ B) : BU W B U w' p lo hi F :=
  ⟨h.bf.fr k (fun i hi x => by have := (h.new i hi).2; have := hX i x; omega) (fun x => by have := hX 0 x; omega), k.kp h.kp (fun i x => by have := hX i x; have := (h.new p h.bf.up); omega), h.new, Nat.le_trans h.bs k.size⟩
theorem BU.b1 (h : BU W B U w p lo hi F) : W.heap.size < B := by have := h.new p h.bf.up; omega
theorem RL.away {b : Nat} {v : Value} {L : List (Nat × Nat)} (h : RL w b v L) (k : Fr U w w') (hU : ∀ i, U i → i < b) : RL w' b v L := h.fr k (fun g hg _ hu => by have := hU g hu; omega)
end
/-- What Take answers, and leaves. -/
theorem dom_idx {F : Nat → Bool} {hi a j : Nat} (dom : ∀ k, F k = true → k < hi) (h : Rn F a j) : j < hi := by
  have h1 := dom _ (h.1 _ (rep j a))
  have := Nat.le_mul_of_pos_right j (Nat.two_pow_pos a)
  omega
def tkB (F : Nat → Bool) (hi o o' i : Nat) : Bool := decide (o ≤ o' ∧ o' ≤ 9) && rn F o' i && (List.range o').all (fun a => decide (a < o) || (List.range hi).all (fun j => !rn F a j)) && (List.range i).all (fun j => !rn F o' j)
theorem tk_of {F : Nat → Bool} {hi o o' i : Nat} (dom : ∀ k, F k = true → k < hi) (h : tkB F hi o o' i = true) : Tk F o o' i := by
  unfold tkB at h
  simp only [Bool.and_eq_true, decide_eq_true_eq] at h
  obtain ⟨⟨⟨h1, h2⟩, h3⟩, h4⟩ := h
  refine ⟨h1.1, h1.2, (rn_iff ..).1 h2, fun a ha hb j hj => ?_, fun j hj hR => ?_⟩
  · have := List.all_eq_true.1 h3 a (List.mem_range.2 hb)
    rw [decide_eq_false (by omega), Bool.false_or] at this
    have := List.all_eq_true.1 this j (List.mem_range.2 (dom_idx dom hj))
    rw [(rn_iff ..).2 hj] at this; cases this
  · have := List.all_eq_true.1 h4 j (List.mem_range.2 hj)
    rw [(rn_iff ..).2 hR] at this; cases this
def noB (F : Nat → Bool) (hi o : Nat) : Bool := (List.range 10).all (fun a => decide (a < o) || (List.range hi).all (fun j => !rn F a j))
theorem no_of {F : Nat → Bool} {hi o : Nat} (dom : ∀ k, F k = true → k < hi) (h : noB F hi o = true) : ∀ a, o ≤ a → a ≤ 9 → ∀ j, ¬ Rn F a j := fun a ha hb j hj => by
  have := List.all_eq_true.1 h a (List.mem_range.2 (by omega))
  rw [decide_eq_false (by omega), Bool.false_or] at this
  have := List.all_eq_true.1 this j (List.mem_range.2 (dom_idx dom hj))
  rw [(rn_iff ..).2 hj] at this; cases this
theorem eq_pair (a b c d : Int) (w : World) : (Op.equalIn 10000 34 (.agg #[.int .i64 a, .int .i64 b]) (.agg #[.int .i64 c, .int .i64 d])).run Tryd.prog w = .ok ((a == c) && (b == d)) w := by
  have hc : Tryd.prog.cellsOf 3 = 1 := by kernel_rfl
  obtain ⟨i, hi⟩ : ∃ i, Tryd.prog.info? 3 = some i := Option.isSome_iff_exists.1 (by kernel_rfl)
  rw [show (10000 : Nat) = 9999 + 1 from rfl, run_equalIn_array w 9999 _ _ Tryd.underlying34 hi, hc]
  have p0 : ∀ x y : Int, (part 3 #[.int .i64 x, .int .i64 y] (0 * 1)).run Tryd.prog w = .ok (.int .i64 x) w := fun x y => by simp [part, isAgg, run_underlying Tryd.underlying3]
  have p1 : ∀ x y : Int, (part 3 #[.int .i64 x, .int .i64 y] 1).run Tryd.prog w = .ok (.int .i64 y) w := fun x y => by simp [part, isAgg, run_underlying Tryd.underlying3]
  have pe : ∀ x y : Int, (Op.equalIn 9999 3 (.int .i64 x) (.int .i64 y)).run Tryd.prog w = .ok (x == y) w := fun x y => run_equalIn_int w 9998 3 .i64 .i64 x y Tryd.underlying3
  rw [show List.range 2 = [0, 1] from rfl]
  simp only [Op.eqItems, Sem.run_bind, p0, pe, Result.andThen_ok]
  cases (a == c)
  · simp
  · by_cases e : b = d
    · simp [p1, pe, e]
    · simp [p1, pe, e]
def q0 : Nat → Bool := ivl 2 9
def q1 : Nat → Bool := subF q0 0 8
def q2 : Nat → Bool := subF q1 0 2
def q3 : Nat → Bool := gvF 2 9 q2 8 0
def q4 : Nat → Bool := gvF 2 9 q3 8 0
theorem q_runs : rl q0 9 2 = [(2, 1), (4, 2), (8, 0)] ∧ rl q2 9 2 = [(3, 0), (4, 2)] := by decide +kernel
theorem q_take : tkB q0 9 0 0 8 = true ∧ tkB q1 9 0 1 1 = true ∧ noB q2 9 3 = true := by decide +kernel
theorem q_rest : cnt q2 9 = 5 ∧ gvR 2 9 q2 8 0 = 0 ∧ gvR 2 9 q3 8 0 = 20 ∧ hasF q4 2 = false ∧ hasF q4 3 = true := by decide +kernel
set_option maxHeartbeats 8000000 in
set_option maxRecDepth 1000000 in
theorem told_any {w : World} (T : TAB w) :
    Calls Tryd.prog 8 #[] w fun e w' => e = .returned (.bool true) ∧ Kp w w' := by
  have k1 : Calls Tryd.prog 9 #[.int .i64 2, .int .i64 7] w fun e w' => (∃ p U, e = .returned (.tuple #[.pointer (some ⟨p, 0, none⟩), .int .i64 0]) ∧ BF w' U p 2 9 q0 ∧ ∀ k, U k → w.heap.size ≤ k) ∧ Kp w w' := new_ok 2 7 w T (by omega) (by omega)
  have k2 : ∀ w, Calls Tryd.prog 9 #[.int .i64 (-1), .int .i64 7] w fun e w' => e = .returned (.tuple #[.pointer none, .int .i64 1]) ∧ w' = w := fun w => new_no (-1) 7 w (by omega)
  clear T
  go_enter Tryd.func8, Tryd.ntmps8
  go_wp2_with fail
  with_reducible refine k1.mono ?_
  rintro e w1 ⟨⟨p, U, rfl, B1, N1⟩, K1⟩
  have I1 : BU w w1.heap.size U w1 p 2 9 q0 := ⟨B1, K1, fun k hk => ⟨N1 k hk, B1.own k hk⟩, Nat.le_refl _⟩
  have k3 := runs_any B1
  rw [q_runs.1] at k3
  obtain ⟨B, hB⟩ : ∃ B, B = w1.heap.size := ⟨_, rfl⟩
  rw [← hB] at I1 k3
  have H1 : Hid (BU w B U w1 p 2 9 q0) := I1
  have HB : Hid (B = w1.heap.size) := hB
  clear k1 B1 N1 K1 I1 hB
  go_wp2_with fail
  with_reducible refine (k2 _).mono ?_
  rintro e w' ⟨rfl, rfl⟩
  go_wp2_with fail
  with_reducible refine k3.mono ?_
  rintro e w2 ⟨⟨v, rfl, R2⟩, K2⟩
  have I2 := H1.out.kps K2
  have k4 : Calls Tryd.prog 11 #[.pointer (some ⟨p, 0, none⟩), .int .i64 0] w2 fun e w' => e = .returned (.tuple #[.int .i64 8, .int .i64 0]) ∧ BF w' U p 2 9 q1 ∧ Fr U w2 w' := take_ok I2.bf 0 0 8 (tk_of (hi := 9) (fun k hk => (I2.bf.dom k hk).2) q_take.1)
  have HI : Hid (BU w B U w2 p 2 9 q0) := I2
  have HR : Hid (RL w2 B v [(2, 1), (4, 2), (8, 0)]) := R2
  clear k2 k3 H1 K2 R2 I2
  go_wp2_with fail
  with_reducible refine k4.mono ?_
  rintro e w3 ⟨rfl, B3, F3⟩
  have I3 := HI.out.next B3 F3
  have R3 := HR.out.away F3 (fun i hi => (HI.out.new i hi).2)
  have k5 : Calls Tryd.prog 11 #[.pointer (some ⟨p, 0, none⟩), .int .i64 0] w3 fun e w' => e = .returned (.tuple #[.int .i64 2, .int .i64 0]) ∧ BF w' U p 2 9 q2 ∧ Fr U w3 w' := take_ok I3.bf 0 1 1 (tk_of (hi := 9) (fun k hk => (I3.bf.dom k hk).2) q_take.2.1)
  have HI3 : Hid (BU w B U w3 p 2 9 q1) := I3
  have HR3 : Hid (RL w3 B v [(2, 1), (4, 2), (8, 0)]) := R3
  clear k4 HI HR B3 F3 I3 R3
  go_wp2_with fail
  with_reducible refine k5.mono ?_
  rintro e w4 ⟨rfl, B4, F4⟩
  have I4 := HI3.out.next B4 F4
  have R4 := HR3.out.away F4 (fun i hi => (HI3.out.new i hi).2)
  have k6 : Calls Tryd.prog 11 #[.pointer (some ⟨p, 0, none⟩), .int .i64 3] w4 fun e w' => e = .returned (.tuple #[.int .i64 0, .int .i64 10]) ∧ w' = w4 := take_no I4.bf 3 (by omega) (no_of (hi := 9) (fun k hk => (I4.bf.dom k hk).2) q_take.2.2)
  have k7 := runs_any I4.bf
  rw [q_runs.2] at k7
  have HI4 : Hid (BU w B U w4 p 2 9 q2) := I4
  have HR4 : Hid (RL w4 B v [(2, 1), (4, 2), (8, 0)]) := R4
  clear k5 HI3 HR3 B4 F4 I4 R4
  go_wp2_with fail
  with_reducible refine k6.mono ?_
  rintro e w' ⟨rfl, rfl⟩
  clear k6
  go_wp2_with fail
  with_reducible refine k7.mono ?_
  rintro e w5 ⟨⟨u, rfl, R5⟩, K5⟩
  have I5 := HI4.out.kps K5
  have S5 := HR4.out.kp K5
  obtain ⟨na, cap, rfl, l1, hv⟩ := S5.form
  obtain ⟨nb, capb, rfl, l2, hu⟩ := R5.form
  obtain ⟨g, rfl, _, _, d0, d1⟩ := hv 0 (2, 1) rfl
  obtain ⟨g', eg, _, _, d2, d3⟩ := hv 1 (4, 2) rfl
  cases eg
  obtain ⟨g', eg, _, _, d4, d5⟩ := hv 2 (8, 0) rfl
  cases eg
  obtain ⟨g2, rfl, _, _, d6, d7⟩ := hu 0 (3, 0) rfl
  have x0 : w5.cell? ⟨g, 0, none⟩ = some (.int .i64 2) := d0
  have x1 : w5.cell? ⟨g, 1, none⟩ = some (.int .i64 1) := d1
  have x2 : w5.cell? ⟨g, 2, none⟩ = some (.int .i64 4) := d2
  have x3 : w5.cell? ⟨g, 3, none⟩ = some (.int .i64 2) := d3
  have x4 : w5.cell? ⟨g, 4, none⟩ = some (.int .i64 8) := d4
  have x5 : w5.cell? ⟨g, 5, none⟩ = some (.int .i64 0) := d5
  have x6 : w5.cell? ⟨g2, 0, none⟩ = some (.int .i64 3) := d6
  have x7 : w5.cell? ⟨g2, 1, none⟩ = some (.int .i64 0) := d7
  have k8 : Calls Tryd.prog 15 #[.pointer (some ⟨p, 0, none⟩)] w5 fun e w' => e = .returned (.int .i64 5) ∧ w' = w5 := by have := free_any I5.bf; rw [q_rest.1] at this; exact this
  have k9 : Calls Tryd.prog 13 #[.pointer (some ⟨p, 0, none⟩), .int .i64 8, .int .i64 0] w5 fun e w' => e = .returned (.int .i64 0) ∧ BF w' U p 2 9 q3 ∧ Fr U w5 w' := by have := give_any I5.bf 8 0; rw [q_rest.2.1] at this; exact this
  have HI5 : Hid (BU w B U w5 p 2 9 q2) := I5
  clear d0 d1 d2 d3 d4 d5 d6 d7 hu hv S5 R5 K5 I5 k7 HI4 HR4
  simp only [List.length_cons, List.length_nil] at l1 l2
  simp only [List.length_cons, List.length_nil]
  have hq := fun a b c d => eq_pair a b c d w5
  go_wp2_with fail
  with_reducible refine k8.mono ?_
  rintro e w' ⟨rfl, rfl⟩
  clear hq x0 x1 x2 x3 x4 x5 x6 x7 k8
  go_wp2_with fail
  with_reducible refine k9.mono ?_
  rintro e w6 ⟨rfl, B6, F6⟩
  have I6 := HI5.out.next B6 F6
  have k10 : Calls Tryd.prog 13 #[.pointer (some ⟨p, 0, none⟩), .int .i64 8, .int .i64 0] w6 fun e w' => e = .returned (.int .i64 20) ∧ BF w' U p 2 9 q4 ∧ Fr U w6 w' := by have := give_any I6.bf 8 0; rw [q_rest.2.2.1] at this; exact this
  have HI6 : Hid (BU w B U w6 p 2 9 q3) := I6
  clear k9 HI5 B6 F6 I6
  go_wp2_with fail
  with_reducible refine k10.mono ?_
  rintro e w7 ⟨rfl, B7, F7⟩
  have I7 := HI6.out.next B7 F7
  have k11 : Calls Tryd.prog 17 #[.pointer (some ⟨p, 0, none⟩), .int .i64 2] w7 fun e w' => e = .returned (.bool false) ∧ Dr w7 w' := by have := has_any I7.bf 2; rw [q_rest.2.2.2.1] at this; exact this
  have HI7 : Hid (BU w B U w7 p 2 9 q4) := I7
  clear k10 HI6 B7 F7 I7
  go_wp2_with fail
  with_reducible refine k11.mono ?_
  rintro e w8 ⟨rfl, D8⟩
  have I8 := HI7.out.kps D8.kp
  have k12 : Calls Tryd.prog 17 #[.pointer (some ⟨p, 0, none⟩), .int .i64 3] w8 fun e w' => e = .returned (.bool true) ∧ Dr w8 w' := by have := has_any I8.bf 3; rw [q_rest.2.2.2.2] at this; exact this
  have HI8 : Hid (BU w B U w8 p 2 9 q4) := I8
  clear k11 HI7 D8 I8
  go_wp2_with fail
  with_reducible refine k12.mono ?_
  rintro e w9 ⟨rfl, D9⟩
  have HK : Hid (Kp w w9) := (HI8.out.kps D9.kp).kp
  clear k12 HI8 D9
  go_wp2
  go_ret
  exact ⟨rfl, HK.out⟩
end Go.Proofs.YtlclpnaaaiimaaaDoor
