/- index: (set).each hands on its frames, rising. -/
import Derived.Test.YtpjlmmiceiionaaDoorC7
import Derived.Sort.LoopGhostIn
namespace Go.Proofs.YtpjlmmiceiionaaDoor
open Go.RowKit
set_option maxRecDepth 10000
attribute [local go_sem] Oper.semAt_some

/-- The frames of m, rising. -/
def blF (m : Nat) : List Nat := (List.range 64).filter fun i => m.testBit i
theorem blF_0 : blF 0 = [] := by decide +kernel
theorem blF_mem (m i : Nat) : i ∈ blF m ↔ i < 64 ∧ m.testBit i = true := by unfold blF; simp
theorem odd_bit (t r i : Nat) : (2 ^ t * (2 * r + 1)).testBit i = (decide (t ≤ i) && (decide (i = t) || r.testBit (i - t - 1))) := by
  have h := Nat.testBit_two_pow_mul_add (2 * r + 1) (Nat.two_pow_pos t) i
  rw [Nat.add_zero] at h
  rw [h]
  by_cases c : i < t
  · rw [if_pos c, decide_eq_false (by omega)]; simp
  · rw [if_neg c, decide_eq_true (by omega : t ≤ i)]
    have h2 := Nat.testBit_two_pow_mul_add r (show 1 < 2 ^ 1 by decide) (i - t)
    rw [show 2 ^ 1 * r + 1 = 2 * r + 1 from rfl] at h2
    rw [h2]
    by_cases d : i = t
    · subst d; simp
    · rw [if_neg (by omega), decide_eq_false d]; simp
theorem even_bit (t r i : Nat) : (2 ^ (t + 1) * r).testBit i = (decide (t < i) && r.testBit (i - t - 1)) := by
  have h := Nat.testBit_two_pow_mul_add r (Nat.two_pow_pos (t + 1)) i
  rw [Nat.add_zero] at h
  rw [h]
  by_cases c : i < t + 1
  · rw [if_pos c, decide_eq_false (by omega)]; simp
  · rw [if_neg c, decide_eq_true (by omega : t < i), Nat.sub_sub]; simp
theorem blF_step {t : Nat} (r : Nat) (ht : t < 64) : blF (2 ^ t * (2 * r + 1)) = t :: blF (2 ^ (t + 1) * r) := by
  unfold blF
  have e : List.range 64 = List.range' 0 t ++ (t :: List.range' (t + 1) (63 - t)) := by
    rw [List.range_eq_range']
    have := List.range'_append (s := 0) (m := t) (n := 64 - t) (step := 1)
    rw [show t + (64 - t) = 64 by omega] at this
    rw [← this, show 64 - t = (63 - t) + 1 by omega, List.range'_succ]
    simp
  rw [e, List.filter_append, List.filter_append, List.filter_cons, List.filter_cons]
  have l1 : (List.range' 0 t).filter (fun i => (2 ^ t * (2 * r + 1)).testBit i) = [] := List.filter_eq_nil_iff.2 fun i hi => by
    rw [List.mem_range'_1] at hi
    rw [odd_bit, decide_eq_false (by omega)]; simp
  have l2 : (List.range' 0 t).filter (fun i => (2 ^ (t + 1) * r).testBit i) = [] := List.filter_eq_nil_iff.2 fun i hi => by
    rw [List.mem_range'_1] at hi
    rw [even_bit, decide_eq_false (by omega)]; simp
  rw [l1, l2, odd_bit, even_bit]
  simp only [Nat.le_refl, decide_true, Bool.true_or, Bool.and_true, if_true, Nat.lt_irrefl, decide_false, Bool.false_and, List.nil_append]
  refine congrArg _ (List.filter_congr fun i hi => ?_)
  rw [List.mem_range'_1] at hi
  rw [odd_bit, even_bit, decide_eq_true (by omega : t ≤ i), decide_eq_true (by omega : t < i), decide_eq_false (by omega : ¬ i = t)]
  simp
theorem and_pred (t r : Nat) : (2 ^ t * (2 * r + 1)) &&& (2 ^ t * (2 * r + 1) - 1) = 2 ^ (t + 1) * r := by
  have hp := Nat.two_pow_pos t
  have e : 2 ^ t * (2 * r + 1) - 1 = 2 ^ t * (2 * r) + (2 ^ t - 1) := by rw [Nat.mul_add]; omega
  apply Nat.eq_of_testBit_eq
  intro i
  rw [Nat.testBit_and, odd_bit, even_bit, e, Nat.testBit_two_pow_mul_add (2 * r) (show 2 ^ t - 1 < 2 ^ t by omega) i]
  by_cases c : i < t
  · rw [decide_eq_false (by omega : ¬ t ≤ i), decide_eq_false (by omega : ¬ t < i)]; simp
  · rw [if_neg c, decide_eq_true (by omega : t ≤ i)]
    have h2 := Nat.testBit_two_pow_mul_add r (show 0 < 2 ^ 1 by decide) (i - t)
    rw [Nat.add_zero, show 2 ^ 1 * r = 2 * r from rfl] at h2
    rw [h2]
    by_cases d : i = t
    · subst d; simp
    · rw [if_neg (by omega), decide_eq_true (by omega : t < i), decide_eq_false d]; simp

set_option maxHeartbeats 2000000 in
theorem each_0 (w : World) (na : Option Addr) (cap : Nat) : EachOk w (.slice na 0 cap) (blF 0) := by
  rw [blF_0]
  intro n l J Jx W _ _ _ h0
  have H : Hid (J [] W) := h0
  refine callsIn_of_wp Tryd.func38 rfl trivial ?_ rfl
  simp only [Tryd.ntmps38, List.size_toArray, List.length_cons, List.length_nil, Nat.reduceAdd, Nat.reduceSub, Array.replicate_succ, Array.replicate_zero, List.push_toArray, List.append_toArray, List.nil_append, List.cons_append]
  clear h0
  gi_wp2
  gi_loopg [9] 1 (fun g v9 wr => v9 = .int .i64 0 ∧ wr = W)
  case atStart => exact ⟨rfl, rfl⟩
  case round =>
    obtain ⟨rfl, rfl⟩ := hrel
    gi_wp2
    go_end0
    exact ⟨⟨_, rfl⟩, .inl H.out⟩

set_option maxHeartbeats 8000000 in
theorem each_1 {w : World} {b g cap m : Nat} (T : TAB w) (h : SWd w b (.slice (some ⟨g, 0, none⟩) 1 cap) m) (hm : m ≠ 0) (hl : m < 18446744073709551616) : EachOk w (.slice (some ⟨g, 0, none⟩) 1 cap) (blF m) := by
  intro n l J Jx W kW hJ hY h0
  obtain ⟨_, _, c0, c1⟩ := (h.kpt kW).cells hm
  have HH : Hid (TAB W ∧ J [] W ∧ m < 18446744073709551616) := ⟨T.kp kW, h0, hl⟩
  have HJ : Hid (∀ s A B, J s A → Kp A B → J s B) := hJ
  have HY : Aside (∀ pre x W1, J pre W1 → pre ++ [x] <+: blF m → YieldAt Fence.wide n Tryd.prog l #[.int .i64 ((x : Nat) : Int)] W1 fun e W' => (e = .returned (.bool true) ∧ J (pre ++ [x]) W' ∧ KWd W1 W') ∨ (e = .returned (.bool false) ∧ Jx (pre ++ [x]) W')) := hY
  clear h T kW hJ hY h0 hl hm
  refine callsIn_of_wp Tryd.func38 rfl trivial ?_ rfl
  simp only [Tryd.ntmps38, List.size_toArray, List.length_cons, List.length_nil, Nat.reduceAdd, Nat.reduceSub, Array.replicate_succ, Array.replicate_zero, List.push_toArray, List.append_toArray, List.nil_append, List.cons_append]
  gi_wp2
  gi_loopg [9] 1 (fun g v9 wr => ∃ i : Nat, v9 = .int .i64 (i : Int) ∧ i ≤ 1 ∧ 1 - i ≤ g ∧ Hid ((i = 0 → wr = W) ∧ (i = 1 → J (blF m) wr)))
  case atStart => exact ⟨0, rfl, by omega, by omega, fun _ => rfl, fun h => by cases h⟩
  case round =>
    obtain ⟨i, rfl, hi, hg, HR⟩ := hrel
    by_cases hi1 : i = 1
    · subst hi1
      gi_wp2
      go_end0
      exact ⟨⟨_, rfl⟩, .inl (HR.out.2 (by trivial))⟩
    · obtain rfl : i = 0 := by omega
      obtain rfl : wr = W := HR.out.1 rfl
      have hb := heap_alloc_new wr (.cells #[.int .i64 0, .int .u64 (m : Int)] 101)
      have kb : Kp wr (wr.alloc (.cells #[.int .i64 0, .int .u64 (m : Int)] 101)) := (Kp.refl wr).alloc _
      have H2 : Hid (m < 18446744073709551616 ∧ blF m = [] ++ blF m ∧ J [] (wr.alloc (.cells #[.int .i64 0, .int .u64 (m : Int)] 101)) ∧ TAB (wr.alloc (.cells #[.int .i64 0, .int .u64 (m : Int)] 101)) ∧ (wr.alloc (.cells #[.int .i64 0, .int .u64 (m : Int)] 101)).heap[wr.heap.size]? = some (.cells #[.int .i64 0, .int .u64 (m : Int)] 101 (0, 0))) :=
        ⟨HH.out.2.2, rfl, HJ.out _ _ _ HH.out.2.1 kb, HH.out.1.kp kb, hb⟩
      obtain ⟨B, hB⟩ : ∃ B, B = wr.heap.size := ⟨_, rfl⟩
      have i1 : (wr.alloc (.cells #[.int .i64 0, .int .u64 (m : Int)] 101)).cell? ⟨wr.heap.size, 1, none⟩ = some (.int .u64 (m : Int)) := by rw [cell_of_row _ wr.heap.size 1 _ _ _ hb]; rfl
      clear HR hi1 hi hb kb
      gi_wp2
      rw [← hB] at H2 ⊢
      clear i1 c0 c1 HH hB
      gi_loopg [6] m (fun g v6 wr2 => ∃ (bb : Nat) (pre : List Nat), v6 = .int .u64 (bb : Int) ∧ bb ≤ g ∧ Hid (bb < 18446744073709551616 ∧ blF m = pre ++ blF bb ∧ J pre wr2 ∧ TAB wr2 ∧ wr2.heap[B]? = some (.cells #[.int .i64 0, .int .u64 (m : Int)] 101 (0, 0))))
      case atStart => exact ⟨m, [], rfl, Nat.le_refl _, H2.out⟩
      case round =>
        obtain ⟨bb, pre, rfl, hbg, HI⟩ := hrel
        clear H2
        by_cases z : bb = 0
        · subst z
          gi_wp2
          gi_roundg 0
          case measure => omega
          case rel =>
            refine ⟨1, rfl, by omega, by omega, (fun h => by cases h), fun _ => ?_⟩
            have := HI.out
            rw [blF_0, List.append_nil] at this
            rw [this.2.1]
            exact this.2.2.1
        · obtain ⟨b1, b2, b3, b4, b5⟩ := HI.out
          obtain ⟨t, r, ht, hx⟩ := odd_of 64 bb b1 (by omega)
          have st := blF_step r ht
          have ap := and_pred t r
          rw [← hx] at st ap
          obtain ⟨q, hq⟩ : ∃ q, q = 2 ^ (t + 1) * r := ⟨_, rfl⟩
          rw [← hq] at st ap
          have lq : q ≤ bb - 1 := by rw [← ap]; exact Nat.and_le_right
          have a1 : IntKind.u64.wrap ((bb : Int) - 1) = ((bb - 1 : Nat) : Int) := by rw [show (bb : Int) - 1 = ((bb - 1 : Nat) : Int) by omega]; exact wrap_u (by omega)
          have a2 : bits .and .u64 (bb : Int) ((bb - 1 : Nat) : Int) = (q : Int) := by rw [← ap]; exact u64_and_nat bb (bb - 1) b1 (by omega)
          have ct := fun (w : World) (T : TAB w) => tz_ok T bb t r b1 ht hx
          have px : pre ++ [t] <+: blF m := by rw [b2, st]; exact ⟨blF q, by simp⟩
          have kd : Kp wr wr.drew := (Kp.refl wr).drew
          have d0 : wr.cell? ⟨B, 0, none⟩ = some (.int .i64 0) := by rw [cell_of_row _ B 0 _ _ _ b5]; rfl
          have hpx : Hid (blF m = (pre ++ [t]) ++ blF q ∧ q < 18446744073709551616 ∧ q < bb) := ⟨by rw [b2, st]; simp, by omega, by omega⟩
          obtain ⟨fn, tmps, assign, body, hy, hR⟩ := HY.out pre t wr.drew (HJ.out _ _ _ b3 kd) px
          have tb := ct wr.drew (b4.kp kd)
          have HB : Hid (wr.drew.heap[B]? = some (.cells #[.int .i64 0, .int .u64 (m : Int)] 101 (0, 0)) ∧ TAB wr.drew) := ⟨b5, b4.kp kd⟩
          have z' : ¬ (bb : Int) = 0 := by omega
          have w1 : IntKind.i64.wrap ((t : Nat) : Int) = ((t : Nat) : Int) := by rw [IntKind.wrap_i64]; omega
          have w0 : IntKind.i64.wrap 0 = 0 := by decide
          clear HI b1 b2 b3 b4 b5 st ap hq px kd ct z lq HJ hx
          gi_wp2
          have d1 : wr.drew.cell? ⟨B, 0, none⟩ = some (.int .i64 0) := d0
          have mixed' := mixed
          have hR2 := hR.mono (R' := fun e W' => ∃ bo, e = .returned (.bool bo) ∧ Hid ((bo = true → J (pre ++ [t]) W' ∧ KWd wr.drew W') ∧ (bo = false → Jx (pre ++ [t]) W'))) (fun e W' hr => by
            rcases hr with ⟨h1, h2, h3⟩ | ⟨h1, h2⟩
            · exact ⟨true, h1, fun _ => ⟨h2, h3⟩, fun h => by cases h⟩
            · exact ⟨false, h1, (fun h => by cases h), fun _ => h2⟩)
          clear hR
          gi_region_with_o (first | (refine ⟨trivial, ?_⟩; gi_at_call 56; refine (callsIn_wide.2 tb).mono ?_; rintro e w' ⟨rfl, rfl⟩) | (refine hR2.mono ?_; rintro e w3 ⟨bo, rfl, HB3⟩))
          all_goals
            cases bo with
            | true =>
              have H3 : Hid (J (pre ++ [t]) w3 ∧ KWd wr.drew w3) := HB3.out.1 rfl
              clear HB3
              gi_wp2
              gi_roundg (bb - 1)
              case measure => have := hpx.out.2.2; omega
              case rel =>
                obtain ⟨j3, k3⟩ := H3.out
                exact ⟨q, pre ++ [t], rfl, by have := hpx.out.2.2; omega, hpx.out.2.1, hpx.out.1, j3, k3.tab HB.out.2, k3.same _ _ _ HB.out.1⟩
            | false =>
              have H3 : Hid (Jx (pre ++ [t]) w3) := HB3.out.2 rfl
              clear HB3
              gi_wp2
              refine bodyPost_ret (results_none rfl _ _ _) rfl ?_
              exact ⟨⟨_, rfl⟩, .inr ⟨_, H3.out⟩⟩

/-- The iterator of a set. -/
theorem each_ok {w : World} {b m : Nat} {v : Value} (T : TAB w) (h : SWd w b v m) (hl : m < 18446744073709551616) : EachOk w v (blF m) := by
  by_cases hm : m = 0
  · subst hm
    obtain ⟨na, cap, e, _⟩ := AX.form LTwd_ok h
    rw [e]
    exact each_0 w na cap
  · obtain ⟨g, cap, e, _, _⟩ := h.form hm
    subst e
    exact each_1 T h hm hl

end Go.Proofs.YtpjlmmiceiionaaDoor
