/- Joined: E1, EP, E2, E3, E4, E5, E6. -/
import Derived.Test.YtclcickhgoiooaaJB
import Derived.Test.YtclcickhgoiooaaU0
/- desc, the small ones: tops, places, kinds, units, bits asked and set; like structs. -/
namespace Go.Proofs.Ytclcickhgoiooaa
open Go.RowKit

/-- What a stage's addresses are below. -/
def topS (s : Int) : Nat := if s = 1 then 1099511627776 else if s = 2 then 4294967296 else 0
theorem top_any (s : Int) (w : World) : Calls Try.prog 81 #[.int .i64 s] w fun e w' => e = .returned (.int .u64 (topS s : Nat)) ∧ w' = w := by
  by_cases c1 : s = 1
  · subst c1
    go_enter Try.func81, Try.ntmps81
    go_wp2
    go_ret
    exact ⟨rfl, rfl⟩
  by_cases c2 : s = 2
  · subst c2
    go_enter Try.func81, Try.ntmps81
    go_wp2
    go_ret
    exact ⟨rfl, rfl⟩
  rw [show topS s = 0 from by unfold topS; rw [if_neg c1, if_neg c2]]
  go_enter Try.func81, Try.ntmps81
  go_wp2
  go_ret
  exact ⟨rfl, rfl⟩
theorem rtop_any (s : Int) (w : World) : Calls Try.prog 58 #[.int .i64 s] w fun e w' => e = .returned (.int .u64 (topS s : Nat)) ∧ w' = w := by
  by_cases c1 : s = 1
  · subst c1
    go_enter Try.func58, Try.ntmps58
    go_wp2
    go_ret
    exact ⟨rfl, rfl⟩
  by_cases c2 : s = 2
  · subst c2
    go_enter Try.func58, Try.ntmps58
    go_wp2
    go_ret
    exact ⟨rfl, rfl⟩
  rw [show topS s = 0 from by unfold topS; rw [if_neg c1, if_neg c2]]
  go_enter Try.func58, Try.ntmps58
  go_wp2
  go_ret
  exact ⟨rfl, rfl⟩

/-- Are there tables of the stage and the level? -/
def isPl (s l : Int) : Bool := decide (1 ≤ s ∧ s ≤ 2 ∧ 0 ≤ l ∧ l ≤ 3)
theorem isPl_iff {s l : Int} : isPl s l = true ↔ 1 ≤ s ∧ s ≤ 2 ∧ 0 ≤ l ∧ l ≤ 3 := by unfold isPl; exact decide_eq_true_iff
theorem isPl_not {s l : Int} (h : ¬ (1 ≤ s ∧ s ≤ 2 ∧ 0 ≤ l ∧ l ≤ 3)) : isPl s l = false := decide_eq_false h
theorem isPlace_any (s l : Int) (w : World) : Calls Try.prog 91 #[.int .i64 s, .int .i64 l] w fun e w' => e = .returned (.bool (isPl s l)) ∧ w' = w := by
  by_cases c1 : 1 ≤ s
  · by_cases c2 : s ≤ 2
    · by_cases c3 : 0 ≤ l
      · by_cases c4 : l ≤ 3
        · rw [isPl_iff.2 ⟨c1, c2, c3, c4⟩]
          go_enter Try.func91, Try.ntmps91
          go_wp2
          go_ret
          exact ⟨rfl, rfl⟩
        · rw [isPl_not (by omega)]
          go_enter Try.func91, Try.ntmps91
          go_wp2
          go_ret
          exact ⟨rfl, rfl⟩
      · rw [isPl_not (by omega)]
        go_enter Try.func91, Try.ntmps91
        go_wp2
        go_ret
        exact ⟨rfl, rfl⟩
    · rw [isPl_not (by omega)]
      go_enter Try.func91, Try.ntmps91
      go_wp2
      go_ret
      exact ⟨rfl, rfl⟩
  · rw [isPl_not (by omega)]
    go_enter Try.func91, Try.ntmps91
    go_wp2
    go_ret
    exact ⟨rfl, rfl⟩

def isKd (k : Int) : Bool := decide (0 ≤ k ∧ k ≤ 3)
/-- What an address of the kind at the level is a multiple of. -/
def unitN (l k : Int) : Nat := if k = 2 then spn l else 4096
theorem unit_any (l k : Int) (w : World) : Calls Try.prog 96 #[.int .i64 l, .int .i64 k] w fun e w' => e = .returned (.int .u64 (unitN l k : Nat)) ∧ w' = w := by
  have c1 := span_any l
  by_cases c : k = 2
  · subst c
    rw [show unitN l 2 = spn l from by unfold unitN; rw [if_pos rfl]]
    generalize spn l = r at *
    go_enter Try.func96, Try.ntmps96
    go_wp2_with (go_at_call 78; with_reducible refine (c1 _).mono ?_; rintro e w' ⟨rfl, rfl⟩)
    go_ret
    exact ⟨rfl, rfl⟩
  · rw [show unitN l k = 4096 from by unfold unitN; rw [if_neg c]]
    go_enter Try.func96, Try.ntmps96
    go_wp2
    go_ret
    exact ⟨rfl, rfl⟩

/-- The bit of a word. -/
def btN (u i : Nat) : Bool := decide (fieldN u i 1 = 1)
theorem hasBit_any (u i : Nat) (w : World) (hu : u < 18446744073709551616) (hi : i < 64) :
    Calls Try.prog 92 #[.int .u64 (u : Int), .int .i64 (i : Int)] w fun e w' => e = .returned (.bool (btN u i)) ∧ Dr w w' := by
  have c1 : ∀ w, Calls Try.prog 89 #[.int .u64 (u : Int), .int .i64 (i : Int), .int .i64 1] w fun e w' => e = .returned (.int .u64 (fieldN u i 1 : Nat)) ∧ Dr w w' := fun w => field_any u i 1 w hu (by decide) (by omega)
  unfold btN
  clear hu hi
  generalize fieldN u i 1 = r at *
  by_cases c : r = 1
  · rw [decide_eq_true c]
    subst c
    go_enter Try.func92, Try.ntmps92
    go_wp2_with fail
    with_reducible refine (c1 _).mono ?_
    rintro e w1 ⟨rfl, D⟩
    have HD : Hid _ := D
    clear D
    go_wp2
    go_ret
    exact ⟨rfl, HD.out⟩
  · rw [decide_eq_false c]
    have c2 : ((r : Int) == 1) = false := by rw [beq_eq_false_iff_ne]; omega
    go_enter Try.func92, Try.ntmps92
    go_wp2_with fail
    with_reducible refine (c1 _).mono ?_
    rintro e w1 ⟨rfl, D⟩
    have HD : Hid _ := D
    clear D
    go_wp2
    go_ret
    exact ⟨rfl, HD.out⟩

/-- Is one of the n bits from i on set? -/
def bsN (u i n : Nat) : Bool := decide (fieldN u i n ≠ 0)
theorem hasBits_any (u i n m : Nat) (w : World) (hu : u < 18446744073709551616) (hn : 1 ≤ n) (hm : i + n = m) (hi : m ≤ 64) :
    Calls Try.prog 94 #[.int .u64 (u : Int), .int .i64 (i : Int), .int .i64 (m : Int)] w fun e w' => e = .returned (.bool (bsN u i n)) ∧ Dr w w' := by
  have c1 := fun w => field_any u i n w hu hn (by omega)
  have z : (m : Int) - i = n := by omega
  have z2 : (m : Int) ≤ 64 := by omega
  unfold bsN
  clear hu
  generalize fieldN u i n = r at *
  by_cases c : r = 0
  · rw [decide_eq_false (by omega)]
    subst c
    go_enter Try.func94, Try.ntmps94
    go_wp2_with fail
    with_reducible refine (c1 _).mono ?_
    rintro e w1 ⟨rfl, D⟩
    have HD : Hid _ := D
    clear D
    go_wp2
    go_ret
    exact ⟨rfl, HD.out⟩
  · rw [decide_eq_true c]
    have c2 : ((r : Int) != 0) = true := by rw [bne_iff_ne]; omega
    go_enter Try.func94, Try.ntmps94
    go_wp2_with fail
    with_reducible refine (c1 _).mono ?_
    rintro e w1 ⟨rfl, D⟩
    have HD : Hid _ := D
    clear D
    go_wp2
    go_ret
    exact ⟨rfl, HD.out⟩

/-- A truth as a number. -/
def oneN (b : Bool) : Nat := if b = true then 1 else 0
/-- The kind that a word says at a level. -/
def kdN (l : Int) (u : Nat) : Int := if btN u 1 = false then 2 else if l = 3 then 3 else 1
theorem kindOf_any (l : Int) (u : Nat) (w : World) (hu : u < 18446744073709551616) :
    Calls Try.prog 99 #[.int .i64 l, .int .u64 (u : Int)] w fun e w' => e = .returned (.int .i64 (kdN l u)) ∧ Dr w w' := by
  have c1 : ∀ w, Calls Try.prog 92 #[.int .u64 (u : Int), .int .i64 1] w fun e w' => e = .returned (.bool (btN u 1)) ∧ Dr w w' := fun w => hasBit_any u 1 w hu (by decide)
  unfold kdN
  clear hu
  generalize btN u 1 = b at *
  cases b
  · rw [if_pos rfl]
    go_enter Try.func99, Try.ntmps99
    go_wp2_with fail
    with_reducible refine (c1 _).mono ?_
    rintro e w1 ⟨rfl, D⟩
    have HD : Hid _ := D
    clear D
    go_wp2
    go_ret
    exact ⟨rfl, HD.out⟩
  · rw [if_neg (by decide)]
    by_cases c : l = 3
    · subst c
      rw [if_pos rfl]
      go_enter Try.func99, Try.ntmps99
      go_wp2_with fail
      with_reducible refine (c1 _).mono ?_
      rintro e w1 ⟨rfl, D⟩
      have HD : Hid _ := D
      clear D
      go_wp2
      go_ret
      exact ⟨rfl, HD.out⟩
    · rw [if_neg c]
      go_enter Try.func99, Try.ntmps99
      go_wp2_with fail
      with_reducible refine (c1 _).mono ?_
      rintro e w1 ⟨rfl, D⟩
      have HD : Hid _ := D
      clear D
      go_wp2
      go_ret
      exact ⟨rfl, HD.out⟩

end Go.Proofs.Ytclcickhgoiooaa

/- Permissions: like ones; one in a block of one's own. -/
namespace Go.Proofs.Ytclcickhgoiooaa
open Go.RowKit

theorem eq_perm (n : Nat) (a b c a' b' c' : Bool) (w : World) : (Op.equalIn (n + 2) 31 (.agg #[.bool a, .bool b, .bool c]) (.agg #[.bool a', .bool b', .bool c'])).run Try.prog w = .ok ((a == a') && (b == b') && (c == c')) w := by
  rw [run_equalIn_struct w (n + 1) _ _ _ (by kernel_rfl) (by kernel_rfl)]
  have pe : ∀ x y : Bool, (Op.equalIn (n + 1) 4 (.bool x) (.bool y)).run Try.prog w = .ok (x == y) w := fun x y => run_equalIn_bool w n 4 x y Try.underlying4
  have p0 : ∀ x y z : Bool, (part 4 #[.bool x, .bool y, .bool z] 0).run Try.prog w = .ok (.bool x) w := fun x y z => by simp [part, isAgg, run_underlying Try.underlying4]
  have p1 : ∀ x y z : Bool, (part 4 #[.bool x, .bool y, .bool z] 1).run Try.prog w = .ok (.bool y) w := fun x y z => by simp [part, isAgg, run_underlying Try.underlying4]
  have p2 : ∀ x y z : Bool, (part 4 #[.bool x, .bool y, .bool z] 2).run Try.prog w = .ok (.bool z) w := fun x y z => by simp [part, isAgg, run_underlying Try.underlying4]
  simp only [Program.fieldsOf, Try.underlying31, Op.eqFields]
  cases a <;> cases a' <;> cases b <;> cases b' <;> cases c <;> cases c' <;> simp [p0, p1, p2, pe]

/-- Are two permissions alike? -/
def samP (a b c a' b' c' : Bool) : Bool := (a == a') && (b == b') && (c == c')
theorem samP_eq {a b c a' b' c' : Bool} : samP a b c a' b' c' = true ↔ a = a' ∧ b = b' ∧ c = c' := by
  cases a <;> cases a' <;> cases b <;> cases b' <;> cases c <;> cases c' <;> simp [samP]
theorem eq_permP (a b c a' b' c' : Bool) (w : World) : (Op.equalIn 10000 31 (.agg #[.bool a, .bool b, .bool c]) (.agg #[.bool a', .bool b', .bool c'])).run Try.prog w = .ok (samP a b c a' b' c') w := eq_perm 9998 a b c a' b' c' w

/-- The permission lies in the block b. -/
def PX (w : World) (b : Nat) (r q x : Bool) : Prop := w.heap[b]? = some (.cells #[.bool r, .bool q, .bool x] 31)
section
variable {W w w' : World} {b : Nat} {r q x : Bool}
theorem PX.c0 (h : PX w b r q x) : w.cell? ⟨b, 0, none⟩ = some (.bool r) := by rw [cell_of_row _ _ 0 _ _ _ h]; rfl
theorem PX.c1 (h : PX w b r q x) : w.cell? ⟨b, 1, none⟩ = some (.bool q) := by rw [cell_of_row _ _ 1 _ _ _ h]; rfl
theorem PX.c2 (h : PX w b r q x) : w.cell? ⟨b, 2, none⟩ = some (.bool x) := by rw [cell_of_row _ _ 2 _ _ _ h]; rfl
theorem PX.lt (h : PX w b r q x) : b < w.heap.size := by
  unfold PX at h
  by_cases c : b < w.heap.size
  · exact c
  · rw [show w.heap[b]? = none from by simp; omega] at h; cases h
theorem PX.kp (h : PX w b r q x) (g : Kp w w') : PX w' b r q x := (g.block b h.lt).trans h
theorem PX.made (w : World) (r q x : Bool) : PX (w.alloc (.cells #[.bool r, .bool q, .bool x] 31)) w.heap.size r q x := heap_alloc_new w _
theorem PX.made2 (w : World) (o1 o2 : Obj) (r q x : Bool) : PX (((w.alloc o1).alloc o2).alloc (.cells #[.bool r, .bool q, .bool x] 31)) (w.heap.size + 1 + 1) r q x := by
  have h := PX.made ((w.alloc o1).alloc o2) r q x
  simpa using h
theorem PX.made1 (w : World) (o1 : Obj) (r q x : Bool) : PX ((w.alloc o1).alloc (.cells #[.bool r, .bool q, .bool x] 31)) (w.heap.size + 1) r q x := by
  have h := PX.made (w.alloc o1) r q x
  simpa using h
theorem PX.fz (h : PX w b r q x) (j : Nat) : w.frozen? ⟨b, j, none⟩ = false := frozen_of_row w b j _ _ h
/-- The world behind a store of a whole permission. -/
def putP (w : World) (b : Nat) (r q x : Bool) : World := ((w.setCell ⟨b, 0, none⟩ (.bool r)).setCell ⟨b, 1, none⟩ (.bool q)).setCell ⟨b, 2, none⟩ (.bool x)
theorem PX.put (h : PX w b r q x) (r' q' x' : Bool) : PX (putP w b r' q' x') b r' q' x' := by
  have h0 := heap_setCell_same w b 0 _ _ (.bool r') h
  have h1 := heap_setCell_same _ b 1 _ _ (.bool q') h0
  have h2 := heap_setCell_same _ b 2 _ _ (.bool x') h1
  exact h2
theorem Kp.putP (h : Kp W w) (hb : W.heap.size ≤ b) : Kp W (putP w b r q x) := ((h.set _ _ hb).set _ _ hb).set _ _ hb
theorem putP_other {c : Nat} {r' q' x' : Bool} (h : PX w c r' q' x') (hb : c ≠ b) : PX (Go.Proofs.Ytclcickhgoiooaa.putP w b r q x) c r' q' x' := by
  show (Go.Proofs.Ytclcickhgoiooaa.putP w b r q x).heap[c]? = _
  unfold Go.Proofs.Ytclcickhgoiooaa.putP
  rw [heap_setCell_other _ _ _ _ hb, heap_setCell_other _ _ _ _ hb, heap_setCell_other _ _ _ _ hb]
  exact h
theorem PX.load (h : PX w b r q x) : (loadVar 31 ⟨b, 0, none⟩).run Try.prog w = .ok (.agg #[.bool r, .bool q, .bool x]) w :=
  run_loadVar_row w b _ 31 _ _ _ h Try.underlying31 rfl (by kernel_rfl)
theorem res_p {fn : Func} {c : Tmp} {tmps : Array Value} (hf : fn.results = #[.cell c 31]) (hc : tmps.getD c undef = .pointer (some ⟨b, 0, none⟩)) (B : PX w b r q x) :
    (results fn tmps).run Try.prog w = .ok (.agg #[.bool r, .bool q, .bool x]) w := by
  have hc' : tmps[c]?.getD undef = .pointer (some ⟨b, 0, none⟩) := by simpa using hc
  simp [results, hf, hc', asAddr, B.load]
theorem res_p2 {fn : Func} {c t : Tmp} {tmps : Array Value} (hf : fn.results = #[.cell c 31, .tmp t]) (hc : tmps.getD c undef = .pointer (some ⟨b, 0, none⟩)) (B : PX w b r q x) :
    (results fn tmps).run Try.prog w = .ok (.tuple #[.agg #[.bool r, .bool q, .bool x], tmps.getD t undef]) w := by
  have hc' : tmps[c]?.getD undef = .pointer (some ⟨b, 0, none⟩) := by simpa using hc
  simp [results, hf, hc', asAddr, B.load]
end

end Go.Proofs.Ytclcickhgoiooaa

/- desc: like structs; formed; Check. -/
namespace Go.Proofs.Ytclcickhgoiooaa
open Go.RowKit

/-- A descriptor, as the program holds it. -/
theorem eq_desc (k a k' a' s s' : Int) (r q x r' q' x' : Bool) (w : World) : (Op.equalIn 10000 73 (.agg #[.int .i64 k, .int .u64 a, .bool r, .bool q, .bool x, .int .i64 s]) (.agg #[.int .i64 k', .int .u64 a', .bool r', .bool q', .bool x', .int .i64 s'])).run Try.prog w =
    .ok ((k == k') && (a == a') && ((r == r') && (q == q') && (x == x')) && (s == s')) w := by
  rw [show (10000 : Nat) = 9999 + 1 from rfl, run_equalIn_struct w 9999 _ _ _ (by kernel_rfl) (by kernel_rfl)]
  have pi : ∀ x y : Int, (Op.equalIn 9999 3 (.int .i64 x) (.int .i64 y)).run Try.prog w = .ok (x == y) w := fun x y => run_equalIn_int w 9998 3 .i64 .i64 x y Try.underlying3
  have pu : ∀ x y : Int, (Op.equalIn 9999 23 (.int .u64 x) (.int .u64 y)).run Try.prog w = .ok (x == y) w := fun x y => run_equalIn_int w 9998 23 .u64 .u64 x y Try.underlying23
  have pp : ∀ a b c a' b' c' : Bool, (Op.equalIn 9999 31 (.agg #[.bool a, .bool b, .bool c]) (.agg #[.bool a', .bool b', .bool c'])).run Try.prog w = .ok ((a == a') && (b == b') && (c == c')) w := fun a b c a' b' c' => eq_perm 9997 a b c a' b' c' w
  have h0 : ∀ (k a : Int) (r q x : Bool) (s : Int), (part 3 #[.int .i64 k, .int .u64 a, .bool r, .bool q, .bool x, .int .i64 s] 0).run Try.prog w = .ok (.int .i64 k) w := fun k a r q x s => by simp [part, isAgg, run_underlying Try.underlying3]
  have h1 : ∀ (k a : Int) (r q x : Bool) (s : Int), (part 23 #[.int .i64 k, .int .u64 a, .bool r, .bool q, .bool x, .int .i64 s] 1).run Try.prog w = .ok (.int .u64 a) w := fun k a r q x s => by simp [part, isAgg, run_underlying Try.underlying23]
  have h2 : ∀ (k a : Int) (r q x : Bool) (s : Int), (part 31 #[.int .i64 k, .int .u64 a, .bool r, .bool q, .bool x, .int .i64 s] 2).run Try.prog w = .ok (.agg #[.bool r, .bool q, .bool x]) w := fun k a r q x s => by
    simp [part, isAgg, run_underlying Try.underlying31]
  have h3 : ∀ (k a : Int) (r q x : Bool) (s : Int), (part 3 #[.int .i64 k, .int .u64 a, .bool r, .bool q, .bool x, .int .i64 s] 5).run Try.prog w = .ok (.int .i64 s) w := fun k a r q x s => by simp [part, isAgg, run_underlying Try.underlying3]
  have e0 := pi k k'
  have e1 := pu a a'
  have e2 := pp r q x r' q' x'
  have e3 := pi s s'
  clear pi pu pp
  generalize (k == k') = c0 at *
  generalize (a == a') = c1 at *
  generalize ((r == r') && (q == q') && (x == x')) = c2 at *
  generalize (s == s') = c3 at *
  simp only [Program.fieldsOf, Try.underlying73, Op.eqFields]
  cases c0 <;> cases c1 <;> cases c2 <;> cases c3 <;> simp [h0, h1, h2, h3, e0, e1, e2, e3]

/-- Do a descriptor's parts go with its kind, with each other and with the level? -/
def fm (l k a : Int) (r q x : Bool) (s : Int) : Bool :=
  if (q && !r) = true then false else if k = 1 then decide (l ≠ 3) && (!r && !q && !x) else if k = 2 then decide (l ≠ 0) && decide (l ≠ 3) else if k = 3 then decide (l = 3)
  else decide (k = 0) && decide (a = 0) && (!r && !q && !x) && decide (s = 0)

set_option maxHeartbeats 4000000 in
theorem formed_any (l k a : Int) (r q x : Bool) (s : Int) (w : World) :
    Calls Try.prog 95 #[.int .i64 l, .agg #[.int .i64 k, .int .u64 a, .bool r, .bool q, .bool x, .int .i64 s]] w fun e w' => e = .returned (.bool (fm l k a r q x s)) ∧ Kp w w' := by
  have hp : ∀ (a b c : Bool) w, (Op.equalIn 10000 31 (.agg #[.bool a, .bool b, .bool c]) (.agg #[.bool false, .bool false, .bool false])).run Try.prog w = .ok (!a && !b && !c) w := fun a b c w => by have := eq_perm 9998 a b c false false false w; rw [this]; cases a <;> cases b <;> cases c <;> rfl
  have hd : ∀ (k a : Int) (r q x : Bool) (s : Int) w, (Op.equalIn 10000 73 (.agg #[.int .i64 k, .int .u64 a, .bool r, .bool q, .bool x, .int .i64 s]) (.agg #[.int .i64 0, .int .u64 0, .bool false, .bool false, .bool false, .int .i64 0])).run Try.prog w =
    .ok (decide (k = 0) && decide (a = 0) && (!r && !q && !x) && decide (s = 0)) w := fun k a r q x s w => by have := eq_desc k a 0 0 s 0 r q x false false false w; rw [this]; cases r <;> cases q <;> cases x <;> simp <;> rfl
  by_cases hb : (q && !r) = true
  · rw [fm, if_pos hb]
    obtain ⟨rfl, rfl⟩ : q = true ∧ r = false := by cases q <;> cases r <;> simp at hb ⊢
    go_enter Try.func95, Try.ntmps95
    go_wp2
    go_ret
    exact ⟨rfl, (Kp.refl _).alloc _⟩
  have hc : (q = false ∧ (r = false ∨ r = true)) ∨ (q = true ∧ r = true) := by cases q <;> cases r <;> simp at hb ⊢
  rw [fm, if_neg hb]
  clear hb
  by_cases c1 : k = 1
  · subst c1
    rw [if_pos rfl]
    by_cases c : l = 3
    · subst c
      rw [show decide ((3 : Int) ≠ 3) = false from rfl, Bool.false_and]
      rcases hc with ⟨rfl, rfl | rfl⟩ | ⟨rfl, rfl⟩
      all_goals
        go_enter Try.func95, Try.ntmps95
        go_wp2
        go_ret
        exact ⟨rfl, (Kp.refl _).alloc _⟩
    · have d1 : (l != 3) = true := by rw [bne_iff_ne]; exact c
      rw [decide_eq_true c, Bool.true_and]
      rcases hc with ⟨rfl, rfl | rfl⟩ | ⟨rfl, rfl⟩
      all_goals
        go_enter Try.func95, Try.ntmps95
        go_wp2
        go_ret
        exact ⟨rfl, (Kp.refl _).alloc _⟩
  by_cases c2 : k = 2
  · subst c2
    rw [if_neg c1, if_pos rfl]
    by_cases c : l = 0
    · subst c
      rw [show decide ((0 : Int) ≠ 0) = false from rfl, Bool.false_and]
      rcases hc with ⟨rfl, rfl | rfl⟩ | ⟨rfl, rfl⟩
      all_goals
        go_enter Try.func95, Try.ntmps95
        go_wp2
        go_ret
        exact ⟨rfl, (Kp.refl _).alloc _⟩
    by_cases c' : l = 3
    · subst c'
      rw [show decide ((3 : Int) ≠ 3) = false from rfl, Bool.and_false]
      rcases hc with ⟨rfl, rfl | rfl⟩ | ⟨rfl, rfl⟩
      all_goals
        go_enter Try.func95, Try.ntmps95
        go_wp2
        go_ret
        exact ⟨rfl, (Kp.refl _).alloc _⟩
    · have d1 : (l != 3) = true := by rw [bne_iff_ne]; exact c'
      have d2 : (l != 0) = true := by rw [bne_iff_ne]; exact c
      rw [decide_eq_true c, decide_eq_true c', Bool.true_and]
      rcases hc with ⟨rfl, rfl | rfl⟩ | ⟨rfl, rfl⟩
      all_goals
        go_enter Try.func95, Try.ntmps95
        go_wp2
        go_ret
        exact ⟨rfl, (Kp.refl _).alloc _⟩
  by_cases c3 : k = 3
  · subst c3
    rw [if_neg c1, if_neg c2, if_pos rfl]
    by_cases c : l = 3
    · subst c
      rw [show decide ((3 : Int) = 3) = true from rfl]
      rcases hc with ⟨rfl, rfl | rfl⟩ | ⟨rfl, rfl⟩
      all_goals
        go_enter Try.func95, Try.ntmps95
        go_wp2
        go_ret
        exact ⟨rfl, (Kp.refl _).alloc _⟩
    · have c' : (l == 3) = false := by rw [beq_eq_false_iff_ne]; exact c
      rw [decide_eq_false c]
      rcases hc with ⟨rfl, rfl | rfl⟩ | ⟨rfl, rfl⟩
      all_goals
        go_enter Try.func95, Try.ntmps95
        go_wp2
        go_ret
        exact ⟨rfl, (Kp.refl _).alloc _⟩
  rw [if_neg c1, if_neg c2, if_neg c3]
  rcases hc with ⟨rfl, rfl | rfl⟩ | ⟨rfl, rfl⟩
  all_goals
    go_enter Try.func95, Try.ntmps95
    go_wp2
    go_ret
    exact ⟨by first | rfl | simp, (Kp.refl _).alloc _⟩

end Go.Proofs.Ytclcickhgoiooaa

/- desc: a descriptor in a block of one's own; Check. -/
namespace Go.Proofs.Ytclcickhgoiooaa
open Go.RowKit

/-- The descriptor lies in the block b. -/
def BX (w : World) (b : Nat) (k a : Int) (r q x : Bool) (f : Int) : Prop := w.heap[b]? = some (.cells #[.int .i64 k, .int .u64 a, .bool r, .bool q, .bool x, .int .i64 f] 73)
section
variable {w w' : World} {b : Nat} {k a : Int} {r q x : Bool} {f : Int}
theorem BX.c0 (h : BX w b k a r q x f) : w.cell? ⟨b, 0, none⟩ = some (.int .i64 k) := by rw [cell_of_row _ _ 0 _ _ _ h]; rfl
theorem BX.c1 (h : BX w b k a r q x f) : w.cell? ⟨b, 1, none⟩ = some (.int .u64 a) := by rw [cell_of_row _ _ 1 _ _ _ h]; rfl
theorem BX.c2 (h : BX w b k a r q x f) : w.cell? ⟨b, 2, none⟩ = some (.bool r) := by rw [cell_of_row _ _ 2 _ _ _ h]; rfl
theorem BX.c3 (h : BX w b k a r q x f) : w.cell? ⟨b, 3, none⟩ = some (.bool q) := by rw [cell_of_row _ _ 3 _ _ _ h]; rfl
theorem BX.c4 (h : BX w b k a r q x f) : w.cell? ⟨b, 4, none⟩ = some (.bool x) := by rw [cell_of_row _ _ 4 _ _ _ h]; rfl
theorem BX.c5 (h : BX w b k a r q x f) : w.cell? ⟨b, 5, none⟩ = some (.int .i64 f) := by rw [cell_of_row _ _ 5 _ _ _ h]; rfl
theorem BX.lt (h : BX w b k a r q x f) : b < w.heap.size := by
  unfold BX at h
  by_cases c : b < w.heap.size
  · exact c
  · rw [show w.heap[b]? = none from by simp; omega] at h; cases h
theorem BX.kp (h : BX w b k a r q x f) (g : Kp w w') : BX w' b k a r q x f := (g.block b h.lt).trans h
theorem BX.made (w : World) (k a : Int) (r q x : Bool) (f : Int) : BX (w.alloc (.cells #[.int .i64 k, .int .u64 a, .bool r, .bool q, .bool x, .int .i64 f] 73)) w.heap.size k a r q x f := heap_alloc_new w _
end

/-- What refuses a descriptor. -/
def dchk (s l k : Int) (a : Nat) (r q x : Bool) (f : Int) : Int :=
  if ¬ (isPl s l = true ∧ isKd k = true ∧ 0 ≤ f ∧ f ≤ 15) then 1 else if fm l k a r q x f = false then 4 else if topS s ≤ a then 2 else if a % unitN l k ≠ 0 then 3 else 0
theorem unit_pos {s l k : Int} (h : isPl s l = true) : 0 < unitN l k := by
  have := isPl_iff.1 h
  unfold unitN
  split
  · unfold spn; rw [if_pos (isLv_iff.2 ⟨this.2.2.1, this.2.2.2⟩)]; exact Nat.two_pow_pos _
  · decide

end Go.Proofs.Ytclcickhgoiooaa

/- desc: the word of a descriptor; Encode. -/
namespace Go.Proofs.Ytclcickhgoiooaa
open Go.RowKit

theorem and_low {u M low : Nat} (hu : u < 2 ^ low) (hM : M % 2 ^ low = 2 ^ low - 1) : u &&& M = u := by
  have e : u &&& M = (u &&& M) % 2 ^ low := (Nat.mod_eq_of_lt (Nat.lt_of_le_of_lt Nat.and_le_left hu)).symm
  rw [e, Nat.and_mod_two_pow, hM, Nat.and_two_pow_sub_one_eq_mod, Nat.mod_mod, Nat.mod_eq_of_lt hu]
theorem set_low {u low n v : Nat} (hu : u < 2 ^ low) (hM : (18446744073709551615 - on n * 2 ^ low) % 2 ^ low = 2 ^ low - 1) (hv : v < 2 ^ n) : setN u low n v = u + v * 2 ^ low := by
  unfold setN
  rw [and_low hu hM, Nat.mod_eq_of_lt hv, Nat.or_comm, Nat.mul_comm, ← Nat.two_pow_add_eq_or_of_lt hu, Nat.add_comm]
theorem one_lt (b : Bool) : oneN b < 2 := by cases b <;> decide

/-- A descriptor's word. -/
def wrd (k : Int) (a : Nat) (r q x : Bool) (f : Int) : Nat :=
  if k = 0 then 0 else 1 + 2 * oneN (k != 2) + 64 * oneN r + 128 * oneN q + 256 * oneN x + a + f.toNat * 36028797018963968
/-- What Encode tells. -/
def dencN (s l k : Int) (a : Nat) (r q x : Bool) (f : Int) : Nat := if dchk s l k a r q x f = 0 then wrd k a r q x f else 0

theorem unit_dvd {s l k : Int} (h : isPl s l = true) : 4096 ∣ unitN l k := by
  have := isPl_iff.1 h
  unfold unitN
  split
  · unfold spn
    rw [if_pos (isLv_iff.2 ⟨this.2.2.1, this.2.2.2⟩)]
    exact Nat.pow_dvd_pow 2 (m := 12) (by unfold sh; omega)
  · exact Nat.dvd_refl _
theorem chk_ok {s l k : Int} {a : Nat} {r q x : Bool} {f : Int} (h : dchk s l k a r q x f = 0) :
    isPl s l = true ∧ isKd k = true ∧ (0 ≤ f ∧ f ≤ 15) ∧ fm l k a r q x f = true ∧ a < topS s ∧ a % unitN l k = 0 := by
  unfold dchk at h
  split at h
  · cases h
  rename_i h1
  split at h
  · cases h
  rename_i h2
  split at h
  · cases h
  rename_i h3
  split at h
  · cases h
  rename_i h4
  have h1 := Decidable.not_not.1 h1
  exact ⟨h1.1, h1.2.1, h1.2.2, by simpa using h2, by omega, by omega⟩
theorem top_le (s : Int) : topS s ≤ 1099511627776 := by unfold topS; split; exact Nat.le_refl _; split <;> decide
theorem chk_addr {s l k : Int} {a : Nat} {r q x : Bool} {f : Int} (h : dchk s l k a r q x f = 0) : ∃ c, a = c * 4096 ∧ c < 268435456 := by
  obtain ⟨h1, _, _, _, h5, h6⟩ := chk_ok h
  have := Nat.dvd_trans (unit_dvd h1 (k := k)) (Nat.dvd_of_mod_eq_zero h6)
  obtain ⟨c, hc⟩ := this
  have := top_le s
  exact ⟨c, by omega, by omega⟩

end Go.Proofs.Ytclcickhgoiooaa

/- desc: what a word's parts say. -/
namespace Go.Proofs.Ytclcickhgoiooaa
open Go.RowKit

section
variable {W w : World} {b : Nat} {k a : Int} {r q x : Bool} {f : Int}
theorem BX.fz (h : BX w b k a r q x f) (j : Nat) : w.frozen? ⟨b, j, none⟩ = false := frozen_of_row w b j _ _ h
/-- The world behind a store of a whole descriptor. -/
def putD (w : World) (b : Nat) (k a : Int) (r q x : Bool) (f : Int) : World :=
  (((((w.setCell ⟨b, 0, none⟩ (.int .i64 k)).setCell ⟨b, 1, none⟩ (.int .u64 a)).setCell ⟨b, 2, none⟩ (.bool r)).setCell ⟨b, 3, none⟩ (.bool q)).setCell ⟨b, 4, none⟩ (.bool x)).setCell ⟨b, 5, none⟩ (.int .i64 f)
theorem BX.put (h : BX w b k a r q x f) (k' a' : Int) (r' q' x' : Bool) (f' : Int) : BX (putD w b k' a' r' q' x' f') b k' a' r' q' x' f' := by
  have h0 := heap_setCell_same w b 0 _ _ (.int .i64 k') h
  have h1 := heap_setCell_same _ b 1 _ _ (.int .u64 a') h0
  have h2 := heap_setCell_same _ b 2 _ _ (.bool r') h1
  have h3 := heap_setCell_same _ b 3 _ _ (.bool q') h2
  have h4 := heap_setCell_same _ b 4 _ _ (.bool x') h3
  have h5 := heap_setCell_same _ b 5 _ _ (.int .i64 f') h4
  exact h5
theorem Kp.putD (h : Kp W w) (hb : W.heap.size ≤ b) : Kp W (putD w b k a r q x f) :=
  (((((h.set _ _ hb).set _ _ hb).set _ _ hb).set _ _ hb).set _ _ hb).set _ _ hb
theorem putD_other {c : Nat} {k' a' : Int} {r' q' x' : Bool} {f' : Int} (h : BX w c k' a' r' q' x' f') (hb : c ≠ b) : BX (Go.Proofs.Ytclcickhgoiooaa.putD w b k a r q x f) c k' a' r' q' x' f' := by
  show (Go.Proofs.Ytclcickhgoiooaa.putD w b k a r q x f).heap[c]? = _
  unfold Go.Proofs.Ytclcickhgoiooaa.putD
  rw [heap_setCell_other _ _ _ _ hb, heap_setCell_other _ _ _ _ hb, heap_setCell_other _ _ _ _ hb, heap_setCell_other _ _ _ _ hb, heap_setCell_other _ _ _ _ hb, heap_setCell_other _ _ _ _ hb]
  exact h
theorem BX.load (h : BX w b k a r q x f) : (loadVar 73 ⟨b, 0, none⟩).run Try.prog w = .ok (.agg #[.int .i64 k, .int .u64 a, .bool r, .bool q, .bool x, .int .i64 f]) w :=
  run_loadVar_row w b _ 73 _ _ _ h Try.underlying73 rfl (by kernel_rfl)
theorem res_d {fn : Func} {c : Tmp} {tmps : Array Value} (hf : fn.results = #[.cell c 73]) (hc : tmps.getD c undef = .pointer (some ⟨b, 0, none⟩)) (B : BX w b k a r q x f) :
    (results fn tmps).run Try.prog w = .ok (.agg #[.int .i64 k, .int .u64 a, .bool r, .bool q, .bool x, .int .i64 f]) w := by
  have hc' : tmps[c]?.getD undef = .pointer (some ⟨b, 0, none⟩) := by simpa using hc
  simp [results, hf, hc', asAddr, B.load]
theorem res_d2 {fn : Func} {c t : Tmp} {tmps : Array Value} (hf : fn.results = #[.cell c 73, .tmp t]) (hc : tmps.getD c undef = .pointer (some ⟨b, 0, none⟩)) (B : BX w b k a r q x f) :
    (results fn tmps).run Try.prog w = .ok (.tuple #[.agg #[.int .i64 k, .int .u64 a, .bool r, .bool q, .bool x, .int .i64 f], tmps.getD t undef]) w := by
  have hc' : tmps[c]?.getD undef = .pointer (some ⟨b, 0, none⟩) := by simpa using hc
  simp [results, hf, hc', asAddr, B.load]
end

/-- The address that a word says. -/
def adN (u : Nat) : Nat := fieldN u 12 36 * 4096

set_option maxHeartbeats 4000000 in
theorem dparts_any (l : Int) (u : Nat) (w : World) (hu : u < 18446744073709551616) :
    Calls Try.prog 93 #[.int .i64 l, .int .u64 (u : Int)] w fun e w' => e = .returned (.agg #[.int .i64 (kdN l u), .int .u64 (adN u : Nat), .bool (btN u 6), .bool (btN u 7), .bool (btN u 8), .int .i64 (fieldN u 55 4 : Nat)]) ∧ Kp w w' := by
  have s1 : Aside (∀ w, Calls Try.prog 99 #[.int .i64 l, .int .u64 (u : Int)] w fun e w' => e = .returned (.int .i64 (kdN l u)) ∧ Dr w w') := fun w => kindOf_any l u w hu
  have s2 : Aside (∀ w, Calls Try.prog 89 #[.int .u64 (u : Int), .int .i64 12, .int .i64 36] w fun e w' => e = .returned (.int .u64 (fieldN u 12 36 : Nat)) ∧ Dr w w') := fun w => field_any u 12 36 w hu (by decide) (by decide)
  have s3 : Aside (∀ w, Calls Try.prog 92 #[.int .u64 (u : Int), .int .i64 6] w fun e w' => e = .returned (.bool (btN u 6)) ∧ Dr w w') := fun w => hasBit_any u 6 w hu (by decide)
  have s4 : Aside (∀ w, Calls Try.prog 92 #[.int .u64 (u : Int), .int .i64 7] w fun e w' => e = .returned (.bool (btN u 7)) ∧ Dr w w') := fun w => hasBit_any u 7 w hu (by decide)
  have s5 : Aside (∀ w, Calls Try.prog 92 #[.int .u64 (u : Int), .int .i64 8] w fun e w' => e = .returned (.bool (btN u 8)) ∧ Dr w w') := fun w => hasBit_any u 8 w hu (by decide)
  have s6 : Aside (∀ w, Calls Try.prog 89 #[.int .u64 (u : Int), .int .i64 55, .int .i64 4] w fun e w' => e = .returned (.int .u64 (fieldN u 55 4 : Nat)) ∧ Dr w w') := fun w => field_any u 55 4 w hu (by decide) (by decide)
  have l1 := field_lt u 12 36
  have l2 := field_lt u 55 4
  unfold adN
  clear hu
  generalize fieldN u 12 36 = a at *
  generalize fieldN u 55 4 = f at *
  generalize kdN l u = k at *
  generalize btN u 6 = r at *
  generalize btN u 7 = q at *
  generalize btN u 8 = x at *
  go_enter Try.func93, Try.ntmps93
  go_wp2_with fail
  with_reducible refine (s1.out _).mono ?_
  rintro e w1 ⟨rfl, D⟩
  have B1 := (BX.made w 0 0 false false false 0).kp D.kp
  have HK : Hid (Kp w w1) := ((Kp.refl _).alloc _).trans D.kp
  have HB : Hid (BX w1 w.heap.size 0 0 false false false 0) := B1
  clear D B1
  go_wp2_with fail
  with_reducible refine (s2.out _).mono ?_
  rintro e w2 ⟨rfl, D⟩
  have HK' : Hid (Kp w w2) := HK.out.trans D.kp
  have HB' : Hid (BX w2 w.heap.size 0 0 false false false 0) := HB.out.kp D.kp
  clear D HK HB
  go_wp2_with fail
  with_reducible refine (s3.out _).mono ?_
  rintro e w3 ⟨rfl, D⟩
  have HK : Hid (Kp w w3) := HK'.out.trans D.kp
  have HB : Hid (BX w3 w.heap.size 0 0 false false false 0) := HB'.out.kp D.kp
  clear D HK' HB'
  go_wp2_with fail
  with_reducible refine (s4.out _).mono ?_
  rintro e w4 ⟨rfl, D⟩
  have HK' : Hid (Kp w w4) := HK.out.trans D.kp
  have HB' : Hid (BX w4 w.heap.size 0 0 false false false 0) := HB.out.kp D.kp
  clear D HK HB
  go_wp2_with fail
  with_reducible refine (s5.out _).mono ?_
  rintro e w5 ⟨rfl, D⟩
  have HK : Hid (Kp w w5) := HK'.out.trans D.kp
  have HB : Hid (BX w5 w.heap.size 0 0 false false false 0) := HB'.out.kp D.kp
  clear D HK' HB'
  go_wp2_with fail
  with_reducible refine (s6.out _).mono ?_
  rintro e w6 ⟨rfl, D⟩
  have HK' : Hid (Kp w w6) := HK.out.trans D.kp
  have B := HB.out.kp D.kp
  have x0 := B.c0
  have x1 := B.c1
  have x2 := B.c2
  have x3 := B.c3
  have x4 := B.c4
  have x5 := B.c5
  have y0 := B.fz 0
  have y1 := B.fz 1
  have y2 := B.fz 2
  have y3 := B.fz 3
  have y4 := B.fz 4
  have y5 := B.fz 5
  have HB2 : Hid (BX w6 w.heap.size 0 0 false false false 0) := B
  have f1 : (f : Int) < 16 := by omega
  have a1 : (a : Int) < 68719476736 := by omega
  clear D B HK l1 l2
  go_wp2_with fail
  refine bodyPost_ret (res_d rfl rfl (BX.put HB2.out k (a * 4096) r q x f)) rfl ⟨?_, HK'.out.putD (Nat.le_refl _)⟩
  rw [show ((a * 4096 : Nat) : Int) = (a : Int) * 4096 from by omega]

end Go.Proofs.Ytclcickhgoiooaa

/- desc: Decode. -/
namespace Go.Proofs.Ytclcickhgoiooaa
open Go.RowKit

/-- What Decode tells, by its tests. -/
def outE (pl b0 g fo t m : Bool) : Int := if pl = false then 1 else if b0 = false then 0 else if g = true then 4 else if fo = false then 4 else if t = true then 2 else if m = true then 4 else 0
def outG (pl b0 g fo t m : Bool) : Bool := pl && b0 && !g && fo && !t && !m
/-- Has a word one of the bits that may not be? -/
def rsv (u : Nat) : Bool := bsN u 2 4 || bsN u 9 3 || bsN u 48 7 || bsN u 59 5
def fmW (l : Int) (u : Nat) : Bool := fm l (kdN l u) (adN u : Nat) (btN u 6) (btN u 7) (btN u 8) (fieldN u 55 4 : Nat)
def decE (s l : Int) (u : Nat) : Int := outE (isPl s l) (btN u 0) (rsv u) (fmW l u) (decide (topS s ≤ adN u)) (decide (adN u % unitN l (kdN l u) ≠ 0))
def decG (s l : Int) (u : Nat) : Bool := outG (isPl s l) (btN u 0) (rsv u) (fmW l u) (decide (topS s ≤ adN u)) (decide (adN u % unitN l (kdN l u) ≠ 0))

/-- What holds at the jumps to the end. -/
def decJ (w : World) (b : Nat) (X : Int) (Y : Bool) : Act → World → Prop := fun a' w' => ∃ (E : Int) (u0 u1 u2 u3 u4 u5 u7 u8 u10 u11 u12 u13 u14 u15 u16 u17 u18 u19 u20 u21 u22 u23 u24 u25 u26 u27 u28 u29 u30 u31 u32 u33 u34 u35 u36 u37 u38 u39 u40 u41 u42 u43 u44 u45 u46 u47 u48 u49 : Value), a' = { tmps := #[u0, u1, u2, u3, u4, u5, .pointer (some ⟨b, 0, none⟩), u7, u8, .int .i64 E, u10, u11, u12, u13, u14, u15, u16, u17, u18, u19, u20, u21, u22, u23, u24, u25, u26, u27, u28, u29, u30, u31, u32, u33, u34, u35, u36, u37, u38, u39, u40, u41, u42, u43, u44, u45, u46, u47, u48, u49], defers := [] } ∧ X = E ∧ Y = false ∧ Kp w w' ∧ BX w' b 0 0 false false false 0

set_option maxHeartbeats 8000000 in
set_option maxRecDepth 10000 in
theorem decode_any (s l : Int) (u : Nat) (w : World) (hu : u < 18446744073709551616) :
    Calls Try.prog 84 #[.int .i64 s, .int .i64 l, .int .u64 (u : Int)] w fun e w' => e = .returned (.tuple #[.agg #[.int .i64 (cond (decG s l u) (kdN l u) 0), .int .u64 ((cond (decG s l u) (adN u) 0 : Nat) : Int), .bool (cond (decG s l u) (btN u 6) false), .bool (cond (decG s l u) (btN u 7) false), .bool (cond (decG s l u) (btN u 8) false), .int .i64 ((cond (decG s l u) (fieldN u 55 4) 0 : Nat) : Int)], .int .i64 (decE s l u)]) ∧ Kp w w' := by
  have c1 := isPlace_any s l
  have s0 : Aside (∀ w, Calls Try.prog 92 #[.int .u64 (u : Int), .int .i64 0] w fun e w' => e = .returned (.bool (btN u 0)) ∧ Dr w w') := fun w => hasBit_any u 0 w hu (by decide)
  have sp : Aside (∀ w, Calls Try.prog 93 #[.int .i64 l, .int .u64 (u : Int)] w fun e w' => e = .returned (.agg #[.int .i64 (kdN l u), .int .u64 (adN u : Nat), .bool (btN u 6), .bool (btN u 7), .bool (btN u 8), .int .i64 (fieldN u 55 4 : Nat)]) ∧ Kp w w') := fun w => dparts_any l u w hu
  have s1 : Aside (∀ w, Calls Try.prog 94 #[.int .u64 (u : Int), .int .i64 2, .int .i64 6] w fun e w' => e = .returned (.bool (bsN u 2 4)) ∧ Dr w w') := fun w => hasBits_any u 2 4 6 w hu (by decide) (by decide) (by decide)
  have s2 : Aside (∀ w, Calls Try.prog 94 #[.int .u64 (u : Int), .int .i64 9, .int .i64 12] w fun e w' => e = .returned (.bool (bsN u 9 3)) ∧ Dr w w') := fun w => hasBits_any u 9 3 12 w hu (by decide) (by decide) (by decide)
  have s3 : Aside (∀ w, Calls Try.prog 94 #[.int .u64 (u : Int), .int .i64 48, .int .i64 55] w fun e w' => e = .returned (.bool (bsN u 48 7)) ∧ Dr w w') := fun w => hasBits_any u 48 7 55 w hu (by decide) (by decide) (by decide)
  have s4 : Aside (∀ w, Calls Try.prog 94 #[.int .u64 (u : Int), .int .i64 59, .int .i64 64] w fun e w' => e = .returned (.bool (bsN u 59 5)) ∧ Dr w w') := fun w => hasBits_any u 59 5 64 w hu (by decide) (by decide) (by decide)
  have sf : Aside (∀ w, Calls Try.prog 95 #[.int .i64 l, .agg #[.int .i64 (kdN l u), .int .u64 (adN u : Nat), .bool (btN u 6), .bool (btN u 7), .bool (btN u 8), .int .i64 (fieldN u 55 4 : Nat)]] w fun e w' => e = .returned (.bool (fmW l u)) ∧ Kp w w') := fun w => formed_any l (kdN l u) (adN u : Nat) (btN u 6) (btN u 7) (btN u 8) (fieldN u 55 4 : Nat) w
  have c4 := top_any s
  have c5 := unit_any l (kdN l u)
  have up := @unit_pos s l (kdN l u)
  unfold decE decG rsv
  clear hu
  obtain ⟨t, ht⟩ : ∃ t, decide (topS s ≤ adN u) = t := ⟨_, rfl⟩
  obtain ⟨m, hm⟩ : ∃ m, decide (adN u % unitN l (kdN l u) ≠ 0) = m := ⟨_, rfl⟩
  rw [ht, hm]
  generalize unitN l (kdN l u) = un at *
  generalize topS s = tp at *
  generalize fmW l u = fo at *
  generalize isPl s l = pl at *
  generalize btN u 0 = b0 at *
  generalize bsN u 2 4 = g1 at *
  generalize bsN u 9 3 = g2 at *
  generalize bsN u 48 7 = g3 at *
  generalize bsN u 59 5 = g4 at *
  generalize kdN l u = k at *
  generalize adN u = a at *
  generalize btN u 6 = r at *
  generalize btN u 7 = q at *
  generalize btN u 8 = x at *
  generalize fieldN u 55 4 = f at *
  have HT : Hid (decide (tp ≤ a) = t) := ht
  have HM : Hid (decide (a % un ≠ 0) = m) := hm
  clear ht hm
  cases pl
  · go_enter Try.func84, Try.ntmps84
    go_wp2_with fail
    refine wp_scope_jumps 0 (fun _ _ => False) (fun _ _ => 0) rfl ?_ (fun _ _ h => h.elim)
    go_wp2_with (go_at_call 91; with_reducible refine (c1 _).mono ?_; rintro e w' ⟨rfl, rfl⟩)
    simp only [Exit.jump]
    refine bodyPost_ret (res_d2 rfl rfl (BX.made w 0 0 false false false 0)) rfl ⟨rfl, (Kp.refl w).alloc _⟩
  have UP : Hid (0 < un) := up rfl
  clear up
  go_enter Try.func84, Try.ntmps84
  go_wp2_with fail
  refine wp_scope_jumps 0 (decJ w w.heap.size (outE true b0 (g1 || g2 || g3 || g4) fo t m) (outG true b0 (g1 || g2 || g3 || g4) fo t m)) (fun _ _ => 0) rfl ?_ ?_
  rotate_left
  · rintro a' w' ⟨E, u0, u1, u2, u3, u4, u5, u7, u8, u10, u11, u12, u13, u14, u15, u16, u17, u18, u19, u20, u21, u22, u23, u24, u25, u26, u27, u28, u29, u30, u31, u32, u33, u34, u35, u36, u37, u38, u39, u40, u41, u42, u43, u44, u45, u46, u47, u48, u49, rfl, rfl, hG, K, B⟩
    have HG : Hid _ := hG
    have HK : Hid (Kp w w') := K
    have HB : Hid (BX w' w.heap.size 0 0 false false false 0) := B
    have x0 := B.c0
    have y0 := B.fz 0
    have x1 := B.c1
    have y1 := B.fz 1
    have x2 := B.c2
    have y2 := B.fz 2
    have x3 := B.c3
    have y3 := B.fz 3
    have x4 := B.c4
    have y4 := B.fz 4
    have x5 := B.c5
    have y5 := B.fz 5
    clear B K hG
    go_wp2_with fail
    simp only [Exit.jump]
    refine bodyPost_ret (res_d2 rfl rfl (BX.put HB.out 0 0 false false false 0)) rfl ⟨by rw [HG.out]; rfl, HK.out.putD (Nat.le_refl _)⟩
  go_wp2_with (go_at_call 91; with_reducible refine (c1 _).mono ?_; rintro e w' ⟨rfl, rfl⟩)
  with_reducible refine (s0.out _).mono ?_
  rintro e w1 ⟨rfl, D⟩
  have B := (BX.made w 0 0 false false false 0).kp D.kp
  have HK : Hid (Kp w w1) := ((Kp.refl _).alloc _).trans D.kp
  have HB : Hid (BX w1 w.heap.size 0 0 false false false 0) := B
  clear D c1 s0
  cases b0
  · have x0 := B.c0
    have y0 := B.fz 0
    have x1 := B.c1
    have y1 := B.fz 1
    have x2 := B.c2
    have y2 := B.fz 2
    have x3 := B.c3
    have y3 := B.fz 3
    have x4 := B.c4
    have y4 := B.fz 4
    have x5 := B.c5
    have y5 := B.fz 5
    clear B
    go_wp2_with fail
    simp only [Exit.jump]
    refine bodyPost_ret (res_d2 rfl rfl (BX.put HB.out 0 0 false false false 0)) rfl ⟨rfl, HK.out.putD (Nat.le_refl _)⟩
  clear B
  go_wp2_with fail
  with_reducible refine (sp.out _).mono ?_
  rintro e w2 ⟨rfl, K⟩
  have HK2 : Hid (Kp w w2) := HK.out.trans K
  have HB2 : Hid (BX w2 w.heap.size 0 0 false false false 0) := HB.out.kp K
  have HL2 : Hid (w.heap.size < w2.heap.size) := HB2.out.lt
  clear K HK HB sp
  go_wp2_with fail
  with_reducible refine (s1.out _).mono ?_
  rintro e w3 ⟨rfl, D⟩
  have HK : Hid (Kp w w3) := (HK2.out.alloc _).trans D.kp
  have B := (HB2.out.kp ((Kp.refl _).alloc _)).kp D.kp
  have HB : Hid (BX w3 w.heap.size 0 0 false false false 0) := B
  obtain ⟨b8, hb8⟩ : ∃ b8, w2.heap.size = b8 := ⟨_, rfl⟩
  have HD : Hid (BX w3 b8 k a r q x f) := by rw [← hb8]; exact (BX.made w2 k a r q x f).kp D.kp
  rw [hb8]
  clear D HK2 HB2 HL2 hb8 s1
  try clear hb8
  clear B
  cases g1
  rotate_left
  · go_wp2_with fail
    go_step3
    exact ⟨rfl, _, _, _, _, _, _, _, _, _, _, _, _, _, _, _, _, _, _, _, _, _, _, _, _, _, _, _, _, _, _, _, _, _, _, _, _, _, _, _, _, _, _, _, _, _, _, _, _, _, rfl, rfl, rfl, HK.out, HB.out⟩
  go_wp2_with fail
  with_reducible refine (s2.out _).mono ?_
  rintro e w4 ⟨rfl, D⟩
  have HK' : Hid (Kp w w4) := HK.out.trans D.kp
  have HB' : Hid (BX w4 w.heap.size 0 0 false false false 0) := HB.out.kp D.kp
  have HD' : Hid (BX w4 b8 k a r q x f) := HD.out.kp D.kp
  clear D HK HB HD s2
  have HK := HK'
  have HB := HB'
  have HD := HD'
  clear HK' HB' HD'
  cases g2
  rotate_left
  · go_wp2_with fail
    go_step3
    exact ⟨rfl, _, _, _, _, _, _, _, _, _, _, _, _, _, _, _, _, _, _, _, _, _, _, _, _, _, _, _, _, _, _, _, _, _, _, _, _, _, _, _, _, _, _, _, _, _, _, _, _, _, rfl, rfl, rfl, HK.out, HB.out⟩
  go_wp2_with fail
  with_reducible refine (s3.out _).mono ?_
  rintro e w5 ⟨rfl, D⟩
  have HK' : Hid (Kp w w5) := HK.out.trans D.kp
  have HB' : Hid (BX w5 w.heap.size 0 0 false false false 0) := HB.out.kp D.kp
  have HD' : Hid (BX w5 b8 k a r q x f) := HD.out.kp D.kp
  clear D HK HB HD s3
  have HK := HK'
  have HB := HB'
  have HD := HD'
  clear HK' HB' HD'
  cases g3
  rotate_left
  · go_wp2_with fail
    go_step3
    exact ⟨rfl, _, _, _, _, _, _, _, _, _, _, _, _, _, _, _, _, _, _, _, _, _, _, _, _, _, _, _, _, _, _, _, _, _, _, _, _, _, _, _, _, _, _, _, _, _, _, _, _, _, rfl, rfl, rfl, HK.out, HB.out⟩
  go_wp2_with fail
  with_reducible refine (s4.out _).mono ?_
  rintro e w6 ⟨rfl, D⟩
  have HK' : Hid (Kp w w6) := HK.out.trans D.kp
  have HB' : Hid (BX w6 w.heap.size 0 0 false false false 0) := HB.out.kp D.kp
  have HD' : Hid (BX w6 b8 k a r q x f) := HD.out.kp D.kp
  clear D HK HB HD s4
  have HK := HK'
  have HB := HB'
  have HD := HD'
  clear HK' HB' HD'
  cases g4
  rotate_left
  · go_wp2_with fail
    go_step3
    exact ⟨rfl, _, _, _, _, _, _, _, _, _, _, _, _, _, _, _, _, _, _, _, _, _, _, _, _, _, _, _, _, _, _, _, _, _, _, _, _, _, _, _, _, _, _, _, _, _, _, _, _, _, rfl, rfl, rfl, HK.out, HB.out⟩
  have v0 := HD.out.c0
  have v1 := HD.out.c1
  have v2 := HD.out.c2
  have v3 := HD.out.c3
  have v4 := HD.out.c4
  have v5 := HD.out.c5
  go_wp2_with fail
  with_reducible refine (sf.out _).mono ?_
  rintro e w7 ⟨rfl, D⟩
  have HK' : Hid (Kp w w7) := HK.out.trans D
  have HB' : Hid (BX w7 w.heap.size 0 0 false false false 0) := HB.out.kp D
  have HD' : Hid (BX w7 b8 k a r q x f) := HD.out.kp D
  clear D HK HB HD sf v0 v1 v2 v3 v4 v5
  have HK := HK'
  have HB := HB'
  have HD := HD'
  clear HK' HB' HD'
  cases fo
  · go_wp2_with fail
    go_step3
    exact ⟨rfl, _, _, _, _, _, _, _, _, _, _, _, _, _, _, _, _, _, _, _, _, _, _, _, _, _, _, _, _, _, _, _, _, _, _, _, _, _, _, _, _, _, _, _, _, _, _, _, _, _, rfl, rfl, rfl, HK.out, HB.out⟩
  have v0 := HD.out.c0
  have v1 := HD.out.c1
  cases t
  rotate_left
  · have t1 : ((tp : Nat) : Int) ≤ a := by have := of_decide_eq_true HT.out; omega
    go_wp2_with fail
    go_quiet (first | (go_at_call 81; refine Calls.quiet_of_same (c4 _)))
    have HK' : Hid (Kp w (w7.drewN nq)) := HK.out.drewN nq
    have HB' : Hid (BX (w7.drewN nq) w.heap.size 0 0 false false false 0) := HB.out
    clear HK HB HD v0 v1
    have HK := HK'
    have HB := HB'
    clear HK' HB'
    generalize w7.drewN nq = wq at *
    go_wp2_with fail
    go_step3
    exact ⟨rfl, _, _, _, _, _, _, _, _, _, _, _, _, _, _, _, _, _, _, _, _, _, _, _, _, _, _, _, _, _, _, _, _, _, _, _, _, _, _, _, _, _, _, _, _, _, _, _, _, _, rfl, rfl, rfl, HK.out, HB.out⟩
  have t1 : ¬ ((tp : Nat) : Int) ≤ a := by have := of_decide_eq_false HT.out; omega
  go_wp2_with fail
  go_quiet (first | (go_at_call 81; refine Calls.quiet_of_same (c4 _)))
  have HK' : Hid (Kp w (w7.drewN nq)) := HK.out.drewN nq
  have HB' : Hid (BX (w7.drewN nq) w.heap.size 0 0 false false false 0) := HB.out
  have HD' : Hid (BX (w7.drewN nq) b8 k a r q x f) := HD.out
  clear HK HB HD v0 v1
  have HK := HK'
  have HB := HB'
  have HD := HD'
  clear HK' HB' HD'
  generalize w7.drewN nq = wq at *
  have v0 := HD.out.c0
  have v1 := HD.out.c1
  have z0 : (0 : Int) < un := by have := UP.out; omega
  have z1 : ¬ ((un : Nat) : Int) = 0 := by omega
  have z2 : (a : Int) % (un : Nat) = ((a % un : Nat) : Int) := by simp
  cases m
  · have g : a % un = 0 := by have := of_decide_eq_false HM.out; omega
    have z3 : (a : Int).tmod (un : Nat) = 0 := by rw [Int.tmod_eq_emod_of_nonneg (by omega), z2, g]; rfl
    rw [g] at z2
    clear g
    go_wp2_with fail
    go_quiet (first | (go_at_call 96; refine Calls.quiet_of_same (c5 _)))
    have HK' : Hid (Kp w (wq.drewN nq)) := HK.out.drewN nq
    have HB' : Hid (BX (wq.drewN nq) w.heap.size 0 0 false false false 0) := HB.out
    have HD' : Hid (BX (wq.drewN nq) b8 k a r q x f) := HD.out
    clear HK HB HD v0 v1
    have HK := HK'
    have HB := HB'
    have HD := HD'
    clear HK' HB' HD'
    generalize wq.drewN nq = wr at *
    have B := HB.out
    have x0 := B.c0
    have y0 := B.fz 0
    have x1 := B.c1
    have y1 := B.fz 1
    have x2 := B.c2
    have y2 := B.fz 2
    have x3 := B.c3
    have y3 := B.fz 3
    have x4 := B.c4
    have y4 := B.fz 4
    have x5 := B.c5
    have y5 := B.fz 5
    have v0 := HD.out.c0
    have v1 := HD.out.c1
    have v2 := HD.out.c2
    have v3 := HD.out.c3
    have v4 := HD.out.c4
    have v5 := HD.out.c5
    clear B
    go_wp2_with fail
    simp only [Exit.jump]
    refine bodyPost_ret (res_d2 rfl rfl (BX.put HB.out k a r q x f)) rfl ⟨rfl, HK.out.putD (Nat.le_refl _)⟩
  · have g : a % un ≠ 0 := of_decide_eq_true HM.out
    have z3 : (a : Int).tmod (un : Nat) = ((a % un : Nat) : Int) := by rw [Int.tmod_eq_emod_of_nonneg (by omega)]; exact z2
    have g1 : ((a % un : Nat) : Int) ≠ 0 := by omega
    have g2 : (((a % un : Nat) : Int) != 0) = true := by rw [bne_iff_ne]; exact g1
    clear z2 HM
    generalize a % un = mm at *
    go_wp2_with fail
    go_quiet (first | (go_at_call 96; refine Calls.quiet_of_same (c5 _)))
    have HK' : Hid (Kp w (wq.drewN nq)) := HK.out.drewN nq
    have HB' : Hid (BX (wq.drewN nq) w.heap.size 0 0 false false false 0) := HB.out
    clear HK HB HD v0 v1
    have HK := HK'
    have HB := HB'
    clear HK' HB'
    generalize wq.drewN nq = wr at *
    go_wp2_with fail
    go_step3
    exact ⟨rfl, _, _, _, _, _, _, _, _, _, _, _, _, _, _, _, _, _, _, _, _, _, _, _, _, _, _, _, _, _, _, _, _, _, _, _, _, _, _, _, _, _, _, _, _, _, _, _, _, _, rfl, rfl, rfl, HK.out, HB.out⟩

end Go.Proofs.Ytclcickhgoiooaa
