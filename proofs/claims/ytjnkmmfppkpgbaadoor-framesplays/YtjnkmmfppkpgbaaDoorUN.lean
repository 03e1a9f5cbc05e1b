/- The document's buddy: as it lies; New, Has, all, Free. -/
import Derived.Test.YtjnkmmfppkpgbaaDoorUB
import Derived.Test.YtjnkmmfppkpgbaaDoorMK
namespace Go.Proofs.YtjnkmmfppkpgbaaDoor
open Go.RowKit

/-- The document's buddy at q: its first frame is lo, its n marks are the block ob; F tells which frames are free. -/
structure RBU (w : World) (q ob lo n : Nat) (F : Nat → Bool) : Prop where
  c0 : w.cell? ⟨q, 0, none⟩ = some (.int .i64 (lo : Int))
  c1 : w.cell? ⟨q, 1, none⟩ = some (.slice (some ⟨ob, 0, none⟩) n n)
  ql : q < w.heap.size
  ne : ob ≠ q
  on : ON w ob n (fun k => F (lo + k))
  dom : ∀ k, F k = true → lo ≤ k ∧ k < lo + n
  hh : lo + n ≤ 1048576
section
variable {w w' : World} {q ob lo n : Nat} {F F' : Nat → Bool}
theorem RBU.fr {S : Nat → Prop} (h : RBU w q ob lo n F) (k : Fr S w w') (h1 : ¬ S q) (h2 : ¬ S ob) : RBU w' q ob lo n F :=
  ⟨(k.cell (a := ⟨q, 0, none⟩) h.ql h1).trans h.c0, (k.cell (a := ⟨q, 1, none⟩) h.ql h1).trans h.c1, Nat.lt_of_lt_of_le h.ql k.size, h.ne, h.on.fr k h2, h.dom, h.hh⟩
theorem RBU.kp (h : RBU w q ob lo n F) (k : Kp w w') : RBU w' q ob lo n F := h.fr (k.fr (fun _ => False)) id id
theorem RBU.set (h : RBU w q ob lo n F) (x : Nat) (v : Bool) (hx : x < n) (hF : ∀ k, F' k = if k = lo + x then v else F k) : RBU (w.setCell ⟨ob, x, none⟩ (.bool v)) q ob lo n F' :=
  ⟨by rw [World.cell?_setCell_other _ _ _ _ (ne_addr (.inl h.ne))]; exact h.c0, by rw [World.cell?_setCell_other _ _ _ _ (ne_addr (.inl h.ne))]; exact h.c1, by rw [World.size_setCell]; exact h.ql, h.ne,
   (h.on.set x v).like (fun i hi => by
    rw [hF]
    by_cases e : i = x
    · rw [if_pos e, if_pos (by omega)]
    · rw [if_neg e, if_neg (by omega)]), fun k hk => by
    rw [hF] at hk
    by_cases e : k = lo + x
    · omega
    · rw [if_neg e] at hk; exact h.dom k hk, h.hh⟩
theorem RBU.cell (h : RBU w q ob lo n F) (i : Nat) (hi : i < n) : w.cell? ⟨ob, i, none⟩ = some (.bool (F (lo + i))) := h.on.cell i hi
set_option maxHeartbeats 2000000 in
set_option maxRecDepth 100000 in
theorem rhas_any (h : RBU w q ob lo n F) (x : Int) (hx : x ≤ 9223372036854775807) :
    Calls Tryd.prog 57 #[.pointer (some ⟨q, 0, none⟩), .int .i64 x] w fun e w' => e = .returned (.bool (hasB F x)) ∧ Dr w w' := by
  have c0 := h.c0
  have c1 := h.c1
  have hh := h.hh
  by_cases d1 : x < lo
  · have e : hasB F x = false := by
      unfold hasB
      by_cases c : 0 ≤ x
      · cases hv : F x.toNat
        · simp
        · have := (h.dom _ hv).1; omega
      · rw [decide_eq_false c]; rfl
    rw [e]
    clear h e hx hh
    go_enter Tryd.func57, Tryd.ntmps57
    go_wp2_with fail
    have b1 : decide ((lo : Int) ≤ x) = false := decide_eq_false (by omega)
    go_quiet (fail)
    go_wp2
    go_ret
    exact ⟨rfl, ⟨_, rfl⟩⟩
  · obtain ⟨i, hi⟩ : ∃ i : Nat, x - (lo : Int) = (i : Int) := ⟨(x - lo).toNat, by omega⟩
    have hxe : x = ((lo + i : Nat) : Int) := by omega
    have hil : (i : Int) ≤ 9223372036854775807 := by omega
    by_cases d2 : i < n
    · have e : hasB F x = F (lo + i) := by rw [hxe, hasB_nat]
      have ci := h.cell i d2
      rw [e]
      have y1 : (i : Int) < n := by omega
      have y2 : (lo : Int) ≤ x := by omega
      generalize F (lo + i) = b at *
      clear h e hxe hh d1
      go_enter Tryd.func57, Tryd.ntmps57
      go_wp2_with fail
      have b1 : decide ((lo : Int) ≤ x) = true := decide_eq_true (by omega)
      have b2 : decide ((i : Int) < n) = true := decide_eq_true (by omega)
      have b3 : decide (i < n) = true := decide_eq_true (by omega)
      go_quiet (fail)
      go_wp2
      go_ret
      exact ⟨rfl, ⟨_, rfl⟩⟩
    · have e : hasB F x = false := by
        rw [hxe, hasB_nat]
        cases hv : F (lo + i)
        · rfl
        · have := (h.dom _ hv).2; omega
      rw [e]
      have y1 : ¬ (i : Int) < n := by omega
      have y2 : (lo : Int) ≤ x := by omega
      clear h e hxe hh d1
      go_enter Tryd.func57, Tryd.ntmps57
      go_wp2_with fail
      have b1 : decide ((lo : Int) ≤ x) = true := decide_eq_true (by omega)
      have b2 : decide ((i : Int) < n) = false := decide_eq_false (by omega)
      have b3 : decide (i < n) = false := decide_eq_false (by omega)
      go_quiet (fail)
      go_wp2
      go_ret
      exact ⟨rfl, ⟨_, rfl⟩⟩
set_option maxHeartbeats 2000000 in
set_option maxRecDepth 100000 in
theorem rall_walk (h : RBU w q ob lo n F) (f o m : Nat) (ho : o < 10) (hf : f ≤ 1048576) (hm : m ≤ 2 ^ o) (h1 : ∀ i, i < m → F (f + i) = true) (h2 : m < 2 ^ o → F (f + m) = false) :
    Calls Tryd.prog 77 #[.pointer (some ⟨q, 0, none⟩), .int .i64 (f : Int), .int .i64 (o : Int)] w fun e w' => e = .returned (.bool (!decide (m < 2 ^ o))) ∧ Dr w w' := by
  have e1 : (2 : Int) ^ o = ((2 ^ o : Nat) : Int) := by push_cast; rfl
  have e2 := (pow_wrap ho).2
  have HH : Hid (RBU w q ob lo n F) := h
  have H1 : Aside (∀ i, i < m → F (f + i) = true) := h1
  clear h h1
  have y0 : (o : Int) < 10 := by omega
  have y1 : (f : Int) ≤ 1048576 := by omega
  generalize 2 ^ o = s at *
  have y2 : (m : Int) ≤ s := by omega
  have H2 : Hid (m < s → F (f + m) = false) := h2
  clear h2
  go_enter Tryd.func77, Tryd.ntmps77
  go_wp2_with fail
  go_loopg [7] (m + 1) (fun g v7 wr => ∃ k : Nat, v7 = .int .i64 (k : Int) ∧ k ≤ m ∧ m + 1 - k ≤ g ∧ Hid (Dr w wr))
  case atStart => exact ⟨0, rfl, by omega, by omega, Dr.refl w⟩
  case round =>
    obtain ⟨k, rfl, k2, hg, HD⟩ := hrel
    by_cases e : k < s
    · have y3 : (k : Int) < s := by omega
      have c1 := rhas_any (HH.out.kp HD.out.kp) ((f : Int) + k) (by omega)
      rw [show (f : Int) + k = ((f + k : Nat) : Int) by omega, hasB_nat] at c1
      rw [show ((f + k : Nat) : Int) = (f : Int) + k by omega] at c1
      by_cases d : k < m
      · rw [H1.out k d] at c1
        go_wp2_with (first | (go_at_call 57; go_must (with_reducible refine c1.mono ?_); rintro e w1 ⟨rfl, D1⟩))
        have HD1 : Hid (Dr w w1) := HD.out.trans D1
        clear D1
        go_roundg (m + 1 - (k + 1))
        case measure => omega
        case rel => exact ⟨k + 1, by go_num, by omega, by omega, HD1⟩
      · have ek : k = m := by omega
        subst ek
        rw [H2.out e] at c1
        have HE : Hid (k < s) := e
        clear e
        go_wp2_with (first | (go_at_call 57; go_must (with_reducible refine c1.mono ?_); rintro e w1 ⟨rfl, D1⟩))
        go_ret
        exact ⟨by rw [decide_eq_true HE.out]; rfl, HD.out.trans D1⟩
    · have ek : k = m := by omega
      have es : k = s := by omega
      subst ek; subst es
      go_wp2
      go_ret
      exact ⟨by rw [decide_eq_false (Nat.lt_irrefl _)]; rfl, HD.out⟩
theorem rall_any (h : RBU w q ob lo n F) (f o : Nat) (ho : o < 10) (hf : f ≤ 1048576) :
    Calls Tryd.prog 77 #[.pointer (some ⟨q, 0, none⟩), .int .i64 (f : Int), .int .i64 (o : Int)] w fun e w' => e = .returned (.bool (!anyF (fun k => !F k) f o)) ∧ Dr w w' :=
  rall_walk h f o (fst (fun k => !F k) f (2 ^ o)) ho hf (fst_spec _ f (2 ^ o)).1 (fun i hi => by have := (fst_spec (fun k => !F k) f (2 ^ o)).2.1 i hi; simpa using this) (fun hm => by have := (fst_spec (fun k => !F k) f (2 ^ o)).2.2 hm; simpa using this)
theorem all_al {F : Nat → Bool} {f o : Nat} (hf : f % 2 ^ o = 0) : (!anyF (fun k => !F k) f o) = true ↔ Al F o (f / 2 ^ o) := by
  have e : f / 2 ^ o * 2 ^ o = f := Nat.div_mul_cancel (Nat.dvd_of_mod_eq_zero hf)
  cases ha : anyF (fun k => !F k) f o
  · refine ⟨fun _ k hk => ?_, fun _ => rfl⟩
    obtain ⟨k1, k2⟩ := (blk_iff ..).1 hk
    rw [e] at k1 k2
    have := anyF_false ha (k - f) (by omega)
    rw [show f + (k - f) = k by omega] at this
    simpa using this
  · refine ⟨fun h => (by cases h), fun h => ?_⟩
    obtain ⟨i, h1, h2⟩ := anyF_true ha
    have := h (f + i) ((blk_iff ..).2 ⟨by rw [e]; omega, by rw [e]; omega⟩)
    simp [this] at h2
set_option maxHeartbeats 2000000 in
set_option maxRecDepth 100000 in
theorem rfree_any (h : RBU w q ob lo n F) :
    Calls Tryd.prog 46 #[.pointer (some ⟨q, 0, none⟩)] w fun e w' => e = .returned (.int .i64 (cnt F (lo + n) : Int)) ∧ w' = w := by
  have c1 := h.c1
  have hh := h.hh
  have hz : cnt F lo = 0 := (cnt_zero lo).2 (fun k hk => by
    cases hv : F k
    · rfl
    · have := (h.dom k hv).1; omega)
  have HH : Hid (RBU w q ob lo n F) := h
  have y1 : (lo : Int) + n ≤ 1048576 := by omega
  clear h
  go_enter Tryd.func46, Tryd.ntmps46
  go_wp2_with fail
  go_loopg [3, 4] (n + 1) (fun g v3 v4 wr => ∃ (i c : Nat), v3 = .int .i64 (c : Int) ∧ v4 = .int .i64 (i : Int) ∧ i ≤ n ∧ c ≤ i ∧ n + 1 - i ≤ g ∧ wr = w ∧ Hid (cnt F (lo + i) = c))
  case atStart => exact ⟨0, 0, rfl, rfl, by omega, by omega, by omega, rfl, hz⟩
  case round =>
    clear hz
    obtain ⟨i, c, rfl, rfl, hi, hc, hg, rfl, HC⟩ := hrel
    have y2 : (c : Int) ≤ i := by omega
    have y3 : (i : Int) ≤ n := by omega
    by_cases e : i < n
    · have z1 : (i : Int) < n := by omega
      have ci := HH.out.cell i e
      have hs : cnt F (lo + (i + 1)) = c + if F (lo + i) then 1 else 0 := by rw [← HC.out]; rfl
      cases hF : F (lo + i)
      · rw [hF] at ci hs
        have HC2 : Hid (cnt F (lo + (i + 1)) = c) := hs
        clear HC hs hF
        go_wp2
        go_roundg (n + 1 - (i + 1))
        case measure => omega
        case rel => exact ⟨i + 1, c, rfl, by go_num, by omega, by omega, by omega, rfl, HC2⟩
      · rw [hF] at ci hs
        have HC2 : Hid (cnt F (lo + (i + 1)) = c + 1) := hs
        clear HC hs hF
        go_wp2
        go_roundg (n + 1 - (i + 1))
        case measure => omega
        case rel => exact ⟨i + 1, c + 1, by go_num, by go_num, by omega, by omega, by omega, rfl, HC2⟩
    · have ei : i = n := by omega
      subst ei
      go_wp2
      go_ret
      exact ⟨by rw [HC.out]; rfl, rfl⟩
end
set_option maxHeartbeats 2000000 in
set_option maxRecDepth 100000 in
theorem rbnew_ok (lo n : Nat) (w : World) (h1 : lo ≤ 1048576) (h2 : n ≤ 1048576 - lo) :
    Calls Tryd.prog 33 #[.int .i64 (lo : Int), .int .i64 (n : Int)] w fun e w' => (∃ q ob, e = .returned (.tuple #[.pointer (some ⟨q, 0, none⟩), .int .i64 0]) ∧ RBU w' q ob lo n (ivl lo (lo + n)) ∧ w.heap.size ≤ q ∧ w.heap.size ≤ ob) ∧ Kp w w' := by
  have y1 : ¬ (lo : Int) < 0 := by omega
  have y2 : ¬ (1048576 : Int) < lo := by omega
  have y3 : ¬ (n : Int) < 0 := by omega
  have y4 : ¬ (1048576 - lo : Int) < n := by omega
  have y5 : (n : Int) ≤ 1048576 := by omega
  have hmk := make_marks n w (by omega)
  obtain ⟨ob, hob⟩ : ∃ ob, ob = w.heap.size := ⟨_, rfl⟩
  obtain ⟨w1, hw1⟩ : ∃ w1, w1 = w.alloc (.cells (offB n) 4) := ⟨_, rfl⟩
  have k1 : Kp w w1 := by rw [hw1]; exact (Kp.refl w).alloc _
  have es : w1.heap.size = ob + 1 := by rw [hw1, hob]; simp
  have on1 : ON w1 ob n (fun _ => false) := by rw [hw1, hob]; exact ON.made w n
  rw [← hw1, ← hob] at hmk
  have I0 : Hid (RBU (w1.alloc (.cells #[.int .i64 (lo : Int), .slice (some ⟨ob, 0, none⟩) n n] 79)) w1.heap.size ob lo n (ivl lo (lo + 0)) ∧ Kp w (w1.alloc (.cells #[.int .i64 (lo : Int), .slice (some ⟨ob, 0, none⟩) n n] 79)) ∧ ob = w.heap.size ∧ w.heap.size ≤ w1.heap.size) := by
    have hr := heap_alloc_new w1 (.cells #[.int .i64 (lo : Int), .slice (some ⟨ob, 0, none⟩) n n] 79)
    refine ⟨⟨by rw [cell_of_row _ _ 0 _ _ _ hr]; rfl, by rw [cell_of_row _ _ 1 _ _ _ hr]; rfl, by simp, by omega, (on1.kp ((Kp.refl w1).alloc _)).like (fun i hi => ?_), fun k hk => ?_, by omega⟩, k1.alloc _, hob, k1.size⟩
    · show ivl lo (lo + 0) (lo + i) = false
      unfold ivl; rw [decide_eq_false (by omega)]
    · have := (ivl_iff ..).1 hk; omega
  clear k1 on1 hob hw1 es
  go_enter Tryd.func33, Tryd.ntmps33
  go_wp2_with fail
  clear hmk
  generalize w1.heap.size = q at *
  go_loopg [7] (n + 1) (fun g v7 wr => ∃ i : Nat, v7 = .int .i64 (i : Int) ∧ i ≤ n ∧ n + 1 - i ≤ g ∧ Hid (RBU wr q ob lo n (ivl lo (lo + i)) ∧ Kp w wr ∧ ob = w.heap.size ∧ w.heap.size ≤ q))
  case atStart => exact ⟨0, rfl, by omega, by omega, I0⟩
  case round =>
    clear I0
    obtain ⟨i, rfl, hi, hg, HI⟩ := hrel
    have y6 : (i : Int) ≤ n := by omega
    by_cases e : i < n
    · have z1 : (i : Int) < n := by omega
      have c1 := HI.out.1.c1
      have ci := HI.out.1.cell i e
      have fi := HI.out.1.on.frz i
      generalize ivl lo (lo + i) (lo + i) = b at ci
      have HI2 : Hid (RBU (wr.setCell ⟨ob, i, none⟩ (.bool true)) q ob lo n (ivl lo (lo + (i + 1))) ∧ Kp w (wr.setCell ⟨ob, i, none⟩ (.bool true)) ∧ ob = w.heap.size ∧ w.heap.size ≤ q) := ⟨HI.out.1.set i true e (fun k => by
        unfold ivl
        by_cases c : k = lo + i
        · rw [if_pos c, decide_eq_true (by omega)]
        · rw [if_neg c]; apply decide_eq_decide.2; omega), HI.out.2.1.set _ _ (by show w.heap.size ≤ ob; have := HI.out.2.2.1; omega), HI.out.2.2⟩
      clear HI
      go_wp2
      go_roundg (n + 1 - (i + 1))
      case measure => omega
      case rel => exact ⟨i + 1, by go_num, by omega, by omega, HI2⟩
    · have ei : i = n := by omega
      subst ei
      go_wp2
      go_ret2
      exact ⟨⟨q, ob, rfl, HI.out.1, HI.out.2.2.2, by have := HI.out.2.2.1; omega⟩, HI.out.2.1⟩
set_option maxHeartbeats 1000000 in
theorem rbnew_no (lo n : Int) (w : World) (h : ¬ (0 ≤ lo ∧ lo ≤ 1048576 ∧ 0 ≤ n ∧ n ≤ 1048576 - lo)) :
    Calls Tryd.prog 33 #[.int .i64 lo, .int .i64 n] w fun e w' => e = .returned (.tuple #[.pointer none, .int .i64 1]) ∧ w' = w := by
  by_cases d1 : lo < 0
  · clear h
    go_enter Tryd.func33, Tryd.ntmps33
    go_wp2
    go_ret2
    exact ⟨rfl, rfl⟩
  · by_cases d2 : (1048576 : Int) < lo
    · clear h
      go_enter Tryd.func33, Tryd.ntmps33
      go_wp2
      go_ret2
      exact ⟨rfl, rfl⟩
    · by_cases d3 : n < 0
      · clear h
        go_enter Tryd.func33, Tryd.ntmps33
        go_wp2
        go_ret2
        exact ⟨rfl, rfl⟩
      · have d4 : (1048576 - lo : Int) < n := by omega
        clear h
        go_enter Tryd.func33, Tryd.ntmps33
        go_wp2
        go_ret2
        exact ⟨rfl, rfl⟩
end Go.Proofs.YtjnkmmfppkpgbaaDoor
