/- dirty: the log; New, On, turn, Start, Stop, Has. -/
import Derived.Test.YthkkcnnlfjchaaaDoorL2
import Derived.Deep.RegionHeld3
namespace Go.Proofs.YthkkcnnlfjchaaaDoor
open Go.RowKit Go.Maps
set_option maxRecDepth 10000

/-- The log at p: on or not, its words W in the map at bm, by the keys of K, none of them 0. -/
structure DLg (w : World) (p bm : Nat) (on : Bool) (W : Nat → Nat) (K : List Nat) : Prop where
  c : w.heap[p]? = some (.cells #[.bool on, .map (some bm)] 48 (0, 0))
  m : MWd w bm W K
  ne : bm ≠ p
  low : ∀ k, W k < 18446744073709551616
  tight : ∀ k ∈ K, W k ≠ 0
  top : ∀ k ∈ K, k < 288230376151711744
section
variable {w w' : World} {p bm : Nat} {on : Bool} {W : Nat → Nat} {K : List Nat}
theorem DLg.lt (h : DLg w p bm on W K) : p < w.heap.size := (Array.getElem?_eq_some_iff.1 h.c).1
theorem DLg.fr (h : DLg w p bm on W K) {S : Nat → Prop} (k : Fr S w w') (h1 : ¬ S p) (h2 : ¬ S bm) : DLg w' p bm on W K := ⟨(k.block p h.lt h1).trans h.c, h.m.fr k h2, h.ne, h.low, h.tight, h.top⟩
theorem DLg.kp (h : DLg w p bm on W K) (k : Kp w w') : DLg w' p bm on W K := h.fr (k.fr (fun _ => False)) id id
theorem DLg.c0 (h : DLg w p bm on W K) : w.cell? ⟨p, 0, none⟩ = some (.bool on) := by rw [cell_of_row _ _ 0 _ _ _ h.c]; rfl
theorem DLg.c1 (h : DLg w p bm on W K) : w.cell? ⟨p, 1, none⟩ = some (.map (some bm)) := by rw [cell_of_row _ _ 1 _ _ _ h.c]; rfl
theorem DLg.fz (h : DLg w p bm on W K) (j : Nat) : w.frozen? ⟨p, j, none⟩ = false := frozen_of_row w p j _ _ h.c

set_option maxHeartbeats 2000000 in
theorem dgnew_any (w : World) : Calls Tryd.prog 6 #[] w fun e w' => ∃ p bm, e = .returned (.pointer (some ⟨p, 0, none⟩)) ∧ DLg w' p bm false (fun _ => 0) [] ∧ Kp w w' ∧ w.heap.size ≤ p ∧ w.heap.size ≤ bm := by
  obtain ⟨w1, hw1⟩ : ∃ w1, w1 = w.alloc (.map #[] 0) := ⟨_, rfl⟩
  have k1 : Kp w w1 := by rw [hw1]; exact (Kp.refl w).alloc _
  have es : w1.heap.size = w.heap.size + 1 := by rw [hw1]; simp
  have m1 : MWd w1 w.heap.size (fun _ => 0) [] := by rw [hw1]; exact MWd.made w
  have H : Hid (∃ p bm, (.returned (.pointer (some ⟨w.heap.size + 1, 0, none⟩)) : Ending) = .returned (.pointer (some ⟨p, 0, none⟩)) ∧ DLg (w1.alloc (.cells #[.bool false, .map (some w.heap.size)] 48)) p bm false (fun _ => 0) [] ∧ Kp w (w1.alloc (.cells #[.bool false, .map (some w.heap.size)] 48)) ∧ w.heap.size ≤ p ∧ w.heap.size ≤ bm) := by
    refine ⟨w.heap.size + 1, w.heap.size, rfl, ⟨?_, m1.kp ((Kp.refl _).alloc _), by omega, fun _ => by decide, (fun _ hk => by cases hk), fun _ hk => by cases hk⟩, k1.alloc _, by omega, Nat.le_refl _⟩
    rw [← es]; exact heap_alloc_new w1 _
  have hr : ∀ w, (Instr.makeMap 46 none).run Tryd.prog w = .ok (.map (some w.heap.size)) (w.alloc (.map #[] 0)) := fun w => run_makeMap 46 w
  rw [hw1] at H
  clear k1 m1 es hw1
  go_enter Tryd.func6, Tryd.ntmps6
  go_wp2_with fail
  go_ret
  exact H.out
set_option maxHeartbeats 1000000 in
theorem dgon_any (h : DLg w p bm on W K) : Calls Tryd.prog 18 #[.pointer (some ⟨p, 0, none⟩)] w fun e w' => e = .returned (.bool on) ∧ w' = w := by
  have c0 := h.c0
  clear h
  go_enter Tryd.func18, Tryd.ntmps18
  go_wp2_with fail
  go_ret
  exact ⟨rfl, rfl⟩
theorem hid_as {p : Prop} (h : p) : Hid p := h
/-- What an act leaves of the log at p whose words lay at bm. -/
def DLo (w w' : World) (p bm : Nat) (on : Bool) (W : Nat → Nat) (o : Nat) : Prop := ∃ bm' K, DLg w' p bm' on W K ∧ K.length ≤ o ∧ (bm' = bm ∨ w.heap.size ≤ bm') ∧ Fr (fun i => i = p ∨ i = bm) w w'
/-- A cell of two behind a store. -/
theorem two_set0 {w : World} {p : Nat} {a b : Value} {t : TypeId} (c : w.heap[p]? = some (.cells #[a, b] t (0, 0))) (v : Value) : (w.setCell ⟨p, 0, none⟩ v).heap[p]? = some (.cells #[v, b] t (0, 0)) := by
  rw [heap_setCell_same w p 0 _ _ v c]; rfl
theorem two_set1 {w : World} {p : Nat} {a b : Value} {t : TypeId} (c : w.heap[p]? = some (.cells #[a, b] t (0, 0))) (v : Value) : (w.setCell ⟨p, 1, none⟩ v).heap[p]? = some (.cells #[a, v] t (0, 0)) := by
  rw [heap_setCell_same w p 1 _ _ v c]; rfl
set_option maxHeartbeats 2000000 in
theorem empty_any (h : DLg w p bm on W K) : Calls Tryd.prog 25 #[.pointer (some ⟨p, 0, none⟩)] w fun e w' => e = .returned (.tuple #[]) ∧ ∃ bm', DLg w' p bm' on (fun _ => 0) [] ∧ w.heap.size ≤ bm' ∧ Fr (· = p) w w' := by
  have hr : ∀ w, (Instr.makeMap 46 none).run Tryd.prog w = .ok (.map (some w.heap.size)) (w.alloc (.map #[] 0)) := fun w => run_makeMap 46 w
  have hl := h.lt
  have c0 := h.c0
  have c1 := h.c1
  have f1 := h.fz 1
  obtain ⟨w2, hw2⟩ : ∃ w2, w2 = w.setCell ⟨p, 1, none⟩ (.map (some w.heap.size)) := ⟨_, rfl⟩
  have es : w2.heap.size = w.heap.size := by rw [hw2]; simp
  have m1 : MWd (w2.alloc (.map #[] 0)) w.heap.size (fun _ => 0) [] := by rw [← es]; exact MWd.made w2
  have r2 : w2.heap[p]? = some (.cells #[.bool on, .map (some w.heap.size)] 48 (0, 0)) := by rw [hw2]; exact two_set1 h.c _
  have f2 : Fr (· = p) w (w2.alloc (.map #[] 0)) := by rw [hw2]; exact ((Fr.refl (· = p) w).set _ _ rfl).alloc _
  have H : Hid (∃ bm', DLg (w2.alloc (.map #[] 0)) p bm' on (fun _ => 0) [] ∧ w.heap.size ≤ bm' ∧ Fr (· = p) w (w2.alloc (.map #[] 0))) :=
    ⟨w.heap.size, ⟨(((Kp.refl w2).alloc _).block p (by omega)).trans r2, m1, by omega, fun _ => (by decide : 0 < 18446744073709551616), (fun _ hk => by cases hk), fun _ hk => by cases hk⟩, Nat.le_refl _, f2⟩
  rw [hw2] at H
  clear h m1 r2 f2 es hw2
  go_enter Tryd.func25, Tryd.ntmps25
  go_wp2_with fail
  go_end0
  exact ⟨rfl, H.out⟩
set_option maxHeartbeats 2000000 in
theorem dturn_any (h : DLg w p bm on W K) (v : Bool) : Calls Tryd.prog 26 #[.pointer (some ⟨p, 0, none⟩), .bool v] w fun e w' => (on = v ∧ e = .returned (.int .i64 20) ∧ w' = w) ∨ (on = !v ∧ e = .returned (.int .i64 0) ∧ ∃ bm', DLg w' p bm' v (fun _ => 0) [] ∧ w.heap.size ≤ bm' ∧ Fr (· = p) w w') := by
  have c0 := h.c0
  have f0 := h.fz 0
  by_cases e : on = v
  · subst e
    clear h
    have ee : (on == on) = true := by simp
    go_enter Tryd.func26, Tryd.ntmps26
    go_wp2_with fail
    go_ret
    exact .inl ⟨trivial, rfl, rfl⟩
  · have e2 : on = !v := by cases on <;> cases v <;> simp_all
    have ee : (on == v) = false := by simpa using e
    have h1 : DLg (w.setCell ⟨p, 0, none⟩ (.bool v)) p bm v W K := ⟨two_set0 h.c _, h.m.fr ((Fr.refl (· = p) w).set _ _ rfl) h.ne, h.ne, h.low, h.tight, h.top⟩
    have fr1 : Fr (· = p) w (w.setCell ⟨p, 0, none⟩ (.bool v)) := (Fr.refl (· = p) w).set _ _ rfl
    have ce := empty_any h1
    have HF : Hid (Fr (· = p) w (w.setCell ⟨p, 0, none⟩ (.bool v)) ∧ on = !v) := ⟨fr1, e2⟩
    clear h h1 fr1 e e2
    go_enter Tryd.func26, Tryd.ntmps26
    go_wp2_with fail
    with_reducible refine ce.mono ?_
    rintro e w1 ⟨rfl, bm', hd, hb, hf⟩
    have HH : Hid (∃ bm', DLg w1 p bm' v (fun _ => 0) [] ∧ w.heap.size ≤ bm' ∧ Fr (· = p) w w1) := ⟨bm', hd, Nat.le_trans HF.out.1.size hb, HF.out.1.trans hf⟩
    clear ce hd hb hf
    go_wp2_with fail
    go_ret
    exact .inr ⟨HF.out.2, rfl, HH.out⟩
set_option maxHeartbeats 2000000 in
theorem start_any (h : DLg w p bm on W K) : Calls Tryd.prog 12 #[.pointer (some ⟨p, 0, none⟩)] w fun e w' => (on = true ∧ e = .returned (.int .i64 20) ∧ w' = w) ∨ (on = false ∧ e = .returned (.int .i64 0) ∧ ∃ bm', DLg w' p bm' true (fun _ => 0) [] ∧ w.heap.size ≤ bm' ∧ Fr (· = p) w w') := by
  have ct := dturn_any h true
  clear h
  go_enter Tryd.func12, Tryd.ntmps12
  go_wp2_with fail
  with_reducible refine ct.mono ?_
  rintro e w1 (⟨e1, rfl, rfl⟩ | ⟨e1, rfl, hh⟩)
  · clear ct
    go_wp2_with fail
    go_ret
    exact .inl ⟨e1, rfl, rfl⟩
  · have HH := hid_as hh
    clear ct hh
    go_wp2_with fail
    go_ret
    exact .inr ⟨e1, rfl, HH.out⟩
set_option maxHeartbeats 2000000 in
theorem stop_any (h : DLg w p bm on W K) : Calls Tryd.prog 14 #[.pointer (some ⟨p, 0, none⟩)] w fun e w' => (on = false ∧ e = .returned (.int .i64 20) ∧ w' = w) ∨ (on = true ∧ e = .returned (.int .i64 0) ∧ ∃ bm', DLg w' p bm' false (fun _ => 0) [] ∧ w.heap.size ≤ bm' ∧ Fr (· = p) w w') := by
  have ct := dturn_any h false
  clear h
  go_enter Tryd.func14, Tryd.ntmps14
  go_wp2_with fail
  with_reducible refine ct.mono ?_
  rintro e w1 (⟨e1, rfl, rfl⟩ | ⟨e1, rfl, hh⟩)
  · clear ct
    go_wp2_with fail
    go_ret
    exact .inl ⟨e1, rfl, rfl⟩
  · have HH := hid_as hh
    clear ct hh
    go_wp2_with fail
    go_ret
    exact .inr ⟨e1, rfl, HH.out⟩
set_option maxHeartbeats 4000000 in
theorem dghas_any (h : DLg w p bm on W K) (x : Nat) (hx : x < 18446744073709551616) :
    Calls Tryd.prog 19 #[.pointer (some ⟨p, 0, none⟩), .int .u64 (x : Int)] w fun e w' => e = .returned (.bool (hasW W x)) ∧ ∃ n, w' = w.drewN n := by
  obtain ⟨k, hk⟩ : ∃ k, k = x / 64 := ⟨_, rfl⟩
  obtain ⟨v, hv⟩ : ∃ v, v = W k := ⟨_, rfl⟩
  obtain ⟨q, hq⟩ : ∃ q, q = 2 ^ (x % 64) := ⟨_, rfl⟩
  obtain ⟨z, hz⟩ : ∃ z, z = v &&& q := ⟨_, rfl⟩
  have hkl : k < 18446744073709551616 := by omega
  have hvl : v < 18446744073709551616 := by rw [hv]; exact h.low k
  have hql : q < 18446744073709551616 := by rw [hq]; exact bit_lt64 x
  have a1 : (x : Int) / 64 = (k : Int) := by omega
  have a2 : bits .and .u64 (v : Int) (q : Int) = (z : Int) := by rw [hz]; exact u64_and_nat v q hvl hql
  have hb := fun w => bit_any x hx w
  rw [← hq] at hb
  have c1 : ∀ n, (w.drewN n).cell? ⟨p, 1, none⟩ = some (.map (some bm)) := fun n => (h.kp ((Kp.refl w).drewN n)).c1
  have l1 : ∀ n, (Instr.lookup 46 (.map (some bm)) (.int .u64 (k : Int)) false).run Tryd.prog (w.drewN n) = .ok (.int .u64 (v : Int)) (w.drewN n) := fun n => by
    rw [hv]; exact (h.kp ((Kp.refl w).drewN n)).m.look k hkl
  have hz2 := hasW_and W x
  rw [← hk, ← hv, ← hq, ← hz] at hz2
  have c1' := c1 0
  have l1' := l1 0
  rw [World.drewN_zero] at c1' l1'
  cases e : hasW W x with
  | true =>
    have z1 : ((z : Int) == 0) = false := by rw [e] at hz2; have := hz2.2 rfl; simpa using this
    have z2 : ((z : Int) != 0) = true := by rw [bne, z1]; rfl
    clear hz hz2 hq hv hk h hvl hql
    go_enter Tryd.func19, Tryd.ntmps19
    go_wp2_with fail
    go_quiet (first | (go_at_call 22; refine Calls.quiet_of_same (hb _)))
    go_wp2_with fail
    go_ret
    exact ⟨by simp_all, _, rfl⟩
  | false =>
    have z0 : z = 0 := by
      rw [e] at hz2
      exact Classical.byContradiction fun c => by cases hz2.1 c
    subst z0
    clear hz hz2 hq hv hk h hvl hql
    go_enter Tryd.func19, Tryd.ntmps19
    go_wp2_with fail
    go_quiet (first | (go_at_call 22; refine Calls.quiet_of_same (hb _)))
    go_wp2_with fail
    go_ret
    exact ⟨by simp_all, _, rfl⟩
end

end Go.Proofs.YthkkcnnlfjchaaaDoor
