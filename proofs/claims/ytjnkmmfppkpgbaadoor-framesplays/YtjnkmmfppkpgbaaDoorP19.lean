/- The document's memory: Write. -/
import Derived.Test.YtjnkmmfppkpgbaaDoorP18
namespace Go.Proofs.YtjnkmmfppkpgbaaDoor
open Go.RowKit Go.Maps
set_option maxRecDepth 10000

theorem putFr_twice (F : Nat → Nat → Nat) (x : Nat) (f g : Nat → Nat) : putFr (putFr F x f) x g = putFr F x g := by
  funext y
  unfold putFr
  by_cases e : y = x
  · rw [if_pos e, if_pos e]
  · rw [if_neg e, if_neg e, if_neg e]
theorem putFr_self (F : Nat → Nat → Nat) (x : Nat) : putFr F x (F x) = F := by
  funext y
  unfold putFr
  by_cases e : y = x
  · rw [if_pos e, e]
  · rw [if_neg e]
theorem Less.trans {S S' S'' : Nat → Prop} {w w' : World} (h : Less S S' w) (k : Less S' S'' w') (hs : w.heap.size ≤ w'.heap.size) : Less S S'' w := fun i hi => (k i hi).elim (h i) (fun x => .inr (Nat.le_trans hs x))
theorem Less.in_ {S S' : Nat → Prop} {w : World} (h : Less S S' w) : ∀ i, i < w.heap.size → S' i → S i := fun i hi hs => (h i hs).resolve_right (Nat.not_le.2 hi)
theorem Less.refl (S : Nat → Prop) (w : World) : Less S S w := fun _ h => .inl h

theorem rset_any {w : World} {T : Nat → Prop} {q N ops : Nat} {F : Nat → Nat → Nat} (h : RM w T q N ops F) (x i b : Nat) (hx : x < N) (hi : i < 4096) (hb : b < 256) :
    Calls Tryd.prog 44 #[.pointer (some ⟨q, 0, none⟩), .int .u64 ((x * 4096 + i : Nat) : Int), .int .u8 (b : Int)] w fun e w' => e = .returned (.tuple #[]) ∧ ∃ T', RM w' T' q N ops (putFr F x (upd (F x) i b)) ∧ Fr T w w' ∧ Less T T' w := by
  obtain ⟨na, cap, L, h, G⟩ := h
  refine (rset_low h (G.len h.n2) (x * 4096 + i) b hb).mono fun e w' ⟨h1, na', cap', T', h2, h3, h4⟩ => ⟨h1, T', ⟨na', cap', _, h2, good_set G x i b hx hi hb⟩, h3, h4⟩

theorem RM.tick {w : World} {T : Nat → Prop} {q N ops : Nat} {F : Nat → Nat → Nat} (h : RM w T q N ops F) : RM (w.setCell ⟨q, 2, none⟩ (.int .i64 ((ops : Int) + 1))) T q N (ops + 1) F ∧ Fr T w (w.setCell ⟨q, 2, none⟩ (.int .i64 ((ops : Int) + 1))) := by
  obtain ⟨na, cap, L, h, G⟩ := h
  exact ⟨⟨na, cap, L, h.tick.1, G⟩, h.tick.2⟩

set_option maxHeartbeats 1000000 in
theorem rwrite_no {w : World} {T : Nat → Prop} {q N ops : Nat} {F : Nat → Nat → Nat} (h : RM w T q N ops F) (addr : Nat) (s r v : Int) (hc : chkP N addr s = r) (hr : r ≠ 0) :
    Calls Tryd.prog 23 #[.pointer (some ⟨q, 0, none⟩), .int .u64 (addr : Int), .int .i64 s, .int .u64 v] w fun e w' => e = .returned (.int .i64 r) ∧ w' = w := by
  obtain ⟨na, cap, L, h, _⟩ := h
  have k1 := rbad_any q N addr s w h.c0 h.n2
  rw [hc] at k1
  have z : (r != 0) = true := by simp [hr]
  clear h hc
  go_enter Tryd.func23, Tryd.ntmps23
  go_wp2_with (go_at_call 43; with_reducible refine k1.mono ?_; rintro e w' ⟨rfl, rfl⟩)
  go_ret
  exact ⟨rfl, rfl⟩

set_option maxHeartbeats 2000000 in
set_option maxRecDepth 10000 in
theorem rwrite_ok {w : World} {T : Nat → Prop} {q N ops : Nat} {F : Nat → Nat → Nat} (h : RM w T q N ops F) (addr s v : Nat) (hc : chkP N addr s = 0) (hv : v < 18446744073709551616) (ho : ops < 4611686018427387904) :
    Calls Tryd.prog 23 #[.pointer (some ⟨q, 0, none⟩), .int .u64 (addr : Int), .int .i64 (s : Int), .int .u64 (v : Int)] w fun e w' => e = .returned (.int .i64 0) ∧ ∃ T', RM w' T' q N (ops + 1) (putFr F (addr / 4096) (putF (F (addr / 4096)) (addr % 4096) s v)) ∧ Fr T w w' ∧ Less T T' w := by
  obtain ⟨hs, hm, hN⟩ := chkP_zero hc
  obtain ⟨q1, q2⟩ := place_fit hs hm
  have hs8 : s ≤ 8 ∧ 1 ≤ s := by unfold Size at hs; omega
  obtain ⟨h2, fr2⟩ := h.tick
  obtain ⟨na, cap, L, h, _⟩ := h
  have hn2 := h.n2
  have k1 := rbad_any q N addr s w h.c0 h.n2
  rw [hc] at k1
  have c2 := h.c2
  have f2 := h.frz 2
  have z1 : (ops : Int) < 4611686018427387904 := by omega
  have z2 : (s : Int) ≤ 8 := by omega
  have z4 : (addr : Int) < 4294967296 := by omega
  have z5 : (v : Int) < 18446744073709551616 := by omega
  have HA : Hid (addr / 4096 < N ∧ addr % 4096 + s ≤ 4096) := ⟨hN, q2⟩
  have E : Hid (RM (w.setCell ⟨q, 2, none⟩ (.int .i64 ((ops : Int) + 1))) T q N (ops + 1) F ∧ Fr T w (w.setCell ⟨q, 2, none⟩ (.int .i64 ((ops : Int) + 1)))) := ⟨h2, fr2⟩
  obtain ⟨x, hx⟩ : ∃ x, x = addr / 4096 := ⟨_, rfl⟩
  obtain ⟨r, hr⟩ : ∃ r, r = addr % 4096 := ⟨_, rfl⟩
  rw [← hx, ← hr]
  have HX : Hid (addr = x * 4096 + r ∧ x < N ∧ r + s ≤ 4096) := ⟨by omega, by omega, by omega⟩
  clear h h2 fr2 hc hm hs q1 q2 hN hv HA hx hr
  go_enter Tryd.func23, Tryd.ntmps23
  go_wp2_with (go_at_call 43; with_reducible refine k1.mono ?_; rintro e w' ⟨rfl, rfl⟩)
  go_loopg [10] s (fun g v10 wr => ∃ k : Nat, v10 = .int .i64 (k : Int) ∧ k ≤ s ∧ s - k ≤ g ∧ Hid (∃ T', RM wr T' q N (ops + 1) (putFr F x (putF (F x) r k v)) ∧ Fr T w' wr ∧ Less T T' w'))
  case atStart => exact ⟨0, rfl, by omega, by omega, (show ∃ T', _ ∧ _ ∧ _ from ⟨T, by rw [putF_zero, putFr_self]; exact E.out.1, E.out.2, Less.refl _ _⟩)⟩
  case round =>
    clear E
    obtain ⟨k, rfl, hk, hg, HR⟩ := hrel
    by_cases hlt : k < s
    · have y1 : (k : Int) < s := by omega
      obtain ⟨T1, R1, F1, L1⟩ := HR.out
      have k2 : Calls Tryd.prog 44 #[.pointer (some ⟨q, 0, none⟩), .int .u64 ((addr : Int) + k), .int .u8 ((v / 2 ^ (8 * k) % 256 : Nat) : Int)] wr fun e w1 => e = .returned (.tuple #[]) ∧ ∃ T', RM w1 T' q N (ops + 1) (putFr F x (putF (F x) r (k + 1) v)) ∧ Fr T w' w1 ∧ Less T T' w' := by
        have hX := HX.out
        have := rset_any R1 x (r + k) (v / 2 ^ (8 * k) % 256) hX.2.1 (by omega) (by omega)
        rw [show ((x * 4096 + (r + k) : Nat) : Int) = (addr : Int) + k by omega, putFr_same, putF_succ, putFr_twice] at this
        refine this.mono fun e w1 ⟨e1, T2, R2, F2, L2⟩ => ⟨e1, T2, R2, F1.trans2 F2 L1.in_, L1.trans L2 F1.size⟩
      have q := shr_byte v k
      clear HR R1 F1 L1
      generalize v / 2 ^ (8 * k) % 256 = d at *
      go_wp2_with fail
      with_reducible refine k2.mono ?_
      rintro e w1 ⟨rfl, R2⟩
      have HR2 : Hid (∃ T', RM w1 T' _ N (ops + 1) (putFr F x (putF (F x) r (k + 1) v)) ∧ Fr T w' w1 ∧ Less T T' w') := R2
      clear k2 R2
      go_wp2
      go_roundg (s - (k + 1))
      case measure => omega
      case rel => exact ⟨k + 1, by go_num, by omega, by omega, HR2⟩
    · have e : k = s := by omega
      subst e
      go_wp2
      go_ret
      exact ⟨rfl, HR.out⟩

end Go.Proofs.YtjnkmmfppkpgbaaDoor
