/- The document's memory: Read, Clear, Get, Same. -/
import Derived.Test.YtndlkkacnpjlmaaP14
import Derived.RegionTactic
import Derived.BigRegion
namespace Go.Proofs.Ytndlkkacnpjlmaa
open Go.RowKit Go.Maps

theorem Good.len {N : Nat} {F : Nat → Nat → Nat} {L : List (Nat × Nat)} (h : Good N F L) (hN : N ≤ 1048576) : L.length ≤ 4294967296 := by
  have := tidy_len h.tidy
  omega
theorem RMat.tick {w : World} {T : Nat → Prop} {q N ops : Nat} {na : Option Addr} {cap : Nat} {L : List (Nat × Nat)} (h : RMat w T q N ops na cap L) : RMat (w.setCell ⟨q, 2, none⟩ (.int .i64 ((ops : Int) + 1))) T q N (ops + 1) na cap L ∧ Fr T w (w.setCell ⟨q, 2, none⟩ (.int .i64 ((ops : Int) + 1))) := by
  have k : Fr (· = q) w (w.setCell ⟨q, 2, none⟩ (.int .i64 ((ops : Int) + 1))) := (Fr.refl _ w).set _ _ rfl
  refine ⟨⟨fun i hi => by rw [World.size_setCell]; exact h.own i hi, h.sq, ?_, h.sl.fr k (fun g hg => (h.blk g hg).2), h.blk, h.n1, h.n2⟩, k.mono (fun i _ hi => by rw [hi]; exact h.sq)⟩
  rw [heap_setCell_same w q 2 _ _ _ h.row]
  simp

set_option maxHeartbeats 1000000 in
theorem rread_no {w : World} {T : Nat → Prop} {q N ops : Nat} {F : Nat → Nat → Nat} (h : RM w T q N ops F) (addr : Nat) (s r : Int) (hc : chkP N addr s = r) (hr : r ≠ 0) :
    Calls Try.prog 12 #[.pointer (some ⟨q, 0, none⟩), .int .u64 (addr : Int), .int .i64 s] w fun e w' => e = .returned (.tuple #[.int .u64 0, .int .i64 r]) ∧ w' = w := by
  obtain ⟨na, cap, L, h, _⟩ := h
  have k1 := rbad_any q N addr s w h.c0 h.n2
  rw [hc] at k1
  have z : (r != 0) = true := by simp [hr]
  clear h hc
  go_enter Try.func12, Try.ntmps12
  go_wp2_with (go_at_call 31; with_reducible refine k1.mono ?_; rintro e w' ⟨rfl, rfl⟩)
  go_ret2
  exact ⟨rfl, rfl⟩

set_option maxHeartbeats 2000000 in
set_option maxRecDepth 10000 in
theorem rread_ok {w : World} {T : Nat → Prop} {q N ops : Nat} {F : Nat → Nat → Nat} (h : RM w T q N ops F) (addr s : Nat) (hc : chkP N addr s = 0) (ho : ops < 4611686018427387904) :
    Calls Try.prog 12 #[.pointer (some ⟨q, 0, none⟩), .int .u64 (addr : Int), .int .i64 (s : Int)] w fun e w' => e = .returned (.tuple #[.int .u64 (numb (F (addr / 4096)) (addr % 4096) s : Nat), .int .i64 0]) ∧ RM w' T q N (ops + 1) F ∧ Fr T w w' := by
  obtain ⟨na, cap, L, h, G⟩ := h
  have k1 := rbad_any q N addr s w h.c0 h.n2
  rw [hc] at k1
  obtain ⟨hs, hm, hN⟩ := chkP_zero hc
  obtain ⟨q1, q2⟩ := place_fit hs hm
  have hn2 := h.n2
  have hs8 : s ≤ 8 ∧ 1 ≤ s := by unfold Size at hs; omega
  have c2 := h.c2
  have f2 := h.frz 2
  obtain ⟨h2, fr2⟩ := h.tick
  have kb := fun a => rbyte_any h2 (G.len h.n2) a
  have z1 : (ops : Int) < 4611686018427387904 := by omega
  have z2 : (s : Int) ≤ 8 := by omega
  have z3 : (1 : Int) ≤ s := by omega
  have z4 : (addr : Int) < 4294967296 := by omega
  obtain ⟨f, hf⟩ : ∃ f : Nat → Nat, f = fun i => lk L (addr + i) := ⟨_, rfl⟩
  have hb : Bytes f := fun i => by rw [hf]; exact lk_lt G.tidy _
  have ev : numb (F (addr / 4096)) (addr % 4096) s = numb f 0 s := numb_like _ _ _ _ s (fun i hi => by
    rw [hf]
    show _ = lk L (addr + (0 + i))
    rw [← G.like (addr / 4096) (addr % 4096 + i) (by omega)]
    congr 1
    omega)
  rw [ev]
  have E : Hid (RM (w.setCell ⟨q, 2, none⟩ (.int .i64 ((ops : Int) + 1))) T q N (ops + 1) F ∧ Fr T w (w.setCell ⟨q, 2, none⟩ (.int .i64 ((ops : Int) + 1)))) := ⟨⟨na, cap, L, h2, G⟩, fr2⟩
  have KB : Aside (∀ i : Nat, Calls Try.prog 34 #[.pointer (some ⟨q, 0, none⟩), .int .u64 ((addr : Int) + i)] (w.setCell ⟨q, 2, none⟩ (.int .i64 ((ops : Int) + 1))) fun e w' => e = .returned (.int .u8 (f i : Nat)) ∧ w' = (w.setCell ⟨q, 2, none⟩ (.int .i64 ((ops : Int) + 1)))) := fun i => by
    have := kb (addr + i)
    rw [show ((addr + i : Nat) : Int) = (addr : Int) + i by omega] at this
    rw [hf]; exact this
  have HB : Hid (Bytes f) := hb
  clear h G hc hm hs h2 fr2 kb hb hf ev q1 q2 hN
  go_enter Try.func12, Try.ntmps12
  go_wp2_with (go_at_call 31; with_reducible refine k1.mono ?_; rintro e w' ⟨rfl, rfl⟩)
  go_loopg [9, 10] s (fun g v9 v10 wr => ∃ i j : Nat, v9 = .int .u64 (numb f i j : Nat) ∧ v10 = .int .i64 ((i : Int) - 1) ∧ i + j = s ∧ i ≤ g ∧ wr = (w'.setCell ⟨q, 2, none⟩ (.int .i64 ((ops : Int) + 1))))
  case atStart => exact ⟨s, 0, rfl, rfl, by omega, by omega, rfl⟩
  case round =>
    obtain ⟨i, j, rfl, rfl, hij, hg, rfl⟩ := hrel
    match i, hij, hg with
    | i + 1, hij, hg =>
      have y1 : (i : Int) < 8 := by omega
      have b2 := HB.out i
      have y2 : (f i : Int) < 256 := by omega
      have r1 := numb_low f j i
      have l1 := numb_lt HB.out (i + 1) j
      have l3 := Nat.pow_le_pow_right (n := 2) (by decide) (show 8 * j ≤ 56 by omega)
      have y3 : (numb f (i + 1) j : Int) < 72057594037927936 := by have : (2 : Nat) ^ 56 = 72057594037927936 := rfl
                                                                   omega
      have k2 := KB.out i
      rw [show ((i + 1 : Nat) : Int) - 1 = (i : Int) by omega]
      have HR : Hid (numb f i (j + 1) = numb f (i + 1) j * 256 + f i) := r1
      clear r1 l1 l3 b2
      generalize numb f (i + 1) j = v at *
      generalize f i = c at *
      go_wp2_with (go_at_call 34; with_reducible refine k2.mono ?_; rintro e w2 ⟨rfl, rfl⟩)
      go_roundg i
      case measure => omega
      case rel => exact ⟨i, j + 1, by rw [HR.out]; go_num, by go_num, by omega, by omega, rfl⟩
    | 0, hij, hg =>
      have e : j = s := by omega
      subst e
      go_wp2
      go_ret2
      exact ⟨rfl, E.out⟩

end Go.Proofs.Ytndlkkacnpjlmaa
