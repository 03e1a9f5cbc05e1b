/- The document's tlb: New; is. -/
import Derived.Test.YtheahkfgmbmdcaaT20
import Derived.Test.YtheahkfgmbmdcaaT10
import Derived.Test.YtheahkfgmbmdcaaT11
namespace Go.Proofs.Ytheahkfgmbmdcaa
open Go.RowKit
set_option maxRecDepth 10000

/-- Is s one of the first j powers of two? -/
def okN (s : Int) : Nat → Bool
  | 0 => false
  | j + 1 => okN s j || (s == [1, 2, 4, 8, 16, 32, 64, 128].getD j 0)
theorem okN_pw (s : Int) : okN s 7 = pwB s := rfl
theorem info_rplace : ∃ i, Try.prog.info? 72 = some i ∧ i.zero = some (pcV zP) ∧ i.size = 12 ∧ i.bytes = 56 := by
  have h : (Try.prog.info? 72).map (fun i => (i.zero, i.size, i.bytes)) = some (some (pcV zP), 12, 56) := by kernel_rfl
  obtain ⟨i, hi, e⟩ := Option.map_eq_some_iff.1 h
  simp only [Prod.mk.injEq] at e
  exact ⟨i, hi, e.1, e.2.1, e.2.2⟩
theorem make_rplaces (n : Nat) (w : World) (hn : n ≤ 512) :
    (Instr.makeSlice 60 (.int .i64 (n : Int)) (.int .i64 (n : Int))).run Try.prog w = .ok (.slice (some ⟨w.heap.size, 0, none⟩) n n) (w.alloc (.cells (offP n) 72)) := by
  obtain ⟨i0, hi, hz0, hz1, hz2⟩ := info_rplace
  have := run_make (P := Try.prog) w 60 72 i0 (pcV zP) Try.underlying60 hi hz0 .i64 .i64 n n (by omega) (by omega) (by rw [hz2]; omega) (by omega)
  rw [hz1] at this
  exact this
theorem TR.made (w : World) (s k : Nat) (s0 : 1 ≤ s) (s1 : s ≤ 64) (k0 : 1 ≤ k) (k1 : k ≤ 8) :
    TR ((w.alloc (.cells (offP (s * k)) 72)).alloc (.cells #[.int .i64 (s : Int), .int .i64 (k : Int), .slice (some ⟨w.heap.size, 0, none⟩) (s * k) (s * k)] 62)) (w.heap.size + 1) w.heap.size s k (fun _ => zP) := by
  have R := RX.made1 w (.cells (offP (s * k)) 72) 62 [.int .i64 (s : Int), .int .i64 (k : Int), .slice (some ⟨w.heap.size, 0, none⟩) (s * k) (s * k)]
  have P : PR (w.alloc (.cells (offP (s * k)) 72)) w.heap.size (s * k) (fun _ => zP) :=
    ⟨by simp, fun i j y hi hy => by rw [cell_of_row _ _ (i * 12 + j) _ _ _ (heap_alloc_new w _)]; exact offP_get _ i j y hi hy, fun j => frozen_of_row _ _ j _ _ (heap_alloc_new w _)⟩
  exact ⟨R.cell rfl, R.cell rfl, R.cell rfl, P.kp ((Kp.refl _).alloc _), R.lt, by omega, s0, s1, k0, k1⟩

/-- What New leaves. -/
def trQ (s k : Int) (w : World) (e : Ending) (w' : World) : Prop :=
  ((pwB s = true ∧ 1 ≤ k ∧ k ≤ 8) → e = .returned (.tuple #[.pointer (some ⟨w.heap.size + 1, 0, none⟩), .int .i64 0]) ∧ w' = (w.alloc (.cells (offP (s.toNat * k.toNat)) 72)).alloc (.cells #[.int .i64 s, .int .i64 k, .slice (some ⟨w.heap.size, 0, none⟩) (s.toNat * k.toNat) (s.toNat * k.toNat)] 62)) ∧
  (¬ (pwB s = true ∧ 1 ≤ k ∧ k ≤ 8) → e = .returned (.tuple #[.pointer none, .int .i64 1]) ∧ w' = w)
set_option maxHeartbeats 4000000 in
theorem trnew_walk (s k : Int) (w : World) :
    Calls Try.prog 8 #[.int .i64 s, .int .i64 k] w fun e w' => trQ s k w e w' := by
  go_enter Try.func8, Try.ntmps8
  go_wp2_with fail
  go_loopg [6, 7] 7 (fun gk v6 v7 wr => ∃ (j : Nat) (bo : Bool), j ≤ 7 ∧ v6 = .bool bo ∧ v7 = .int .i64 ([1, 2, 4, 8, 16, 32, 64, 128].getD j 0) ∧ 7 - j ≤ gk ∧ Hid (okN s j = bo) ∧ Hid (wr = w))
  case atStart => exact ⟨0, false, by decide, rfl, rfl, by decide, rfl, rfl⟩
  case round =>
    obtain ⟨j, bo, hj, rfl, rfl, hg, HB, HD⟩ := hrel
    rcases (by omega : j = 0 ∨ j = 1 ∨ j = 2 ∨ j = 3 ∨ j = 4 ∨ j = 5 ∨ j = 6 ∨ j = 7) with rfl | rfl | rfl | rfl | rfl | rfl | rfl | rfl
    all_goals simp only [List.getD_cons_zero, List.getD_cons_succ]
    · have HB2 : Hid (okN s 1 = (bo || (s == 1))) := by rw [← HB.out]; rfl
      obtain ⟨be, hbe⟩ : ∃ be, (s == 1) = be := ⟨_, rfl⟩
      rw [hbe] at HB2
      cases bo
      · go_wp2_with fail
        go_roundg (6)
        case measure => omega
        case rel => exact ⟨1, be, by decide, rfl, rfl, by decide, HB2, HD⟩
      · go_wp2_with fail
        go_roundg (6)
        case measure => omega
        case rel => exact ⟨1, true, by decide, rfl, rfl, by decide, HB2, HD⟩
    · have HB2 : Hid (okN s 2 = (bo || (s == 2))) := by rw [← HB.out]; rfl
      obtain ⟨be, hbe⟩ : ∃ be, (s == 2) = be := ⟨_, rfl⟩
      rw [hbe] at HB2
      cases bo
      · go_wp2_with fail
        go_roundg (5)
        case measure => omega
        case rel => exact ⟨2, be, by decide, rfl, rfl, by decide, HB2, HD⟩
      · go_wp2_with fail
        go_roundg (5)
        case measure => omega
        case rel => exact ⟨2, true, by decide, rfl, rfl, by decide, HB2, HD⟩
    · have HB2 : Hid (okN s 3 = (bo || (s == 4))) := by rw [← HB.out]; rfl
      obtain ⟨be, hbe⟩ : ∃ be, (s == 4) = be := ⟨_, rfl⟩
      rw [hbe] at HB2
      cases bo
      · go_wp2_with fail
        go_roundg (4)
        case measure => omega
        case rel => exact ⟨3, be, by decide, rfl, rfl, by decide, HB2, HD⟩
      · go_wp2_with fail
        go_roundg (4)
        case measure => omega
        case rel => exact ⟨3, true, by decide, rfl, rfl, by decide, HB2, HD⟩
    · have HB2 : Hid (okN s 4 = (bo || (s == 8))) := by rw [← HB.out]; rfl
      obtain ⟨be, hbe⟩ : ∃ be, (s == 8) = be := ⟨_, rfl⟩
      rw [hbe] at HB2
      cases bo
      · go_wp2_with fail
        go_roundg (3)
        case measure => omega
        case rel => exact ⟨4, be, by decide, rfl, rfl, by decide, HB2, HD⟩
      · go_wp2_with fail
        go_roundg (3)
        case measure => omega
        case rel => exact ⟨4, true, by decide, rfl, rfl, by decide, HB2, HD⟩
    · have HB2 : Hid (okN s 5 = (bo || (s == 16))) := by rw [← HB.out]; rfl
      obtain ⟨be, hbe⟩ : ∃ be, (s == 16) = be := ⟨_, rfl⟩
      rw [hbe] at HB2
      cases bo
      · go_wp2_with fail
        go_roundg (2)
        case measure => omega
        case rel => exact ⟨5, be, by decide, rfl, rfl, by decide, HB2, HD⟩
      · go_wp2_with fail
        go_roundg (2)
        case measure => omega
        case rel => exact ⟨5, true, by decide, rfl, rfl, by decide, HB2, HD⟩
    · have HB2 : Hid (okN s 6 = (bo || (s == 32))) := by rw [← HB.out]; rfl
      obtain ⟨be, hbe⟩ : ∃ be, (s == 32) = be := ⟨_, rfl⟩
      rw [hbe] at HB2
      cases bo
      · go_wp2_with fail
        go_roundg (1)
        case measure => omega
        case rel => exact ⟨6, be, by decide, rfl, rfl, by decide, HB2, HD⟩
      · go_wp2_with fail
        go_roundg (1)
        case measure => omega
        case rel => exact ⟨6, true, by decide, rfl, rfl, by decide, HB2, HD⟩
    · have HB2 : Hid (okN s 7 = (bo || (s == 64))) := by rw [← HB.out]; rfl
      obtain ⟨be, hbe⟩ : ∃ be, (s == 64) = be := ⟨_, rfl⟩
      rw [hbe] at HB2
      cases bo
      · go_wp2_with fail
        go_roundg (0)
        case measure => omega
        case rel => exact ⟨7, be, by decide, rfl, rfl, by decide, HB2, HD⟩
      · go_wp2_with fail
        go_roundg (0)
        case measure => omega
        case rel => exact ⟨7, true, by decide, rfl, rfl, by decide, HB2, HD⟩
    · have hw := HD.out
      subst hw
      have hb : pwB s = bo := HB.out
      clear HB HD
      cases bo
      · go_wp2
        go_ret2
        exact ⟨fun h => absurd (hb.symm.trans h.1) (by decide), fun _ => ⟨rfl, rfl⟩⟩
      · by_cases c1 : k < 1
        · have d1 : decide (k < 1) = true := decide_eq_true c1
          go_wp2
          go_ret2
          exact ⟨fun h => by omega, fun _ => ⟨rfl, rfl⟩⟩
        · have d1 : decide (k < 1) = false := decide_eq_false c1
          by_cases c2 : 8 < k
          · have d2 : decide (8 < k) = true := decide_eq_true c2
            go_wp2
            go_ret2
            exact ⟨fun h => by omega, fun _ => ⟨rfl, rfl⟩⟩
          · have d2 : decide (8 < k) = false := decide_eq_false c2
            have r := pw_range hb
            obtain ⟨s', rfl⟩ : ∃ s' : Nat, s = (s' : Int) := ⟨s.toNat, by omega⟩
            obtain ⟨k', rfl⟩ : ∃ k' : Nat, k = (k' : Int) := ⟨k.toNat, by omega⟩
            have n1 : s' * k' ≤ 512 := Nat.le_trans (Nat.mul_le_mul (show s' ≤ 64 by omega) (show k' ≤ 8 by omega)) (by decide)
            have hm := make_rplaces (s' * k') wr n1
            obtain ⟨N, hN⟩ : ∃ N, s' * k' = N := ⟨_, rfl⟩
            have e1 : (s' : Int) * (k' : Int) = (N : Int) := by rw [← hN]; exact (Int.natCast_mul s' k').symm
            rw [hN] at hm n1
            have HN : Hid (s' * k' = N) := hN
            have hb' : Hid (pwB (s' : Int) = true ∧ 1 ≤ (k' : Int) ∧ (k' : Int) ≤ 8) := ⟨hb, by omega, by omega⟩
            obtain ⟨A, hA⟩ : ∃ A, offP N = A := ⟨_, rfl⟩
            rw [hA] at hm
            have HA : Hid (offP N = A) := hA
            clear hb hN r hA
            go_wp2
            go_ret2
            exact ⟨fun _ => ⟨rfl, by rw [Int.toNat_natCast, Int.toNat_natCast, HN.out, HA.out]⟩, fun h => absurd hb'.out h⟩

set_option maxHeartbeats 2000000 in
theorem is_all (m l : LN) (w : World) :
    Calls Try.prog 42 #[.agg #[.bool false, .bool false, .bool false, .bool false, .bool false, .int .i64 m.i, .int .i64 m.a, .int .u64 (m.v : Int), .int .u64 (m.p : Int), .int .i64 m.f, .bool m.r, .bool m.q, .bool m.x, .bool m.r2, .bool m.q2, .bool m.x2], lnV l] w fun e w' => e = .returned (.bool (suB false false false false false m l)) ∧ Kp w w' := by
  obtain ⟨R, hR⟩ : ∃ R, suB false false false false false m l = R := ⟨_, rfl⟩
  rw [hR]
  simp only [lnV]
  have e : R = true := by rw [← hR]; simp only [suB]; rfl
  subst e
  clear hR
  go_enter Try.func42, Try.ntmps42
  go_wp2
  go_ret
  exact ⟨rfl, ((Kp.refl w).alloc _).alloc _⟩

set_option maxHeartbeats 2000000 in
theorem is_id (m l : LN) (w : World) :
    Calls Try.prog 42 #[.agg #[.bool true, .bool false, .bool false, .bool false, .bool false, .int .i64 m.i, .int .i64 m.a, .int .u64 (m.v : Int), .int .u64 (m.p : Int), .int .i64 m.f, .bool m.r, .bool m.q, .bool m.x, .bool m.r2, .bool m.q2, .bool m.x2], lnV l] w fun e w' => e = .returned (.bool (suB true false false false false m l)) ∧ Kp w w' := by
  obtain ⟨R, hR⟩ : ∃ R, suB true false false false false m l = R := ⟨_, rfl⟩
  rw [hR]
  simp only [lnV]
  obtain ⟨bi, hi⟩ : ∃ bi, (l.i == m.i) = bi := ⟨_, rfl⟩
  cases bi
  · have e : R = false := by rw [← hR]; simp only [suB, hi]; rfl
    subst e
    clear hR
    go_enter Try.func42, Try.ntmps42
    go_wp2
    go_ret
    exact ⟨rfl, ((Kp.refl w).alloc _).alloc _⟩
  have e : R = true := by rw [← hR]; simp only [suB, hi]; rfl
  subst e
  clear hR
  go_enter Try.func42, Try.ntmps42
  go_wp2
  go_ret
  exact ⟨rfl, ((Kp.refl w).alloc _).alloc _⟩

set_option maxHeartbeats 2000000 in
theorem is_asid (m l : LN) (w : World) :
    Calls Try.prog 42 #[.agg #[.bool true, .bool true, .bool false, .bool false, .bool false, .int .i64 m.i, .int .i64 m.a, .int .u64 (m.v : Int), .int .u64 (m.p : Int), .int .i64 m.f, .bool m.r, .bool m.q, .bool m.x, .bool m.r2, .bool m.q2, .bool m.x2], lnV l] w fun e w' => e = .returned (.bool (suB true true false false false m l)) ∧ Kp w w' := by
  obtain ⟨R, hR⟩ : ∃ R, suB true true false false false m l = R := ⟨_, rfl⟩
  rw [hR]
  simp only [lnV]
  obtain ⟨bi, hi⟩ : ∃ bi, (l.i == m.i) = bi := ⟨_, rfl⟩
  cases bi
  · have e : R = false := by rw [← hR]; simp only [suB, hi]; rfl
    subst e
    clear hR
    go_enter Try.func42, Try.ntmps42
    go_wp2
    go_ret
    exact ⟨rfl, ((Kp.refl w).alloc _).alloc _⟩
  obtain ⟨ba, ha⟩ : ∃ ba, (l.a == m.a) = ba := ⟨_, rfl⟩
  cases ba
  · have e : R = false := by rw [← hR]; simp only [suB, hi, ha]; rfl
    subst e
    clear hR
    go_enter Try.func42, Try.ntmps42
    go_wp2
    go_ret
    exact ⟨rfl, ((Kp.refl w).alloc _).alloc _⟩
  have e : R = true := by rw [← hR]; simp only [suB, hi, ha]; rfl
  subst e
  clear hR
  go_enter Try.func42, Try.ntmps42
  go_wp2
  go_ret
  exact ⟨rfl, ((Kp.refl w).alloc _).alloc _⟩

set_option maxHeartbeats 2000000 in
theorem is_va (m l : LN) (w : World) :
    Calls Try.prog 42 #[.agg #[.bool true, .bool true, .bool true, .bool false, .bool false, .int .i64 m.i, .int .i64 m.a, .int .u64 (m.v : Int), .int .u64 (m.p : Int), .int .i64 m.f, .bool m.r, .bool m.q, .bool m.x, .bool m.r2, .bool m.q2, .bool m.x2], lnV l] w fun e w' => e = .returned (.bool (suB true true true false false m l)) ∧ Kp w w' := by
  obtain ⟨R, hR⟩ : ∃ R, suB true true true false false m l = R := ⟨_, rfl⟩
  rw [hR]
  simp only [lnV]
  obtain ⟨bi, hi⟩ : ∃ bi, (l.i == m.i) = bi := ⟨_, rfl⟩
  cases bi
  · have e : R = false := by rw [← hR]; simp only [suB, hi]; rfl
    subst e
    clear hR
    go_enter Try.func42, Try.ntmps42
    go_wp2
    go_ret
    exact ⟨rfl, ((Kp.refl w).alloc _).alloc _⟩
  obtain ⟨ba, ha⟩ : ∃ ba, (l.a == m.a) = ba := ⟨_, rfl⟩
  cases ba
  · have e : R = false := by rw [← hR]; simp only [suB, hi, ha]; rfl
    subst e
    clear hR
    go_enter Try.func42, Try.ntmps42
    go_wp2
    go_ret
    exact ⟨rfl, ((Kp.refl w).alloc _).alloc _⟩
  obtain ⟨bv, hv⟩ : ∃ bv, ((l.v : Int) == (m.v : Int)) = bv := ⟨_, rfl⟩
  have gv : (l.v == m.v) = bv := by rw [← hv, Bool.eq_iff_iff]; simp; omega
  cases bv
  · have e : R = false := by rw [← hR]; simp only [suB, hi, ha, hv]; rfl
    subst e
    clear hR
    go_enter Try.func42, Try.ntmps42
    go_wp2
    go_ret
    exact ⟨rfl, ((Kp.refl w).alloc _).alloc _⟩
  have e : R = true := by rw [← hR]; simp only [suB, hi, ha, hv]; rfl
  subst e
  clear hR
  go_enter Try.func42, Try.ntmps42
  go_wp2
  go_ret
  exact ⟨rfl, ((Kp.refl w).alloc _).alloc _⟩

set_option maxHeartbeats 2000000 in
theorem is_page (m l : LN) (w : World) :
    Calls Try.prog 42 #[.agg #[.bool true, .bool false, .bool false, .bool true, .bool false, .int .i64 m.i, .int .i64 m.a, .int .u64 (m.v : Int), .int .u64 (m.p : Int), .int .i64 m.f, .bool m.r, .bool m.q, .bool m.x, .bool m.r2, .bool m.q2, .bool m.x2], lnV l] w fun e w' => e = .returned (.bool (suB true false false true false m l)) ∧ Kp w w' := by
  obtain ⟨R, hR⟩ : ∃ R, suB true false false true false m l = R := ⟨_, rfl⟩
  rw [hR]
  simp only [lnV]
  obtain ⟨bi, hi⟩ : ∃ bi, (l.i == m.i) = bi := ⟨_, rfl⟩
  cases bi
  · have e : R = false := by rw [← hR]; simp only [suB, hi]; rfl
    subst e
    clear hR
    go_enter Try.func42, Try.ntmps42
    go_wp2
    go_ret
    exact ⟨rfl, ((Kp.refl w).alloc _).alloc _⟩
  obtain ⟨bp, hp⟩ : ∃ bp, ((l.p : Int) == (m.p : Int)) = bp := ⟨_, rfl⟩
  have gp : (l.p == m.p) = bp := by rw [← hp, Bool.eq_iff_iff]; simp; omega
  cases bp
  · have e : R = false := by rw [← hR]; simp only [suB, hi, hp]; rfl
    subst e
    clear hR
    go_enter Try.func42, Try.ntmps42
    go_wp2
    go_ret
    exact ⟨rfl, ((Kp.refl w).alloc _).alloc _⟩
  have e : R = true := by rw [← hR]; simp only [suB, hi, hp]; rfl
  subst e
  clear hR
  go_enter Try.func42, Try.ntmps42
  go_wp2
  go_ret
  exact ⟨rfl, ((Kp.refl w).alloc _).alloc _⟩

set_option maxHeartbeats 2000000 in
theorem is_frame (m l : LN) (w : World) :
    Calls Try.prog 42 #[.agg #[.bool false, .bool false, .bool false, .bool false, .bool true, .int .i64 m.i, .int .i64 m.a, .int .u64 (m.v : Int), .int .u64 (m.p : Int), .int .i64 m.f, .bool m.r, .bool m.q, .bool m.x, .bool m.r2, .bool m.q2, .bool m.x2], lnV l] w fun e w' => e = .returned (.bool (suB false false false false true m l)) ∧ Kp w w' := by
  obtain ⟨R, hR⟩ : ∃ R, suB false false false false true m l = R := ⟨_, rfl⟩
  rw [hR]
  simp only [lnV]
  obtain ⟨bf, hf⟩ : ∃ bf, (l.f == m.f) = bf := ⟨_, rfl⟩
  cases bf
  · have e : R = false := by rw [← hR]; simp only [suB, hf]; rfl
    subst e
    clear hR
    go_enter Try.func42, Try.ntmps42
    go_wp2
    go_ret
    exact ⟨rfl, ((Kp.refl w).alloc _).alloc _⟩
  have e : R = true := by rw [← hR]; simp only [suB, hf]; rfl
  subst e
  clear hR
  go_enter Try.func42, Try.ntmps42
  go_wp2
  go_ret
  exact ⟨rfl, ((Kp.refl w).alloc _).alloc _⟩

end Go.Proofs.Ytheahkfgmbmdcaa
