/- WalkEnds: its reader. -/
import Derived.Test.YtcbciehffgaapaaZ6
namespace Go.Proofs.Ytcbciehffgaapaa
open Go.RowKit

theorem wrap_word (x : Int) : ∃ m : Nat, IntKind.u64.wrap x = (m : Int) ∧ m < 18446744073709551616 := by
  refine ⟨(x % 18446744073709551616).toNat, ?_, ?_⟩
  · simp [IntKind.wrap, IntKind.bits, IntKind.signed]
    omega
  · omega
theorem bits_word (o : BinOp) (x y : Int) : ∃ m : Nat, bits o .u64 x y = (m : Int) ∧ m < 18446744073709551616 := by
  unfold bits
  exact wrap_word _

/-- The word that the reader tells. -/
def mixE (salt keep p : Nat) : Nat := (bits .andNot .u64 (bits .xor .u64 (IntKind.u64.wrap ((p : Int) * 11400714819323198485)) (salt : Int)) (keep : Int)).toNat
def rdE (salt keep : Nat) : Nat → Nat × Bool := fun p => (mixE salt keep p, decide (p ≠ salt))
def IE (b salt keep : Nat) (m : Nat) (w : World) : Prop := w.heap[b + 2]? = some (.cells #[.int .i64 (m : Int)] 3) ∧ w.heap[b]? = some (.cells #[.int .u64 (salt : Int)] 22) ∧ w.heap[b + 1]? = some (.cells #[.int .u64 (keep : Int)] 22)

set_option maxHeartbeats 2000000 in
theorem readE (b salt keep : Nat) : RD (b + 3) 20 #[.pointer (some ⟨b + 2, 0, none⟩), .pointer (some ⟨b, 0, none⟩), .pointer (some ⟨b + 1, 0, none⟩)] (rdE salt keep) (· = b + 2) (IE b salt keep) where
  fn := ⟨_, Try.func20, rfl, by decide⟩
  lt b h := by omega
  word p := by
    obtain ⟨m, h1, h2⟩ := bits_word .andNot (bits .xor .u64 (IntKind.u64.wrap ((p : Int) * 11400714819323198485)) (salt : Int)) (keep : Int)
    show mixE salt keep p < _
    unfold mixE
    rw [h1]
    exact h2
  keep m w w' h k := ⟨(k.block _ (by omega)).trans h.1, (k.block _ (by omega)).trans h.2.1, (k.block _ (by omega)).trans h.2.2⟩
  size m w h := lt_of_row h.1
  call n w p h hn hp := by
    show Calls Try.prog 20 #[.int .u64 (p : Int), .pointer (some ⟨b + 2, 0, none⟩), .pointer (some ⟨b, 0, none⟩), .pointer (some ⟨b + 1, 0, none⟩)] w fun e w' => e = .returned (.tuple #[.int .u64 (mixE salt keep p : Int), .bool (decide (p ≠ salt))]) ∧ IE b salt keep (n + 1) w' ∧ Fr (· = b + 2) w w'
    obtain ⟨m1, e1, _⟩ := wrap_word ((p : Int) * 11400714819323198485)
    obtain ⟨m2, e2, _⟩ := bits_word .xor (m1 : Int) (salt : Int)
    obtain ⟨m3, e3, _⟩ := bits_word .andNot (m2 : Int) (keep : Int)
    have e4 : mixE salt keep p = m3 := by unfold mixE; rw [e1, e2, e3]; rfl
    obtain ⟨q, hq⟩ : ∃ q, decide (p ≠ salt) = q := ⟨_, rfl⟩
    have eq : ((p : Int) != (salt : Int)) = q := by
      rw [← hq]
      by_cases c : p = salt
      · rw [c]; simp
      · rw [decide_eq_true c, bne_iff_ne]; omega
    have c1 := cell_one h.1
    have c2 := cell_one h.2.1
    have c3 := cell_one h.2.2
    have z1 : w.frozen? ⟨b + 2, 0, none⟩ = false := frozen_of_row _ _ 0 _ _ h.1
    have yn : (n : Int) ≤ 100 := by omega
    have HI : Hid (IE b salt keep n w) := h
    rw [e4, hq]
    clear h hq hp hn e4
    go_enter Try.func20, Try.ntmps20
    go_wp2_with fail
    go_quiet (fail)
    go_wp2
    go_ret2
    have k := cnt_step HI.out.1
    exact ⟨rfl, ⟨k.1, (heap_setCell_other w ⟨b + 2, 0, none⟩ b _ (by simp)).trans HI.out.2.1, (heap_setCell_other w ⟨b + 2, 0, none⟩ (b + 1) _ (by simp)).trans HI.out.2.2⟩, k.2.trans ((Kp.refl _).drewN _ |>.fr _)⟩

theorem idx_and0 (u : Nat) (hu : u < 18446744073709551616) : bits .and .u64 ((u : Int) / 549755813888) 511 = (idx u ((0 : Nat) : Int) : Int) := field_and u 39 9 hu (by decide)
theorem idx_and1 (u : Nat) (hu : u < 18446744073709551616) : bits .and .u64 ((u : Int) / 1073741824) 511 = (idx u ((1 : Nat) : Int) : Int) := field_and u 30 9 hu (by decide)
theorem idx_and2 (u : Nat) (hu : u < 18446744073709551616) : bits .and .u64 ((u : Int) / 2097152) 511 = (idx u ((2 : Nat) : Int) : Int) := field_and u 21 9 hu (by decide)
theorem idx_and3 (u : Nat) (hu : u < 18446744073709551616) : bits .and .u64 ((u : Int) / 4096) 511 = (idx u ((3 : Nat) : Int) : Int) := field_and u 12 9 hu (by decide)
theorem at_wrap (t u l : Nat) : IntKind.u64.wrap ((t : Int) + (idx u (l : Int) : Int) * 8) = (atN t u l : Int) := by
  unfold atN
  rw [Nat.mul_comm]
  simp [IntKind.wrap, IntKind.bits, IntKind.signed]

set_option maxHeartbeats 8000000 in
set_option maxRecDepth 10000 in
theorem ends_walk (stage s : Int) (m root u salt keep : Nat) (w : World) (p1 : bits .and .i64 stage 1 = (m : Int)) (p2 : (m : Int) ≤ 1) (p3 : 1 + (m : Int) = s) (hr : root < 18446744073709551616) (hu : u < 18446744073709551616) :
    Calls Try.prog 5 #[.int .i64 stage, .int .u64 (root : Int), .int .u64 (u : Int), .int .u64 (salt : Int), .int .u64 (keep : Int)] w fun e w' => e = .returned (.bool true) ∧ Kp w w' := by
  have st : Aside (∀ w, Calls Try.prog 16 #[] w fun e w' => e = .returned (.bool true) ∧ Kp w w') := fun w => wtold_any w
  have hmf : ∀ (fn : Fn) (first cap : Array Value) (w : World), (Instr.makeFunc fn first cap).run Try.prog w = .ok (.func fn first cap) w := fun _ _ _ _ => rfl
  obtain ⟨w2, hw2⟩ : ∃ w2, w2 = ((w.alloc (.cells #[.int .u64 (salt : Int)] 22)).alloc (.cells #[.int .u64 (keep : Int)] 22)).alloc (.cells #[.int .i64 0] 3) := ⟨_, rfl⟩
  have K2 : Kp w w2 := by rw [hw2]; exact (((Kp.refl w).alloc _).alloc _).alloc _
  have I2 : IE w.heap.size salt keep 0 w2 := by
    rw [hw2]
    refine ⟨?_, ((((Kp.refl _).alloc _).alloc _).block w.heap.size (by simp)).trans (heap_alloc_new w _), ?_⟩
    · have := heap_alloc_new ((w.alloc (.cells #[.int .u64 (salt : Int)] 22)).alloc (.cells #[.int .u64 (keep : Int)] 22)) (.cells #[.int .i64 0] 3)
      simpa using this
    · have := heap_alloc_new (w.alloc (.cells #[.int .u64 (salt : Int)] 22)) (.cells #[.int .u64 (keep : Int)] 22)
      refine (((Kp.refl _).alloc _).block (w.heap.size + 1) (by simp)).trans ?_
      simpa using this
  have c1 := walk_any (readE w.heap.size salt keep) s (by omega) root u 0 hr hu (by decide) w2 I2
  have E := ends_any s u (rdE salt keep) 4 0 root (by decide) (by decide)
  obtain ⟨⟨L, k, n⟩, hg⟩ : ∃ g, g = goW s u (rdE salt keep) 4 0 root := ⟨_, rfl⟩
  rw [← hg] at c1 E
  clear hg
  have C1 : Aside (Calls Try.prog 9 #[.int .i64 s, .int .u64 (root : Int), .int .u64 (u : Int), .func (.func 20) #[] #[.pointer (some ⟨w.heap.size + 2, 0, none⟩), .pointer (some ⟨w.heap.size, 0, none⟩), .pointer (some ⟨w.heap.size + 1, 0, none⟩)]] w2 fun e w' => e = .returned (.tuple #[.slice (some ⟨w2.heap.size, 0, none⟩) L.length 4, .int .i64 k]) ∧ WL w' w2.heap.size L ∧ IE w.heap.size salt keep (0 + n) w' ∧ Fr (· = w.heap.size + 2) w2 w') := c1
  have HK : Hid (Kp w w2) := K2
  have HE : Hid (WE u 4 0 root (L, k, n)) := E
  clear c1 I2 K2 E
  rw [Nat.zero_add] at C1
  go_enter Try.func5, Try.ntmps5
  go_wp2_with fail
  rw [← hw2, show w.heap.size + 1 + 1 = w.heap.size + 2 from rfl]
  clear hw2
  with_reducible refine C1.out.mono ?_
  rintro e w3 ⟨rfl, L3, I3, F3⟩
  have K3 : Kp w w3 := F3.kp HK.out (fun i e => by omega)
  generalize w2.heap.size = b2 at *
  have HK3 : Hid (Kp w w3) := K3
  have HL3 : Hid (WL w3 b2 L) := L3
  have cn := cell_one I3.1
  clear HK F3 C1 K3 L3 I3
  have E := HE.out
  obtain ⟨ll, hll⟩ : ∃ ll, L.length = ll := ⟨_, rfl⟩
  have q1 : (n : Int) ≤ 4 := by have := E.few; simp at this; omega
  have q2 : (ll : Int) ≤ (n : Int) := by have := E.le; simp at this; omega
  have q3 : (n : Int) - 1 ≤ (ll : Int) := by have := E.ge; simp at this; omega
  have HL : Hid (L.length = ll) := hll
  obtain ⟨bk, hbk⟩ : ∃ bk, (k == -1) = bk := ⟨_, rfl⟩
  have hbn : decide ((ll : Int) < (n : Int)) = bk := by
    rw [← hbk]
    have h := E.stop
    simp only [hll] at h
    by_cases c : k = -1
    · rw [c, decide_eq_true (by have := h.1 c; omega)]; rfl
    · rw [decide_eq_false (fun x => c (h.2 (by omega)))]; symm; rw [beq_eq_false_iff_ne]; exact c
  have hbm : decide (ll < n) = bk := by rw [← hbn]; exact decide_eq_decide.2 (by omega)
  have z1 : decide ((4 : Int) < (n : Int)) = false := decide_eq_false (by omega)
  have z2 : decide ((n : Int) < (ll : Int)) = false := decide_eq_false (by omega)
  have z3 : decide (n < ll) = false := decide_eq_false (by omega)
  have z4 : decide ((ll : Int) < (n : Int) - 1) = false := decide_eq_false (by omega)
  rw [hll]
  clear E hll
  go_wp2_with fail
  clear z1 z2 z3 z4 hbn hbm hbk
  go_loopg [15, 16] (ll + 1) (fun g v15 v16 wr => ∃ i : Nat, v15 = .int .u64 (tabN root L i : Nat) ∧ v16 = .int .i64 (i : Int) ∧ i ≤ ll ∧ ll + 1 - i ≤ g ∧ wr = w3)
  case atStart => exact ⟨0, rfl, rfl, Nat.zero_le _, by omega, rfl⟩
  case round =>
    obtain ⟨i, rfl, rfl, i1, ig, rfl⟩ := hrel
    by_cases c : i < ll
    · obtain ⟨x, hx⟩ : ∃ x, L[i]? = some x := ⟨_, List.getElem?_eq_getElem (by rw [HL.out]; exact c)⟩
      obtain ⟨a1, a2, a3⟩ := HE.out.step i x hx
      rw [Nat.zero_add] at a1 a2
      have hn : tabN root L (i + 1) = x.d.a := by show ((L[i]?).map (fun x => x.d.a)).getD 0 = _; rw [hx]; rfl
      have d0 := HL3.out.cell (j := 0) hx rfl
      have d1 := HL3.out.cell (j := 1) hx rfl
      have d3 := HL3.out.cell (j := 3) hx rfl
      have d4 := HL3.out.cell (j := 4) hx rfl
      have ei := idx_lt u i
      have ew := at_wrap (tabN root L i) u i
      rw [← a2] at ew
      rw [a1] at d0
      have a3 : i + 1 < ll → x.d.k = 1 := fun h => a3 (by rw [HL.out]; exact h)
      clear a1 a2 hx
      obtain ⟨xl, xp, xu, ⟨xk, xa, xr, xq, xx, xf⟩⟩ := x
      simp only at hn d0 d1 d3 d4 ew a3
      generalize tabN root L i = T at *
      have hll4 : ll ≤ 4 := by omega
      rcases (by omega : i = 0 ∨ i = 1 ∨ i = 2 ∨ i = 3) with rfl | rfl | rfl | rfl
      · have pa := idx_and0 u hu
        have e0 : wr.cell? ⟨b2, 0, none⟩ = some (.int .i64 0) := d0
        have e1 : wr.cell? ⟨b2, 1, none⟩ = some (.int .u64 (xp : Int)) := d1
        have e3 : wr.cell? ⟨b2, 3, none⟩ = some (.int .i64 xk) := d3
        have e4 : wr.cell? ⟨b2, 4, none⟩ = some (.int .u64 (xa : Int)) := d4
        have yi : (idx u ((0 : Nat) : Int) : Int) < 512 := by omega
        have HN : Hid (tabN root L 1 = xa) := hn
        clear d0 d1 d3 d4 ei hn hu hr
        rw [show ((0 : Nat) : Int) = 0 from rfl] at *
        generalize idx u 0 = ix at *
        have y0 : (0 : Int) < (ll : Int) := by omega
        by_cases c2 : 1 < ll
        · have hk := a3 c2
          subst hk
          have y1 : (1 : Int) < (ll : Int) := by omega
          clear a3
          go_wp2
          go_roundg (ll + 1 - 1)
          case measure => omega
          case rel => exact ⟨1, by rw [HN.out], rfl, by omega, by omega, rfl⟩
        · have y1 : ¬ (1 : Int) < (ll : Int) := by omega
          clear a3
          go_wp2
          go_roundg (ll + 1 - 1)
          case measure => omega
          case rel => exact ⟨1, by rw [HN.out], rfl, by omega, by omega, rfl⟩
      · have pa := idx_and1 u hu
        have e0 : wr.cell? ⟨b2, 9, none⟩ = some (.int .i64 1) := d0
        have e1 : wr.cell? ⟨b2, 10, none⟩ = some (.int .u64 (xp : Int)) := d1
        have e3 : wr.cell? ⟨b2, 12, none⟩ = some (.int .i64 xk) := d3
        have e4 : wr.cell? ⟨b2, 13, none⟩ = some (.int .u64 (xa : Int)) := d4
        have yi : (idx u ((1 : Nat) : Int) : Int) < 512 := by omega
        have HN : Hid (tabN root L 2 = xa) := hn
        clear d0 d1 d3 d4 ei hn hu hr
        rw [show ((1 : Nat) : Int) = 1 from rfl] at *
        generalize idx u 1 = ix at *
        have y0 : (1 : Int) < (ll : Int) := by omega
        by_cases c2 : 2 < ll
        · have hk := a3 c2
          subst hk
          have y1 : (2 : Int) < (ll : Int) := by omega
          clear a3
          go_wp2
          go_roundg (ll + 1 - 2)
          case measure => omega
          case rel => exact ⟨2, by rw [HN.out], rfl, by omega, by omega, rfl⟩
        · have y1 : ¬ (2 : Int) < (ll : Int) := by omega
          clear a3
          go_wp2
          go_roundg (ll + 1 - 2)
          case measure => omega
          case rel => exact ⟨2, by rw [HN.out], rfl, by omega, by omega, rfl⟩
      · have pa := idx_and2 u hu
        have e0 : wr.cell? ⟨b2, 18, none⟩ = some (.int .i64 2) := d0
        have e1 : wr.cell? ⟨b2, 19, none⟩ = some (.int .u64 (xp : Int)) := d1
        have e3 : wr.cell? ⟨b2, 21, none⟩ = some (.int .i64 xk) := d3
        have e4 : wr.cell? ⟨b2, 22, none⟩ = some (.int .u64 (xa : Int)) := d4
        have yi : (idx u ((2 : Nat) : Int) : Int) < 512 := by omega
        have HN : Hid (tabN root L 3 = xa) := hn
        clear d0 d1 d3 d4 ei hn hu hr
        rw [show ((2 : Nat) : Int) = 2 from rfl] at *
        generalize idx u 2 = ix at *
        have y0 : (2 : Int) < (ll : Int) := by omega
        by_cases c2 : 3 < ll
        · have hk := a3 c2
          subst hk
          have y1 : (3 : Int) < (ll : Int) := by omega
          clear a3
          go_wp2
          go_roundg (ll + 1 - 3)
          case measure => omega
          case rel => exact ⟨3, by rw [HN.out], rfl, by omega, by omega, rfl⟩
        · have y1 : ¬ (3 : Int) < (ll : Int) := by omega
          clear a3
          go_wp2
          go_roundg (ll + 1 - 3)
          case measure => omega
          case rel => exact ⟨3, by rw [HN.out], rfl, by omega, by omega, rfl⟩
      · have pa := idx_and3 u hu
        have e0 : wr.cell? ⟨b2, 27, none⟩ = some (.int .i64 3) := d0
        have e1 : wr.cell? ⟨b2, 28, none⟩ = some (.int .u64 (xp : Int)) := d1
        have e3 : wr.cell? ⟨b2, 30, none⟩ = some (.int .i64 xk) := d3
        have e4 : wr.cell? ⟨b2, 31, none⟩ = some (.int .u64 (xa : Int)) := d4
        have yi : (idx u ((3 : Nat) : Int) : Int) < 512 := by omega
        have HN : Hid (tabN root L 4 = xa) := hn
        clear d0 d1 d3 d4 ei hn hu hr
        rw [show ((3 : Nat) : Int) = 3 from rfl] at *
        generalize idx u 3 = ix at *
        have y0 : (3 : Int) < (ll : Int) := by omega
        by_cases c2 : 4 < ll
        · exact absurd c2 (by omega)
        · have y1 : ¬ (4 : Int) < (ll : Int) := by omega
          clear a3
          go_wp2
          go_roundg (ll + 1 - 4)
          case measure => omega
          case rel => exact ⟨4, by rw [HN.out], rfl, by omega, by omega, rfl⟩
    · have ei : i = ll := by omega
      subst ei
      have y1 : ¬ (i : Int) < (i : Int) := by omega
      clear hu hr
      generalize tabN root L i = T at *
      obtain ⟨bz, hbz⟩ : ∃ bz, (k == 0) = bz := ⟨_, rfl⟩
      have hl := HE.out.last
      simp only at hl
      cases i with
      | zero =>
        have e0 : L = [] := List.eq_nil_of_length_eq_zero HL.out
        have ez : bz = false := by
          rw [← hbz, beq_eq_false_iff_ne]
          intro h
          have := hl.1 h
          rw [e0] at this
          revert this
          decide
        subst ez
        clear hl e0
        rw [show ((0 : Nat) : Int) = 0 from rfl] at *
        go_wp2_with fail
        with_reducible refine (st.out _).mono ?_
        rintro e w4 ⟨rfl, K⟩
        have HK4 : Hid (Kp w w4) := HK3.out.trans K
        clear K
        go_wp2
        go_ret
        exact ⟨rfl, HK4.out⟩
      | succ j =>
        obtain ⟨x, hx⟩ : ∃ x, L[j]? = some x := ⟨_, List.getElem?_eq_getElem (by rw [HL.out]; omega)⟩
        have ek : lastK L = x.d.k := by
          unfold lastK
          rw [List.getLast?_eq_getElem?, HL.out]
          show ((L[j]?).map (fun x => x.d.k)).getD 0 = _
          rw [hx]; rfl
        have d3 := HL3.out.cell (j := 3) hx rfl
        rw [ek] at hl
        clear ek hx
        obtain ⟨xl, xp, xu, ⟨xk, xa, xr, xq, xx, xf⟩⟩ := x
        simp only at d3 hl
        have ez : ((xk == 3) || (xk == 2)) = bz := by
          rw [← hbz]
          by_cases h : k = 0
          · rcases hl.1 h with h2 | h2 <;> rw [h, h2] <;> rfl
          · have h3 : ¬ (xk = 3 ∨ xk = 2) := fun e => h (hl.2 e)
            rw [show (k == 0) = false from by rw [beq_eq_false_iff_ne]; exact h, show (xk == 3) = false from by rw [beq_eq_false_iff_ne]; omega, show (xk == 2) = false from by rw [beq_eq_false_iff_ne]; omega]
            rfl
        have HZ : Hid (((xk == 3) || (xk == 2)) = bz) := ez
        have y2 : ((j + 1 : Nat) : Int) - 1 = (j : Int) := by omega
        have y3 : (0 : Int) < ((j + 1 : Nat) : Int) := by omega
        clear hl ez
        go_wp2_with fail
        with_reducible refine (st.out _).mono ?_
        rintro e w4 ⟨rfl, K⟩
        have HK4 : Hid (Kp w w4) := HK3.out.trans K
        clear K
        by_cases g3 : xk = 3
        · subst g3
          have ez : bz = true := HZ.out.symm
          subst ez
          go_wp2
          go_ret
          exact ⟨rfl, HK4.out⟩
        · have g4 : (xk == 3) = false := by rw [beq_eq_false_iff_ne]; exact g3
          have ez : (xk == 2) = bz := by have h := HZ.out; rw [g4, Bool.false_or] at h; exact h
          go_wp2
          go_ret
          exact ⟨rfl, HK4.out⟩

theorem ends_law (stage root u salt keep : Int) (hr : (Lit.int .u64 root).wf = true) (hu : (Lit.int .u64 u).wf = true) (hs : (Lit.int .u64 salt).wf = true) (hk : (Lit.int .u64 keep).wf = true) (w : World) :
    Calls Try.prog 5 #[.int .i64 stage, .int .u64 root, .int .u64 u, .int .u64 salt, .int .u64 keep] w fun e w' => e = .returned (.bool true) ∧ Kp w w' := by
  have b1 := wf_word hr
  have b2 := wf_word hu
  have b3 := wf_word hs
  have b4 := wf_word hk
  obtain ⟨root, rfl⟩ : ∃ n : Nat, root = n := ⟨root.toNat, by omega⟩
  obtain ⟨u, rfl⟩ : ∃ n : Nat, u = n := ⟨u.toNat, by omega⟩
  obtain ⟨salt, rfl⟩ : ∃ n : Nat, salt = n := ⟨salt.toNat, by omega⟩
  obtain ⟨keep, rfl⟩ : ∃ n : Nat, keep = n := ⟨keep.toNat, by omega⟩
  obtain ⟨m, hm, hm'⟩ := and_lim stage 1 (by decide)
  exact ends_walk stage _ m root u salt keep w hm (by omega) rfl (by omega) (by omega)

end Go.Proofs.Ytcbciehffgaapaa
