/- WalkNear: the walk. -/
import Derived.Test.YtcbciehffgaapaaZC
import Derived.Test.YtcbciehffgaapaaEF
namespace Go.Proofs.Ytcbciehffgaapaa
open Go.RowKit
set_option linter.unusedVariables false

theorem we_leaf {u root : Nat} {L : List SV} {k : Int} {n : Nat} (E : WE u 4 0 root (L, k, n)) (hk : k = 0) : ∃ j x, L[j]? = some x ∧ L.length = j + 1 ∧ n = j + 1 ∧ j ≤ 3 ∧ x.l = j ∧ (x.d.k = 3 ∨ x.d.k = 2) ∧ x.d.a < 18446744073709551616 := by
  have h1 := E.few
  have h2 := E.le
  have h3 := E.stop
  have h4 := E.last
  simp only at h1 h2 h3 h4
  have h5 := h4.1 hk
  have h6 : ¬ L.length < n := fun e => by have := h3.2 e; omega
  cases hl : L.length with
  | zero =>
    have e0 : L = [] := List.eq_nil_of_length_eq_zero hl
    rw [e0] at h5
    have h7 : ¬ (lastK [] = 3 ∨ lastK [] = 2) := by decide
    exact absurd h5 h7
  | succ j =>
    obtain ⟨x, hx⟩ : ∃ x, L[j]? = some x := ⟨_, List.getElem?_eq_getElem (by omega)⟩
    have ek : lastK L = x.d.k := by
      unfold lastK
      rw [List.getLast?_eq_getElem?, hl]
      show ((L[j]?).map (fun x => x.d.k)).getD 0 = _
      rw [hx]; rfl
    rw [ek] at h5
    exact ⟨j, x, hx, rfl, by omega, by omega, by have := (E.step j x hx).1; omega, h5, E.addr j x hx⟩

set_option maxHeartbeats 16000000 in
set_option maxRecDepth 10000 in
theorem near_walk (stage s : Int) (m root u low : Nat) (levels : Int) (naD : Option Addr) (nD cD : Nat) (V : Nat → DV) (w : World) (HD : DS w naD nD V) (p1 : bits .and .i64 stage 1 = (m : Int)) (p2 : (m : Int) ≤ 1) (p3 : 1 + (m : Int) = s) (hr : root < 18446744073709551616) (hu : u < 18446744073709551616) (hl : low < 18446744073709551616) :
    Calls Try.prog 7 #[.int .i64 stage, .int .u64 (root : Int), .int .u64 (u : Int), .slice naD nD cD, .int .i64 levels, .int .u64 (low : Int)] w fun e w' => e = .returned (.bool true) ∧ Kp w w' := by
  have hs : 1 ≤ s ∧ s ≤ 2 := by omega
  have st : Aside (∀ w, Calls Try.prog 16 #[] w fun e w' => e = .returned (.bool true) ∧ Kp w w') := fun w => wtold_any w
  have hmf : ∀ (fn : Fn) (first cap : Array Value) (w : World), (Instr.makeFunc fn first cap).run Try.prog w = .ok (.func fn first cap) w := fun _ _ _ _ => rfl
  have cT := tables_any s hs root u hr hu levels naD none nD cD 0 0 V (fun _ => 0) w HD (fun i hi => by omega)
  have CT : Aside (Calls Try.prog 8 #[.int .i64 s, .int .u64 (root : Int), .int .u64 (u : Int), .slice naD nD cD, .slice none 0 0, .int .i64 levels] w fun e w' => ∃ va vx A X, e = .returned (.agg #[va, vx]) ∧ UW w' va A ∧ UW w' vx X ∧ A.length ≤ 4 ∧ X.length ≤ 4 ∧ (∀ y ∈ X, y < 18446744073709551616) ∧ Kp w w') := cT
  clear cT HD
  go_enter Try.func7, Try.ntmps7
  go_wp2_with fail
  with_reducible refine CT.out.mono ?_
  rintro e w1 ⟨va, vx, A, X, rfl, hA, hX, lA, lX, wx, K1⟩
  obtain ⟨na, n1, ca, rfl⟩ := hA.shape
  obtain ⟨nx, n2, cx, rfl⟩ := hX.shape
  obtain ⟨w2, hw2⟩ : ∃ w2, w2 = w1.alloc (.cells #[.slice na n1 ca, .slice nx n2 cx] 26) := ⟨_, rfl⟩
  have K2 : Kp w1 w2 := by rw [hw2]; exact (Kp.refl _).alloc _
  have I2 : IW w1.heap.size (.slice na n1 ca) (.slice nx n2 cx) A X w2 := ⟨by rw [hw2]; exact heap_alloc_new w1 _, hA.kp K2, hX.kp K2⟩
  have R := readN w1.heap.size (.slice na n1 ca) (.slice nx n2 cx) A X (by omega) (by omega) wx (fun g e => hA.lt e) (fun g e => hX.lt e)
  have E := ends_any s u (rdW A X false) 4 0 root (by decide) (by decide)
  have c1 := walk_any R s hs root u 0 hr hu (by decide) w2 I2
  have c2 := fun O (hO : O < 18446744073709551616) w5 (I5 : IW w1.heap.size (.slice na n1 ca) (.slice nx n2 cx) A X w5) => walk_any R s hs root O 0 hr hO (by decide) w5 I5
  have hsame := fun O => goW_same s u O (rdW A X false) 4 0 root
  have HK2 : Hid (Kp w w2) := K1.trans K2
  obtain ⟨⟨L, k, n⟩, hg⟩ : ∃ g, g = goW s u (rdW A X false) 4 0 root := ⟨_, rfl⟩
  rw [← hg] at c1 E
  have C1 : Aside (Calls Try.prog 9 #[.int .i64 s, .int .u64 (root : Int), .int .u64 (u : Int), .func (.func 22) #[] #[.pointer (some ⟨w1.heap.size, 0, none⟩)]] w2 fun e w' => e = .returned (.tuple #[.slice (some ⟨w2.heap.size, 0, none⟩) L.length 4, .int .i64 k]) ∧ WL w' w2.heap.size L ∧ IW w1.heap.size (.slice na n1 ca) (.slice nx n2 cx) A X w' ∧ Fr (fun _ => False) w2 w') := c1
  have C2 : Aside (∀ O, O < 18446744073709551616 → (∀ i, 0 ≤ i → i < 0 + n → idx u (i : Int) = idx O (i : Int)) → ∀ w5, IW w1.heap.size (.slice na n1 ca) (.slice nx n2 cx) A X w5 → Calls Try.prog 9 #[.int .i64 s, .int .u64 (root : Int), .int .u64 (O : Int), .func (.func 22) #[] #[.pointer (some ⟨w1.heap.size, 0, none⟩)]] w5 fun e w' => e = .returned (.tuple #[.slice (some ⟨w5.heap.size, 0, none⟩) L.length 4, .int .i64 k]) ∧ WL w' w5.heap.size L ∧ IW w1.heap.size (.slice na n1 ca) (.slice nx n2 cx) A X w' ∧ Fr (fun _ => False) w5 w') := fun O hO hi w5 I5 => by
    have h := c2 O hO w5 I5
    rw [hsame O (by rw [← hg]; exact hi), ← hg] at h
    exact h
  have HE : Hid (WE u 4 0 root (L, k, n)) := E
  clear c1 c2 hsame hg E R I2 K1 K2 CT hA hX lA lX wx
  go_wp2_with fail
  rw [← hw2]
  clear hw2
  with_reducible refine C1.out.mono ?_
  rintro e w3 ⟨rfl, L3, I3, F3⟩
  have HK3 : Hid (Kp w w3) := F3.kp HK2.out (fun _ h => h.elim)
  have HL3 : Hid (WL w3 w2.heap.size L) := L3
  have HI3 : Hid (IW w1.heap.size (.slice na n1 ca) (.slice nx n2 cx) A X w3) := I3
  generalize w2.heap.size = b1 at *
  generalize w1.heap.size = bw at *
  clear L3 I3 F3 C1 HK2
  obtain ⟨ll, hll⟩ : ∃ ll, L.length = ll := ⟨_, rfl⟩
  have HL : Hid (L.length = ll) := hll
  rw [hll] at C2 ⊢
  clear hll
  by_cases hk : k = 0
  · obtain ⟨j, x, hx, hlj, hn, hj, hxl, hxk, hxa⟩ := we_leaf HE.out hk
    have ell : ll = j + 1 := by rw [← HL.out]; exact hlj
    subst ell
    obtain ⟨xl, xp, xu, ⟨xk, xa, xr, xq, xx, xf⟩⟩ := x
    simp only at hxl hxk hxa
    obtain rfl : j = xl := hxl.symm
    subst hk
    clear HE
    have d0 : w3.cell? ⟨b1, j * 9, none⟩ = some (.int .i64 (j : Int)) := HL3.out.cell (j := 0) hx rfl
    have d1 : w3.cell? ⟨b1, j * 9 + 1, none⟩ = some (.int .u64 (xp : Int)) := HL3.out.cell (j := 1) hx rfl
    have d2 : w3.cell? ⟨b1, j * 9 + 2, none⟩ = some (.int .u64 (xu : Int)) := HL3.out.cell (j := 2) hx rfl
    have d3 : w3.cell? ⟨b1, j * 9 + 3, none⟩ = some (.int .i64 xk) := HL3.out.cell (j := 3) hx rfl
    have d4 : w3.cell? ⟨b1, j * 9 + 4, none⟩ = some (.int .u64 (xa : Int)) := HL3.out.cell (j := 4) hx rfl
    have d5 : w3.cell? ⟨b1, j * 9 + 5, none⟩ = some (.bool xr) := HL3.out.cell (j := 5) hx rfl
    have d6 : w3.cell? ⟨b1, j * 9 + 6, none⟩ = some (.bool xq) := HL3.out.cell (j := 6) hx rfl
    have d7 : w3.cell? ⟨b1, j * 9 + 7, none⟩ = some (.bool xx) := HL3.out.cell (j := 7) hx rfl
    have d8 : w3.cell? ⟨b1, j * 9 + 8, none⟩ = some (.int .i64 xf) := HL3.out.cell (j := 8) hx rfl
    have y2 : ((j + 1 : Nat) : Int) - 1 = (j : Int) := by omega
    have y3 : (((j + 1 : Nat) : Int) == 0) = false := by rw [beq_eq_false_iff_ne]; omega
    have y4 : (j : Int) ≤ 3 := by omega
    obtain ⟨Ab, Bb, O, eA, eB, eO, hdiv, hO⟩ := low_bits u low (sh (j : Int)) hu hl (by unfold sh; omega)
    obtain ⟨K, hK⟩ : ∃ K, K = 2 ^ sh (j : Int) := ⟨_, rfl⟩
    obtain ⟨K1, hK1⟩ : ∃ K1, K1 = 2 ^ sh (j : Int) - 1 := ⟨_, rfl⟩
    have hidx : ∀ i, 0 ≤ i → i < 0 + n → idx u (i : Int) = idx O (i : Int) := fun i _ hi => idx_same hdiv (by omega) hj
    have kp2 : 0 < 2 ^ sh (j : Int) := Nat.two_pow_pos _
    have kp3 : 2 ^ sh (j : Int) ≤ 549755813888 := Nat.pow_le_pow_right (n := 2) (by decide) (show sh (j : Int) ≤ 39 by unfold sh; omega)
    have eK : IntKind.u64.wrap ((K : Int) - 1) = (K1 : Int) := by rw [u64_id (by omega) (by omega)]; omega
    have hfar := out_far u O xa j xk hxk hj hdiv
    rw [← hK1] at eA eB
    have t1 : Aside (∀ w, Calls Try.prog 18 #[.int .u64 (O : Int), .agg #[.int .i64 (j : Int), .int .u64 (xp : Int), .int .u64 (xu : Int), .int .i64 xk, .int .u64 (xa : Int), .bool xr, .bool xq, .bool xx, .int .i64 xf]] w fun e w' => e = .returned (.int .u64 (outN O j xk xa : Int)) ∧ Kp w w') := fun w => out_any O xa j xp xu xk xr xq xx xf w
    have t2 : Aside (∀ w, Calls Try.prog 18 #[.int .u64 (u : Int), .agg #[.int .i64 (j : Int), .int .u64 (xp : Int), .int .u64 (xu : Int), .int .i64 xk, .int .u64 (xa : Int), .bool xr, .bool xq, .bool xx, .int .i64 xf]] w fun e w' => e = .returned (.int .u64 (outN u j xk xa : Int)) ∧ Kp w w') := fun w => out_any u xa j xp xu xk xr xq xx xf w
    have t3 : Aside (∀ w, Calls Try.prog 19 #[.int .u64 (u : Int), .agg #[.int .i64 (j : Int), .int .u64 0, .int .u64 0, .int .i64 xk, .int .u64 (xa : Int), .bool xr, .bool xq, .bool xx, .int .i64 xf]] w fun e w' => e = .returned (.int .u64 (outN u j xk xa : Int)) ∧ Kp w w') := fun w => rout_any u xa j 0 0 xk xr xq xx xf w hxa
    generalize outN O j xk xa = z1 at *
    generalize outN u j xk xa = z2 at *
    obtain ⟨dd, hdd, _⟩ := wrap_word ((O : Int) - (u : Int))
    rw [hdd] at hfar
    have HF : Hid (IntKind.u64.wrap ((z1 : Int) - (z2 : Int)) = (dd : Int) ∧ IntKind.u64.wrap ((O : Int) - (u : Int)) = (dd : Int)) := ⟨hfar, hdd⟩
    have HX : Hid (L[j]? = some ⟨j, xp, xu, ⟨xk, xa, xr, xq, xx, xf⟩⟩) := hx
    have HKj : Hid (K = 2 ^ sh (j : Int)) := hK
    clear hx hn hlj hxk hxa hdiv hK1 kp2 kp3 hfar hdd hK
    go_upto_region 10 with fail
    obtain ⟨w4, hw4⟩ : ∃ w4, w4 = w3.alloc (.cells #[.int .i64 (j : Int), .int .u64 (xp : Int), .int .u64 (xu : Int), .int .i64 xk, .int .u64 (xa : Int), .bool xr, .bool xq, .bool xx, .int .i64 xf] 52) := ⟨_, rfl⟩
    have B4 : w4.heap[w3.heap.size]? = some (.cells #[.int .i64 (j : Int), .int .u64 (xp : Int), .int .u64 (xu : Int), .int .i64 xk, .int .u64 (xa : Int), .bool xr, .bool xq, .bool xx, .int .i64 xf] 52) := by rw [hw4]; exact heap_alloc_new w3 _
    have K4 : Kp w3 w4 := by rw [hw4]; exact (Kp.refl _).alloc _
    rw [← hw4]
    clear hw4 d0 d1 d2 d3 d4 d5 d6 d7 d8
    have hq : ∀ o, (w4.alloc o).cell? ⟨w3.heap.size, 0, none⟩ = some (.int .i64 (j : Int)) := fun o => by
      have h : (w4.alloc o).heap[w3.heap.size]? = some (.cells #[.int .i64 (j : Int), .int .u64 (xp : Int), .int .u64 (xu : Int), .int .i64 xk, .int .u64 (xa : Int), .bool xr, .bool xq, .bool xx, .int .i64 xf] 52) := (((Kp.refl w4).alloc o).block _ (lt_of_row B4)).trans B4
      rw [cell_of_row _ _ 0 _ _ _ h]; rfl
    have HB4 : Hid (w4.heap[w3.heap.size]? = some (.cells #[.int .i64 (j : Int), .int .u64 (xp : Int), .int .u64 (xu : Int), .int .i64 xk, .int .u64 (xa : Int), .bool xr, .bool xq, .bool xx, .int .i64 xf] 52)) := B4
    have HK4 : Hid (Kp w3 w4) := K4
    clear B4 K4
    go_cut [19] (fun v19 wx => v19 = .int .u64 (K : Int) ∧ Hid (Kp w4 wx))
    case first =>
      have eK2 := HKj.out
      clear C2 hidx eA eB eO eK y2 y3 t1 t2 t3
      rcases (by omega : j = 0 ∨ j = 1 ∨ j = 2 ∨ j = 3) with rfl | rfl | rfl | rfl
      · have eK3 : K = 549755813888 := eK2.trans (by decide)
        subst eK3
        have hq : ∀ o, (w4.alloc o).cell? ⟨w3.heap.size, 0, none⟩ = some (.int .i64 0) := hq
        clear eK2 y4
        go_wp2
        go_meet
        exact ⟨rfl, (Kp.refl _).alloc _⟩
      · have eK3 : K = 1073741824 := eK2.trans (by decide)
        subst eK3
        have hq : ∀ o, (w4.alloc o).cell? ⟨w3.heap.size, 0, none⟩ = some (.int .i64 1) := hq
        clear eK2 y4
        go_wp2
        go_meet
        exact ⟨rfl, (Kp.refl _).alloc _⟩
      · have eK3 : K = 2097152 := eK2.trans (by decide)
        subst eK3
        have hq : ∀ o, (w4.alloc o).cell? ⟨w3.heap.size, 0, none⟩ = some (.int .i64 2) := hq
        clear eK2 y4
        go_wp2
        go_meet
        exact ⟨rfl, (Kp.refl _).alloc _⟩
      · have eK3 : K = 4096 := eK2.trans (by decide)
        subst eK3
        have hq : ∀ o, (w4.alloc o).cell? ⟨w3.heap.size, 0, none⟩ = some (.int .i64 3) := hq
        clear eK2 y4
        go_wp2
        go_meet
        exact ⟨rfl, (Kp.refl _).alloc _⟩
    case rest =>
      obtain ⟨rfl, HK5⟩ := hcut
      clear hq
      have HI5 : Hid (IW bw (.slice na n1 ca) (.slice nx n2 cx) A X wc) := HI3.out.kp (HK4.out.trans HK5.out)
      have HL5 : Hid (WL wc b1 L) := HL3.out.kp (HK4.out.trans HK5.out)
      have HKw5 : Hid (Kp w wc) := HK3.out.trans (HK4.out.trans HK5.out)
      have HB5 : Hid (wc.heap[w3.heap.size]? = some (.cells #[.int .i64 (j : Int), .int .u64 (xp : Int), .int .u64 (xu : Int), .int .i64 xk, .int .u64 (xa : Int), .bool xr, .bool xq, .bool xx, .int .i64 xf] 52)) := (HK5.out.block _ (lt_of_row HB4.out)).trans HB4.out
      have c2 := C2.out O hO hidx wc HI5.out
      clear HI3 HL3 HK3 HB4 HK4 HK5 C2 hidx
      go_wp2_with fail
      with_reducible refine c2.mono ?_
      rintro e w6 ⟨rfl, L6, I6, F6⟩
      have K6 : Kp wc w6 := F6.kp (Kp.refl _) (fun _ h => h.elim)
      have HLa : Hid (WL w6 b1 L) := HL5.out.kp K6
      have HLb : Hid (WL w6 wc.heap.size L) := L6
      have HK6 : Hid (Kp w w6) := HKw5.out.trans K6
      have HB6 : Hid (w6.heap[w3.heap.size]? = some (.cells #[.int .i64 (j : Int), .int .u64 (xp : Int), .int .u64 (xu : Int), .int .i64 xk, .int .u64 (xa : Int), .bool xr, .bool xq, .bool xx, .int .i64 xf] 52)) := (K6.block _ (lt_of_row HB5.out)).trans HB5.out
      generalize wc.heap.size = b2 at *
      generalize w3.heap.size = bx at *
      clear c2 L6 I6 F6 K6 HI5 HL5 HKw5 HB5 eA eB eO eK HKj hu hr hl
      have ye : (((j + 1 : Nat) : Int) != ((j + 1 : Nat) : Int)) = false := by simp
      have HK0 : Hid (Kp w6 w6) := Kp.refl _
      go_wp2_with fail
      go_loopg [23] (j + 2) (fun g v23 wr => ∃ i : Nat, v23 = .int .i64 (i : Int) ∧ i ≤ j + 1 ∧ j + 2 - i ≤ g ∧ Hid (Kp w6 wr))
      case atStart => exact ⟨0, rfl, Nat.zero_le _, by omega, HK0⟩
      case round =>
        clear HK0
        obtain ⟨i, rfl, i1, ig, HKr⟩ := hrel
        by_cases c : i < j + 1
        · obtain ⟨y, hy⟩ : ∃ y, L[i]? = some y := ⟨_, List.getElem?_eq_getElem (by rw [HL.out]; exact c)⟩
          obtain ⟨yl, yp, yu, ⟨yk, ya, yr, yq, yx, yf⟩⟩ := y
          have La := HLa.out.kp HKr.out
          have Lb := HLb.out.kp HKr.out
          have heq := fun w => eq_like yk (ya : Int) yr yq yx yf w
          have q1 : (i : Int) < ((j + 1 : Nat) : Int) := by omega
          have q2 : (i : Int) < (j : Int) + 1 := by omega
          have q3 : (i : Int) ≤ 3 := by omega
          have qn : ((yp : Int) != (yp : Int)) = false := by simp
          have a1 : wr.cell? ⟨b1, i * 9 + 1, none⟩ = some (.int .u64 (yp : Int)) := La.cell (j := 1) hy rfl
          have b1' : wr.cell? ⟨b2, i * 9 + 1, none⟩ = some (.int .u64 (yp : Int)) := Lb.cell (j := 1) hy rfl
          have a3 : wr.cell? ⟨b1, i * 9 + 3, none⟩ = some (.int .i64 yk) := La.cell (j := 3) hy rfl
          have b3' : wr.cell? ⟨b2, i * 9 + 3, none⟩ = some (.int .i64 yk) := Lb.cell (j := 3) hy rfl
          have a4 : wr.cell? ⟨b1, i * 9 + 4, none⟩ = some (.int .u64 (ya : Int)) := La.cell (j := 4) hy rfl
          have b4' : wr.cell? ⟨b2, i * 9 + 4, none⟩ = some (.int .u64 (ya : Int)) := Lb.cell (j := 4) hy rfl
          have a5 : wr.cell? ⟨b1, i * 9 + 5, none⟩ = some (.bool yr) := La.cell (j := 5) hy rfl
          have b5' : wr.cell? ⟨b2, i * 9 + 5, none⟩ = some (.bool yr) := Lb.cell (j := 5) hy rfl
          have a6 : wr.cell? ⟨b1, i * 9 + 6, none⟩ = some (.bool yq) := La.cell (j := 6) hy rfl
          have b6' : wr.cell? ⟨b2, i * 9 + 6, none⟩ = some (.bool yq) := Lb.cell (j := 6) hy rfl
          have a7 : wr.cell? ⟨b1, i * 9 + 7, none⟩ = some (.bool yx) := La.cell (j := 7) hy rfl
          have b7' : wr.cell? ⟨b2, i * 9 + 7, none⟩ = some (.bool yx) := Lb.cell (j := 7) hy rfl
          have a8 : wr.cell? ⟨b1, i * 9 + 8, none⟩ = some (.int .i64 yf) := La.cell (j := 8) hy rfl
          have b8' : wr.cell? ⟨b2, i * 9 + 8, none⟩ = some (.int .i64 yf) := Lb.cell (j := 8) hy rfl
          clear La Lb hy
          go_wp2_with fail
          go_quiet (fail)
          have HKr2 : Hid (Kp w6 (wr.drewN nq)) := HKr.out.drewN nq
          go_wp2
          go_roundg (j + 2 - (i + 1))
          case measure => omega
          case rel => exact ⟨i + 1, by go_num, by omega, by omega, HKr2⟩
        · have ei : i = j + 1 := by omega
          subst ei
          have q1 : ¬ ((j + 1 : Nat) : Int) < ((j + 1 : Nat) : Int) := by omega
          have kb : Nonempty (KeptBy wr) := KeptBy.some
          have B7 := (HKr.out.block _ (lt_of_row HB6.out)).trans HB6.out
          have x0 : ∀ p : KeptBy wr, p.v.cell? ⟨bx, 0, none⟩ = some (.int .i64 (j : Int)) := fun p => by rw [cell_of_row _ _ 0 _ _ _ ((p.k.block _ (lt_of_row B7)).trans B7)]; rfl
          have x1 : ∀ p : KeptBy wr, p.v.cell? ⟨bx, 1, none⟩ = some (.int .u64 (xp : Int)) := fun p => by rw [cell_of_row _ _ 1 _ _ _ ((p.k.block _ (lt_of_row B7)).trans B7)]; rfl
          have x2 : ∀ p : KeptBy wr, p.v.cell? ⟨bx, 2, none⟩ = some (.int .u64 (xu : Int)) := fun p => by rw [cell_of_row _ _ 2 _ _ _ ((p.k.block _ (lt_of_row B7)).trans B7)]; rfl
          have x3 : ∀ p : KeptBy wr, p.v.cell? ⟨bx, 3, none⟩ = some (.int .i64 xk) := fun p => by rw [cell_of_row _ _ 3 _ _ _ ((p.k.block _ (lt_of_row B7)).trans B7)]; rfl
          have x4 : ∀ p : KeptBy wr, p.v.cell? ⟨bx, 4, none⟩ = some (.int .u64 (xa : Int)) := fun p => by rw [cell_of_row _ _ 4 _ _ _ ((p.k.block _ (lt_of_row B7)).trans B7)]; rfl
          have x5 : ∀ p : KeptBy wr, p.v.cell? ⟨bx, 5, none⟩ = some (.bool xr) := fun p => by rw [cell_of_row _ _ 5 _ _ _ ((p.k.block _ (lt_of_row B7)).trans B7)]; rfl
          have x6 : ∀ p : KeptBy wr, p.v.cell? ⟨bx, 6, none⟩ = some (.bool xq) := fun p => by rw [cell_of_row _ _ 6 _ _ _ ((p.k.block _ (lt_of_row B7)).trans B7)]; rfl
          have x7 : ∀ p : KeptBy wr, p.v.cell? ⟨bx, 7, none⟩ = some (.bool xx) := fun p => by rw [cell_of_row _ _ 7 _ _ _ ((p.k.block _ (lt_of_row B7)).trans B7)]; rfl
          have x8 : ∀ p : KeptBy wr, p.v.cell? ⟨bx, 8, none⟩ = some (.int .i64 xf) := fun p => by rw [cell_of_row _ _ 8 _ _ _ ((p.k.block _ (lt_of_row B7)).trans B7)]; rfl
          have f1 := HF.out.1
          have f2 := HF.out.2
          have HK7 : Hid (Kp w wr) := HK6.out.trans HKr.out
          clear B7 HKr HK6 HLa HLb HB6
          go_wp2_with fail
          refine wp_region_kept mixed (by kernel_rfl) ?_
          repeat (go_big_quiet_step (first | exact rfl | (go_at_call 16; with_reducible refine Calls.kept_of (st.out _)) | (go_at_call 18; go_must (first | (with_reducible refine Calls.kept_of (t1.out _)) | (with_reducible refine Calls.kept_of (t2.out _)))) | (go_at_call 19; go_must (with_reducible refine Calls.kept_of (t3.out _)))))
          refine wpQuiet_nil ?_
          intro _ hw'
          obtain ⟨⟨wq, kq⟩, hw''⟩ := hw'
          subst hw''
          have kq' := HK7.out.trans kq
          clear kq
          go_wp2
          go_ret
          exact ⟨rfl, kq'⟩
  · have hk1 : (k != 0) = true := by rw [bne_iff_ne]; exact hk
    have hlast := HE.out.last
    simp only at hlast
    cases ll with
    | zero =>
      go_wp2_with fail
      with_reducible refine (st.out _).mono ?_
      rintro e w4 ⟨rfl, K⟩
      have HK4 : Hid (Kp w w4) := HK3.out.trans K
      clear K
      go_wp2
      go_ret
      exact ⟨rfl, HK4.out⟩
    | succ j =>
      obtain ⟨x, hx⟩ : ∃ x, L[j]? = some x := ⟨_, List.getElem?_eq_getElem (by rw [HL.out]; omega)⟩
      have ek : lastK L = x.d.k := by
        unfold lastK
        rw [List.getLast?_eq_getElem?, HL.out]
        show ((L[j]?).map (fun x => x.d.k)).getD 0 = _
        rw [hx]; rfl
      rw [ek] at hlast
      have hk3 : (x.d.k != 3) = true := by rw [bne_iff_ne]; exact fun e => hk (hlast.2 (.inl e))
      have hjl : j ≤ 3 := by have h1 := HE.out.few; have h2 := HE.out.le; have h3 := HL.out; simp only at h1 h2; omega
      have y2 : ((j + 1 : Nat) : Int) - 1 = (j : Int) := by omega
      have y3 : (((j + 1 : Nat) : Int) == 0) = false := by rw [beq_eq_false_iff_ne]; omega
      have y4 : (j : Int) ≤ 3 := by omega
      clear ek hlast
      obtain ⟨xl, xp, xu, ⟨xk, xa, xr, xq, xx, xf⟩⟩ := x
      simp only at hk3
      go_wp2_with fail
      with_reducible refine (st.out _).mono ?_
      rintro e w4 ⟨rfl, K⟩
      have HK4 : Hid (Kp w w4) := HK3.out.trans K
      have d3 : w4.cell? ⟨b1, j * 9 + 3, none⟩ = some (.int .i64 xk) := (HL3.out.kp K).cell (j := 3) hx rfl
      clear K hx
      go_wp2
      go_ret
      exact ⟨rfl, HK4.out⟩

theorem near_law (stage root u : Int) (levels low : Int) (naD : Option Addr) (nD cD : Nat) (V : Nat → DV) (w : World) (HD : DS w naD nD V) (hr : (Lit.int .u64 root).wf = true) (hu : (Lit.int .u64 u).wf = true) (hl : (Lit.int .u64 low).wf = true) :
    Calls Try.prog 7 #[.int .i64 stage, .int .u64 root, .int .u64 u, .slice naD nD cD, .int .i64 levels, .int .u64 low] w fun e w' => e = .returned (.bool true) ∧ Kp w w' := by
  have b1 := wf_word hr
  have b2 := wf_word hu
  have b3 := wf_word hl
  obtain ⟨root, rfl⟩ : ∃ n : Nat, root = n := ⟨root.toNat, by omega⟩
  obtain ⟨u, rfl⟩ : ∃ n : Nat, u = n := ⟨u.toNat, by omega⟩
  obtain ⟨low, rfl⟩ : ∃ n : Nat, low = n := ⟨low.toNat, by omega⟩
  obtain ⟨m, hm, hm'⟩ := and_lim stage 1 (by decide)
  exact near_walk stage _ m root u low levels naD nD cD V w HD hm (by omega) rfl (by omega) (by omega) (by omega)

end Go.Proofs.Ytcbciehffgaapaa
