/- The document's tlb: Fill. -/
import Derived.Test.YtheahkfgmbmdcaaT20
import Derived.Test.YtheahkfgmbmdcaaT6
namespace Go.Proofs.Ytheahkfgmbmdcaa
open Go.RowKit
set_option maxRecDepth 10000

def kkI (f : Nat) (y : Int) : Int := if y = -1 then -1 else (f : Int) + y
/-- The place that a line takes. -/
def rwI (z y : Int) (f m : Nat) : Nat := if z = -1 then f + (if y = -1 then m else y.toNat) else z.toNat
def rfilI (T : Nat → PC) (s k : Nat) (l : LN) (way : Int) : Nat := rwI (atI T (s * k) l.i l.a l.v) (empI T s k l.v) (l.v % s * k) (mdN way k)
def rwas (c : PC) : LN := if c.on = true then c.l else zL

section
variable {w : World} {b g s k : Nat} {T : Nat → PC}
set_option maxHeartbeats 8000000 in
theorem rfill_any (h : TR w b g s k T) (l : LN) (way : Int) :
    Calls Try.prog 10 #[.pointer (some ⟨b, 0, none⟩), lnV l, .int .i64 way] w fun e w' => e = .returned (.tuple #[lnV (rwas (T (rfilI T s k l way))), .bool (T (rfilI T s k l way)).on]) ∧ TR w' b g s k (updP T (rfilI T s k l way) ⟨true, l⟩) ∧ Fr (· = g) w w' := by
  obtain ⟨w1, hw1⟩ : ∃ w1, w1 = (w.alloc (.cells (encL l).toArray 34)).alloc (.cells (encL zL).toArray 34) := ⟨_, rfl⟩
  have K1 : Kp w w1 := by rw [hw1]; exact ((Kp.refl w).alloc _).alloc _
  have X1 : RX w1 w.heap.size 34 (encL l) := by rw [hw1]; exact (RX.made w _ _).kp ((Kp.refl _).alloc _)
  have Y1 : RX w1 (w.heap.size + 1) 34 (encL zL) := by rw [hw1]; exact RX.made1 w _ _ _
  obtain ⟨f, hf⟩ : ∃ f, l.v % s * k = f := ⟨_, rfl⟩
  have f1 := set_le (k := k) (v := l.v) h.s0
  rw [hf] at f1
  obtain ⟨z, hz⟩ : ∃ z, atI T (s * k) l.i l.a l.v = z := ⟨_, rfl⟩
  obtain ⟨y, hy⟩ : ∃ y, empI T s k l.v = y := ⟨_, rfl⟩
  have hy2 : sr (fun j => !(T (f + j)).on) k 0 = y := by rw [← hy, ← hf]; rfl
  obtain ⟨N, hN⟩ : ∃ N, s * k = N := ⟨_, rfl⟩
  have n1 := h.n1
  have s0 := h.s0
  have s1 := h.s1
  have kk := h.k1
  have k0 := h.k0
  obtain ⟨t, mo, m1, m2, m3, m4, m5⟩ := place_of way k (by omega)
  have e0 : rfilI T s k l way = rwI z y f mo := by
    unfold rfilI
    rw [hz, hy, hf, show mdN way k = mo from by unfold mdN; rw [m1, m4]; rfl]
  rw [e0]
  have cA : Aside (∀ w', Kp w1 w' → Calls Try.prog 31 #[.pointer (some ⟨b, 0, none⟩), .int .i64 l.i, .int .i64 l.a, .int .u64 (l.v : Int)] w' fun e w'' => e = .returned (.int .i64 z) ∧ Kp w' w'') := fun w' hk => by
    have := rat_any ((h.kp K1).kp hk) l.i l.a l.v
    rw [hz] at this
    exact this
  have zc := sr_cases (fun j => keyB l.i l.a l.v (T j)) (s * k) 0
  rw [show sr (fun j => keyB l.i l.a l.v (T j)) (s * k) 0 = z from hz] at zc
  have yc := sr_cases (fun j => !(T (f + j)).on) k 0
  rw [hy2] at yc
  have zc2 : z = -1 ∨ ∃ j : Nat, z = (j : Int) ∧ j < N := by
    rcases zc with ⟨h1, _⟩ | ⟨j, h1, _, h3, _⟩
    · exact .inl h1
    · exact .inr ⟨j, h1, by omega⟩
  have yc2 : y = -1 ∨ ∃ j : Nat, y = (j : Int) ∧ j < k := by
    rcases yc with ⟨h1, _⟩ | ⟨j, h1, _, h3, _⟩
    · exact .inl h1
    · exact .inr ⟨j, h1, by omega⟩
  have HT : Hid (TR w b g s k T ∧ Kp w w1 ∧ RX w1 w.heap.size 34 (encL l) ∧ RX w1 (w.heap.size + 1) 34 (encL zL)) := ⟨h, K1, X1, Y1⟩
  have HN : Hid (s * k = N ∧ f + k ≤ N) := ⟨hN, by omega⟩
  have HY : Hid (sr (fun j => !(T (f + j)).on) k 0 = y) := hy2
  rw [hN] at n1
  obtain ⟨jj, hjj⟩ : ∃ jj, rwI z y f mo = jj := ⟨_, rfl⟩
  rw [hjj]
  have HJJ : Hid (rwI z y f mo = jj) := hjj
  obtain ⟨L, hL⟩ : ∃ L, rwas (T jj) = L := ⟨_, rfl⟩
  obtain ⟨BB, hBB⟩ : ∃ BB, (T jj).on = BB := ⟨_, rfl⟩
  rw [hL, hBB]
  have HRR : Hid (∀ j, j = jj → (L = rwas (T j) ∧ BB = (T j).on)) := fun j hj => by subst hj; exact ⟨hL.symm, hBB.symm⟩
  obtain ⟨m, hm⟩ : ∃ m, l.v % s = m := ⟨_, rfl⟩
  have ms : m < s := by rw [← hm]; exact Nat.mod_lt _ (by omega)
  have q1 : (l.v : Int).tmod (s : Int) = (m : Int) := by rw [← hm]; rfl
  have pq2 : (m : Int) * (k : Int) = (f : Int) := by rw [← hf, ← hm]; exact (Int.natCast_mul _ _).symm
  have z0 : ¬ (s : Int) = 0 := by omega
  have z2 : ¬ s = 0 := by omega
  have z3 : ¬ (k : Int) = 0 := by omega
  have z4 : ¬ k = 0 := by omega
  have y3 : (N : Int) ≤ 512 := by omega
  have y4 : (k : Int) ≤ 8 := by omega
  have y5 : (1 : Int) ≤ k := by omega
  have y6 : (f : Int) + (k : Int) ≤ (N : Int) := by omega
  clear hz hy hy2 hf f1 hN K1 X1 Y1 h e0 zc yc hjj hL hBB hm
  obtain ⟨i, a, v, p, lf, r, q, x, r2, q2, x2⟩ := l
  rw [show lnV ⟨i, a, v, p, lf, r, q, x, r2, q2, x2⟩ = .agg #[.int .i64 i, .int .i64 a, .int .u64 (v : Int), .int .u64 (p : Int), .int .i64 lf, .bool r, .bool q, .bool x, .bool r2, .bool q2, .bool x2] from rfl]
  go_enter Try.func10, Try.ntmps10
  go_upto_region 1 with fail
  rw [show (w.alloc (.cells #[.int .i64 i, .int .i64 a, .int .u64 (v : Int), .int .u64 (p : Int), .int .i64 lf, .bool r, .bool q, .bool x, .bool r2, .bool q2, .bool x2] 34)).alloc (.cells #[.int .i64 0, .int .i64 0, .int .u64 0, .int .u64 0, .int .i64 0, .bool false, .bool false, .bool false, .bool false, .bool false, .bool false] 34) = w1 from hw1.symm]
  clear hw1
  have e0 := HT.out.2.2.1.cell (j := 0) rfl
  have e1 := HT.out.2.2.1.cell (j := 1) rfl
  have e2 := HT.out.2.2.1.cell (j := 2) rfl
  go_wp2_with fail
  with_reducible refine (cA.out _ (Kp.refl _)).mono ?_
  rintro e w2 ⟨rfl, K2⟩
  have T2 := (HT.out.1.kp HT.out.2.1).kp K2
  have c0 := T2.c0
  have c1 := T2.c1
  have g2 := (HT.out.2.2.1.kp K2).cell (j := 2) rfl
  dsimp only at e0 e1 e2 g2 q1
  have HK : Hid (Kp w1 w2) := K2
  clear e0 e1 e2 T2 K2
  go_upto_region 2 with fail
  go_quiet (fail)
  go_upto_block 0 with fail
  obtain ⟨w3, hw3⟩ : ∃ w3, w3 = w2.drewN nq := ⟨_, rfl⟩
  rw [← hw3]
  have HK3 : Hid (Kp w1 w3) := by rw [hw3]; exact HK.out.drewN _
  clear hw3 HK c0 c1 g2
  obtain ⟨kz, hkz⟩ : ∃ kz, (if z = -1 then kkI f y else z) = kz := ⟨_, rfl⟩
  have HKZ : Hid ((if z = -1 then kkI f y else z) = kz) := hkz
  clear hkz
  go_cut [8] (fun v8 wx => v8 = .int .i64 kz ∧ Hid (Kp w1 wx))
  case first =>
    clear HJJ HRR yc2 m1 m2 m3 m4 m5
    rcases zc2 with rfl | ⟨j, rfl, hj⟩
    · have hkz := HKZ.out
      rw [if_pos rfl] at hkz
      have HKZ2 : Hid (kkI f y = kz) := hkz
      clear HKZ hkz
      go_wp2_with fail
      go_loopg [8, 10] k (fun gk v8 v10 wr => ∃ (j : Nat) (zz : Int), v10 = .int .i64 ((j : Int) - 1) ∧ v8 = .int .i64 (kkI f zz) ∧ j ≤ k ∧ j ≤ gk ∧ Hid (sr (fun j => !(T (f + j)).on) (k - j) j = zz) ∧ Hid (Kp w1 wr))
      case atStart => exact ⟨k, -1, rfl, rfl, Nat.le_refl _, Nat.le_refl _, by rw [Nat.sub_self]; rfl, HK3⟩
      case round =>
        clear HK3
        obtain ⟨j, zz, rfl, rfl, hj, hg, HZZ, HK4⟩ := hrel
        by_cases j0 : j = 0
        · subst j0
          rw [show ((0 : Nat) : Int) - 1 = -1 from rfl]
          have ez : y = zz := by rw [← HY.out, ← HZZ.out]; rfl
          subst ez
          rw [HKZ2.out]
          clear HZZ
          go_wp2_with fail
          go_meet
          case rel => exact ⟨rfl, HK4⟩
        · obtain ⟨j', rfl⟩ : ∃ j', j = j' + 1 := ⟨j - 1, by omega⟩
          rw [show ((j' + 1 : Nat) : Int) - 1 = (j' : Int) by omega]
          have X4 := HT.out.2.2.1.kp HK4.out
          have e0 := X4.cell (j := 0) rfl
          have e1 := X4.cell (j := 1) rfl
          have e2 := X4.cell (j := 2) rfl
          dsimp only at e0 e1 e2
          have y7 : (0 : Int) ≤ (j' : Int) := by omega
          have ca := cA.out _ HK4.out
          have hs : sr (fun j => !(T (f + j)).on) (k - j') j' = if (!(T (f + j')).on) = true then (j' : Int) else zz := by
            rw [← HZZ.out, show k - j' = (k - (j' + 1)) + 1 by omega]
            rfl
          clear X4
          go_wp2_with fail
          with_reducible refine ca.mono ?_
          rintro e w5 ⟨rfl, K5⟩
          have HK5 : Hid (Kp w1 w5) := HK4.out.trans K5
          have T5 := HT.out.1.kp (HT.out.2.1.trans HK5.out)
          have c1 := T5.c1
          have c2 := T5.c2
          rw [HN.out.1] at c2
          have o0 := T5.row.cell (f + j') 0 (.bool (T (f + j')).on) (by have := HN.out; omega) rfl
          rw [Nat.add_zero] at o0
          obtain ⟨n, hn⟩ : ∃ n, f + j' = n := ⟨_, rfl⟩
          have n2 : (f : Int) + (j' : Int) = (n : Int) := by omega
          have n3 : (n : Int) < N := by omega
          rw [hn] at o0 hs
          obtain ⟨on, hon⟩ : ∃ on, (T n).on = on := ⟨_, rfl⟩
          rw [hon] at o0 hs
          clear T5 K5 ca e0 e1 e2 HK4 HZZ hn hon
          go_upto_region 6 with fail
          go_quiet (fail)
          obtain ⟨w6, hw6⟩ : ∃ w6, w6 = w5.drewN nq := ⟨_, rfl⟩
          rw [← hw6]
          have HK6 : Hid (Kp w1 w6) := by rw [hw6]; exact HK5.out.drewN _
          have c1 : w6.cell? ⟨b, 1, none⟩ = some (.int .i64 (k : Int)) := by rw [hw6]; exact c1
          clear hw6 HK5 c2 o0
          cases on
          · have HZ2 : Hid (sr (fun j => !(T (f + j)).on) (k - j') j' = (j' : Int) ∧ kkI f (j' : Int) = (n : Int)) := ⟨by rw [hs]; rfl, by unfold kkI; rw [if_neg (by omega)]; omega⟩
            clear hs
            go_wp2_with fail
            go_roundg j'
            case measure => omega
            case rel => exact ⟨j', (j' : Int), rfl, by rw [HZ2.out.2], by omega, by omega, HZ2.out.1, HK6⟩
          · have HZ2 : Hid (sr (fun j => !(T (f + j)).on) (k - j') j' = zz) := by
              show _ = _
              rw [hs]; rfl
            clear hs
            go_wp2_with fail
            go_roundg j'
            case measure => omega
            case rel => exact ⟨j', zz, rfl, rfl, by omega, by omega, HZ2, HK6⟩
    · have hkz := HKZ.out
      rw [if_neg (by omega)] at hkz
      subst hkz
      clear HKZ
      go_wp2_with fail
      go_loopg [8, 10] 1 (fun gk v8 v10 wr => v8 = .int .i64 (j : Int) ∧ v10 = .int .i64 ((k : Int) - 1) ∧ Hid (Kp w1 wr))
      case atStart => exact ⟨rfl, rfl, HK3⟩
      case round =>
        clear HK3
        obtain ⟨rfl, rfl, HK4⟩ := hrel
        have X4 := HT.out.2.2.1.kp HK4.out
        have e0 := X4.cell (j := 0) rfl
        have e1 := X4.cell (j := 1) rfl
        have e2 := X4.cell (j := 2) rfl
        dsimp only at e0 e1 e2
        have ca := cA.out _ HK4.out
        have y7 : ¬ (j : Int) < 0 := by omega
        have y8 : (0 : Int) ≤ (k : Int) - 1 := by omega
        clear X4
        go_wp2_with fail
        with_reducible refine ca.mono ?_
        rintro e w5 ⟨rfl, K5⟩
        have HK5 : Hid (Kp w1 w5) := HK4.out.trans K5
        clear K5 ca e0 e1 e2 HK4
        go_wp2_with fail
        go_meet
        case rel => exact ⟨rfl, HK5⟩
  case rest =>
    obtain ⟨rfl, HK⟩ := hcut
    have kc : (∃ j : Nat, kz = (j : Int) ∧ j < N ∧ j = jj) ∨ (kz = -1 ∧ f + mo = jj ∧ f + mo < N) := by
      have h1 := HJJ.out
      have h2 := HKZ.out
      have h3 := HN.out.2
      unfold rwI at h1
      rcases zc2 with rfl | ⟨j, rfl, hj⟩
      · rw [if_pos rfl] at h1 h2
        unfold kkI at h2
        rcases yc2 with rfl | ⟨j, rfl, hj⟩
        · rw [if_pos rfl] at h1 h2
          exact .inr ⟨h2.symm, h1, by omega⟩
        · rw [if_neg (by omega), Int.toNat_natCast] at h1
          rw [if_neg (by omega)] at h2
          exact .inl ⟨f + j, by omega, by omega, h1⟩
      · rw [if_neg (by omega), Int.toNat_natCast] at h1
        rw [if_neg (by omega)] at h2
        exact .inl ⟨j, by omega, hj, h1⟩
    have HF : Hid (Kp w1 wc) := HK.out
    have HE : Hid (Kp w wc) := HT.out.2.1.trans HK.out
    obtain ⟨w5, hw5⟩ : ∃ w5, w5 = wc := ⟨_, rfl⟩
    rw [← hw5]
    rw [← hw5] at HF HE
    clear hw5 HK HK3 HKZ HJJ zc2 yc2 wc
    rcases kc with ⟨j, rfl, jN, ej⟩ | ⟨rfl, ej, jN⟩
    · have HR : Hid (L = rwas (T j) ∧ BB = (T j).on) := HRR.out j ej
      subst ej
      have y7 : ¬ (j : Int) < 0 := by omega
      have y9 : (j : Int) < N := by omega
      clear HRR
      have T5 := HT.out.1.kp HE.out
      have c2 := T5.c2
      rw [HN.out.1] at c2
      have cc : ∀ m y, (encP (T j))[m]? = some y → w5.cell? ⟨g, j * 12 + m, none⟩ = some y := fun m y hy => T5.row.cell j m y (by have := HN.out; omega) hy
      obtain ⟨C, hC⟩ : ∃ C, T j = C := ⟨_, rfl⟩
      rw [hC] at cc HR
      obtain ⟨on, l⟩ := C
      have o0 := cc 0 _ rfl
      have o1 := cc 1 _ rfl
      have o2 := cc 2 _ rfl
      have o3 := cc 3 _ rfl
      have o4 := cc 4 _ rfl
      have o5 := cc 5 _ rfl
      have o6 := cc 6 _ rfl
      have o7 := cc 7 _ rfl
      have o8 := cc 8 _ rfl
      have o9 := cc 9 _ rfl
      have o10 := cc 10 _ rfl
      have o11 := cc 11 _ rfl
      simp only [Nat.add_zero] at o0
      clear cc T5
      go_upto_region 11 with fail
      obtain ⟨w6, hw6⟩ : ∃ w6, w6 = w5.alloc (.cells #[.bool on, .int .i64 l.i, .int .i64 l.a, .int .u64 (l.v : Int), .int .u64 (l.p : Int), .int .i64 l.f, .bool l.r, .bool l.q, .bool l.x, .bool l.r2, .bool l.q2, .bool l.x2] 72) := ⟨_, rfl⟩
      obtain ⟨bq, hbq⟩ : ∃ bq, bq = w5.heap.size := ⟨_, rfl⟩
      rw [← hw6, ← hbq]
      clear o0 o1 o2 o3 o4 o5 o6 o7 o8 o9 o10 o11 c2
      have K6 : Kp w5 w6 := by rw [hw6]; exact (Kp.refl w5).alloc _
      have Q6 : RX w6 bq 72 (encP ⟨on, l⟩) := by rw [hw6, hbq]; exact RX.made w5 _ _
      have X6 := HT.out.2.2.1.kp (HF.out.trans K6)
      have Y6 := HT.out.2.2.2.kp (HF.out.trans K6)
      have T6 := HT.out.1.kp (HE.out.trans K6)
      have c2 := T6.c2
      rw [HN.out.1] at c2
      have cc : ∀ m y, (encP (T j))[m]? = some y → w6.cell? ⟨g, j * 12 + m, none⟩ = some y := fun m y hy => T6.row.cell j m y (by have := HN.out; omega) hy
      rw [hC] at cc
      have o0 := cc 0 _ rfl
      have o1 := cc 1 _ rfl
      have o2 := cc 2 _ rfl
      have o3 := cc 3 _ rfl
      have o4 := cc 4 _ rfl
      have o5 := cc 5 _ rfl
      have o6 := cc 6 _ rfl
      have o7 := cc 7 _ rfl
      have o8 := cc 8 _ rfl
      have o9 := cc 9 _ rfl
      have o10 := cc 10 _ rfl
      have o11 := cc 11 _ rfl
      simp only [Nat.add_zero] at o0
      clear cc
      have fg := T6.row.fz
      have e0 := X6.cell (j := 0) rfl
      have e1 := X6.cell (j := 1) rfl
      have e2 := X6.cell (j := 2) rfl
      have e3 := X6.cell (j := 3) rfl
      have e4 := X6.cell (j := 4) rfl
      have e5 := X6.cell (j := 5) rfl
      have e6 := X6.cell (j := 6) rfl
      have e7 := X6.cell (j := 7) rfl
      have e8 := X6.cell (j := 8) rfl
      have e9 := X6.cell (j := 9) rfl
      have e10 := X6.cell (j := 10) rfl
      have gb : g < w.heap.size := HT.out.1.row.lt
      have bb : w.heap.size + 1 < bq := by
        have := HT.out.2.2.2.lt
        have := HF.out.size
        omega
      have HS : Hid (Kp w w6 ∧ RX w6 bq 72 (encP ⟨on, l⟩) ∧ RX w6 (w.heap.size + 1) 34 (encL zL) ∧ TR w6 b g s k T ∧ g < w.heap.size ∧ w.heap.size + 1 < bq ∧ j < s * k ∧ b < w.heap.size) := ⟨HE.out.trans K6, Q6, Y6, T6, gb, bb, by have := HN.out; omega, HT.out.1.bl⟩
      clear hw6 hbq HE HF K6 Q6 X6 Y6 T6 HT gb bb HN
      go_region
      rw [← putR_12]
      obtain ⟨w7, hw7⟩ : ∃ w7, w7 = (putR w6 g (j * 12) (encP ⟨true, ⟨i, a, v, p, lf, r, q, x, r2, q2, x2⟩⟩)).drew := ⟨_, rfl⟩
      rw [show (putR w6 g (j * 12) [.bool true, .int .i64 i, .int .i64 a, .int .u64 (v : Int), .int .u64 (p : Int), .int .i64 lf, .bool r, .bool q, .bool x, .bool r2, .bool q2, .bool x2]).drew = w7 from hw7.symm]
      clear o0 o1 o2 o3 o4 o5 o6 o7 o8 o9 o10 o11 e0 e1 e2 e3 e4 e5 e6 e7 e8 e9 e10 fg c2
      obtain ⟨K6, Q6, Y6, T6, gb, bb, fj, bw⟩ := HS.out
      have T7 : TR w7 b g s k (updP T j ⟨true, ⟨i, a, v, p, lf, r, q, x, r2, q2, x2⟩⟩) := by
        rw [hw7]; exact (T6.put j fj ⟨true, ⟨i, a, v, p, lf, r, q, x, r2, q2, x2⟩⟩).kp (Kp.refl _).drew
      have F7 : Fr (· = g) w6 w7 := by rw [hw7]; exact (putR_fr _ _ _ _).drew
      have Q7 := Q6.fr F7 (by omega)
      have Y7 := Y6.fr F7 (by omega)
      have o0 := Q7.cell (j := 0) rfl
      have o1 := Q7.cell (j := 1) rfl
      have o2 := Q7.cell (j := 2) rfl
      have o3 := Q7.cell (j := 3) rfl
      have o4 := Q7.cell (j := 4) rfl
      have o5 := Q7.cell (j := 5) rfl
      have o6 := Q7.cell (j := 6) rfl
      have o7 := Q7.cell (j := 7) rfl
      have o8 := Q7.cell (j := 8) rfl
      have o9 := Q7.cell (j := 9) rfl
      have o10 := Q7.cell (j := 10) rfl
      have o11 := Q7.cell (j := 11) rfl
      have e0 := Y7.cell (j := 0) rfl
      have e1 := Y7.cell (j := 1) rfl
      have e2 := Y7.cell (j := 2) rfl
      have e3 := Y7.cell (j := 3) rfl
      have e4 := Y7.cell (j := 4) rfl
      have e5 := Y7.cell (j := 5) rfl
      have e6 := Y7.cell (j := 6) rfl
      have e7 := Y7.cell (j := 7) rfl
      have e8 := Y7.cell (j := 8) rfl
      have e9 := Y7.cell (j := 9) rfl
      have e10 := Y7.cell (j := 10) rfl
      have fy := Y7.fz
      have HS2 : Hid (Fr (· = g) w w7 ∧ TR w7 b g s k (updP T j ⟨true, ⟨i, a, v, p, lf, r, q, x, r2, q2, x2⟩⟩) ∧ RX w7 (w.heap.size + 1) 34 (encL zL) ∧ g < w.heap.size ∧ b < w.heap.size) := ⟨(K6.fr _).trans F7, T7, Y7, gb, bw⟩
      clear HS hw7 K6 Q6 Y6 T6 gb bb fj T7 F7 Q7 Y7 bw
      cases on
      · have HR2 : L = zL ∧ BB = false := HR.out
        obtain ⟨rfl, rfl⟩ := HR2
        go_wp2
        rw [← putR_11z]
        obtain ⟨F7, T7, Y7, gb, bb⟩ := HS2.out
        have F8 : Fr (· = w.heap.size + 1) w7 (putR w7 (w.heap.size + 1) 0 (encL zL)) := putR_fr _ _ _ _
        exact bodyPost_ret (res_ln2 (l := zL) rfl rfl (Y7.put (U := encL zL) rfl)) rfl ⟨rfl, T7.fr F8 (by omega) (by omega), F7.trans2 F8 (fun i hi e => by omega)⟩
      · have HR2 : L = l ∧ BB = true := HR.out
        obtain ⟨rfl, rfl⟩ := HR2
        go_wp2
        rw [← putR_11z]
        obtain ⟨F7, T7, Y7, gb, bb⟩ := HS2.out
        have F8 : Fr (· = w.heap.size + 1) w7 (putR w7 (w.heap.size + 1) 0 (encL L)) := putR_fr _ _ _ _
        exact bodyPost_ret (res_ln2 (l := L) rfl rfl (Y7.put (U := encL L) rfl)) rfl ⟨rfl, T7.fr F8 (by omega) (by omega), F7.trans2 F8 (fun i hi e => by omega)⟩
    · obtain ⟨j, hj⟩ : ∃ j, f + mo = j := ⟨_, rfl⟩
      rw [hj] at ej jN
      have HR : Hid (L = rwas (T j) ∧ BB = (T j).on) := HRR.out j ej
      subst ej
      have y8 : (f : Int) + (mo : Int) = (j : Int) := by omega
      have y9 : (j : Int) < N := by omega
      have c1 := (HT.out.1.kp HE.out).c1
      clear HRR hj
      go_upto_region 9 with fail
      go_quiet (fail)
      obtain ⟨w6, hw6⟩ : ∃ w6, w6 = w5.drewN nq := ⟨_, rfl⟩
      rw [← hw6]
      replace HF : Hid (Kp w1 w6) := by rw [hw6]; exact HF.out.drewN _
      replace HE : Hid (Kp w w6) := by rw [hw6]; exact HE.out.drewN _
      clear hw6 c1
      obtain ⟨w5, hw5⟩ : ∃ w5, w5 = w6 := ⟨_, rfl⟩
      rw [← hw5]
      rw [← hw5] at HF HE
      clear hw5
      have T5 := HT.out.1.kp HE.out
      have c2 := T5.c2
      rw [HN.out.1] at c2
      have cc : ∀ m y, (encP (T j))[m]? = some y → w5.cell? ⟨g, j * 12 + m, none⟩ = some y := fun m y hy => T5.row.cell j m y (by have := HN.out; omega) hy
      obtain ⟨C, hC⟩ : ∃ C, T j = C := ⟨_, rfl⟩
      rw [hC] at cc HR
      obtain ⟨on, l⟩ := C
      have o0 := cc 0 _ rfl
      have o1 := cc 1 _ rfl
      have o2 := cc 2 _ rfl
      have o3 := cc 3 _ rfl
      have o4 := cc 4 _ rfl
      have o5 := cc 5 _ rfl
      have o6 := cc 6 _ rfl
      have o7 := cc 7 _ rfl
      have o8 := cc 8 _ rfl
      have o9 := cc 9 _ rfl
      have o10 := cc 10 _ rfl
      have o11 := cc 11 _ rfl
      simp only [Nat.add_zero] at o0
      clear cc T5
      go_upto_region 11 with fail
      obtain ⟨w6, hw6⟩ : ∃ w6, w6 = w5.alloc (.cells #[.bool on, .int .i64 l.i, .int .i64 l.a, .int .u64 (l.v : Int), .int .u64 (l.p : Int), .int .i64 l.f, .bool l.r, .bool l.q, .bool l.x, .bool l.r2, .bool l.q2, .bool l.x2] 72) := ⟨_, rfl⟩
      obtain ⟨bq, hbq⟩ : ∃ bq, bq = w5.heap.size := ⟨_, rfl⟩
      rw [← hw6, ← hbq]
      clear o0 o1 o2 o3 o4 o5 o6 o7 o8 o9 o10 o11 c2
      have K6 : Kp w5 w6 := by rw [hw6]; exact (Kp.refl w5).alloc _
      have Q6 : RX w6 bq 72 (encP ⟨on, l⟩) := by rw [hw6, hbq]; exact RX.made w5 _ _
      have X6 := HT.out.2.2.1.kp (HF.out.trans K6)
      have Y6 := HT.out.2.2.2.kp (HF.out.trans K6)
      have T6 := HT.out.1.kp (HE.out.trans K6)
      have c2 := T6.c2
      rw [HN.out.1] at c2
      have cc : ∀ m y, (encP (T j))[m]? = some y → w6.cell? ⟨g, j * 12 + m, none⟩ = some y := fun m y hy => T6.row.cell j m y (by have := HN.out; omega) hy
      rw [hC] at cc
      have o0 := cc 0 _ rfl
      have o1 := cc 1 _ rfl
      have o2 := cc 2 _ rfl
      have o3 := cc 3 _ rfl
      have o4 := cc 4 _ rfl
      have o5 := cc 5 _ rfl
      have o6 := cc 6 _ rfl
      have o7 := cc 7 _ rfl
      have o8 := cc 8 _ rfl
      have o9 := cc 9 _ rfl
      have o10 := cc 10 _ rfl
      have o11 := cc 11 _ rfl
      simp only [Nat.add_zero] at o0
      clear cc
      have fg := T6.row.fz
      have e0 := X6.cell (j := 0) rfl
      have e1 := X6.cell (j := 1) rfl
      have e2 := X6.cell (j := 2) rfl
      have e3 := X6.cell (j := 3) rfl
      have e4 := X6.cell (j := 4) rfl
      have e5 := X6.cell (j := 5) rfl
      have e6 := X6.cell (j := 6) rfl
      have e7 := X6.cell (j := 7) rfl
      have e8 := X6.cell (j := 8) rfl
      have e9 := X6.cell (j := 9) rfl
      have e10 := X6.cell (j := 10) rfl
      have gb : g < w.heap.size := HT.out.1.row.lt
      have bb : w.heap.size + 1 < bq := by
        have := HT.out.2.2.2.lt
        have := HF.out.size
        omega
      have HS : Hid (Kp w w6 ∧ RX w6 bq 72 (encP ⟨on, l⟩) ∧ RX w6 (w.heap.size + 1) 34 (encL zL) ∧ TR w6 b g s k T ∧ g < w.heap.size ∧ w.heap.size + 1 < bq ∧ j < s * k ∧ b < w.heap.size) := ⟨HE.out.trans K6, Q6, Y6, T6, gb, bb, by have := HN.out; omega, HT.out.1.bl⟩
      clear hw6 hbq HE HF K6 Q6 X6 Y6 T6 HT gb bb HN
      go_region
      rw [← putR_12]
      obtain ⟨w7, hw7⟩ : ∃ w7, w7 = (putR w6 g (j * 12) (encP ⟨true, ⟨i, a, v, p, lf, r, q, x, r2, q2, x2⟩⟩)).drew := ⟨_, rfl⟩
      rw [show (putR w6 g (j * 12) [.bool true, .int .i64 i, .int .i64 a, .int .u64 (v : Int), .int .u64 (p : Int), .int .i64 lf, .bool r, .bool q, .bool x, .bool r2, .bool q2, .bool x2]).drew = w7 from hw7.symm]
      clear o0 o1 o2 o3 o4 o5 o6 o7 o8 o9 o10 o11 e0 e1 e2 e3 e4 e5 e6 e7 e8 e9 e10 fg c2
      obtain ⟨K6, Q6, Y6, T6, gb, bb, fj, bw⟩ := HS.out
      have T7 : TR w7 b g s k (updP T j ⟨true, ⟨i, a, v, p, lf, r, q, x, r2, q2, x2⟩⟩) := by
        rw [hw7]; exact (T6.put j fj ⟨true, ⟨i, a, v, p, lf, r, q, x, r2, q2, x2⟩⟩).kp (Kp.refl _).drew
      have F7 : Fr (· = g) w6 w7 := by rw [hw7]; exact (putR_fr _ _ _ _).drew
      have Q7 := Q6.fr F7 (by omega)
      have Y7 := Y6.fr F7 (by omega)
      have o0 := Q7.cell (j := 0) rfl
      have o1 := Q7.cell (j := 1) rfl
      have o2 := Q7.cell (j := 2) rfl
      have o3 := Q7.cell (j := 3) rfl
      have o4 := Q7.cell (j := 4) rfl
      have o5 := Q7.cell (j := 5) rfl
      have o6 := Q7.cell (j := 6) rfl
      have o7 := Q7.cell (j := 7) rfl
      have o8 := Q7.cell (j := 8) rfl
      have o9 := Q7.cell (j := 9) rfl
      have o10 := Q7.cell (j := 10) rfl
      have o11 := Q7.cell (j := 11) rfl
      have e0 := Y7.cell (j := 0) rfl
      have e1 := Y7.cell (j := 1) rfl
      have e2 := Y7.cell (j := 2) rfl
      have e3 := Y7.cell (j := 3) rfl
      have e4 := Y7.cell (j := 4) rfl
      have e5 := Y7.cell (j := 5) rfl
      have e6 := Y7.cell (j := 6) rfl
      have e7 := Y7.cell (j := 7) rfl
      have e8 := Y7.cell (j := 8) rfl
      have e9 := Y7.cell (j := 9) rfl
      have e10 := Y7.cell (j := 10) rfl
      have fy := Y7.fz
      have HS2 : Hid (Fr (· = g) w w7 ∧ TR w7 b g s k (updP T j ⟨true, ⟨i, a, v, p, lf, r, q, x, r2, q2, x2⟩⟩) ∧ RX w7 (w.heap.size + 1) 34 (encL zL) ∧ g < w.heap.size ∧ b < w.heap.size) := ⟨(K6.fr _).trans F7, T7, Y7, gb, bw⟩
      clear HS hw7 K6 Q6 Y6 T6 gb bb fj T7 F7 Q7 Y7 bw
      cases on
      · have HR2 : L = zL ∧ BB = false := HR.out
        obtain ⟨rfl, rfl⟩ := HR2
        go_wp2
        rw [← putR_11z]
        obtain ⟨F7, T7, Y7, gb, bb⟩ := HS2.out
        have F8 : Fr (· = w.heap.size + 1) w7 (putR w7 (w.heap.size + 1) 0 (encL zL)) := putR_fr _ _ _ _
        exact bodyPost_ret (res_ln2 (l := zL) rfl rfl (Y7.put (U := encL zL) rfl)) rfl ⟨rfl, T7.fr F8 (by omega) (by omega), F7.trans2 F8 (fun i hi e => by omega)⟩
      · have HR2 : L = l ∧ BB = true := HR.out
        obtain ⟨rfl, rfl⟩ := HR2
        go_wp2
        rw [← putR_11z]
        obtain ⟨F7, T7, Y7, gb, bb⟩ := HS2.out
        have F8 : Fr (· = w.heap.size + 1) w7 (putR w7 (w.heap.size + 1) 0 (encL L)) := putR_fr _ _ _ _
        exact bodyPost_ret (res_ln2 (l := L) rfl rfl (Y7.put (U := encL L) rfl)) rfl ⟨rfl, T7.fr F8 (by omega) (by omega), F7.trans2 F8 (fun i hi e => by omega)⟩
end

end Go.Proofs.Ytheahkfgmbmdcaa
