/- tlb: Fill. -/
import Derived.Test.YtclcickhgoiooaaT5
import Derived.Deep.CutBlock
import Derived.Deep.DeepCutAuto
namespace Go.Proofs.Ytclcickhgoiooaa
open Go.RowKit
set_option maxRecDepth 10000

/-- way modulo the ways. -/
def mdN (way : Int) (k : Nat) : Nat := ((way.tmod k + k).tmod k).toNat
def empI (T : Nat → PC) (s k v : Nat) : Int := sr (fun j => !(T (v % s * k + j)).on) k 0
/-- Which way a line takes. -/
def wayI (z y : Int) (m : Nat) : Nat := if z = -1 then (if y = -1 then m else y.toNat) else z.toNat
/-- The place that a line takes. -/
def filI (T : Nat → PC) (s k : Nat) (l : LN) (way : Int) : Nat := l.v % s * k + wayI (fndI T s k l.i l.a l.v) (empI T s k l.v) (mdN way k)

section
variable {w : World} {b g s k : Nat} {T : Nat → PC}
set_option maxHeartbeats 4000000 in
theorem fill_any (h : TP w b g s k T) (l : LN) (way : Int) :
    Calls Try.prog 12 #[.pointer (some ⟨b, 0, none⟩), lnV l, .int .i64 way] w fun e w' => e = .returned (.tuple #[lnV (T (filI T s k l way)).l, .bool (T (filI T s k l way)).on]) ∧ TP w' b g s k (updP T (filI T s k l way) ⟨true, l⟩) ∧ Fr (· = g) w w' := by
  obtain ⟨w1, hw1⟩ : ∃ w1, w1 = (w.alloc (.cells (encL l).toArray 54)).alloc (.cells (encL zL).toArray 54) := ⟨_, rfl⟩
  have K1 : Kp w w1 := by rw [hw1]; exact ((Kp.refl w).alloc _).alloc _
  have X1 : RX w1 w.heap.size 54 (encL l) := by rw [hw1]; exact (RX.made w _ _).kp ((Kp.refl _).alloc _)
  have Y1 : RX w1 (w.heap.size + 1) 54 (encL zL) := by rw [hw1]; exact RX.made1 w _ _ _
  obtain ⟨f, hf⟩ : ∃ f, l.v % s * k = f := ⟨_, rfl⟩
  have cS := setOf_any (h.kp K1) l.v f hf
  have f1 := set_le (k := k) (v := l.v) h.s0
  rw [hf] at f1
  have cN := fun w => nameOf_any l w
  have cH := fun w => holds_any (nameL l) w
  obtain ⟨z, hz⟩ : ∃ z, fndI T s k l.i l.a l.v = z := ⟨_, rfl⟩
  have hz2 : sr (fun j => keyB l.i l.a l.v (T (f + j))) k 0 = z := by rw [← hz, ← hf]; rfl
  obtain ⟨y, hy⟩ : ∃ y, empI T s k l.v = y := ⟨_, rfl⟩
  have hy2 : sr (fun j => !(T (f + j)).on) k 0 = y := by rw [← hy, ← hf]; rfl
  have e0 : filI T s k l way = f + wayI z y (mdN way k) := by unfold filI; rw [hz, hy, hf]
  obtain ⟨N, hN⟩ : ∃ N, s * k = N := ⟨_, rfl⟩
  rw [hN] at cS f1
  have HN : Hid (s * k = N ∧ f + k ≤ N) := ⟨hN, f1⟩
  have kk := h.k1
  have k0 := h.k0
  have c0 := h.c0
  have HB : Hid (b < w.heap.size) := h.bl
  have HT : Hid (TP w b g s k T ∧ Kp w w1 ∧ RX w1 w.heap.size 54 (encL l) ∧ RX w1 (w.heap.size + 1) 54 (encL zL)) := ⟨h, K1, X1, Y1⟩
  have HZ : Hid (sr (fun j => keyB l.i l.a l.v (T (f + j))) k 0 = z ∧ sr (fun j => !(T (f + j)).on) k 0 = y) := ⟨hz2, hy2⟩
  obtain ⟨t, j, m1, m2, m3, m4, m5⟩ := place_of way k (by omega)
  have em : mdN way k = j := by unfold mdN; rw [m1, m4]; rfl
  rw [em] at e0
  have cM := fun w => modulo_any way k j t w m1 m4 (by omega) kk m2 m3
  rw [e0]
  have HE0 : Hid (f + wayI z y j = f + wayI z y j) := rfl
  clear hz hy hz2 hy2 hf f1 hN K1 X1 Y1 h e0 em m1 m4 m2 m3
  obtain ⟨jj, hjj⟩ : ∃ jj, wayI z y j = jj := ⟨_, rfl⟩
  rw [hjj]
  have HJJ : Hid (wayI z y j = jj) := hjj
  clear hjj HE0
  obtain ⟨i, a, v, p, lf, r, q, x, r2, q2, x2⟩ := l
  rw [show lnV ⟨i, a, v, p, lf, r, q, x, r2, q2, x2⟩ = .agg #[.int .i64 i, .int .i64 a, .int .u64 (v : Int), .int .u64 (p : Int), .int .i64 lf, .bool r, .bool q, .bool x, .bool r2, .bool q2, .bool x2] from rfl]
  replace cN : ∀ w, Calls Try.prog 44 #[.agg #[.int .i64 i, .int .i64 a, .int .u64 (v : Int), .int .u64 (p : Int), .int .i64 lf, .bool r, .bool q, .bool x, .bool r2, .bool q2, .bool x2]] w fun e w' => e = .returned (lnV (nameL ⟨i, a, v, p, lf, r, q, x, r2, q2, x2⟩)) ∧ Kp w w' := cN
  obtain ⟨n, hn⟩ : ∃ n, nameL ⟨i, a, v, p, lf, r, q, x, r2, q2, x2⟩ = n := ⟨_, rfl⟩
  rw [hn] at cN cH
  have HNM : Hid (nameL ⟨i, a, v, p, lf, r, q, x, r2, q2, x2⟩ = n) := hn
  clear hn
  go_enter Try.func12, Try.ntmps12
  go_wp2_with fail
  rw [show (w.alloc (.cells #[.int .i64 i, .int .i64 a, .int .u64 (v : Int), .int .u64 (p : Int), .int .i64 lf, .bool r, .bool q, .bool x, .bool r2, .bool q2, .bool x2] 54)).alloc (.cells #[.int .i64 0, .int .i64 0, .int .u64 0, .int .u64 0, .int .i64 0, .bool false, .bool false, .bool false, .bool false, .bool false, .bool false] 54) = w1 from hw1.symm]
  with_reducible refine cS.mono ?_
  rintro e w2 ⟨rfl, D2⟩
  have X2 := HT.out.2.2.1.kp D2.kp
  have e0 := X2.cell (j := 0) rfl
  have e1 := X2.cell (j := 1) rfl
  have e2 := X2.cell (j := 2) rfl
  have e3 := X2.cell (j := 3) rfl
  have e4 := X2.cell (j := 4) rfl
  have e5 := X2.cell (j := 5) rfl
  have e6 := X2.cell (j := 6) rfl
  have e7 := X2.cell (j := 7) rfl
  have e8 := X2.cell (j := 8) rfl
  have e9 := X2.cell (j := 9) rfl
  have e10 := X2.cell (j := 10) rfl
  go_wp2_with fail
  with_reducible refine (cN _).mono ?_
  rintro e w3 ⟨rfl, K3⟩
  clear e0 e1 e2 e3 e4 e5 e6 e7 e8 e9 e10 X2
  go_wp2_with fail
  with_reducible refine (cH _).mono ?_
  rintro e w4 ⟨rfl, E4⟩
  obtain ⟨h, K1, _, _⟩ := HT.out
  have K34 : Kp w3 w4 := by rw [E4]; exact (Kp.refl w3).alloc _
  have K14 : Kp w1 w4 := (D2.kp.trans K3).trans K34
  have R4 : RX w4 w3.heap.size 54 (encL n) := by rw [E4]; exact RX.made w3 _ _
  have P4 : PR w4 g N T := by rw [← HN.out.1]; exact h.row.kp (K1.trans K14)
  have cQ := search_any (c := N - f) P4 (holds_ft w3.heap.size n) R4 (f := f) (k := k) HN.out.2 kk
  have hz3 : sr (fun j => (fun c => c.on && samL (nameL c.l) n) (T (f + j))) k 0 = z := by rw [← HNM.out]; exact HZ.out.1
  rw [hz3] at cQ
  have HK4 : Hid (Kp w w4) := K1.trans K14
  have HK14 : Hid (Kp w1 w4) := K14
  clear hz3 R4 E4 K34 cS cH K14 K3 D2 P4 K1 h cN
  go_wp2_with fail
  with_reducible refine cQ.mono ?_
  rintro e w5 ⟨rfl, K5⟩
  have HE : Hid (Kp w w5) := HK4.out.trans K5
  have HF : Hid (Kp w1 w5) := HK14.out.trans K5
  have sz := sr_cases (fun j => keyB i a v (T (f + j))) k 0
  rw [HZ.out.1] at sz
  clear cQ HK4 HK14 K5
  rcases sz with ⟨rfl, _⟩ | ⟨j, rfl, _, j2, _, _⟩
  · have P5 : PR w5 g N T := by rw [← HN.out.1]; exact HT.out.1.row.kp HE.out
    have cQ := search_any (c := N - f) P5 isEmpty_ft trivial (f := f) (k := k) HN.out.2 kk
    have hz3 : sr (fun j => (fun c : PC => !c.on) (T (f + j))) k 0 = y := HZ.out.2
    rw [hz3] at cQ
    clear hz3 P5
    go_wp2_with fail
    with_reducible refine cQ.mono ?_
    rintro e w5 ⟨rfl, K5⟩
    replace HE : Hid (Kp w w5) := HE.out.trans K5
    replace HF : Hid (Kp w1 w5) := HF.out.trans K5
    have sy := sr_cases (fun j => !(T (f + j)).on) k 0
    rw [HZ.out.2] at sy
    clear cQ K5
    rcases sy with ⟨rfl, _⟩ | ⟨j, rfl, _, j2, _, _⟩
    · have ej := HJJ.out
      rw [wayI, if_pos rfl, if_pos rfl] at ej
      subst ej
      clear HZ HJJ
      have c5 := (HT.out.1.kp HE.out).c0
      go_wp2_with fail
      with_reducible refine (cM _).mono ?_
      rintro e w5 ⟨rfl, rfl⟩
      clear cM c5
      have y1 : (j : Int) < k := by omega
      have y2 : (k : Int) ≤ 8 := by omega
      have cc : ∀ m y, (encP (T (f + j)))[m]? = some y → w5.cell? ⟨g, f * 12 + j * 12 + m, none⟩ = some y := fun m y hy => by
        have := (HT.out.1.kp HE.out).row.cell (f + j) m y (by have := HN.out; omega) hy
        rwa [Nat.add_mul] at this
      obtain ⟨C, hC⟩ : ∃ C, T (f + j) = C := ⟨_, rfl⟩
      rw [hC] at cc
      obtain ⟨on, l⟩ := C
      have o0 := cc 0 _ rfl
      have o1 := cc 1 _ rfl
      have o2 := cc 2 _ rfl
      have o3 := cc 3 _ rfl
      have o4 := cc 4 _ rfl
      have o5 := cc 5 _ rfl
      have o6 := cc 6 _ rfl
      have o7 := cc 7 _ rfl
      have o8 := cc 8 _ rfl
      have o9 := cc 9 _ rfl
      have o10 := cc 10 _ rfl
      have o11 := cc 11 _ rfl
      simp only [Nat.add_zero] at o0
      clear cc
      go_upto_region 8 with fail
      obtain ⟨w6, hw6⟩ : ∃ w6, w6 = w5.alloc (.cells #[.bool on, .int .i64 l.i, .int .i64 l.a, .int .u64 (l.v : Int), .int .u64 (l.p : Int), .int .i64 l.f, .bool l.r, .bool l.q, .bool l.x, .bool l.r2, .bool l.q2, .bool l.x2] 113) := ⟨_, rfl⟩
      obtain ⟨bq, hbq⟩ : ∃ bq, bq = w5.heap.size := ⟨_, rfl⟩
      rw [← hw6, ← hbq]
      clear o0 o1 o2 o3 o4 o5 o6 o7 o8 o9 o10 o11
      have K6 : Kp w5 w6 := by rw [hw6]; exact (Kp.refl w5).alloc _
      have Q6 : RX w6 bq 113 (encP ⟨on, l⟩) := by rw [hw6, hbq]; exact RX.made w5 _ _
      have X6 := HT.out.2.2.1.kp (HF.out.trans K6)
      have Y6 := HT.out.2.2.2.kp (HF.out.trans K6)
      have T6 := HT.out.1.kp (HE.out.trans K6)
      have cc : ∀ m y, (encP (T (f + j)))[m]? = some y → w6.cell? ⟨g, f * 12 + j * 12 + m, none⟩ = some y := fun m y hy => by
        have := T6.row.cell (f + j) m y (by have := HN.out; omega) hy
        rwa [Nat.add_mul] at this
      rw [hC] at cc
      have o0 := cc 0 _ rfl
      have o1 := cc 1 _ rfl
      have o2 := cc 2 _ rfl
      have o3 := cc 3 _ rfl
      have o4 := cc 4 _ rfl
      have o5 := cc 5 _ rfl
      have o6 := cc 6 _ rfl
      have o7 := cc 7 _ rfl
      have o8 := cc 8 _ rfl
      have o9 := cc 9 _ rfl
      have o10 := cc 10 _ rfl
      have o11 := cc 11 _ rfl
      simp only [Nat.add_zero] at o0
      clear cc
      have fg := T6.row.fz
      have e0 := X6.cell (j := 0) rfl
      have e1 := X6.cell (j := 1) rfl
      have e2 := X6.cell (j := 2) rfl
      have e3 := X6.cell (j := 3) rfl
      have e4 := X6.cell (j := 4) rfl
      have e5 := X6.cell (j := 5) rfl
      have e6 := X6.cell (j := 6) rfl
      have e7 := X6.cell (j := 7) rfl
      have e8 := X6.cell (j := 8) rfl
      have e9 := X6.cell (j := 9) rfl
      have e10 := X6.cell (j := 10) rfl
      have gb : g < w.heap.size := HT.out.1.row.lt
      have bb : w.heap.size + 1 < bq := by
        have := HT.out.2.2.2.lt
        have := HF.out.size
        omega
      have HS : Hid (Kp w w6 ∧ RX w6 bq 113 (encP ⟨on, l⟩) ∧ RX w6 (w.heap.size + 1) 54 (encL zL) ∧ TP w6 b g s k T ∧ g < w.heap.size ∧ w.heap.size + 1 < bq ∧ f + j < s * k) := ⟨HE.out.trans K6, Q6, Y6, T6, gb, bb, by have := HN.out; omega⟩
      clear hw6 hbq HE HF K6 Q6 X6 Y6 T6 HT gb bb HN
      go_upto_region 9 with fail
      rw [← putR_12]
      obtain ⟨w7, hw7⟩ : ∃ w7, w7 = putR w6 g (f * 12 + j * 12) (encP ⟨true, ⟨i, a, v, p, lf, r, q, x, r2, q2, x2⟩⟩) := ⟨_, rfl⟩
      rw [show putR w6 g (f * 12 + j * 12) [.bool true, .int .i64 i, .int .i64 a, .int .u64 (v : Int), .int .u64 (p : Int), .int .i64 lf, .bool r, .bool q, .bool x, .bool r2, .bool q2, .bool x2] = w7 from hw7.symm]
      clear o0 o1 o2 o3 o4 o5 o6 o7 o8 o9 o10 o11 e0 e1 e2 e3 e4 e5 e6 e7 e8 e9 e10 fg
      obtain ⟨K6, Q6, Y6, T6, gb, bb, fj⟩ := HS.out
      have T7 : TP w7 b g s k (updP T (f + j) ⟨true, ⟨i, a, v, p, lf, r, q, x, r2, q2, x2⟩⟩) := by
        have := T6.put (f + j) fj ⟨true, ⟨i, a, v, p, lf, r, q, x, r2, q2, x2⟩⟩
        rw [Nat.add_mul] at this
        rw [hw7]; exact this
      have F7 : Fr (· = g) w6 w7 := by rw [hw7]; exact putR_fr _ _ _ _
      have Q7 := Q6.fr F7 (by omega)
      have Y7 := Y6.fr F7 (by omega)
      have o0 := Q7.cell (j := 0) rfl
      have o1 := Q7.cell (j := 1) rfl
      have o2 := Q7.cell (j := 2) rfl
      have o3 := Q7.cell (j := 3) rfl
      have o4 := Q7.cell (j := 4) rfl
      have o5 := Q7.cell (j := 5) rfl
      have o6 := Q7.cell (j := 6) rfl
      have o7 := Q7.cell (j := 7) rfl
      have o8 := Q7.cell (j := 8) rfl
      have o9 := Q7.cell (j := 9) rfl
      have o10 := Q7.cell (j := 10) rfl
      have o11 := Q7.cell (j := 11) rfl
      have e0 := Y7.cell (j := 0) rfl
      have e1 := Y7.cell (j := 1) rfl
      have e2 := Y7.cell (j := 2) rfl
      have e3 := Y7.cell (j := 3) rfl
      have e4 := Y7.cell (j := 4) rfl
      have e5 := Y7.cell (j := 5) rfl
      have e6 := Y7.cell (j := 6) rfl
      have e7 := Y7.cell (j := 7) rfl
      have e8 := Y7.cell (j := 8) rfl
      have e9 := Y7.cell (j := 9) rfl
      have e10 := Y7.cell (j := 10) rfl
      have fy := Y7.fz
      have HS2 : Hid (Fr (· = g) w w7 ∧ TP w7 b g s k (updP T (f + j) ⟨true, ⟨i, a, v, p, lf, r, q, x, r2, q2, x2⟩⟩) ∧ RX w7 (w.heap.size + 1) 54 (encL zL) ∧ g < w.heap.size ∧ b < w.heap.size) := ⟨(K6.fr _).trans F7, T7, Y7, gb, HB.out⟩
      have n1 : ¬ bq = w.heap.size + 1 := by omega
      have n2 : ¬ w.heap.size + 1 = bq := by omega
      clear HS hw7 K6 Q6 Y6 T6 gb bb fj T7 F7 Q7 Y7
      go_region
      rw [← putR_11z]
      obtain ⟨w8, hw8⟩ : ∃ w8, w8 = (putR w7 (w.heap.size + 1) 0 (encL l)).drew := ⟨_, rfl⟩
      rw [show (putR w7 (w.heap.size + 1) 0 [.int .i64 l.i, .int .i64 l.a, .int .u64 (l.v : Int), .int .u64 (l.p : Int), .int .i64 l.f, .bool l.r, .bool l.q, .bool l.x, .bool l.r2, .bool l.q2, .bool l.x2]).drew = w8 from hw8.symm]
      clear o0 o1 o2 o3 o4 o5 o6 o7 o8 o9 o10 o11 e0 e1 e2 e3 e4 e5 e6 e7 e8 e9 e10 fy
      go_wp2
      obtain ⟨F7, T7, Y7, gb, bb⟩ := HS2.out
      have Y8 : RX w8 (w.heap.size + 1) 54 (encL l) := by rw [hw8]; exact (Y7.put (U := encL l) rfl).kp ((Kp.refl _).drew)
      have F8 : Fr (· = w.heap.size + 1) w7 w8 := by rw [hw8]; exact (putR_fr w7 (w.heap.size + 1) 0 (encL l)).drew
      exact bodyPost_ret (res_ln2 (l := l) rfl rfl Y8) rfl ⟨by rw [hC]; rfl, T7.fr F8 (by omega) (by omega), F7.trans2 F8 (fun i hi e => by omega)⟩
    · have b1 : ((j : Int) == -1) = false := by rw [beq_eq_false_iff_ne]; omega
      have ej := HJJ.out
      rw [wayI, if_pos rfl, if_neg (by omega), Int.toNat_natCast] at ej
      subst ej
      clear HZ HJJ cM
      have y1 : (j : Int) < k := by omega
      have y2 : (k : Int) ≤ 8 := by omega
      have cc : ∀ m y, (encP (T (f + j)))[m]? = some y → w5.cell? ⟨g, f * 12 + j * 12 + m, none⟩ = some y := fun m y hy => by
        have := (HT.out.1.kp HE.out).row.cell (f + j) m y (by have := HN.out; omega) hy
        rwa [Nat.add_mul] at this
      obtain ⟨C, hC⟩ : ∃ C, T (f + j) = C := ⟨_, rfl⟩
      rw [hC] at cc
      obtain ⟨on, l⟩ := C
      have o0 := cc 0 _ rfl
      have o1 := cc 1 _ rfl
      have o2 := cc 2 _ rfl
      have o3 := cc 3 _ rfl
      have o4 := cc 4 _ rfl
      have o5 := cc 5 _ rfl
      have o6 := cc 6 _ rfl
      have o7 := cc 7 _ rfl
      have o8 := cc 8 _ rfl
      have o9 := cc 9 _ rfl
      have o10 := cc 10 _ rfl
      have o11 := cc 11 _ rfl
      simp only [Nat.add_zero] at o0
      clear cc
      go_upto_region 8 with fail
      obtain ⟨w6, hw6⟩ : ∃ w6, w6 = w5.alloc (.cells #[.bool on, .int .i64 l.i, .int .i64 l.a, .int .u64 (l.v : Int), .int .u64 (l.p : Int), .int .i64 l.f, .bool l.r, .bool l.q, .bool l.x, .bool l.r2, .bool l.q2, .bool l.x2] 113) := ⟨_, rfl⟩
      obtain ⟨bq, hbq⟩ : ∃ bq, bq = w5.heap.size := ⟨_, rfl⟩
      rw [← hw6, ← hbq]
      clear o0 o1 o2 o3 o4 o5 o6 o7 o8 o9 o10 o11
      have K6 : Kp w5 w6 := by rw [hw6]; exact (Kp.refl w5).alloc _
      have Q6 : RX w6 bq 113 (encP ⟨on, l⟩) := by rw [hw6, hbq]; exact RX.made w5 _ _
      have X6 := HT.out.2.2.1.kp (HF.out.trans K6)
      have Y6 := HT.out.2.2.2.kp (HF.out.trans K6)
      have T6 := HT.out.1.kp (HE.out.trans K6)
      have cc : ∀ m y, (encP (T (f + j)))[m]? = some y → w6.cell? ⟨g, f * 12 + j * 12 + m, none⟩ = some y := fun m y hy => by
        have := T6.row.cell (f + j) m y (by have := HN.out; omega) hy
        rwa [Nat.add_mul] at this
      rw [hC] at cc
      have o0 := cc 0 _ rfl
      have o1 := cc 1 _ rfl
      have o2 := cc 2 _ rfl
      have o3 := cc 3 _ rfl
      have o4 := cc 4 _ rfl
      have o5 := cc 5 _ rfl
      have o6 := cc 6 _ rfl
      have o7 := cc 7 _ rfl
      have o8 := cc 8 _ rfl
      have o9 := cc 9 _ rfl
      have o10 := cc 10 _ rfl
      have o11 := cc 11 _ rfl
      simp only [Nat.add_zero] at o0
      clear cc
      have fg := T6.row.fz
      have e0 := X6.cell (j := 0) rfl
      have e1 := X6.cell (j := 1) rfl
      have e2 := X6.cell (j := 2) rfl
      have e3 := X6.cell (j := 3) rfl
      have e4 := X6.cell (j := 4) rfl
      have e5 := X6.cell (j := 5) rfl
      have e6 := X6.cell (j := 6) rfl
      have e7 := X6.cell (j := 7) rfl
      have e8 := X6.cell (j := 8) rfl
      have e9 := X6.cell (j := 9) rfl
      have e10 := X6.cell (j := 10) rfl
      have gb : g < w.heap.size := HT.out.1.row.lt
      have bb : w.heap.size + 1 < bq := by
        have := HT.out.2.2.2.lt
        have := HF.out.size
        omega
      have HS : Hid (Kp w w6 ∧ RX w6 bq 113 (encP ⟨on, l⟩) ∧ RX w6 (w.heap.size + 1) 54 (encL zL) ∧ TP w6 b g s k T ∧ g < w.heap.size ∧ w.heap.size + 1 < bq ∧ f + j < s * k) := ⟨HE.out.trans K6, Q6, Y6, T6, gb, bb, by have := HN.out; omega⟩
      clear hw6 hbq HE HF K6 Q6 X6 Y6 T6 HT gb bb HN
      go_upto_region 9 with fail
      rw [← putR_12]
      obtain ⟨w7, hw7⟩ : ∃ w7, w7 = putR w6 g (f * 12 + j * 12) (encP ⟨true, ⟨i, a, v, p, lf, r, q, x, r2, q2, x2⟩⟩) := ⟨_, rfl⟩
      rw [show putR w6 g (f * 12 + j * 12) [.bool true, .int .i64 i, .int .i64 a, .int .u64 (v : Int), .int .u64 (p : Int), .int .i64 lf, .bool r, .bool q, .bool x, .bool r2, .bool q2, .bool x2] = w7 from hw7.symm]
      clear o0 o1 o2 o3 o4 o5 o6 o7 o8 o9 o10 o11 e0 e1 e2 e3 e4 e5 e6 e7 e8 e9 e10 fg
      obtain ⟨K6, Q6, Y6, T6, gb, bb, fj⟩ := HS.out
      have T7 : TP w7 b g s k (updP T (f + j) ⟨true, ⟨i, a, v, p, lf, r, q, x, r2, q2, x2⟩⟩) := by
        have := T6.put (f + j) fj ⟨true, ⟨i, a, v, p, lf, r, q, x, r2, q2, x2⟩⟩
        rw [Nat.add_mul] at this
        rw [hw7]; exact this
      have F7 : Fr (· = g) w6 w7 := by rw [hw7]; exact putR_fr _ _ _ _
      have Q7 := Q6.fr F7 (by omega)
      have Y7 := Y6.fr F7 (by omega)
      have o0 := Q7.cell (j := 0) rfl
      have o1 := Q7.cell (j := 1) rfl
      have o2 := Q7.cell (j := 2) rfl
      have o3 := Q7.cell (j := 3) rfl
      have o4 := Q7.cell (j := 4) rfl
      have o5 := Q7.cell (j := 5) rfl
      have o6 := Q7.cell (j := 6) rfl
      have o7 := Q7.cell (j := 7) rfl
      have o8 := Q7.cell (j := 8) rfl
      have o9 := Q7.cell (j := 9) rfl
      have o10 := Q7.cell (j := 10) rfl
      have o11 := Q7.cell (j := 11) rfl
      have e0 := Y7.cell (j := 0) rfl
      have e1 := Y7.cell (j := 1) rfl
      have e2 := Y7.cell (j := 2) rfl
      have e3 := Y7.cell (j := 3) rfl
      have e4 := Y7.cell (j := 4) rfl
      have e5 := Y7.cell (j := 5) rfl
      have e6 := Y7.cell (j := 6) rfl
      have e7 := Y7.cell (j := 7) rfl
      have e8 := Y7.cell (j := 8) rfl
      have e9 := Y7.cell (j := 9) rfl
      have e10 := Y7.cell (j := 10) rfl
      have fy := Y7.fz
      have HS2 : Hid (Fr (· = g) w w7 ∧ TP w7 b g s k (updP T (f + j) ⟨true, ⟨i, a, v, p, lf, r, q, x, r2, q2, x2⟩⟩) ∧ RX w7 (w.heap.size + 1) 54 (encL zL) ∧ g < w.heap.size ∧ b < w.heap.size) := ⟨(K6.fr _).trans F7, T7, Y7, gb, HB.out⟩
      have n1 : ¬ bq = w.heap.size + 1 := by omega
      have n2 : ¬ w.heap.size + 1 = bq := by omega
      clear HS hw7 K6 Q6 Y6 T6 gb bb fj T7 F7 Q7 Y7
      go_region
      rw [← putR_11z]
      obtain ⟨w8, hw8⟩ : ∃ w8, w8 = (putR w7 (w.heap.size + 1) 0 (encL l)).drew := ⟨_, rfl⟩
      rw [show (putR w7 (w.heap.size + 1) 0 [.int .i64 l.i, .int .i64 l.a, .int .u64 (l.v : Int), .int .u64 (l.p : Int), .int .i64 l.f, .bool l.r, .bool l.q, .bool l.x, .bool l.r2, .bool l.q2, .bool l.x2]).drew = w8 from hw8.symm]
      clear o0 o1 o2 o3 o4 o5 o6 o7 o8 o9 o10 o11 e0 e1 e2 e3 e4 e5 e6 e7 e8 e9 e10 fy
      go_wp2
      obtain ⟨F7, T7, Y7, gb, bb⟩ := HS2.out
      have Y8 : RX w8 (w.heap.size + 1) 54 (encL l) := by rw [hw8]; exact (Y7.put (U := encL l) rfl).kp ((Kp.refl _).drew)
      have F8 : Fr (· = w.heap.size + 1) w7 w8 := by rw [hw8]; exact (putR_fr w7 (w.heap.size + 1) 0 (encL l)).drew
      exact bodyPost_ret (res_ln2 (l := l) rfl rfl Y8) rfl ⟨by rw [hC]; rfl, T7.fr F8 (by omega) (by omega), F7.trans2 F8 (fun i hi e => by omega)⟩
  · have b1 : ((j : Int) == -1) = false := by rw [beq_eq_false_iff_ne]; omega
    have ej := HJJ.out
    rw [wayI, if_neg (by omega), Int.toNat_natCast] at ej
    subst ej
    clear HZ HJJ cM
    have y1 : (j : Int) < k := by omega
    have y2 : (k : Int) ≤ 8 := by omega
    have cc : ∀ m y, (encP (T (f + j)))[m]? = some y → w5.cell? ⟨g, f * 12 + j * 12 + m, none⟩ = some y := fun m y hy => by
      have := (HT.out.1.kp HE.out).row.cell (f + j) m y (by have := HN.out; omega) hy
      rwa [Nat.add_mul] at this
    obtain ⟨C, hC⟩ : ∃ C, T (f + j) = C := ⟨_, rfl⟩
    rw [hC] at cc
    obtain ⟨on, l⟩ := C
    have o0 := cc 0 _ rfl
    have o1 := cc 1 _ rfl
    have o2 := cc 2 _ rfl
    have o3 := cc 3 _ rfl
    have o4 := cc 4 _ rfl
    have o5 := cc 5 _ rfl
    have o6 := cc 6 _ rfl
    have o7 := cc 7 _ rfl
    have o8 := cc 8 _ rfl
    have o9 := cc 9 _ rfl
    have o10 := cc 10 _ rfl
    have o11 := cc 11 _ rfl
    simp only [Nat.add_zero] at o0
    clear cc
    go_upto_region 8 with fail
    obtain ⟨w6, hw6⟩ : ∃ w6, w6 = w5.alloc (.cells #[.bool on, .int .i64 l.i, .int .i64 l.a, .int .u64 (l.v : Int), .int .u64 (l.p : Int), .int .i64 l.f, .bool l.r, .bool l.q, .bool l.x, .bool l.r2, .bool l.q2, .bool l.x2] 113) := ⟨_, rfl⟩
    obtain ⟨bq, hbq⟩ : ∃ bq, bq = w5.heap.size := ⟨_, rfl⟩
    rw [← hw6, ← hbq]
    clear o0 o1 o2 o3 o4 o5 o6 o7 o8 o9 o10 o11
    have K6 : Kp w5 w6 := by rw [hw6]; exact (Kp.refl w5).alloc _
    have Q6 : RX w6 bq 113 (encP ⟨on, l⟩) := by rw [hw6, hbq]; exact RX.made w5 _ _
    have X6 := HT.out.2.2.1.kp (HF.out.trans K6)
    have Y6 := HT.out.2.2.2.kp (HF.out.trans K6)
    have T6 := HT.out.1.kp (HE.out.trans K6)
    have cc : ∀ m y, (encP (T (f + j)))[m]? = some y → w6.cell? ⟨g, f * 12 + j * 12 + m, none⟩ = some y := fun m y hy => by
      have := T6.row.cell (f + j) m y (by have := HN.out; omega) hy
      rwa [Nat.add_mul] at this
    rw [hC] at cc
    have o0 := cc 0 _ rfl
    have o1 := cc 1 _ rfl
    have o2 := cc 2 _ rfl
    have o3 := cc 3 _ rfl
    have o4 := cc 4 _ rfl
    have o5 := cc 5 _ rfl
    have o6 := cc 6 _ rfl
    have o7 := cc 7 _ rfl
    have o8 := cc 8 _ rfl
    have o9 := cc 9 _ rfl
    have o10 := cc 10 _ rfl
    have o11 := cc 11 _ rfl
    simp only [Nat.add_zero] at o0
    clear cc
    have fg := T6.row.fz
    have e0 := X6.cell (j := 0) rfl
    have e1 := X6.cell (j := 1) rfl
    have e2 := X6.cell (j := 2) rfl
    have e3 := X6.cell (j := 3) rfl
    have e4 := X6.cell (j := 4) rfl
    have e5 := X6.cell (j := 5) rfl
    have e6 := X6.cell (j := 6) rfl
    have e7 := X6.cell (j := 7) rfl
    have e8 := X6.cell (j := 8) rfl
    have e9 := X6.cell (j := 9) rfl
    have e10 := X6.cell (j := 10) rfl
    have gb : g < w.heap.size := HT.out.1.row.lt
    have bb : w.heap.size + 1 < bq := by
      have := HT.out.2.2.2.lt
      have := HF.out.size
      omega
    have HS : Hid (Kp w w6 ∧ RX w6 bq 113 (encP ⟨on, l⟩) ∧ RX w6 (w.heap.size + 1) 54 (encL zL) ∧ TP w6 b g s k T ∧ g < w.heap.size ∧ w.heap.size + 1 < bq ∧ f + j < s * k) := ⟨HE.out.trans K6, Q6, Y6, T6, gb, bb, by have := HN.out; omega⟩
    clear hw6 hbq HE HF K6 Q6 X6 Y6 T6 HT gb bb HN
    go_upto_region 9 with fail
    rw [← putR_12]
    obtain ⟨w7, hw7⟩ : ∃ w7, w7 = putR w6 g (f * 12 + j * 12) (encP ⟨true, ⟨i, a, v, p, lf, r, q, x, r2, q2, x2⟩⟩) := ⟨_, rfl⟩
    rw [show putR w6 g (f * 12 + j * 12) [.bool true, .int .i64 i, .int .i64 a, .int .u64 (v : Int), .int .u64 (p : Int), .int .i64 lf, .bool r, .bool q, .bool x, .bool r2, .bool q2, .bool x2] = w7 from hw7.symm]
    clear o0 o1 o2 o3 o4 o5 o6 o7 o8 o9 o10 o11 e0 e1 e2 e3 e4 e5 e6 e7 e8 e9 e10 fg
    obtain ⟨K6, Q6, Y6, T6, gb, bb, fj⟩ := HS.out
    have T7 : TP w7 b g s k (updP T (f + j) ⟨true, ⟨i, a, v, p, lf, r, q, x, r2, q2, x2⟩⟩) := by
      have := T6.put (f + j) fj ⟨true, ⟨i, a, v, p, lf, r, q, x, r2, q2, x2⟩⟩
      rw [Nat.add_mul] at this
      rw [hw7]; exact this
    have F7 : Fr (· = g) w6 w7 := by rw [hw7]; exact putR_fr _ _ _ _
    have Q7 := Q6.fr F7 (by omega)
    have Y7 := Y6.fr F7 (by omega)
    have o0 := Q7.cell (j := 0) rfl
    have o1 := Q7.cell (j := 1) rfl
    have o2 := Q7.cell (j := 2) rfl
    have o3 := Q7.cell (j := 3) rfl
    have o4 := Q7.cell (j := 4) rfl
    have o5 := Q7.cell (j := 5) rfl
    have o6 := Q7.cell (j := 6) rfl
    have o7 := Q7.cell (j := 7) rfl
    have o8 := Q7.cell (j := 8) rfl
    have o9 := Q7.cell (j := 9) rfl
    have o10 := Q7.cell (j := 10) rfl
    have o11 := Q7.cell (j := 11) rfl
    have e0 := Y7.cell (j := 0) rfl
    have e1 := Y7.cell (j := 1) rfl
    have e2 := Y7.cell (j := 2) rfl
    have e3 := Y7.cell (j := 3) rfl
    have e4 := Y7.cell (j := 4) rfl
    have e5 := Y7.cell (j := 5) rfl
    have e6 := Y7.cell (j := 6) rfl
    have e7 := Y7.cell (j := 7) rfl
    have e8 := Y7.cell (j := 8) rfl
    have e9 := Y7.cell (j := 9) rfl
    have e10 := Y7.cell (j := 10) rfl
    have fy := Y7.fz
    have HS2 : Hid (Fr (· = g) w w7 ∧ TP w7 b g s k (updP T (f + j) ⟨true, ⟨i, a, v, p, lf, r, q, x, r2, q2, x2⟩⟩) ∧ RX w7 (w.heap.size + 1) 54 (encL zL) ∧ g < w.heap.size ∧ b < w.heap.size) := ⟨(K6.fr _).trans F7, T7, Y7, gb, HB.out⟩
    have n1 : ¬ bq = w.heap.size + 1 := by omega
    have n2 : ¬ w.heap.size + 1 = bq := by omega
    clear HS hw7 K6 Q6 Y6 T6 gb bb fj T7 F7 Q7 Y7
    go_region
    rw [← putR_11z]
    obtain ⟨w8, hw8⟩ : ∃ w8, w8 = (putR w7 (w.heap.size + 1) 0 (encL l)).drew := ⟨_, rfl⟩
    rw [show (putR w7 (w.heap.size + 1) 0 [.int .i64 l.i, .int .i64 l.a, .int .u64 (l.v : Int), .int .u64 (l.p : Int), .int .i64 l.f, .bool l.r, .bool l.q, .bool l.x, .bool l.r2, .bool l.q2, .bool l.x2]).drew = w8 from hw8.symm]
    clear o0 o1 o2 o3 o4 o5 o6 o7 o8 o9 o10 o11 e0 e1 e2 e3 e4 e5 e6 e7 e8 e9 e10 fy
    go_wp2
    obtain ⟨F7, T7, Y7, gb, bb⟩ := HS2.out
    have Y8 : RX w8 (w.heap.size + 1) 54 (encL l) := by rw [hw8]; exact (Y7.put (U := encL l) rfl).kp ((Kp.refl _).drew)
    have F8 : Fr (· = w.heap.size + 1) w7 w8 := by rw [hw8]; exact (putR_fr w7 (w.heap.size + 1) 0 (encL l)).drew
    exact bodyPost_ret (res_ln2 (l := l) rfl rfl Y8) rfl ⟨by rw [hC]; rfl, T7.fr F8 (by omega) (by omega), F7.trans2 F8 (fun i hi e => by omega)⟩
end

end Go.Proofs.Ytclcickhgoiooaa
