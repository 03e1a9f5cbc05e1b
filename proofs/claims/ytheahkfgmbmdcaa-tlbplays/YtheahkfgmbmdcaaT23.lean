/- The document's tlb: Lose. -/
import Derived.Test.YtheahkfgmbmdcaaT22
namespace Go.Proofs.Ytheahkfgmbmdcaa
open Go.RowKit
set_option maxRecDepth 10000

section
variable {w : World} {b g s k : Nat} {T : Nat → PC}
set_option maxHeartbeats 4000000 in
theorem rlose_any (h : TR w b g s k T) (x0 x1 x2 x3 x4 : Bool) (m : LN) (P : LN → Bool)
    (cI : ∀ (l : LN) (w : World), Calls Try.prog 42 #[.agg #[.bool x0, .bool x1, .bool x2, .bool x3, .bool x4, .int .i64 m.i, .int .i64 m.a, .int .u64 (m.v : Int), .int .u64 (m.p : Int), .int .i64 m.f, .bool m.r, .bool m.q, .bool m.x, .bool m.r2, .bool m.q2, .bool m.x2], lnV l] w fun e w' => e = .returned (.bool (P l)) ∧ Kp w w') :
    Calls Try.prog 33 #[.pointer (some ⟨b, 0, none⟩), .agg #[.bool x0, .bool x1, .bool x2, .bool x3, .bool x4, .int .i64 m.i, .int .i64 m.a, .int .u64 (m.v : Int), .int .u64 (m.p : Int), .int .i64 m.f, .bool m.r, .bool m.q, .bool m.x, .bool m.r2, .bool m.q2, .bool m.x2]] w fun e w' => e = .returned (.int .i64 (losN T P (s * k) : Nat)) ∧ TR w' b g s k (losT T P (s * k)) ∧ Fr (· = g) w w' := by
  obtain ⟨w1, hw1⟩ : ∃ w1, w1 = w.alloc (.cells #[.bool x0, .bool x1, .bool x2, .bool x3, .bool x4, .int .i64 m.i, .int .i64 m.a, .int .u64 (m.v : Int), .int .u64 (m.p : Int), .int .i64 m.f, .bool m.r, .bool m.q, .bool m.x, .bool m.r2, .bool m.q2, .bool m.x2] 75) := ⟨_, rfl⟩
  have K1 : Kp w w1 := by rw [hw1]; exact (Kp.refl w).alloc _
  have X1 : RX w1 w.heap.size 75 [.bool x0, .bool x1, .bool x2, .bool x3, .bool x4, .int .i64 m.i, .int .i64 m.a, .int .u64 (m.v : Int), .int .u64 (m.p : Int), .int .i64 m.f, .bool m.r, .bool m.q, .bool m.x, .bool m.r2, .bool m.q2, .bool m.x2] := by rw [hw1]; exact RX.made w _ _
  have T1 := h.kp K1
  have n1 := h.n1
  have gb := h.row.lt
  have HT : Hid (TR w1 b g s k T ∧ Kp w w1 ∧ RX w1 w.heap.size 75 [.bool x0, .bool x1, .bool x2, .bool x3, .bool x4, .int .i64 m.i, .int .i64 m.a, .int .u64 (m.v : Int), .int .u64 (m.p : Int), .int .i64 m.f, .bool m.r, .bool m.q, .bool m.x, .bool m.r2, .bool m.q2, .bool m.x2] ∧ g < w.heap.size) := ⟨T1, K1, X1, gb⟩
  obtain ⟨N, hN⟩ : ∃ N, s * k = N := ⟨_, rfl⟩
  rw [hN] at n1 ⊢
  have HN : Hid (s * k = N) := hN
  have y2 : (N : Int) ≤ 512 := by omega
  have HI : Aside (∀ (l : LN) (w : World), Calls Try.prog 42 #[.agg #[.bool x0, .bool x1, .bool x2, .bool x3, .bool x4, .int .i64 m.i, .int .i64 m.a, .int .u64 (m.v : Int), .int .u64 (m.p : Int), .int .i64 m.f, .bool m.r, .bool m.q, .bool m.x, .bool m.r2, .bool m.q2, .bool m.x2], lnV l] w fun e w' => e = .returned (.bool (P l)) ∧ Kp w w') := cI
  clear T1 K1 X1 gb h hN cI
  go_enter Try.func33, Try.ntmps33
  go_upto_block 0 with fail
  obtain ⟨cb, hcb⟩ : ∃ cb, cb = w.heap.size := ⟨_, rfl⟩
  rw [← hw1, ← hcb]
  have HCB : Hid (cb = w.heap.size) := hcb
  clear hw1 hcb
  go_wp2_with fail
  go_loopg [5, 6] N (fun gk v5 v6 wr => ∃ n : Nat, v6 = .int .i64 (n : Int) ∧ v5 = .int .i64 (losN T P n : Nat) ∧ n ≤ N ∧ N - n ≤ gk ∧ Hid (TR wr b g s k (losT T P n) ∧ Fr (· = g) w1 wr))
  case atStart => exact ⟨0, rfl, rfl, by omega, by omega, by rw [losT_zero]; exact HT.out.1, Fr.refl _ _⟩
  case round =>
    obtain ⟨n, rfl, rfl, n2, hg, HL⟩ := hrel
    have c2 := HL.out.1.c2
    rw [HN.out] at c2
    by_cases hn : n < N
    · have y1 : (n : Int) < N := by omega
      have e1 := @losT_on T P n
      have e2 := @losT_off T P n
      have e3 : losN T P (n + 1) = losN T P n + if ((T n).on && P (T n).l) = true then 1 else 0 := rfl
      have l1 := losN_le T P n
      obtain ⟨C, hC⟩ : ∃ C, T n = C := ⟨_, rfl⟩
      rw [hC] at e1 e2 e3
      obtain ⟨on, l⟩ := C
      have KT := HL.out.1
      have KX : RX wr cb 75 [.bool x0, .bool x1, .bool x2, .bool x3, .bool x4, .int .i64 m.i, .int .i64 m.a, .int .u64 (m.v : Int), .int .u64 (m.p : Int), .int .i64 m.f, .bool m.r, .bool m.q, .bool m.x, .bool m.r2, .bool m.q2, .bool m.x2] := by rw [HCB.out]; exact HT.out.2.2.1.fr HL.out.2 (by have := HT.out; omega)
      cases on
      · rw [if_neg (by simp)] at e3
        have o0 : wr.cell? ⟨g, n * 12, none⟩ = some (.bool false) := KT.row.cell n 0 _ (by rw [HN.out]; exact hn) (by rw [losT_same, hC]; rfl)
        clear hC KT KX
        go_upto_region 5 with fail
        go_quiet (fail)
        have HL2 : Hid (∀ m, TR (wr.drewN m) b g s k (losT T P (n + 1)) ∧ Fr (· = g) w1 (wr.drewN m)) := fun m => by
          have K2 : Kp wr (wr.drewN m) := (Kp.refl wr).drewN m
          rw [e2 (by simp)]
          exact ⟨HL.out.1.kp K2, HL.out.2.trans (K2.fr _)⟩
        clear HL e1 e2 o0 c2
        go_wp2_with fail
        go_roundg (N - (n + 1))
        case measure => omega
        case rel => exact ⟨n + 1, by go_num, by rw [e3]; rfl, by omega, by omega, HL2.out _⟩
      · rw [show ((PC.on ⟨true, l⟩) && P (PC.l ⟨true, l⟩)) = P l from by simp] at e1 e2 e3
        have s1 : Aside (∀ w, Calls Try.prog 42 #[.agg #[.bool x0, .bool x1, .bool x2, .bool x3, .bool x4, .int .i64 m.i, .int .i64 m.a, .int .u64 (m.v : Int), .int .u64 (m.p : Int), .int .i64 m.f, .bool m.r, .bool m.q, .bool m.x, .bool m.r2, .bool m.q2, .bool m.x2], lnV l] w fun e w' => e = .returned (.bool (P l)) ∧ Kp w w') := HI.out l
        obtain ⟨D, hD⟩ : ∃ D, P l = D := ⟨_, rfl⟩
        rw [hD] at e1 e2 e3 s1
        simp only [lnV] at s1
        clear hD
        go_upto_region 5 with fail
        have uc : ∀ P : KeptBy wr, P.v.cell? ⟨b, 2, none⟩ = some (.slice (some ⟨g, 0, none⟩) N N) := fun P => by
          have := (KT.kp P.k).c2
          rwa [HN.out] at this
        have u0 : ∀ P : KeptBy wr, P.v.cell? ⟨g, n * 12 + 0, none⟩ = some _ := fun P => (KT.kp P.k).row.cell n 0 _ (by rw [HN.out]; exact hn) (by rw [losT_same, hC]; rfl)
        have u1 : ∀ P : KeptBy wr, P.v.cell? ⟨g, n * 12 + 1, none⟩ = some _ := fun P => (KT.kp P.k).row.cell n 1 _ (by rw [HN.out]; exact hn) (by rw [losT_same, hC]; rfl)
        have u2 : ∀ P : KeptBy wr, P.v.cell? ⟨g, n * 12 + 2, none⟩ = some _ := fun P => (KT.kp P.k).row.cell n 2 _ (by rw [HN.out]; exact hn) (by rw [losT_same, hC]; rfl)
        have u3 : ∀ P : KeptBy wr, P.v.cell? ⟨g, n * 12 + 3, none⟩ = some _ := fun P => (KT.kp P.k).row.cell n 3 _ (by rw [HN.out]; exact hn) (by rw [losT_same, hC]; rfl)
        have u4 : ∀ P : KeptBy wr, P.v.cell? ⟨g, n * 12 + 4, none⟩ = some _ := fun P => (KT.kp P.k).row.cell n 4 _ (by rw [HN.out]; exact hn) (by rw [losT_same, hC]; rfl)
        have u5 : ∀ P : KeptBy wr, P.v.cell? ⟨g, n * 12 + 5, none⟩ = some _ := fun P => (KT.kp P.k).row.cell n 5 _ (by rw [HN.out]; exact hn) (by rw [losT_same, hC]; rfl)
        have u6 : ∀ P : KeptBy wr, P.v.cell? ⟨g, n * 12 + 6, none⟩ = some _ := fun P => (KT.kp P.k).row.cell n 6 _ (by rw [HN.out]; exact hn) (by rw [losT_same, hC]; rfl)
        have u7 : ∀ P : KeptBy wr, P.v.cell? ⟨g, n * 12 + 7, none⟩ = some _ := fun P => (KT.kp P.k).row.cell n 7 _ (by rw [HN.out]; exact hn) (by rw [losT_same, hC]; rfl)
        have u8 : ∀ P : KeptBy wr, P.v.cell? ⟨g, n * 12 + 8, none⟩ = some _ := fun P => (KT.kp P.k).row.cell n 8 _ (by rw [HN.out]; exact hn) (by rw [losT_same, hC]; rfl)
        have u9 : ∀ P : KeptBy wr, P.v.cell? ⟨g, n * 12 + 9, none⟩ = some _ := fun P => (KT.kp P.k).row.cell n 9 _ (by rw [HN.out]; exact hn) (by rw [losT_same, hC]; rfl)
        have u10 : ∀ P : KeptBy wr, P.v.cell? ⟨g, n * 12 + 10, none⟩ = some _ := fun P => (KT.kp P.k).row.cell n 10 _ (by rw [HN.out]; exact hn) (by rw [losT_same, hC]; rfl)
        have u11 : ∀ P : KeptBy wr, P.v.cell? ⟨g, n * 12 + 11, none⟩ = some _ := fun P => (KT.kp P.k).row.cell n 11 _ (by rw [HN.out]; exact hn) (by rw [losT_same, hC]; rfl)
        have v0 : ∀ P : KeptBy wr, P.v.cell? ⟨cb, 0, none⟩ = some _ := fun P => (KX.kp P.k).cell (j := 0) rfl
        have v1 : ∀ P : KeptBy wr, P.v.cell? ⟨cb, 1, none⟩ = some _ := fun P => (KX.kp P.k).cell (j := 1) rfl
        have v2 : ∀ P : KeptBy wr, P.v.cell? ⟨cb, 2, none⟩ = some _ := fun P => (KX.kp P.k).cell (j := 2) rfl
        have v3 : ∀ P : KeptBy wr, P.v.cell? ⟨cb, 3, none⟩ = some _ := fun P => (KX.kp P.k).cell (j := 3) rfl
        have v4 : ∀ P : KeptBy wr, P.v.cell? ⟨cb, 4, none⟩ = some _ := fun P => (KX.kp P.k).cell (j := 4) rfl
        have v5 : ∀ P : KeptBy wr, P.v.cell? ⟨cb, 5, none⟩ = some _ := fun P => (KX.kp P.k).cell (j := 5) rfl
        have v6 : ∀ P : KeptBy wr, P.v.cell? ⟨cb, 6, none⟩ = some _ := fun P => (KX.kp P.k).cell (j := 6) rfl
        have v7 : ∀ P : KeptBy wr, P.v.cell? ⟨cb, 7, none⟩ = some _ := fun P => (KX.kp P.k).cell (j := 7) rfl
        have v8 : ∀ P : KeptBy wr, P.v.cell? ⟨cb, 8, none⟩ = some _ := fun P => (KX.kp P.k).cell (j := 8) rfl
        have v9 : ∀ P : KeptBy wr, P.v.cell? ⟨cb, 9, none⟩ = some _ := fun P => (KX.kp P.k).cell (j := 9) rfl
        have v10 : ∀ P : KeptBy wr, P.v.cell? ⟨cb, 10, none⟩ = some _ := fun P => (KX.kp P.k).cell (j := 10) rfl
        have v11 : ∀ P : KeptBy wr, P.v.cell? ⟨cb, 11, none⟩ = some _ := fun P => (KX.kp P.k).cell (j := 11) rfl
        have v12 : ∀ P : KeptBy wr, P.v.cell? ⟨cb, 12, none⟩ = some _ := fun P => (KX.kp P.k).cell (j := 12) rfl
        have v13 : ∀ P : KeptBy wr, P.v.cell? ⟨cb, 13, none⟩ = some _ := fun P => (KX.kp P.k).cell (j := 13) rfl
        have v14 : ∀ P : KeptBy wr, P.v.cell? ⟨cb, 14, none⟩ = some _ := fun P => (KX.kp P.k).cell (j := 14) rfl
        have v15 : ∀ P : KeptBy wr, P.v.cell? ⟨cb, 15, none⟩ = some _ := fun P => (KX.kp P.k).cell (j := 15) rfl
        simp only [Nat.add_zero] at u0
        clear hC KT KX
        refine wp_region_kept mixed (by kernel_rfl) ?_
        repeat (go_big_quiet_step (first | exact rfl | (go_at_call 42; with_reducible refine Calls.kept_of (s1.out _))))
        refine wpQuiet_nil ?_
        intro w3 hw3
        have K3 : Kp wr w3 := by obtain ⟨p, rfl⟩ := hw3; exact p.k
        have T3 := HL.out.1.kp K3
        have HF3 : Hid (Fr (· = g) w1 w3) := HL.out.2.trans (K3.fr _)
        clear hw3 s1 uc u0 u1 u2 u3 u4 u5 u6 u7 u8 u9 u10 u11 v0 v1 v2 v3 v4 v5 v6 v7 v8 v9 v10 v11 v12 v13 v14 v15 HL K3 c2
        cases D
        · have HL2 : Hid (TR w3 b g s k (losT T P (n + 1)) ∧ Fr (· = g) w1 w3) := ⟨by rw [e2 rfl]; exact T3, HF3.out⟩
          rw [if_neg (by decide)] at e3
          clear T3 HF3 e1 e2
          go_wp2_with fail
          go_roundg (N - (n + 1))
          case measure => omega
          case rel => exact ⟨n + 1, by go_num, by rw [e3]; rfl, by omega, by omega, HL2⟩
        · rw [if_pos rfl] at e3
          have c2 := T3.c2
          rw [HN.out] at c2
          have cc : ∀ m y, (encP (losT T P n n))[m]? = some y → w3.cell? ⟨g, n * 12 + m, none⟩ = some y := fun m y hy => T3.row.cell n m y (by rw [HN.out]; exact hn) hy
          generalize losT T P n n = C0 at cc
          have o0 := cc 0 _ rfl
          have o1 := cc 1 _ rfl
          have o2 := cc 2 _ rfl
          have o3 := cc 3 _ rfl
          have o4 := cc 4 _ rfl
          have o5 := cc 5 _ rfl
          have o6 := cc 6 _ rfl
          have o7 := cc 7 _ rfl
          have o8 := cc 8 _ rfl
          have o9 := cc 9 _ rfl
          have o10 := cc 10 _ rfl
          have o11 := cc 11 _ rfl
          simp only [Nat.add_zero] at o0
          clear cc
          have fg := T3.row.fz
          have HL2 : Hid (TR (putR w3 g (n * 12) (encP zP)) b g s k (losT T P (n + 1)) ∧ Fr (· = g) w1 (putR w3 g (n * 12) (encP zP))) := ⟨by rw [e1 rfl]; exact T3.put n (by rw [HN.out]; exact hn) zP, HF3.out.trans (putR_fr _ _ _ _)⟩
          clear T3 HF3 e1 e2
          have y3 : (losN T P n : Int) ≤ 512 := by omega
          generalize losN T P n = ln at *
          go_upto_region 7 with fail
          rw [← putR_12]
          obtain ⟨w4, hw4⟩ : ∃ w4, w4 = putR w3 g (n * 12) (encP zP) := ⟨_, rfl⟩
          rw [show putR w3 g (n * 12) [.bool false, .int .i64 0, .int .i64 0, .int .u64 0, .int .u64 0, .int .i64 0, .bool false, .bool false, .bool false, .bool false, .bool false, .bool false] = w4 from hw4.symm]
          rw [← hw4] at HL2
          clear o0 o1 o2 o3 o4 o5 o6 o7 o8 o9 o10 o11 fg hw4 c2
          go_wp2_with fail
          go_roundg (N - (n + 1))
          case measure => omega
          case rel => exact ⟨n + 1, by go_num, by rw [e3]; go_num, by omega, by omega, HL2⟩
    · have en : n = N := by omega
      subst en
      go_wp2
      go_ret
      exact ⟨rfl, HL.out.1, ((HT.out.2.1.fr _).trans HL.out.2)⟩
end

theorem trnew_ok (s k : Nat) (w : World) (hp : pwB (s : Int) = true) (k0 : 1 ≤ k) (k1 : k ≤ 8) :
    Calls Try.prog 8 #[.int .i64 (s : Int), .int .i64 (k : Int)] w fun e w' => e = .returned (.tuple #[.pointer (some ⟨w.heap.size + 1, 0, none⟩), .int .i64 0]) ∧ TR w' (w.heap.size + 1) w.heap.size s k (fun _ => zP) ∧ Kp w w' :=
  (trnew_walk (s : Int) (k : Int) w).mono fun e w' h => by
    obtain ⟨e1, e2⟩ := h.1 ⟨hp, by omega, by omega⟩
    rw [Int.toNat_natCast, Int.toNat_natCast] at e2
    have r := pw_range hp
    rw [e2]
    exact ⟨e1, TR.made w s k (by omega) (by omega) k0 k1, ((Kp.refl w).alloc _).alloc _⟩
theorem trnew_no (s k : Int) (w : World) (hp : ¬ (pwB s = true ∧ 1 ≤ k ∧ k ≤ 8)) :
    Calls Try.prog 8 #[.int .i64 s, .int .i64 k] w fun e w' => e = .returned (.tuple #[.pointer none, .int .i64 1]) ∧ w' = w :=
  (trnew_walk s k w).mono fun _ _ h => h.2 hp

end Go.Proofs.Ytheahkfgmbmdcaa
