/- demesneref14: Walk: its loop. -/
import Derived.Test.YtclcickhgoiooaaN3
namespace Go.Proofs.Ytclcickhgoiooaa
open Go.RowKit
set_option maxRecDepth 10000
set_option linter.unusedVariables false

theorem en_cases (rd : Nat → Nat × Bool) (two P : Nat) :
    (∃ K, ¬ K = 0 ∧ seO rd two P 1 = zO ∧ seF rd two P 1 = ⟨2, K, -1, P, false⟩ ∧ enF rd two P = ⟨2, K, -1, P, false⟩ ∧ enN rd two P = slN rd two P ∧ rd1 rd two P = (0, false)) ∨
    (∃ (Z : Nat) (b1 b2 b3 : Bool), seO rd two P 1 = ⟨(Z : Int), P / 4096, true, true, true, b1, b2, b3⟩ ∧ seF rd two P 1 = zF ∧ Z * 4096 + P % 4096 = enA rd two P ∧ (((rd (enA rd two P)).2 = true ∧ enN rd two P = slN rd two P + 1 ∧ rd1 rd two P = ((rd (enA rd two P)).1, true)) ∨ ((rd (enA rd two P)).2 = false ∧ enF rd two P = ⟨2, 4, 0, P, false⟩ ∧ enN rd two P = slN rd two P ∧ rd1 rd two P = (0, false)))) := by
  have fault : ∀ K, ¬ K = 0 → seK rd two P 1 = K → seO rd two P 1 = zO → seF rd two P 1 = ⟨2, K, -1, P, (1 : Int) == 2⟩ → (∃ K, ¬ K = 0 ∧ seO rd two P 1 = zO ∧ seF rd two P 1 = ⟨2, K, -1, P, false⟩ ∧ enF rd two P = ⟨2, K, -1, P, false⟩ ∧ enN rd two P = slN rd two P ∧ rd1 rd two P = (0, false)) := fun K hK h1 h2 h3 => by
    have hk : ¬ seK rd two P 1 = 0 := by rw [h1]; exact hK
    have e1 : enF rd two P = ⟨2, K, -1, P, false⟩ := by unfold enF; rw [if_neg hk, h1]
    refine ⟨K, hK, h2, h3, e1, ?_, ?_⟩
    · unfold enN; rw [if_neg (fun c => hk c.1)]
    · unfold rd1; rw [e1, if_neg hK]
  rcases seK_cases rd two P 1 with ⟨h1, h2, h3, h4⟩ | ⟨_, _, h2, h3, h4⟩ | ⟨h1, h2, h3, h4, h5⟩
  · exact .inl (fault _ h1 h2 h3 h4)
  · exact .inl (fault 2 (by decide) h2 h3 h4)
  · refine .inr ⟨_, _, _, _, h4, h5, rfl, ?_⟩
    cases ok : (rd (enA rd two P)).2
    · have e1 : enF rd two P = ⟨2, 4, 0, P, false⟩ := by unfold enF; rw [if_pos h3, ok, if_neg (by decide)]
      refine .inr ⟨rfl, e1, ?_, ?_⟩
      · unfold enN; rw [ok, if_neg (fun c => Bool.noConfusion c.2)]
      · unfold rd1; rw [e1, if_neg (show ¬ (4 : Int) = 0 by decide)]
    · have e1 : enF rd two P = zF := by unfold enF; rw [if_pos h3, ok, if_pos rfl]
      refine .inl ⟨rfl, ?_, ?_⟩
      · unfold enN; rw [if_pos ⟨h3, ok⟩]
      · unfold rd1; rw [e1, if_pos (show zF.k = 0 from rfl)]; unfold enW; rw [if_pos h3]

/-- What the loop leaves. -/
def EX (w : World) (q : Nat) (M : Nat → Nat → Nat) (two root u : Nat) (st : Bool) (nn t : Nat) (L : List SV) (k : Int) (v : Value) (wx : World) : Prop :=
  RWk w q 1 t u L k true v wx ∧ (∃ mm, g1 (rdM M) two root u = (L, k, mm)) ∧ RX wx w.heap.size 38 (encO zO) ∧ RX wx (w.heap.size + 1) 35 (encF zF) ∧
    ((k = -1 ∧ nn = sumN (rdM M) two L + enN (rdM M) two (stP (rdM M) two root u) ∧ (enF (rdM M) two (stP (rdM M) two root u)).k ≠ 0 ∧ RX wx (w.heap.size + 1 + 1) 35 (encF ⟨(enF (rdM M) two (stP (rdM M) two root u)).s, (enF (rdM M) two (stP (rdM M) two root u)).k, (L.length : Int), (enF (rdM M) two (stP (rdM M) two root u)).a, st⟩)) ∨ (¬ k = -1 ∧ nn = sumN (rdM M) two L))
/-- Between two rounds: on the way, or at its end. -/
def LSt (w w2 : World) (M : Nat → Nat → Nat) (two root u : Nat) (st : Bool) (nn lev m t : Nat) (L : List SV) (k : Int) (v : Value) (wr : World) : Prop :=
  (RWk w2 w2.heap.size 1 t u L 4 false v wr ∧ sofar 1 root u (rd1 (rdM M) two) L m t ∧ t = lastT root L ∧ lev = m ∧ nn = sumN (rdM M) two L) ∨ EX w w2.heap.size M two root u st nn t L k v wr
theorem st_at {rd : Nat → Nat × Bool} {two root u : Nat} {L : List SV} {k : Int} {mm t : Nat} (h : g1 rd two root u = (L, k, mm)) (ht : t = lastT root L) : stP rd two root u = atN t u L.length := by unfold stP; rw [h, ht]

set_option maxHeartbeats 16000000 in
theorem rwalk_on {w : World} {qm : Nat} {M : Nat → Nat → Nat} (h : DM w qm M) (two root u : Nat) (acc : Int) (ht : two < 18446744073709551616) (hu : u < 281474976710656) (hr1 : root % 4096 = 0) (hr2 : root < 1099511627776) (o : OV) (f : FV) (n : Nat) (hc : onC (rdM M) two root u acc o f n) :
    Calls Try.prog 7 #[.pointer (some ⟨qm, 0, none⟩), .int .u64 (two : Int), .bool true, .int .u64 (root : Int), .int .u64 (u : Int), .int .i64 acc] w fun e w' => e = .returned (.tuple #[ouV o, faV f, .int .i64 (n : Int)]) ∧ Kp w w' := by
  obtain ⟨st, hst⟩ : ∃ st, (acc == 2) = st := ⟨_, rfl⟩
  obtain ⟨w2, hw2⟩ : ∃ w2, w2 = rsmade w zF := ⟨_, rfl⟩
  have A : RX w2 w.heap.size 38 (encO zO) := by rw [hw2]; exact rsmade_o w _
  have B : RX w2 (w.heap.size + 1) 35 (encF zF) := by rw [hw2]; exact rsmade_f w _
  have C : RX w2 (w.heap.size + 1 + 1) 35 (encF zF) := by rw [hw2]; exact rsmade_l w _
  have K : Kp w w2 := by rw [hw2]; exact rsmade_kp w _
  have sz : w2.heap.size = w.heap.size + 3 := by rw [hw2]; exact rsmade_size w _
  have he2 : w2 = ((w.alloc (.cells #[.int .i64 0, .int .u64 0, .bool false, .bool false, .bool false, .bool false, .bool false, .bool false] 38)).alloc (.cells #[.int .i64 0, .int .i64 0, .int .i64 0, .int .u64 0, .bool false] 35)).alloc (.cells #[.int .i64 0, .int .i64 0, .int .i64 0, .int .u64 0, .bool false] 35) := hw2
  have d1 : decide ((281474976710656 : Int) ≤ (u : Int)) = false := decide_eq_false (by omega)
  have d2 : decide (281474976710656 ≤ u) = false := decide_eq_false (by omega)
  have d3 : decide ((1099511627776 : Int) ≤ (root : Int)) = false := decide_eq_false (by omega)
  have d4 : decide (1099511627776 ≤ root) = false := decide_eq_false (by omega)
  have d5 : (root : Int) % 4096 = 0 := by omega
  have d6 : (root : Int).tmod 4096 = 0 := by rw [Int.tmod_eq_emod_of_nonneg (by omega)]; omega
  have kb := begin_any 1 root u w2
  rw [decide_eq_false (by decide)] at kb
  have HH : Hid (RX w2 w.heap.size 38 (encO zO) ∧ RX w2 (w.heap.size + 1) 35 (encF zF) ∧ RX w2 (w.heap.size + 1 + 1) 35 (encF zF) ∧ Kp w w2 ∧ DM w qm M ∧ u < 18446744073709551616 ∧ two < 18446744073709551616 ∧ w2.heap.size = w.heap.size + 3 ∧ root < 18446744073709551616) := ⟨A, B, C, K, h, by omega, ht, sz, by omega⟩
  have HC : Hid (onC (rdM M) two root u acc o f n) := hc
  clear A B C K hw2 h hu hr1 hr2 hc ht sz
  go_enter Try.func7, Try.ntmps7
  go_wp2_with fail
  rw [← he2]
  clear he2
  with_reducible refine kb.mono ?_
  rintro e w3 ⟨rfl, R3⟩
  have HG : Hid (RWk w2 w2.heap.size 1 root u [] 4 false (.slice none 0 0) w3 ∧ sofar 1 root u (rd1 (rdM M) two) [] 0 root) := ⟨R3, rfl, by decide, HH.out.2.2.2.2.2.2.2.2, by simp⟩
  clear kb R3 d1 d2 d3 d4 d5 d6
  go_upto_block 0 with fail
  go_cut [16] (fun v16 wx => ∃ (nn t : Nat) (L : List SV) (k : Int) (v : Value), v16 = .int .i64 (nn : Int) ∧ Hid (EX w w2.heap.size M two root u st nn t L k v wx))
  case first =>
    go_wp2_with fail
    go_loopg [16, 17] 6 (fun g v16 v17 wr => ∃ (nn lev m t : Nat) (L : List SV) (k : Int) (v : Value), v16 = .int .i64 (nn : Int) ∧ v17 = .int .i64 (lev : Int) ∧ nn ≤ 30 ∧ lev ≤ 4 ∧ m ≤ 5 ∧ 6 - m ≤ g ∧ Hid (LSt w w2 M two root u st nn lev m t L k v wr))
    case atStart => exact ⟨0, 0, 0, root, [], 4, _, rfl, rfl, by decide, by decide, by decide, by decide, .inl ⟨HG.out.1, HG.out.2, rfl, rfl, rfl⟩⟩
    case round =>
      clear HG
      obtain ⟨nn, lev, m, t, L, k, v, rfl, rfl, hn30, hl4, hm5, hg, HI⟩ := hrel
      rcases HI.out with ⟨R, hS, htl, rfl, hnn⟩ | hE
      · have hm3 := hS.2.1
        have hlen := hS.1
        have n15 : nn ≤ 15 := by have := sumN_le (rdM M) two L; omega
        have z1 : (lev : Int) ≤ 3 := by omega
        have z2 : (nn : Int) ≤ 15 := by omega
        have c5 := R.c5
        obtain ⟨P, hP⟩ : ∃ P, P = atN t u lev := ⟨_, rfl⟩
        have kA := at_any R HH.out.2.2.2.2.2.1
        rw [hlen, ← hP] at kA
        have hPl : P < 18446744073709551616 := by rw [hP]; exact at_lt _ _ _
        have HJ : Hid (RWk w2 w2.heap.size 1 t u L 4 false v wr ∧ sofar 1 root u (rd1 (rdM M) two) L lev t ∧ t = lastT root L ∧ nn = sumN (rdM M) two L ∧ L.length = lev ∧ P = atN t u lev ∧ P < 18446744073709551616) := ⟨R, hS, htl, hnn, hlen, hP, hPl⟩
        clear HI R hS htl hnn hlen hP hn30 hl4 hm5 hPl
        obtain ⟨N, hN⟩ : ∃ N, slN (rdM M) two P = N := ⟨_, rfl⟩
        have N4 : N ≤ 4 := by have := slN_le (rdM M) two P; omega
        have z3 : (N : Int) ≤ 4 := by omega
        rcases en_cases (rdM M) two P with ⟨K, hK, e1, e2, e3, e4, e5⟩ | ⟨Z, b1, b2, b3, e1, e2, e3, e4⟩
        · have gK : (K == 0) = false := by rw [beq_eq_false_iff_ne]; exact hK
          have kS : Aside (∀ v, Kp wr v → Calls Try.prog 32 #[.pointer (some ⟨qm, 0, none⟩), .int .u64 (two : Int), .int .u64 (P : Int), .int .i64 1] v fun e w' => e = .returned (.tuple #[.agg #[.int .i64 0, .int .u64 0, .bool false, .bool false, .bool false, .bool false, .bool false, .bool false], .agg #[.int .i64 2, .int .i64 K, .int .i64 (-1), .int .u64 (P : Int), .bool false], .int .i64 (N : Int)]) ∧ Kp v w') := fun v kv => by
            have := rsecond_any (HH.out.2.2.2.2.1.kp ((HH.out.2.2.2.1.trans HJ.out.1.kp).trans kv)) two P 1 HH.out.2.2.2.2.2.2.1
            rw [e1, e2, hN] at this
            exact this
          have HE : Hid (¬ K = 0 ∧ enF (rdM M) two P = ⟨2, K, -1, P, false⟩ ∧ enN (rdM M) two P = N ∧ rd1 (rdM M) two P = (0, false)) := ⟨hK, e3, e4.trans hN, e5⟩
          clear hK e1 e2 e3 e4 e5 hN
          go_wp2_with fail
          with_reducible refine kA.mono ?_
          rintro _ w4 ⟨rfl, K4⟩
          have ks := kS.out w4 K4
          clear kA kS c5
          go_wp2_with fail
          with_reducible refine ks.mono ?_
          rintro _ w5 ⟨rfl, K5⟩
          have K6 : Kp w2 (rbox2 w5 ⟨0, 0, false, false, false, false, false, false⟩ ⟨2, K, -1, P, false⟩) := ((HJ.out.1.kp.trans K4).trans K5).trans (rbox2_kp w5 _ _)
          have R6 := HJ.out.1.keep ((K4.trans K5).trans (rbox2_kp w5 ⟨0, 0, false, false, false, false, false, false⟩ ⟨2, K, -1, P, false⟩))
          obtain ⟨v6, hv6⟩ : ∃ x, x = rbox2 w5 ⟨0, 0, false, false, false, false, false, false⟩ ⟨2, K, -1, P, false⟩ := ⟨_, rfl⟩
          rw [← hv6] at K6 R6
          have he6 : v6 = (w5.alloc (.cells #[.int .i64 0, .int .u64 0, .bool false, .bool false, .bool false, .bool false, .bool false, .bool false] 38)).alloc (.cells #[.int .i64 2, .int .i64 K, .int .i64 (-1), .int .u64 (P : Int), .bool false] 35) := hv6
          have C6 := HH.out.2.2.1.kp K6
          have c0 := C6.cell (j := 0) rfl; have c1 := C6.cell (j := 1) rfl; have c2 := C6.cell (j := 2) rfl; have c3 := C6.cell (j := 3) rfl; have c4 := C6.cell (j := 4) rfl; have fc := C6.fz
          obtain ⟨v7, hv7⟩ : ∃ x, x = ((putR v6 (w.heap.size + 1 + 1) 0 (encF ⟨2, K, -1, P, false⟩)).setCell ⟨w.heap.size + 1 + 1, 2, none⟩ (.int .i64 (lev : Int))).setCell ⟨w.heap.size + 1 + 1, 4, none⟩ (.bool st) := ⟨_, rfl⟩
          have C7 : RX v7 (w.heap.size + 1 + 1) 35 (encF ⟨2, K, (lev : Int), P, st⟩) := by rw [hv7]; exact ((C6.put (U := encF ⟨2, K, -1, P, false⟩) rfl).set 2 _).set 4 _
          have F7 : Fr (· = w.heap.size + 1 + 1) v6 v7 := by rw [hv7]; exact ((putR_fr v6 (w.heap.size + 1 + 1) 0 (encF ⟨2, K, -1, P, false⟩)).set ⟨w.heap.size + 1 + 1, 2, none⟩ _ rfl).set ⟨w.heap.size + 1 + 1, 4, none⟩ _ rfl
          have s3 := HH.out.2.2.2.2.2.2.2.1
          have R7 := (R6.base HH.out.2.2.2.1).frc F7 (by omega) (by omega)
          have A7 := (HH.out.1.kp K6).fr F7 (by omega)
          have B7 := (HH.out.2.1.kp K6).fr F7 (by omega)
          have kg := give_stopF R7 0
          have HX : Hid (RX v7 w.heap.size 38 (encO zO) ∧ RX v7 (w.heap.size + 1) 35 (encF zF) ∧ RX v7 (w.heap.size + 1 + 1) 35 (encF ⟨2, K, (lev : Int), P, st⟩)) := ⟨A7, B7, C7⟩
          have he7 : v7 = ((((((((w5.alloc (.cells #[.int .i64 0, .int .u64 0, .bool false, .bool false, .bool false, .bool false, .bool false, .bool false] 38)).alloc (.cells #[.int .i64 2, .int .i64 K, .int .i64 (-1), .int .u64 (P : Int), .bool false] 35)).setCell ⟨w.heap.size + 1 + 1, 0, none⟩ (.int .i64 2)).setCell ⟨w.heap.size + 1 + 1, 1, none⟩ (.int .i64 K)).setCell ⟨w.heap.size + 1 + 1, 2, none⟩ (.int .i64 (-1))).setCell ⟨w.heap.size + 1 + 1, 3, none⟩ (.int .u64 (P : Int))).setCell ⟨w.heap.size + 1 + 1, 4, none⟩ (.bool false)).setCell ⟨w.heap.size + 1 + 1, 2, none⟩ (.int .i64 (lev : Int))).setCell ⟨w.heap.size + 1 + 1, 4, none⟩ (.bool st) := by rw [hv7, he6]; rfl
          rw [he6] at c0 c1 c2 c3 c4 fc
          clear ks K4 K5 K6 R6 C6 C7 F7 R7 A7 B7 hv6 he6 hv7 s3
          go_wp2_with fail
          rw [← he7]
          clear he7 c0 c1 c2 c3 c4 fc
          with_reducible refine kg.mono ?_
          rintro _ w8 ⟨rfl, R8, F8⟩
          have s3 := HH.out.2.2.2.2.2.2.2.1
          obtain ⟨_, hS, htl, hnn, hlen, hP, _⟩ := HJ.out
          have hG : g1 (rdM M) two root u = (L, -1, lev + 1) := sofar_stop hS (by rw [← hP, HE.out.2.2.2])
          have hst' : stP (rdM M) two root u = P := by rw [st_at hG htl, hlen, hP]
          have hE : EX w w2.heap.size M two root u st (nn + N) t L (-1) v w8 := by
            refine ⟨R8, ⟨_, hG⟩, HX.out.1.fr F8 (by omega), HX.out.2.1.fr F8 (by omega), .inl ⟨rfl, ?_, ?_, ?_⟩⟩
            · rw [hst', HE.out.2.2.1, hnn]
            · rw [hst', HE.out.2.1]; exact HE.out.1
            · rw [hst', HE.out.2.1, hlen]; exact HX.out.2.2.fr F8 (by omega)
          have HF : Hid (LSt w w2 M two root u st (nn + N) lev (lev + 1) t L (-1) v w8) := .inr hE
          clear kg R8 F8 s3 hS htl hnn hlen hP hG hst' hE HX HJ HE
          go_wp2_with fail
          go_roundg (6 - (lev + 1))
          case measure => omega
          case rel => exact ⟨nn + N, lev, lev + 1, t, L, -1, v, by go_num, rfl, by omega, by omega, by omega, by omega, HF⟩
        · have hQ := enA_lt (rdM M) two P
          obtain ⟨Q, hQ2⟩ : ∃ Q, enA (rdM M) two P = Q := ⟨_, rfl⟩
          rw [hQ2] at hQ e3 e4
          obtain ⟨Pm, hPm⟩ : ∃ x, P % 4096 = x := ⟨_, rfl⟩
          obtain ⟨Z4, hZ4⟩ : ∃ x, Z * 4096 = x := ⟨_, rfl⟩
          obtain ⟨Pq, hPq⟩ : ∃ x, P / 4096 = x := ⟨_, rfl⟩
          rw [hPq] at e1
          have y1 : IntKind.u64.wrap (Z : Int) = (Z : Int) := by simp [IntKind.wrap, IntKind.bits, IntKind.signed]; omega
          have y2 : IntKind.u64.wrap ((Z : Int) * 4096) = (Z4 : Int) := by simp [IntKind.wrap, IntKind.bits, IntKind.signed]; omega
          have y3 : (P : Int) % 4096 = (Pm : Int) := by omega
          have y5 : (P : Int).tmod 4096 = (Pm : Int) := by rw [Int.tmod_eq_emod_of_nonneg (by omega)]; omega
          have y4 : IntKind.u64.wrap ((Z4 : Int) + (Pm : Int)) = (Q : Int) := by simp [IntKind.wrap, IntKind.bits, IntKind.signed]; omega
          have kS : Aside (∀ v, Kp wr v → Calls Try.prog 32 #[.pointer (some ⟨qm, 0, none⟩), .int .u64 (two : Int), .int .u64 (P : Int), .int .i64 1] v fun e w' => e = .returned (.tuple #[.agg #[.int .i64 (Z : Int), .int .u64 (Pq : Int), .bool true, .bool true, .bool true, .bool b1, .bool b2, .bool b3], .agg #[.int .i64 0, .int .i64 0, .int .i64 0, .int .u64 0, .bool false], .int .i64 (N : Int)]) ∧ Kp v w') := fun v kv => by
            have := rsecond_any (HH.out.2.2.2.2.1.kp ((HH.out.2.2.2.1.trans HJ.out.1.kp).trans kv)) two P 1 HH.out.2.2.2.2.2.2.1
            rw [e1, e2, hN] at this
            exact this
          have kW : Aside (∀ v, Kp wr v → Calls Try.prog 36 #[.pointer (some ⟨qm, 0, none⟩), .int .u64 (Q : Int)] v fun e w' => e = .returned (.tuple #[.int .u64 ((rdM M Q).1 : Int), .bool (rdM M Q).2]) ∧ w' = v) := fun v kv => dword_any (HH.out.2.2.2.2.1.kp ((HH.out.2.2.2.1.trans HJ.out.1.kp).trans kv)) Q hQ
          have hx := HH.out.2.2.2.2.1.words Q
          obtain ⟨xw, hxw⟩ : ∃ x, (rdM M Q).1 = x := ⟨_, rfl⟩
          rw [hxw] at kW hx e4
          clear e1 e2 e3 hQ hQ2 hPm hZ4 hPq hxw
          rcases e4 with ⟨o1, o2, o3⟩ | ⟨o1, o2, o3, o4⟩
          · rw [o1] at kW
            have HE : Hid (enN (rdM M) two P = N + 1 ∧ rd1 (rdM M) two P = (xw, true) ∧ xw < 18446744073709551616) := ⟨by rw [o2, hN], o3, hx⟩
            clear o1 o2 o3 hx hN
            go_wp2_with fail
            with_reducible refine kA.mono ?_
            rintro _ w4 ⟨rfl, K4⟩
            have ks := kS.out w4 K4
            clear kA kS c5
            go_wp2_with fail
            with_reducible refine ks.mono ?_
            rintro _ w5 ⟨rfl, K5⟩
            have K6 := (K4.trans K5).trans (rbox2_kp w5 ⟨(Z : Int), Pq, true, true, true, b1, b2, b3⟩ ⟨0, 0, 0, 0, false⟩)
            obtain ⟨v6, hv6⟩ : ∃ x, x = rbox2 w5 ⟨(Z : Int), Pq, true, true, true, b1, b2, b3⟩ ⟨0, 0, 0, 0, false⟩ := ⟨_, rfl⟩
            rw [← hv6] at K6
            have he6 : v6 = ((w5.alloc (.cells #[.int .i64 (Z : Int), .int .u64 (Pq : Int), .bool true, .bool true, .bool true, .bool b1, .bool b2, .bool b3] 38)).alloc (.cells #[.int .i64 0, .int .i64 0, .int .i64 0, .int .u64 0, .bool false] 35)) := hv6
            have kw := kW.out v6 K6
            have kg := give_on (HJ.out.1.keep K6) HJ.out.2.1 HJ.out.2.2.1 HH.out.2.2.2.2.2.1 xw HE.out.2.2 (by rw [← HJ.out.2.2.2.2.2.1]; exact HE.out.2.1)
            clear ks K4 K5 K6 hv6 kW
            go_wp2_with fail
            rw [← he6]
            clear he6
            with_reducible refine kw.mono ?_
            rintro _ v6 ⟨rfl, rfl⟩
            clear kw
            go_wp2_with fail
            with_reducible refine kg.mono ?_
            rintro _ w8 ⟨rfl, t', L', k', o', v', R8, ⟨y, hy1, hy2⟩, hout⟩
            have hsum : nn + N + 1 = sumN (rdM M) two L' := by rw [hy1, sumN_snoc, hy2, ← HJ.out.2.2.2.2.2.1, HE.out.1, HJ.out.2.2.2.1]; omega
            have HF : Hid (LSt w w2 M two root u st (nn + N + 1) (lev + 1) (lev + 1) t' L' k' v' w8) := by
              rcases hout with ⟨rfl, rfl, h3, h4⟩ | ⟨rfl, h2, h3⟩
              · exact .inl ⟨R8, h3, h4, rfl, hsum⟩
              · exact .inr ⟨R8.base HH.out.2.2.2.1, ⟨_, h3⟩, HH.out.1.kp R8.kp, HH.out.2.1.kp R8.kp, .inr ⟨h2, hsum⟩⟩
            clear kg R8 hy1 hy2 hout hsum HJ HE
            go_wp2_with fail
            go_roundg (6 - (lev + 1))
            case measure => omega
            case rel => exact ⟨nn + N + 1, lev + 1, lev + 1, t', L', k', v', by go_num, by go_num, by omega, by omega, by omega, by omega, HF⟩
          · rw [o1] at kW
            have HE : Hid (¬ (4 : Int) = 0 ∧ enF (rdM M) two P = ⟨2, 4, 0, P, false⟩ ∧ enN (rdM M) two P = N ∧ rd1 (rdM M) two P = (0, false)) := ⟨by decide, o2, o3.trans hN, o4⟩
            clear o1 o2 o3 o4 hx hN
            go_wp2_with fail
            with_reducible refine kA.mono ?_
            rintro _ w4 ⟨rfl, K4⟩
            have ks := kS.out w4 K4
            clear kA kS c5
            go_wp2_with fail
            with_reducible refine ks.mono ?_
            rintro _ w5 ⟨rfl, K5⟩
            have K9 := (K4.trans K5).trans (rbox2_kp w5 ⟨(Z : Int), Pq, true, true, true, b1, b2, b3⟩ ⟨0, 0, 0, 0, false⟩)
            have K6 := HJ.out.1.kp.trans K9
            have R6 := HJ.out.1.keep K9
            obtain ⟨v6, hv6⟩ : ∃ x, x = rbox2 w5 ⟨(Z : Int), Pq, true, true, true, b1, b2, b3⟩ ⟨0, 0, 0, 0, false⟩ := ⟨_, rfl⟩
            rw [← hv6] at K6 R6 K9
            have he6 : v6 = ((w5.alloc (.cells #[.int .i64 (Z : Int), .int .u64 (Pq : Int), .bool true, .bool true, .bool true, .bool b1, .bool b2, .bool b3] 38)).alloc (.cells #[.int .i64 0, .int .i64 0, .int .i64 0, .int .u64 0, .bool false] 35)) := hv6
            have kw := kW.out v6 K9
            go_wp2_with fail
            rw [← he6]
            with_reducible refine kw.mono ?_
            rintro _ v6 ⟨rfl, rfl⟩
            have C6 := HH.out.2.2.1.kp K6
            have c0 := C6.cell (j := 0) rfl; have c1 := C6.cell (j := 1) rfl; have c2 := C6.cell (j := 2) rfl; have c3 := C6.cell (j := 3) rfl; have c4 := C6.cell (j := 4) rfl; have fc := C6.fz
            obtain ⟨v7, hv7⟩ : ∃ x, x = putR v6 (w.heap.size + 1 + 1) 0 (encF ⟨2, 4, (lev : Int), P, st⟩) := ⟨_, rfl⟩
            have C7 : RX v7 (w.heap.size + 1 + 1) 35 (encF ⟨2, 4, (lev : Int), P, st⟩) := by rw [hv7]; exact C6.put (U := encF ⟨2, 4, (lev : Int), P, st⟩) rfl
            have F7 : Fr (· = w.heap.size + 1 + 1) v6 v7 := by rw [hv7]; exact putR_fr v6 (w.heap.size + 1 + 1) 0 (encF ⟨2, 4, (lev : Int), P, st⟩)
            have s3 := HH.out.2.2.2.2.2.2.2.1
            have R7 := (R6.base HH.out.2.2.2.1).frc F7 (by omega) (by omega)
            have A7 := (HH.out.1.kp K6).fr F7 (by omega)
            have B7 := (HH.out.2.1.kp K6).fr F7 (by omega)
            have kg := give_stopF R7 0
            have HX : Hid (RX v7 w.heap.size 38 (encO zO) ∧ RX v7 (w.heap.size + 1) 35 (encF zF) ∧ RX v7 (w.heap.size + 1 + 1) 35 (encF ⟨2, 4, (lev : Int), P, st⟩)) := ⟨A7, B7, C7⟩
            have he7 : v7 = ((((v6.setCell ⟨w.heap.size + 1 + 1, 0, none⟩ (.int .i64 2)).setCell ⟨w.heap.size + 1 + 1, 1, none⟩ (.int .i64 4)).setCell ⟨w.heap.size + 1 + 1, 2, none⟩ (.int .i64 (lev : Int))).setCell ⟨w.heap.size + 1 + 1, 3, none⟩ (.int .u64 (P : Int))).setCell ⟨w.heap.size + 1 + 1, 4, none⟩ (.bool st) := by rw [hv7]; rfl
            clear ks K4 K5 K6 K9 R6 C6 C7 F7 R7 A7 B7 hv6 he6 hv7 s3 kw kW
            go_wp2_with fail
            rw [← he7]
            clear he7 c0 c1 c2 c3 c4 fc
            with_reducible refine kg.mono ?_
            rintro _ w8 ⟨rfl, R8, F8⟩
            have s3 := HH.out.2.2.2.2.2.2.2.1
            obtain ⟨_, hS, htl, hnn, hlen, hP, _⟩ := HJ.out
            have hG : g1 (rdM M) two root u = (L, -1, lev + 1) := sofar_stop hS (by rw [← hP, HE.out.2.2.2])
            have hst' : stP (rdM M) two root u = P := by rw [st_at hG htl, hlen, hP]
            have hE : EX w w2.heap.size M two root u st (nn + N) t L (-1) v w8 := by
              refine ⟨R8, ⟨_, hG⟩, HX.out.1.fr F8 (by omega), HX.out.2.1.fr F8 (by omega), .inl ⟨rfl, ?_, ?_, ?_⟩⟩
              · rw [hst', HE.out.2.2.1, hnn]
              · rw [hst', HE.out.2.1]; exact HE.out.1
              · rw [hst', HE.out.2.1, hlen]; exact HX.out.2.2.fr F8 (by omega)
            have HF : Hid (LSt w w2 M two root u st (nn + N) lev (lev + 1) t L (-1) v w8) := .inr hE
            clear kg R8 F8 s3 hS htl hnn hlen hP hG hst' hE HX HJ HE
            go_wp2_with fail
            go_roundg (6 - (lev + 1))
            case measure => omega
            case rel => exact ⟨nn + N, lev, lev + 1, t, L, -1, v, by go_num, rfl, by omega, by omega, by omega, by omega, HF⟩
      · have c5 := hE.1.c5
        clear HI
        have HX : Hid (EX w w2.heap.size M two root u st nn t L k v wr) := hE
        clear hE
        go_wp2_with fail
        go_meet
        exact ⟨nn, t, L, k, v, rfl, HX⟩
  case rest =>
    obtain ⟨nn, t, L, k, v, rfl, HX⟩ := hcut
    clear HG
    obtain ⟨R, ⟨mm, hG⟩, A, B, hk⟩ := HX.out
    have hO := out_of hG (fun k1 => by rcases hk with ⟨_, _, h, _⟩ | ⟨h, _⟩; exact h; exact absurd k1 h) HC.out
    have hm4 : L.length ≤ 4 := by
      have h1 : (goW 1 u (rd1 (rdM M) two) 4 0 root).1.length ≤ 4 := goW_len 1 u (rd1 (rdM M) two) 4 0 root
      rw [show goW 1 u (rd1 (rdM M) two) 4 0 root = (L, k, mm) from hG] at h1
      exact h1
    unfold outC at hO
    rw [hst] at hO
    obtain ⟨na, cp, rfl⟩ := R.shape
    have c3 := R.c3
    have c4 := R.c4
    obtain ⟨ln, hln⟩ : ∃ x, L.length = x := ⟨_, rfl⟩
    rw [hln] at c3 hm4
    have K := R.kp
    have S := R.own
    have kq : ∀ j, Kp wc (wc.drewN j) := fun j => (Kp.refl _).drewN j
    rcases hO with ⟨k1, ho, hf, hn⟩ | ⟨k1, x, hx, hx3, ha, hcs⟩
    · obtain ⟨_, h2, _, C⟩ : k = -1 ∧ nn = sumN (rdM M) two L + enN (rdM M) two (stP (rdM M) two root u) ∧ (enF (rdM M) two (stP (rdM M) two root u)).k ≠ 0 ∧ RX wc (w.heap.size + 1 + 1) 35 (encF ⟨(enF (rdM M) two (stP (rdM M) two root u)).s, (enF (rdM M) two (stP (rdM M) two root u)).k, (L.length : Int), (enF (rdM M) two (stP (rdM M) two root u)).a, st⟩) := by
        rcases hk with h | ⟨h, _⟩
        · exact h
        · exact absurd k1 h
      rw [← h2] at hn
      rw [hln] at hf C
      generalize (enF (rdM M) two (stP (rdM M) two root u)).s = fs at *
      generalize (enF (rdM M) two (stP (rdM M) two root u)).k = fk at *
      generalize (enF (rdM M) two (stP (rdM M) two root u)).a = fA at *
      have HQ : Hid (o = zO ∧ f = ⟨fs, fk, (ln : Int), fA, st⟩ ∧ n = nn) := ⟨ho, hf, hn⟩
      subst k1
      clear HX HC HH R hG hk h2 ho hf hn S hm4 hln
      go_wp2_with fail
      go_quiet (fail)
      have A := A.kp (kq nq)
      have B := B.kp (kq nq)
      have C := C.kp (kq nq)
      have K := K.drewN nq
      obtain ⟨v1, hv1⟩ : ∃ z, z = wc.drewN nq := ⟨_, rfl⟩
      rw [← hv1] at A B C K
      rw [← hv1]
      clear hv1 c3 c4 kq
      have c0 := C.cell (j := 0) rfl; have c1 := C.cell (j := 1) rfl; have c2 := C.cell (j := 2) rfl; have c3 := C.cell (j := 3) rfl; have c4 := C.cell (j := 4) rfl
      clear C
      go_wp2_with fail
      have a0 := A.cell (j := 0) rfl; have a1 := A.cell (j := 1) rfl; have a2 := A.cell (j := 2) rfl; have a3 := A.cell (j := 3) rfl; have a4 := A.cell (j := 4) rfl; have a5 := A.cell (j := 5) rfl; have a6 := A.cell (j := 6) rfl; have a7 := A.cell (j := 7) rfl; have fa' := A.fz
      have b0 := B.cell (j := 0) rfl; have b1 := B.cell (j := 1) rfl; have b2 := B.cell (j := 2) rfl; have b3 := B.cell (j := 3) rfl; have b4 := B.cell (j := 4) rfl; have fb' := B.fz
      obtain ⟨R1, R2, R3⟩ := rs_end (o := zO) (f := ⟨fs, fk, (ln : Int), fA, st⟩) A B K
      obtain ⟨v9, h9⟩ : ∃ z, z = put2 v1 w.heap.size (w.heap.size + 1) zO ⟨fs, fk, (ln : Int), fA, st⟩ := ⟨_, rfl⟩
      rw [← h9] at R1 R2 R3
      have HE : Hid (RX v9.drew w.heap.size 38 (encO zO) ∧ RX v9.drew (w.heap.size + 1) 35 (encF ⟨fs, fk, (ln : Int), fA, st⟩) ∧ Kp w v9.drew) := ⟨R1.kp (Kp.refl _).drew, R2.kp (Kp.refl _).drew, R3.drew⟩
      clear A B K R1 R2 R3
      go_region
      rw [← putR_five, ← putR_eight]
      change Exit.then _ _ _ _ (put2 v1 w.heap.size (w.heap.size + 1) zO ⟨fs, fk, (ln : Int), fA, st⟩).drew
      rw [← h9]
      clear h9 a0 a1 a2 a3 a4 a5 a6 a7 b0 b1 b2 b3 b4 c0 c1 c2 c3 c4 fa' fb'
      go_wp2
      exact bodyPost_ret (res_ro rfl rfl rfl HE.out.1 HE.out.2.1) rfl ⟨by rw [HQ.out.1, HQ.out.2.1, HQ.out.2.2]; rfl, HE.out.2.2⟩
    · have h2 : nn = sumN (rdM M) two L := by
        rcases hk with ⟨h, _⟩ | ⟨_, h⟩
        · exact absurd h k1
        · exact h
      rw [← h2] at hcs
      have n20 : nn ≤ 20 := by have := sumN_le (rdM M) two L; omega
      obtain ⟨I, rfl⟩ : ∃ I, L = I ++ [x] := by
        rcases List.eq_nil_or_concat L with rfl | ⟨I, y, rfl⟩
        · cases hx
        · rw [List.concat_eq_append, List.getLast?_append] at hx
          cases hx
          exact ⟨I, List.concat_eq_append⟩
      obtain ⟨i, hi⟩ : ∃ i, I.length = i := ⟨_, rfl⟩
      have en : ln = i + 1 := by rw [← hln, List.length_append, hi]; rfl
      obtain ⟨g, rfl⟩ : ∃ g, na = some ⟨g, 0, none⟩ := by
        obtain ⟨na', _, e, _, h4⟩ := OL.form S
        have e0 : na = na' := by injection e
        subst e0
        rcases h4 with ⟨_, _, h5⟩ | ⟨g, h5, _⟩
        · rw [h5] at hx; cases hx
        · exact ⟨g, h5⟩
      have hI : (I ++ [x])[i]? = some x := by rw [← hi]; simp
      obtain ⟨xl, xp, xu, xk, xa, xr, xq, xx, xf⟩ := x
      have e1 : (ln : Int) - 1 = (i : Int) := by omega
      have e2 : (i : Int) < (ln : Int) := by omega
      have e3 : (ln : Int) ≤ 4 := by omega
      have z9 : (nn : Int) ≤ 20 := by omega
      have b1 : (k == -1) = false := by rw [beq_eq_false_iff_ne]; exact k1
      have ka := fun w => allows_any xr xq xx acc w
      replace ha : xa < 18446744073709551616 := ha
      have HD : Hid (DM w qm M ∧ two < 18446744073709551616 ∧ xa < 18446744073709551616) := ⟨HH.out.2.2.2.2.1, HH.out.2.2.2.2.2.2.1, ha⟩
      clear HX HC HH R hG hk h2 hm4 hln hx hi en hx3 n20 ha
      rcases hcs with ⟨k0, ho, hf, hn⟩ | ⟨rfl, hy, ho, hf, hn⟩ | ⟨rfl, hy, hK, ho, hf, hn⟩ | ⟨rfl, hy, hK, ho, hf, hn⟩
      · have b2 : (k == 0) = false := by rw [beq_eq_false_iff_ne]; exact k0
        have b3 : (k != 0) = true := by rw [bne_iff_ne]; exact k0
        have HQ : Hid (o = zO ∧ f = ⟨1, k, (xl : Int), u, st⟩ ∧ n = nn) := ⟨ho, hf, hn⟩
        clear ho hf hn ka
        go_wp2_with fail
        go_quiet (fail)
        have S := OL.fr S ((kq nq).fr (fun _ => False)) (fun _ _ => id)
        have A := A.kp (kq nq)
        have B := B.kp (kq nq)
        have K := K.drewN nq
        obtain ⟨v1, hv1⟩ : ∃ z, z = wc.drewN nq := ⟨_, rfl⟩
        rw [← hv1] at A B K S
        rw [← hv1]
        clear hv1 c3 c4
        have x0 : v1.cell? ⟨g, i * 9, none⟩ = some (.int .i64 (xl : Int)) := OL.cell encS_ok S (j := 0) hI rfl
        have x1 := OL.cell encS_ok S (j := 1) hI rfl
        have x2 := OL.cell encS_ok S (j := 2) hI rfl
        have x3 := OL.cell encS_ok S (j := 3) hI rfl
        have x4 := OL.cell encS_ok S (j := 4) hI rfl
        have x5 := OL.cell encS_ok S (j := 5) hI rfl
        have x6 := OL.cell encS_ok S (j := 6) hI rfl
        have x7 := OL.cell encS_ok S (j := 7) hI rfl
        have x8 := OL.cell encS_ok S (j := 8) hI rfl
        have sz : w.heap.size + 1 < v1.heap.size := B.lt
        have ne1 : ¬ w.heap.size = v1.heap.size := by omega
        have ne2 : ¬ w.heap.size + 1 = v1.heap.size := by omega
        have ne3 : ¬ v1.heap.size = w.heap.size := by omega
        have ne4 : ¬ v1.heap.size = w.heap.size + 1 := by omega
        have K1 : Kp v1 (v1.alloc (.cells #[.int .i64 (xl : Int), .int .u64 (xp : Int), .int .u64 (xu : Int), .int .i64 xk, .int .u64 (xa : Int), .bool xr, .bool xq, .bool xx, .int .i64 xf] 95)) := (Kp.refl _).alloc _
        have A2 := A.kp K1
        have B2 := B.kp K1
        have K2 := K.trans K1
        have S2 : RX (v1.alloc (.cells #[.int .i64 (xl : Int), .int .u64 (xp : Int), .int .u64 (xu : Int), .int .i64 xk, .int .u64 (xa : Int), .bool xr, .bool xq, .bool xx, .int .i64 xf] 95)) v1.heap.size 95 [.int .i64 (xl : Int), .int .u64 (xp : Int), .int .u64 (xu : Int), .int .i64 xk, .int .u64 (xa : Int), .bool xr, .bool xq, .bool xx, .int .i64 xf] := RX.made _ _ _
        obtain ⟨v2, hv2⟩ : ∃ z, z = v1.alloc (.cells #[.int .i64 (xl : Int), .int .u64 (xp : Int), .int .u64 (xu : Int), .int .i64 xk, .int .u64 (xa : Int), .bool xr, .bool xq, .bool xx, .int .i64 xf] 95) := ⟨_, rfl⟩
        rw [← hv2] at A2 B2 K2 S2
        clear A B K K1 S hI kq
        go_wp2_with fail
        rw [← hv2]
        clear hv2 x0 x1 x2 x3 x4 x5 x6 x7 x8
        have s0 := S2.cell (j := 0) rfl; have s1 := S2.cell (j := 1) rfl; have s2 := S2.cell (j := 2) rfl; have s3 := S2.cell (j := 3) rfl; have s4 := S2.cell (j := 4) rfl; have s5 := S2.cell (j := 5) rfl; have s6 := S2.cell (j := 6) rfl; have s7 := S2.cell (j := 7) rfl; have s8 := S2.cell (j := 8) rfl
        have A := A2
        have B := B2
        have K := K2
        clear A2 B2 K2 S2
        have a0 := A.cell (j := 0) rfl; have a1 := A.cell (j := 1) rfl; have a2 := A.cell (j := 2) rfl; have a3 := A.cell (j := 3) rfl; have a4 := A.cell (j := 4) rfl; have a5 := A.cell (j := 5) rfl; have a6 := A.cell (j := 6) rfl; have a7 := A.cell (j := 7) rfl; have fa' := A.fz
        have b0 := B.cell (j := 0) rfl; have b1 := B.cell (j := 1) rfl; have b2 := B.cell (j := 2) rfl; have b3 := B.cell (j := 3) rfl; have b4 := B.cell (j := 4) rfl; have fb' := B.fz
        obtain ⟨R1, R2, R3⟩ := rs_end (o := zO) (f := ⟨1, k, (xl : Int), u, st⟩) A B K
        obtain ⟨v9, h9⟩ : ∃ z, z = put2 v2 w.heap.size (w.heap.size + 1) zO ⟨1, k, (xl : Int), u, st⟩ := ⟨_, rfl⟩
        rw [← h9] at R1 R2 R3
        have HE : Hid (RX v9.drew w.heap.size 38 (encO zO) ∧ RX v9.drew (w.heap.size + 1) 35 (encF ⟨1, k, (xl : Int), u, st⟩) ∧ Kp w v9.drew) := ⟨R1.kp (Kp.refl _).drew, R2.kp (Kp.refl _).drew, R3.drew⟩
        clear A B K R1 R2 R3
        go_region
        rw [← putR_five, ← putR_eight]
        change Exit.then _ _ _ _ (put2 v2 w.heap.size (w.heap.size + 1) zO ⟨1, k, (xl : Int), u, st⟩).drew
        rw [← h9]
        clear h9 a0 a1 a2 a3 a4 a5 a6 a7 b0 b1 b2 b3 b4 s0 s1 s2 s3 s4 s5 s6 s7 s8 fa' fb'
        go_wp2
        exact bodyPost_ret (res_ro rfl rfl rfl HE.out.1 HE.out.2.1) rfl ⟨by rw [HQ.out.1, HQ.out.2.1, HQ.out.2.2]; rfl, HE.out.2.2⟩
      · rw [hy] at ka
        have HQ : Hid (o = zO ∧ f = ⟨1, 2, (xl : Int), u, st⟩ ∧ n = nn) := ⟨ho, hf, hn⟩
        clear ho hf hn hy
        go_wp2_with fail
        go_quiet (fail)
        have S := OL.fr S ((kq nq).fr (fun _ => False)) (fun _ _ => id)
        have A := A.kp (kq nq)
        have B := B.kp (kq nq)
        have K := K.drewN nq
        obtain ⟨v1, hv1⟩ : ∃ z, z = wc.drewN nq := ⟨_, rfl⟩
        rw [← hv1] at A B K S
        rw [← hv1]
        clear hv1 c3 c4
        have x0 : v1.cell? ⟨g, i * 9, none⟩ = some (.int .i64 (xl : Int)) := OL.cell encS_ok S (j := 0) hI rfl
        have x1 := OL.cell encS_ok S (j := 1) hI rfl
        have x2 := OL.cell encS_ok S (j := 2) hI rfl
        have x3 := OL.cell encS_ok S (j := 3) hI rfl
        have x4 := OL.cell encS_ok S (j := 4) hI rfl
        have x5 := OL.cell encS_ok S (j := 5) hI rfl
        have x6 := OL.cell encS_ok S (j := 6) hI rfl
        have x7 := OL.cell encS_ok S (j := 7) hI rfl
        have x8 := OL.cell encS_ok S (j := 8) hI rfl
        have sz : w.heap.size + 1 < v1.heap.size := B.lt
        have ne1 : ¬ w.heap.size = v1.heap.size := by omega
        have ne2 : ¬ w.heap.size + 1 = v1.heap.size := by omega
        have ne3 : ¬ v1.heap.size = w.heap.size := by omega
        have ne4 : ¬ v1.heap.size = w.heap.size + 1 := by omega
        have K1 : Kp v1 (v1.alloc (.cells #[.int .i64 (xl : Int), .int .u64 (xp : Int), .int .u64 (xu : Int), .int .i64 xk, .int .u64 (xa : Int), .bool xr, .bool xq, .bool xx, .int .i64 xf] 95)) := (Kp.refl _).alloc _
        have A2 := A.kp K1
        have B2 := B.kp K1
        have K2 := K.trans K1
        have S2 : RX (v1.alloc (.cells #[.int .i64 (xl : Int), .int .u64 (xp : Int), .int .u64 (xu : Int), .int .i64 xk, .int .u64 (xa : Int), .bool xr, .bool xq, .bool xx, .int .i64 xf] 95)) v1.heap.size 95 [.int .i64 (xl : Int), .int .u64 (xp : Int), .int .u64 (xu : Int), .int .i64 xk, .int .u64 (xa : Int), .bool xr, .bool xq, .bool xx, .int .i64 xf] := RX.made _ _ _
        obtain ⟨v2, hv2⟩ : ∃ z, z = v1.alloc (.cells #[.int .i64 (xl : Int), .int .u64 (xp : Int), .int .u64 (xu : Int), .int .i64 xk, .int .u64 (xa : Int), .bool xr, .bool xq, .bool xx, .int .i64 xf] 95) := ⟨_, rfl⟩
        rw [← hv2] at A2 B2 K2 S2
        clear A B K K1 S hI kq
        go_wp2_with fail
        rw [← hv2]
        clear hv2 x0 x1 x2 x3 x4 x5 x6 x7 x8
        have s0 := S2.cell (j := 0) rfl; have s1 := S2.cell (j := 1) rfl; have s2 := S2.cell (j := 2) rfl; have s3 := S2.cell (j := 3) rfl; have s4 := S2.cell (j := 4) rfl; have s5 := S2.cell (j := 5) rfl; have s6 := S2.cell (j := 6) rfl; have s7 := S2.cell (j := 7) rfl; have s8 := S2.cell (j := 8) rfl
        with_reducible refine (ka _).mono ?_
        rintro _ w5 ⟨rfl, K5⟩
        have A := A2.kp K5
        have B := B2.kp K5
        have S5 := S2.kp K5
        have K := K2.trans K5
        clear A2 B2 S2 K2 K5 ka s0 s1 s2 s3 s4 s5 s6 s7 s8
        have s0 := S5.cell (j := 0) rfl; have s1 := S5.cell (j := 1) rfl; have s2 := S5.cell (j := 2) rfl; have s3 := S5.cell (j := 3) rfl; have s4 := S5.cell (j := 4) rfl; have s5 := S5.cell (j := 5) rfl; have s6 := S5.cell (j := 6) rfl; have s7 := S5.cell (j := 7) rfl; have s8 := S5.cell (j := 8) rfl
        go_wp2_with fail
        have a0 := A.cell (j := 0) rfl; have a1 := A.cell (j := 1) rfl; have a2 := A.cell (j := 2) rfl; have a3 := A.cell (j := 3) rfl; have a4 := A.cell (j := 4) rfl; have a5 := A.cell (j := 5) rfl; have a6 := A.cell (j := 6) rfl; have a7 := A.cell (j := 7) rfl; have fa' := A.fz
        have b0 := B.cell (j := 0) rfl; have b1 := B.cell (j := 1) rfl; have b2 := B.cell (j := 2) rfl; have b3 := B.cell (j := 3) rfl; have b4 := B.cell (j := 4) rfl; have fb' := B.fz
        obtain ⟨R1, R2, R3⟩ := rs_end (o := zO) (f := ⟨1, 2, (xl : Int), u, st⟩) A B K
        obtain ⟨v9, h9⟩ : ∃ z, z = put2 w5 w.heap.size (w.heap.size + 1) zO ⟨1, 2, (xl : Int), u, st⟩ := ⟨_, rfl⟩
        rw [← h9] at R1 R2 R3
        have HE : Hid (RX v9.drew w.heap.size 38 (encO zO) ∧ RX v9.drew (w.heap.size + 1) 35 (encF ⟨1, 2, (xl : Int), u, st⟩) ∧ Kp w v9.drew) := ⟨R1.kp (Kp.refl _).drew, R2.kp (Kp.refl _).drew, R3.drew⟩
        clear A B K R1 R2 R3
        go_region
        rw [← putR_five, ← putR_eight]
        change Exit.then _ _ _ _ (put2 w5 w.heap.size (w.heap.size + 1) zO ⟨1, 2, (xl : Int), u, st⟩).drew
        rw [← h9]
        clear h9 a0 a1 a2 a3 a4 a5 a6 a7 b0 b1 b2 b3 b4 s0 s1 s2 s3 s4 s5 s6 s7 s8 fa' fb'
        go_wp2
        exact bodyPost_ret (res_ro rfl rfl rfl HE.out.1 HE.out.2.1) rfl ⟨by rw [HQ.out.1, HQ.out.2.1, HQ.out.2.2]; rfl, HE.out.2.2⟩
      · rw [hy] at ka
        have ko := fun w => rout_any u xa xl xp xu xk xr xq xx xf w HD.out.2.2
        obtain ⟨Z, hZ⟩ : ∃ x, outN u xl xk xa = x := ⟨_, rfl⟩
        replace hK : seK (rdM M) two (outN u xl xk xa) acc ≠ 0 := hK
        replace hf : f = seF (rdM M) two (outN u xl xk xa) acc := hf
        replace hn : n = nn + slN (rdM M) two (outN u xl xk xa) := hn
        rw [hZ] at ko hK hf hn
        obtain ⟨K2, hK2, q1, q2⟩ : ∃ K2, ¬ K2 = 0 ∧ seO (rdM M) two Z acc = zO ∧ seF (rdM M) two Z acc = ⟨2, K2, -1, Z, st⟩ := by
          rcases seK_cases (rdM M) two Z acc with ⟨h1, _, h3, h4⟩ | ⟨_, _, _, h3, h4⟩ | ⟨_, _, h3, _⟩
          · exact ⟨_, h1, h3, by rw [h4, hst]⟩
          · exact ⟨2, by decide, h3, by rw [h4, hst]⟩
          · exact absurd h3 hK
        obtain ⟨N2, hN2⟩ : ∃ x, slN (rdM M) two Z = x := ⟨_, rfl⟩
        have n4 : (N2 : Int) ≤ 4 := by have := slN_le (rdM M) two Z; omega
        have kS : Aside (∀ v, Kp w v → Calls Try.prog 32 #[.pointer (some ⟨qm, 0, none⟩), .int .u64 (two : Int), .int .u64 (Z : Int), .int .i64 acc] v fun e w' => e = .returned (.tuple #[.agg #[.int .i64 0, .int .u64 0, .bool false, .bool false, .bool false, .bool false, .bool false, .bool false], .agg #[.int .i64 2, .int .i64 K2, .int .i64 (-1), .int .u64 (Z : Int), .bool st], .int .i64 (N2 : Int)]) ∧ Kp v w') := fun v kv => by
          have := rsecond_any (HD.out.1.kp kv) two Z acc HD.out.2.1
          rw [q1, q2, hN2] at this
          exact this
        have gK : (K2 == 0) = false := by rw [beq_eq_false_iff_ne]; exact hK2
        have HQ : Hid (o = zO ∧ f = ⟨2, K2, -1, Z, st⟩ ∧ n = nn + N2) := ⟨ho, by rw [hf, q2], by rw [hn, hN2]⟩
        clear ho hf hn hy hK hZ q1 q2 hN2 hK2
        go_wp2_with fail
        go_quiet (fail)
        have S := OL.fr S ((kq nq).fr (fun _ => False)) (fun _ _ => id)
        have A := A.kp (kq nq)
        have B := B.kp (kq nq)
        have K := K.drewN nq
        obtain ⟨v1, hv1⟩ : ∃ z, z = wc.drewN nq := ⟨_, rfl⟩
        rw [← hv1] at A B K S
        rw [← hv1]
        clear hv1 c3 c4
        have x0 : v1.cell? ⟨g, i * 9, none⟩ = some (.int .i64 (xl : Int)) := OL.cell encS_ok S (j := 0) hI rfl
        have x1 := OL.cell encS_ok S (j := 1) hI rfl
        have x2 := OL.cell encS_ok S (j := 2) hI rfl
        have x3 := OL.cell encS_ok S (j := 3) hI rfl
        have x4 := OL.cell encS_ok S (j := 4) hI rfl
        have x5 := OL.cell encS_ok S (j := 5) hI rfl
        have x6 := OL.cell encS_ok S (j := 6) hI rfl
        have x7 := OL.cell encS_ok S (j := 7) hI rfl
        have x8 := OL.cell encS_ok S (j := 8) hI rfl
        have sz : w.heap.size + 1 < v1.heap.size := B.lt
        have ne1 : ¬ w.heap.size = v1.heap.size := by omega
        have ne2 : ¬ w.heap.size + 1 = v1.heap.size := by omega
        have ne3 : ¬ v1.heap.size = w.heap.size := by omega
        have ne4 : ¬ v1.heap.size = w.heap.size + 1 := by omega
        have K1 : Kp v1 (v1.alloc (.cells #[.int .i64 (xl : Int), .int .u64 (xp : Int), .int .u64 (xu : Int), .int .i64 xk, .int .u64 (xa : Int), .bool xr, .bool xq, .bool xx, .int .i64 xf] 95)) := (Kp.refl _).alloc _
        have A2 := A.kp K1
        have B2 := B.kp K1
        have K2 := K.trans K1
        have S2 : RX (v1.alloc (.cells #[.int .i64 (xl : Int), .int .u64 (xp : Int), .int .u64 (xu : Int), .int .i64 xk, .int .u64 (xa : Int), .bool xr, .bool xq, .bool xx, .int .i64 xf] 95)) v1.heap.size 95 [.int .i64 (xl : Int), .int .u64 (xp : Int), .int .u64 (xu : Int), .int .i64 xk, .int .u64 (xa : Int), .bool xr, .bool xq, .bool xx, .int .i64 xf] := RX.made _ _ _
        obtain ⟨v2, hv2⟩ : ∃ z, z = v1.alloc (.cells #[.int .i64 (xl : Int), .int .u64 (xp : Int), .int .u64 (xu : Int), .int .i64 xk, .int .u64 (xa : Int), .bool xr, .bool xq, .bool xx, .int .i64 xf] 95) := ⟨_, rfl⟩
        rw [← hv2] at A2 B2 K2 S2
        clear A B K K1 S hI kq
        go_wp2_with fail
        rw [← hv2]
        clear hv2 x0 x1 x2 x3 x4 x5 x6 x7 x8
        have s0 := S2.cell (j := 0) rfl; have s1 := S2.cell (j := 1) rfl; have s2 := S2.cell (j := 2) rfl; have s3 := S2.cell (j := 3) rfl; have s4 := S2.cell (j := 4) rfl; have s5 := S2.cell (j := 5) rfl; have s6 := S2.cell (j := 6) rfl; have s7 := S2.cell (j := 7) rfl; have s8 := S2.cell (j := 8) rfl
        with_reducible refine (ka _).mono ?_
        rintro _ w5 ⟨rfl, K5⟩
        have A := A2.kp K5
        have B := B2.kp K5
        have S5 := S2.kp K5
        have K := K2.trans K5
        clear A2 B2 S2 K2 K5 ka s0 s1 s2 s3 s4 s5 s6 s7 s8
        have s0 := S5.cell (j := 0) rfl; have s1 := S5.cell (j := 1) rfl; have s2 := S5.cell (j := 2) rfl; have s3 := S5.cell (j := 3) rfl; have s4 := S5.cell (j := 4) rfl; have s5 := S5.cell (j := 5) rfl; have s6 := S5.cell (j := 6) rfl; have s7 := S5.cell (j := 7) rfl; have s8 := S5.cell (j := 8) rfl
        go_wp2_with fail
        with_reducible refine (ko _).mono ?_
        rintro _ w6 ⟨rfl, K6⟩
        have ks := kS.out w6 (K.trans K6)
        clear ko kS s0 s1 s2 s3 s4 s5 s6 s7 s8
        go_wp2_with fail
        with_reducible refine ks.mono ?_
        rintro _ w7 ⟨rfl, K7⟩
        have sy : w.heap.size + 1 < w7.heap.size := (B.kp (K6.trans K7)).lt
        have K8 := (K6.trans K7).trans (rbox2_kp w7 ⟨0, 0, false, false, false, false, false, false⟩ ⟨2, K2, -1, Z, st⟩)
        have A8 := A.kp K8
        have B8 := B.kp K8
        have KK := K.trans K8
        have C8 := rbox2_o w7 ⟨0, 0, false, false, false, false, false, false⟩ ⟨2, K2, -1, Z, st⟩
        have D8 := rbox2_f w7 ⟨0, 0, false, false, false, false, false, false⟩ ⟨2, K2, -1, Z, st⟩
        obtain ⟨v8, hv8⟩ : ∃ z, z = rbox2 w7 ⟨0, 0, false, false, false, false, false, false⟩ ⟨2, K2, -1, Z, st⟩ := ⟨_, rfl⟩
        rw [← hv8] at A8 B8 KK C8 D8
        have he8 : v8 = (w7.alloc (.cells #[.int .i64 0, .int .u64 0, .bool false, .bool false, .bool false, .bool false, .bool false, .bool false] 38)).alloc (.cells #[.int .i64 2, .int .i64 K2, .int .i64 (-1), .int .u64 (Z : Int), .bool st] 35) := hv8
        clear hv8 ks K6 K7 K8 A B K S5
        have A := A8
        have B := B8
        have K := KK
        go_wp2_with fail
        rw [← he8]
        have p0 := C8.cell (j := 0) rfl; have p1 := C8.cell (j := 1) rfl; have p2 := C8.cell (j := 2) rfl; have p3 := C8.cell (j := 3) rfl; have p4 := C8.cell (j := 4) rfl; have p5 := C8.cell (j := 5) rfl; have p6 := C8.cell (j := 6) rfl; have p7 := C8.cell (j := 7) rfl
        have d0 := D8.cell (j := 0) rfl; have d1 := D8.cell (j := 1) rfl; have d2 := D8.cell (j := 2) rfl; have d3 := D8.cell (j := 3) rfl; have d4 := D8.cell (j := 4) rfl
        have nf1 : ¬ w.heap.size = w7.heap.size := by omega
        have nf2 : ¬ w.heap.size + 1 = w7.heap.size := by omega
        have nf3 : ¬ w7.heap.size = w.heap.size := by omega
        have nf4 : ¬ w7.heap.size = w.heap.size + 1 := by omega
        have nf5 : ¬ w.heap.size = w7.heap.size + 1 := by omega
        have nf6 : ¬ w7.heap.size + 1 = w.heap.size := by omega
        clear he8 A8 B8 KK C8 D8
        have a0 := A.cell (j := 0) rfl; have a1 := A.cell (j := 1) rfl; have a2 := A.cell (j := 2) rfl; have a3 := A.cell (j := 3) rfl; have a4 := A.cell (j := 4) rfl; have a5 := A.cell (j := 5) rfl; have a6 := A.cell (j := 6) rfl; have a7 := A.cell (j := 7) rfl; have fa' := A.fz
        have b0 := B.cell (j := 0) rfl; have b1 := B.cell (j := 1) rfl; have b2 := B.cell (j := 2) rfl; have b3 := B.cell (j := 3) rfl; have b4 := B.cell (j := 4) rfl; have fb' := B.fz
        obtain ⟨R1, R2, R3⟩ := rs_end (o := zO) (f := ⟨2, K2, -1, Z, st⟩) A B K
        obtain ⟨v9, h9⟩ : ∃ z, z = put2 v8 w.heap.size (w.heap.size + 1) zO ⟨2, K2, -1, Z, st⟩ := ⟨_, rfl⟩
        rw [← h9] at R1 R2 R3
        have HE : Hid (RX v9.drew w.heap.size 38 (encO zO) ∧ RX v9.drew (w.heap.size + 1) 35 (encF ⟨2, K2, -1, Z, st⟩) ∧ Kp w v9.drew) := ⟨R1.kp (Kp.refl _).drew, R2.kp (Kp.refl _).drew, R3.drew⟩
        clear A B K R1 R2 R3
        go_region
        rw [← putR_five, ← putR_eight]
        change Exit.then _ _ _ _ (put2 v8 w.heap.size (w.heap.size + 1) zO ⟨2, K2, -1, Z, st⟩).drew
        rw [← h9]
        clear h9 a0 a1 a2 a3 a4 a5 a6 a7 b0 b1 b2 b3 b4 p0 p1 p2 p3 p4 p5 p6 p7 d0 d1 d2 d3 d4 fa' fb'
        go_wp2
        exact bodyPost_ret (res_ro rfl rfl rfl HE.out.1 HE.out.2.1) rfl ⟨by rw [HQ.out.1, HQ.out.2.1, HQ.out.2.2]; rfl, HE.out.2.2⟩
      · rw [hy] at ka
        have ko := fun w => rout_any u xa xl xp xu xk xr xq xx xf w HD.out.2.2
        obtain ⟨Z, hZ⟩ : ∃ x, outN u xl xk xa = x := ⟨_, rfl⟩
        replace hK : seK (rdM M) two (outN u xl xk xa) acc = 0 := hK
        replace ho : o = ⟨(seO (rdM M) two (outN u xl xk xa) acc).f, (seO (rdM M) two (outN u xl xk xa) acc).i, xr, xq, xx, (seO (rdM M) two (outN u xl xk xa) acc).r, (seO (rdM M) two (outN u xl xk xa) acc).q, (seO (rdM M) two (outN u xl xk xa) acc).x⟩ := ho
        replace hn : n = nn + slN (rdM M) two (outN u xl xk xa) := hn
        rw [hZ] at ko hK ho hn
        have q2 : seF (rdM M) two Z acc = zF := by unfold seF; rw [if_pos hK]
        obtain ⟨OO, q1⟩ : ∃ x, seO (rdM M) two Z acc = x := ⟨_, rfl⟩
        rw [q1] at ho
        obtain ⟨oF, oI, p1, p2, p3, r1, r2, r3⟩ := OO
        obtain ⟨N2, hN2⟩ : ∃ x, slN (rdM M) two Z = x := ⟨_, rfl⟩
        have n4 : (N2 : Int) ≤ 4 := by have := slN_le (rdM M) two Z; omega
        have kS : Aside (∀ v, Kp w v → Calls Try.prog 32 #[.pointer (some ⟨qm, 0, none⟩), .int .u64 (two : Int), .int .u64 (Z : Int), .int .i64 acc] v fun e w' => e = .returned (.tuple #[.agg #[.int .i64 oF, .int .u64 (oI : Int), .bool p1, .bool p2, .bool p3, .bool r1, .bool r2, .bool r3], .agg #[.int .i64 0, .int .i64 0, .int .i64 0, .int .u64 0, .bool false], .int .i64 (N2 : Int)]) ∧ Kp v w') := fun v kv => by
          have := rsecond_any (HD.out.1.kp kv) two Z acc HD.out.2.1
          rw [q1, q2, hN2] at this
          exact this
        have HQ : Hid (o = ⟨oF, oI, xr, xq, xx, r1, r2, r3⟩ ∧ f = zF ∧ n = nn + N2) := ⟨ho, hf, by rw [hn, hN2]⟩
        clear ho hf hn hy hK hZ q1 q2 hN2
        go_wp2_with fail
        go_quiet (fail)
        have S := OL.fr S ((kq nq).fr (fun _ => False)) (fun _ _ => id)
        have A := A.kp (kq nq)
        have B := B.kp (kq nq)
        have K := K.drewN nq
        obtain ⟨v1, hv1⟩ : ∃ z, z = wc.drewN nq := ⟨_, rfl⟩
        rw [← hv1] at A B K S
        rw [← hv1]
        clear hv1 c3 c4
        have x0 : v1.cell? ⟨g, i * 9, none⟩ = some (.int .i64 (xl : Int)) := OL.cell encS_ok S (j := 0) hI rfl
        have x1 := OL.cell encS_ok S (j := 1) hI rfl
        have x2 := OL.cell encS_ok S (j := 2) hI rfl
        have x3 := OL.cell encS_ok S (j := 3) hI rfl
        have x4 := OL.cell encS_ok S (j := 4) hI rfl
        have x5 := OL.cell encS_ok S (j := 5) hI rfl
        have x6 := OL.cell encS_ok S (j := 6) hI rfl
        have x7 := OL.cell encS_ok S (j := 7) hI rfl
        have x8 := OL.cell encS_ok S (j := 8) hI rfl
        have sz : w.heap.size + 1 < v1.heap.size := B.lt
        have ne1 : ¬ w.heap.size = v1.heap.size := by omega
        have ne2 : ¬ w.heap.size + 1 = v1.heap.size := by omega
        have ne3 : ¬ v1.heap.size = w.heap.size := by omega
        have ne4 : ¬ v1.heap.size = w.heap.size + 1 := by omega
        have K1 : Kp v1 (v1.alloc (.cells #[.int .i64 (xl : Int), .int .u64 (xp : Int), .int .u64 (xu : Int), .int .i64 xk, .int .u64 (xa : Int), .bool xr, .bool xq, .bool xx, .int .i64 xf] 95)) := (Kp.refl _).alloc _
        have A2 := A.kp K1
        have B2 := B.kp K1
        have K2 := K.trans K1
        have S2 : RX (v1.alloc (.cells #[.int .i64 (xl : Int), .int .u64 (xp : Int), .int .u64 (xu : Int), .int .i64 xk, .int .u64 (xa : Int), .bool xr, .bool xq, .bool xx, .int .i64 xf] 95)) v1.heap.size 95 [.int .i64 (xl : Int), .int .u64 (xp : Int), .int .u64 (xu : Int), .int .i64 xk, .int .u64 (xa : Int), .bool xr, .bool xq, .bool xx, .int .i64 xf] := RX.made _ _ _
        obtain ⟨v2, hv2⟩ : ∃ z, z = v1.alloc (.cells #[.int .i64 (xl : Int), .int .u64 (xp : Int), .int .u64 (xu : Int), .int .i64 xk, .int .u64 (xa : Int), .bool xr, .bool xq, .bool xx, .int .i64 xf] 95) := ⟨_, rfl⟩
        rw [← hv2] at A2 B2 K2 S2
        clear A B K K1 S hI kq
        go_wp2_with fail
        rw [← hv2]
        clear hv2 x0 x1 x2 x3 x4 x5 x6 x7 x8
        have s0 := S2.cell (j := 0) rfl; have s1 := S2.cell (j := 1) rfl; have s2 := S2.cell (j := 2) rfl; have s3 := S2.cell (j := 3) rfl; have s4 := S2.cell (j := 4) rfl; have s5 := S2.cell (j := 5) rfl; have s6 := S2.cell (j := 6) rfl; have s7 := S2.cell (j := 7) rfl; have s8 := S2.cell (j := 8) rfl
        with_reducible refine (ka _).mono ?_
        rintro _ w5 ⟨rfl, K5⟩
        have A := A2.kp K5
        have B := B2.kp K5
        have S5 := S2.kp K5
        have K := K2.trans K5
        clear A2 B2 S2 K2 K5 ka s0 s1 s2 s3 s4 s5 s6 s7 s8
        have s0 := S5.cell (j := 0) rfl; have s1 := S5.cell (j := 1) rfl; have s2 := S5.cell (j := 2) rfl; have s3 := S5.cell (j := 3) rfl; have s4 := S5.cell (j := 4) rfl; have s5 := S5.cell (j := 5) rfl; have s6 := S5.cell (j := 6) rfl; have s7 := S5.cell (j := 7) rfl; have s8 := S5.cell (j := 8) rfl
        go_wp2_with fail
        with_reducible refine (ko _).mono ?_
        rintro _ w6 ⟨rfl, K6⟩
        have ks := kS.out w6 (K.trans K6)
        clear ko kS s0 s1 s2 s3 s4 s5 s6 s7 s8
        go_wp2_with fail
        with_reducible refine ks.mono ?_
        rintro _ w7 ⟨rfl, K7⟩
        have sy : w.heap.size + 1 < w7.heap.size := (B.kp (K6.trans K7)).lt
        have S8 := (S5.kp (K6.trans K7)).kp (rbox2_kp w7 ⟨oF, oI, p1, p2, p3, r1, r2, r3⟩ ⟨0, 0, 0, 0, false⟩)
        have K8 := (K6.trans K7).trans (rbox2_kp w7 ⟨oF, oI, xr, xq, xx, r1, r2, r3⟩ ⟨0, 0, 0, 0, false⟩)
        have A8 := A.kp K8
        have B8 := B.kp K8
        have KK := K.trans K8
        have C8 := rbox2_o w7 ⟨oF, oI, xr, xq, xx, r1, r2, r3⟩ ⟨0, 0, 0, 0, false⟩
        have D8 := rbox2_f w7 ⟨oF, oI, xr, xq, xx, r1, r2, r3⟩ ⟨0, 0, 0, 0, false⟩
        obtain ⟨v8, hv8⟩ : ∃ z, z = rbox2 w7 ⟨oF, oI, xr, xq, xx, r1, r2, r3⟩ ⟨0, 0, 0, 0, false⟩ := ⟨_, rfl⟩
        rw [← hv8] at A8 B8 KK C8 D8
        have he8 : v8 = (w7.alloc (.cells #[.int .i64 oF, .int .u64 (oI : Int), .bool xr, .bool xq, .bool xx, .bool r1, .bool r2, .bool r3] 38)).alloc (.cells #[.int .i64 0, .int .i64 0, .int .i64 0, .int .u64 0, .bool false] 35) := hv8
        have s5 : ((w7.alloc (.cells #[.int .i64 oF, .int .u64 (oI : Int), .bool p1, .bool p2, .bool p3, .bool r1, .bool r2, .bool r3] 38)).alloc (.cells #[.int .i64 0, .int .i64 0, .int .i64 0, .int .u64 0, .bool false] 35)).cell? ⟨v1.heap.size, 5, none⟩ = some (.bool xr) := S8.cell (j := 5) rfl
        have s6 : ((w7.alloc (.cells #[.int .i64 oF, .int .u64 (oI : Int), .bool p1, .bool p2, .bool p3, .bool r1, .bool r2, .bool r3] 38)).alloc (.cells #[.int .i64 0, .int .i64 0, .int .i64 0, .int .u64 0, .bool false] 35)).cell? ⟨v1.heap.size, 6, none⟩ = some (.bool xq) := S8.cell (j := 6) rfl
        have s7 : ((w7.alloc (.cells #[.int .i64 oF, .int .u64 (oI : Int), .bool p1, .bool p2, .bool p3, .bool r1, .bool r2, .bool r3] 38)).alloc (.cells #[.int .i64 0, .int .i64 0, .int .i64 0, .int .u64 0, .bool false] 35)).cell? ⟨v1.heap.size, 7, none⟩ = some (.bool xx) := S8.cell (j := 7) rfl
        clear hv8 ks K6 K7 K8 A B K S5 S8
        have A := A8
        have B := B8
        have K := KK
        go_wp2_with fail
        rw [← he8]
        have p0 := C8.cell (j := 0) rfl; have p1 := C8.cell (j := 1) rfl; have p2 := C8.cell (j := 2) rfl; have p3 := C8.cell (j := 3) rfl; have p4 := C8.cell (j := 4) rfl; have p5 := C8.cell (j := 5) rfl; have p6 := C8.cell (j := 6) rfl; have p7 := C8.cell (j := 7) rfl
        have d0 := D8.cell (j := 0) rfl; have d1 := D8.cell (j := 1) rfl; have d2 := D8.cell (j := 2) rfl; have d3 := D8.cell (j := 3) rfl; have d4 := D8.cell (j := 4) rfl
        have nf1 : ¬ w.heap.size = w7.heap.size := by omega
        have nf2 : ¬ w.heap.size + 1 = w7.heap.size := by omega
        have nf3 : ¬ w7.heap.size = w.heap.size := by omega
        have nf4 : ¬ w7.heap.size = w.heap.size + 1 := by omega
        have nf5 : ¬ w.heap.size = w7.heap.size + 1 := by omega
        have nf6 : ¬ w7.heap.size + 1 = w.heap.size := by omega
        clear he8 A8 B8 KK C8 D8 s5 s6 s7
        have a0 := A.cell (j := 0) rfl; have a1 := A.cell (j := 1) rfl; have a2 := A.cell (j := 2) rfl; have a3 := A.cell (j := 3) rfl; have a4 := A.cell (j := 4) rfl; have a5 := A.cell (j := 5) rfl; have a6 := A.cell (j := 6) rfl; have a7 := A.cell (j := 7) rfl; have fa' := A.fz
        have b0 := B.cell (j := 0) rfl; have b1 := B.cell (j := 1) rfl; have b2 := B.cell (j := 2) rfl; have b3 := B.cell (j := 3) rfl; have b4 := B.cell (j := 4) rfl; have fb' := B.fz
        obtain ⟨R1, R2, R3⟩ := rs_end (o := ⟨oF, oI, xr, xq, xx, r1, r2, r3⟩) (f := zF) A B K
        obtain ⟨v9, h9⟩ : ∃ z, z = put2 v8 w.heap.size (w.heap.size + 1) ⟨oF, oI, xr, xq, xx, r1, r2, r3⟩ zF := ⟨_, rfl⟩
        rw [← h9] at R1 R2 R3
        have HE : Hid (RX v9.drew w.heap.size 38 (encO ⟨oF, oI, xr, xq, xx, r1, r2, r3⟩) ∧ RX v9.drew (w.heap.size + 1) 35 (encF zF) ∧ Kp w v9.drew) := ⟨R1.kp (Kp.refl _).drew, R2.kp (Kp.refl _).drew, R3.drew⟩
        clear A B K R1 R2 R3
        go_region
        rw [← putR_five, ← putR_eight]
        change Exit.then _ _ _ _ (put2 v8 w.heap.size (w.heap.size + 1) ⟨oF, oI, xr, xq, xx, r1, r2, r3⟩ zF).drew
        rw [← h9]
        clear h9 a0 a1 a2 a3 a4 a5 a6 a7 b0 b1 b2 b3 b4 p0 p1 p2 p3 p4 p5 p6 p7 d0 d1 d2 d3 d4 fa' fb'
        go_wp2
        exact bodyPost_ret (res_ro rfl rfl rfl HE.out.1 HE.out.2.1) rfl ⟨by rw [HQ.out.1, HQ.out.2.1, HQ.out.2.2]; rfl, HE.out.2.2⟩

end Go.Proofs.Ytclcickhgoiooaa
