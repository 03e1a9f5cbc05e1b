/- NestedBounds. -/
import Derived.Test.YtaldekfaebkpkaaNS
import Derived.Test.YtaldekfaebkpkaaNU
namespace Go.Proofs.Ytaldekfaebkpkaa
open Go.RowKit
set_option maxRecDepth 10000

set_option maxHeartbeats 4000000 in
theorem allows_any (r q x : Bool) (c : Int) (w : World) :
    Calls Try.prog 17 #[.agg #[.bool r, .bool q, .bool x], .int .i64 c] w fun e w' => e = .returned (.bool (alP r q x c)) ∧ Kp w w' := by
  unfold alP
  by_cases h1 : c = 1
  · subst h1
    rw [if_pos rfl]
    cases r
    all_goals
      go_enter Try.func17, Try.ntmps17
      go_wp2
      go_ret
      exact ⟨rfl, (Kp.refl _).alloc _⟩
  have d1 : (c == 1) = false := by rw [beq_eq_false_iff_ne]; exact h1
  rw [if_neg h1]
  by_cases h2 : c = 2
  · subst h2
    rw [if_pos rfl]
    cases q
    all_goals
      go_enter Try.func17, Try.ntmps17
      go_wp2
      go_ret
      exact ⟨rfl, (Kp.refl _).alloc _⟩
  have d2 : (c == 2) = false := by rw [beq_eq_false_iff_ne]; exact h2
  rw [if_neg h2]
  by_cases h3 : c = 3
  · subst h3
    rw [if_pos rfl]
    go_enter Try.func17, Try.ntmps17
    go_wp2
    go_ret
    exact ⟨rfl, (Kp.refl _).alloc _⟩
  have d3 : (c == 3) = false := by rw [beq_eq_false_iff_ne]; exact h3
  rw [if_neg h3]
  go_enter Try.func17, Try.ntmps17
  go_wp2
  go_ret
  exact ⟨rfl, (Kp.refl _).alloc _⟩

/-- Walk, on, of any address: an answer that may be. -/
theorem wansw_any {W w : World} {X : Nat → Prop} {p o : Nat} {M : Nat → Nat → Nat} (h : WW W X p o M w) (root u : Nat) (acc : Int) (hr1 : root % 4096 = 0) (hr2 : root < 1099511627776) (ho : o < 1000000000000000000) :
    ∃ ov fv n, okB u acc ov fv n ∧ (fv = zF → u < 281474976710656) ∧ Calls Try.prog 15 #[.pointer (some ⟨p, 0, none⟩), .agg #[.int .u64 4096, .bool true, .int .u64 (root : Int)], .int .u64 (u : Int), .int .i64 acc] w fun e w' => e = .returned (.tuple #[ouV ov, faV fv, .int .i64 (n : Int)]) ∧ WW W X p (o + 24) M w' := by
  by_cases c : 281474976710656 ≤ u
  · refine ⟨zO, ⟨1, 3, -1, u, acc == 2⟩, 0, ⟨by decide, .inr ⟨.inl rfl, (show (3 : Int) ≠ 0 by decide), fun _ => rfl, rfl, rfl, (show (-1 : Int) ≤ -1 by decide), (show (-1 : Int) ≤ 3 by decide)⟩⟩, (fun e => by have := congrArg FV.s e; exact absurd this (show ¬ (1 : Int) = 0 by decide)), ?_⟩
    exact (walk_size (.pointer (some ⟨p, 0, none⟩)) 4096 root true u acc w c).mono fun e w' ⟨e1, e2⟩ => ⟨e1, (h.kp e2).le (by omega)⟩
  · obtain ⟨ov, fv, n, h1, h2⟩ := onC_some (rdM M) 4096 root u acc
    exact ⟨ov, fv, n, h2, fun _ => by omega, (won_any h 4096 root u acc (by decide) (by omega) hr1 hr2 ho ov fv n h1).mono fun e w' ⟨e1, e2, _⟩ => ⟨e1, e2⟩⟩

set_option maxHeartbeats 8000000 in
theorem bounds_walk (na : Option Addr) (n cap : Nat) (V : Nat → EV) (root va rt m4 m3 t : Nat) (access : Int) (w : World) (H : ES w na n V) (hva : va < 18446744073709551616) (y1 : bits .and .u64 (root : Int) 126976 = (rt : Int)) (r1 : rt % 4096 = 0) (r2 : rt ≤ 126976) (y3 : bits .and .i64 access 4 = (m4 : Int)) (y4 : bits .and .i64 access 3 = (m3 : Int)) (z4 : m3 ≤ 3) (y5 : (m3 : Int).tmod 3 = (t : Int)) (y6 : (m3 : Int) % 3 = (t : Int)) (z5 : t ≤ 2) :
    Calls Try.prog 5 #[.slice na n cap, .int .u64 (root : Int), .int .u64 (va : Int), .int .i64 access] w fun e w' => e = .returned (.bool true) ∧ Kp w w' := by
  have kw := world_any na n cap V w H
  have kt := ltold_any
  have z6 : (t : Int) ≤ 2 := by omega
  have z7 : (m3 : Int) ≤ 3 := by omega
  obtain ⟨acc, hacc⟩ : ∃ acc : Int, 1 + (t : Int) = acc := ⟨_, rfl⟩
  have v1' : (va : Int) % 131072 = ((va % 131072 : Nat) : Int) := by omega
  have v2' : (va : Int).tmod 131072 = ((va % 131072 : Nat) : Int) := by rw [Int.tmod_eq_emod_of_nonneg (by omega)]; omega
  generalize va % 131072 = vm at *
  have HH : Hid (rt % 4096 = 0 ∧ rt ≤ 126976) := ⟨r1, r2⟩
  clear H hva z4 z5 r1 r2
  go_enter Try.func5, Try.ntmps5
  go_wp2_with fail
  with_reducible refine kw.mono ?_
  rintro e v1 ⟨p, M, rfl, H1, _⟩
  clear kw
  have HH1 : Hid (WW w (fun _ => False) p 100 M v1) := H1
  clear H1
  by_cases c : m4 = 0
  · subst c
    rw [show ((0 : Nat) : Int) = 0 from rfl] at y3
    obtain ⟨ov, fv, N, hB, hz, k1⟩ := wansw_any HH1.out rt vm acc HH.out.1 (by have := HH.out.2; omega) (by decide)
    clear HH HH1
    obtain ⟨of', oi, oa, ob, oc, or', oq, ox⟩ := ov
    obtain ⟨fs, fk, fl, fa, ft⟩ := fv
    have k1 : Calls Try.prog 15 #[.pointer (some ⟨p, 0, none⟩), .agg #[.int .u64 4096, .bool true, .int .u64 (rt : Int)], .int .u64 (vm : Int), .int .i64 acc] v1 fun e w' => e = .returned (.tuple #[.agg #[.int .i64 of', .int .u64 (oi : Int), .bool oa, .bool ob, .bool oc, .bool or', .bool oq, .bool ox], .agg #[.int .i64 fs, .int .i64 fk, .int .i64 fl, .int .u64 (fa : Int), .bool ft], .int .i64 (N : Int)]) ∧ WW w (fun _ => False) p 124 M w' := k1
    obtain ⟨hN, hB⟩ := hB
    have n1 : (N : Int) ≤ 24 := by omega
    rcases hB with ⟨e1, e2, e3⟩ | ⟨e1, e2, e3, e4, e5, e6, e7⟩
    · obtain ⟨rfl, rfl, rfl, rfl, rfl⟩ : fs = 0 ∧ fk = 0 ∧ fl = 0 ∧ fa = 0 ∧ ft = false := by
        have := e1; unfold zF at this; simpa using this
      have hu := hz rfl
      have d1 : decide ((281474976710656 : Int) ≤ (vm : Int)) = false := decide_eq_false (by omega)
      have d2 : decide (281474976710656 ≤ vm) = false := decide_eq_false (by omega)
      have ka := fun w => allows_any oa ob oc acc w
      have kb := fun w => allows_any or' oq ox acc w
      have e2 : alP oa ob oc acc = true := e2
      have e3 : alP or' oq ox acc = true := e3
      rw [e2] at ka
      rw [e3] at kb
      clear e1 e2 e3 hz hu
      go_wp2_with fail
      with_reducible refine k1.mono ?_
      rintro _ w2 ⟨rfl, H2⟩
      clear k1
      have O2 := box2_o w2 ⟨of', oi, oa, ob, oc, or', oq, ox⟩ ⟨0, 0, 0, 0, false⟩
      have F2 := box2_f w2 ⟨of', oi, oa, ob, oc, or', oq, ox⟩ ⟨0, 0, 0, 0, false⟩
      have K2 := H2.k.trans (box2_kp w2 ⟨of', oi, oa, ob, oc, or', oq, ox⟩ ⟨0, 0, 0, 0, false⟩)
      obtain ⟨v2, hv2⟩ : ∃ v, v = box2 w2 ⟨of', oi, oa, ob, oc, or', oq, ox⟩ ⟨0, 0, 0, 0, false⟩ := ⟨_, rfl⟩
      rw [← hv2] at O2 F2 K2
      have he2 : v2 = (w2.alloc (.cells #[.int .i64 of', .int .u64 (oi : Int), .bool oa, .bool ob, .bool oc, .bool or', .bool oq, .bool ox] 31)).alloc (.cells #[.int .i64 0, .int .i64 0, .int .i64 0, .int .u64 0, .bool false] 33) := hv2
      clear hv2 H2
      go_wp2_with fail
      rw [← he2]
      clear he2
      with_reducible refine (ka _).mono ?_
      rintro _ w3 ⟨rfl, K3⟩
      have O3 := O2.kp K3
      have F3 := F2.kp K3
      have a5 := O3.cell (j := 5) rfl; have a6 := O3.cell (j := 6) rfl; have a7 := O3.cell (j := 7) rfl
      clear ka
      go_wp2_with fail
      with_reducible refine (kb _).mono ?_
      rintro _ w4 ⟨rfl, K4⟩
      have F4 := F3.kp K4
      clear kb a5 a6 a7 O3 O2 F2 F3
      go_wp2_with fail
      with_reducible refine (kt _).mono ?_
      rintro _ w5 ⟨rfl, K5⟩
      have F5 := F4.kp K5
      have b0 := F5.cell (j := 0) rfl; have b1 := F5.cell (j := 1) rfl; have b2 := F5.cell (j := 2) rfl; have b3 := F5.cell (j := 3) rfl; have b4 := F5.cell (j := 4) rfl
      have HK : Hid (Kp w w5) := ((K2.trans K3).trans K4).trans K5
      clear F4 F5 K2 K3 K4 K5 kt
      go_wp2
      go_ret
      exact ⟨rfl, HK.out⟩
    · obtain ⟨rfl, rfl, rfl, rfl, rfl, rfl, rfl, rfl⟩ : of' = 0 ∧ oi = 0 ∧ oa = false ∧ ob = false ∧ oc = false ∧ or' = false ∧ oq = false ∧ ox = false := by
        have := e4; unfold zO at this; simpa using this
      replace e2 : ¬ fk = 0 := e2
      replace e3 : fs = 1 → fa = vm := e3
      replace e5 : ft = (acc == 2) := e5
      replace e6 : -1 ≤ fl := e6
      replace e7 : fl ≤ 3 := e7
      have g1 : (fk == 0) = false := by rw [beq_eq_false_iff_ne]; exact e2
      have g2 : (ft != ft) = false := by cases ft <;> rfl
      have g3 := e5.symm
      have q1 : ∀ v : World, (Op.equalIn 10000 31 (.agg #[.int .i64 0, .int .u64 0, .bool false, .bool false, .bool false, .bool false, .bool false, .bool false]) (.agg #[.int .i64 0, .int .u64 0, .bool false, .bool false, .bool false, .bool false, .bool false, .bool false])).run Try.prog v = .ok true v := fun v => by rw [eq_out]; simp [samP]
      replace e1 : fs = 1 ∨ fs = 2 := e1
      clear e4 e5 hz
      rcases e1 with rfl | rfl
      · have e3 := e3 rfl
        subst e3
        go_wp2_with fail
        with_reducible refine k1.mono ?_
        rintro _ w2 ⟨rfl, H2⟩
        clear k1
        have F2 := box2_f w2 ⟨0, 0, false, false, false, false, false, false⟩ ⟨1, fk, fl, fa, ft⟩
        have K2 := H2.k.trans (box2_kp w2 ⟨0, 0, false, false, false, false, false, false⟩ ⟨1, fk, fl, fa, ft⟩)
        obtain ⟨v2, hv2⟩ : ∃ v, v = box2 w2 ⟨0, 0, false, false, false, false, false, false⟩ ⟨1, fk, fl, fa, ft⟩ := ⟨_, rfl⟩
        rw [← hv2] at F2 K2
        have he2 : v2 = (w2.alloc (.cells #[.int .i64 0, .int .u64 0, .bool false, .bool false, .bool false, .bool false, .bool false, .bool false] 31)).alloc (.cells #[.int .i64 1, .int .i64 fk, .int .i64 fl, .int .u64 (fa : Int), .bool ft] 33) := hv2
        clear hv2 H2
        go_wp2_with fail
        rw [← he2]
        clear he2
        with_reducible refine (kt _).mono ?_
        rintro _ w5 ⟨rfl, K5⟩
        have F5 := F2.kp K5
        have b0 := F5.cell (j := 0) rfl; have b1 := F5.cell (j := 1) rfl; have b2 := F5.cell (j := 2) rfl; have b3 := F5.cell (j := 3) rfl; have b4 := F5.cell (j := 4) rfl
        have HK : Hid (Kp w w5) := K2.trans K5
        clear F2 F5 K2 K5 kt
        go_wp2
        go_ret
        exact ⟨rfl, HK.out⟩
      · clear e3
        go_wp2_with fail
        with_reducible refine k1.mono ?_
        rintro _ w2 ⟨rfl, H2⟩
        clear k1
        have F2 := box2_f w2 ⟨0, 0, false, false, false, false, false, false⟩ ⟨2, fk, fl, fa, ft⟩
        have K2 := H2.k.trans (box2_kp w2 ⟨0, 0, false, false, false, false, false, false⟩ ⟨2, fk, fl, fa, ft⟩)
        obtain ⟨v2, hv2⟩ : ∃ v, v = box2 w2 ⟨0, 0, false, false, false, false, false, false⟩ ⟨2, fk, fl, fa, ft⟩ := ⟨_, rfl⟩
        rw [← hv2] at F2 K2
        have he2 : v2 = (w2.alloc (.cells #[.int .i64 0, .int .u64 0, .bool false, .bool false, .bool false, .bool false, .bool false, .bool false] 31)).alloc (.cells #[.int .i64 2, .int .i64 fk, .int .i64 fl, .int .u64 (fa : Int), .bool ft] 33) := hv2
        clear hv2 H2
        go_wp2_with fail
        rw [← he2]
        clear he2
        with_reducible refine (kt _).mono ?_
        rintro _ w5 ⟨rfl, K5⟩
        have F5 := F2.kp K5
        have b0 := F5.cell (j := 0) rfl; have b1 := F5.cell (j := 1) rfl; have b2 := F5.cell (j := 2) rfl; have b3 := F5.cell (j := 3) rfl; have b4 := F5.cell (j := 4) rfl
        have HK : Hid (Kp w w5) := K2.trans K5
        clear F2 F5 K2 K5 kt
        go_wp2
        go_ret
        exact ⟨rfl, HK.out⟩
  · have c1 : ((m4 : Int) == 0) = false := by rw [beq_eq_false_iff_ne]; omega
    have c2 : ¬ (m4 : Int) = 0 := by omega
    obtain ⟨ov, fv, N, hB, hz, k1⟩ := wansw_any HH1.out rt va acc HH.out.1 (by have := HH.out.2; omega) (by decide)
    clear HH HH1
    obtain ⟨of', oi, oa, ob, oc, or', oq, ox⟩ := ov
    obtain ⟨fs, fk, fl, fa, ft⟩ := fv
    have k1 : Calls Try.prog 15 #[.pointer (some ⟨p, 0, none⟩), .agg #[.int .u64 4096, .bool true, .int .u64 (rt : Int)], .int .u64 (va : Int), .int .i64 acc] v1 fun e w' => e = .returned (.tuple #[.agg #[.int .i64 of', .int .u64 (oi : Int), .bool oa, .bool ob, .bool oc, .bool or', .bool oq, .bool ox], .agg #[.int .i64 fs, .int .i64 fk, .int .i64 fl, .int .u64 (fa : Int), .bool ft], .int .i64 (N : Int)]) ∧ WW w (fun _ => False) p 124 M w' := k1
    obtain ⟨hN, hB⟩ := hB
    have n1 : (N : Int) ≤ 24 := by omega
    rcases hB with ⟨e1, e2, e3⟩ | ⟨e1, e2, e3, e4, e5, e6, e7⟩
    · obtain ⟨rfl, rfl, rfl, rfl, rfl⟩ : fs = 0 ∧ fk = 0 ∧ fl = 0 ∧ fa = 0 ∧ ft = false := by
        have := e1; unfold zF at this; simpa using this
      have hu := hz rfl
      have d1 : decide ((281474976710656 : Int) ≤ (va : Int)) = false := decide_eq_false (by omega)
      have d2 : decide (281474976710656 ≤ va) = false := decide_eq_false (by omega)
      have ka := fun w => allows_any oa ob oc acc w
      have kb := fun w => allows_any or' oq ox acc w
      have e2 : alP oa ob oc acc = true := e2
      have e3 : alP or' oq ox acc = true := e3
      rw [e2] at ka
      rw [e3] at kb
      clear e1 e2 e3 hz hu
      go_wp2_with fail
      with_reducible refine k1.mono ?_
      rintro _ w2 ⟨rfl, H2⟩
      clear k1
      have O2 := box2_o w2 ⟨of', oi, oa, ob, oc, or', oq, ox⟩ ⟨0, 0, 0, 0, false⟩
      have F2 := box2_f w2 ⟨of', oi, oa, ob, oc, or', oq, ox⟩ ⟨0, 0, 0, 0, false⟩
      have K2 := H2.k.trans (box2_kp w2 ⟨of', oi, oa, ob, oc, or', oq, ox⟩ ⟨0, 0, 0, 0, false⟩)
      obtain ⟨v2, hv2⟩ : ∃ v, v = box2 w2 ⟨of', oi, oa, ob, oc, or', oq, ox⟩ ⟨0, 0, 0, 0, false⟩ := ⟨_, rfl⟩
      rw [← hv2] at O2 F2 K2
      have he2 : v2 = (w2.alloc (.cells #[.int .i64 of', .int .u64 (oi : Int), .bool oa, .bool ob, .bool oc, .bool or', .bool oq, .bool ox] 31)).alloc (.cells #[.int .i64 0, .int .i64 0, .int .i64 0, .int .u64 0, .bool false] 33) := hv2
      clear hv2 H2
      go_wp2_with fail
      rw [← he2]
      clear he2
      with_reducible refine (ka _).mono ?_
      rintro _ w3 ⟨rfl, K3⟩
      have O3 := O2.kp K3
      have F3 := F2.kp K3
      have a5 := O3.cell (j := 5) rfl; have a6 := O3.cell (j := 6) rfl; have a7 := O3.cell (j := 7) rfl
      clear ka
      go_wp2_with fail
      with_reducible refine (kb _).mono ?_
      rintro _ w4 ⟨rfl, K4⟩
      have F4 := F3.kp K4
      clear kb a5 a6 a7 O3 O2 F2 F3
      go_wp2_with fail
      with_reducible refine (kt _).mono ?_
      rintro _ w5 ⟨rfl, K5⟩
      have F5 := F4.kp K5
      have b0 := F5.cell (j := 0) rfl; have b1 := F5.cell (j := 1) rfl; have b2 := F5.cell (j := 2) rfl; have b3 := F5.cell (j := 3) rfl; have b4 := F5.cell (j := 4) rfl
      have HK : Hid (Kp w w5) := ((K2.trans K3).trans K4).trans K5
      clear F4 F5 K2 K3 K4 K5 kt
      go_wp2
      go_ret
      exact ⟨rfl, HK.out⟩
    · obtain ⟨rfl, rfl, rfl, rfl, rfl, rfl, rfl, rfl⟩ : of' = 0 ∧ oi = 0 ∧ oa = false ∧ ob = false ∧ oc = false ∧ or' = false ∧ oq = false ∧ ox = false := by
        have := e4; unfold zO at this; simpa using this
      replace e2 : ¬ fk = 0 := e2
      replace e3 : fs = 1 → fa = va := e3
      replace e5 : ft = (acc == 2) := e5
      replace e6 : -1 ≤ fl := e6
      replace e7 : fl ≤ 3 := e7
      have g1 : (fk == 0) = false := by rw [beq_eq_false_iff_ne]; exact e2
      have g2 : (ft != ft) = false := by cases ft <;> rfl
      have g3 := e5.symm
      have q1 : ∀ v : World, (Op.equalIn 10000 31 (.agg #[.int .i64 0, .int .u64 0, .bool false, .bool false, .bool false, .bool false, .bool false, .bool false]) (.agg #[.int .i64 0, .int .u64 0, .bool false, .bool false, .bool false, .bool false, .bool false, .bool false])).run Try.prog v = .ok true v := fun v => by rw [eq_out]; simp [samP]
      replace e1 : fs = 1 ∨ fs = 2 := e1
      clear e4 e5 hz
      rcases e1 with rfl | rfl
      · have e3 := e3 rfl
        subst e3
        go_wp2_with fail
        with_reducible refine k1.mono ?_
        rintro _ w2 ⟨rfl, H2⟩
        clear k1
        have F2 := box2_f w2 ⟨0, 0, false, false, false, false, false, false⟩ ⟨1, fk, fl, fa, ft⟩
        have K2 := H2.k.trans (box2_kp w2 ⟨0, 0, false, false, false, false, false, false⟩ ⟨1, fk, fl, fa, ft⟩)
        obtain ⟨v2, hv2⟩ : ∃ v, v = box2 w2 ⟨0, 0, false, false, false, false, false, false⟩ ⟨1, fk, fl, fa, ft⟩ := ⟨_, rfl⟩
        rw [← hv2] at F2 K2
        have he2 : v2 = (w2.alloc (.cells #[.int .i64 0, .int .u64 0, .bool false, .bool false, .bool false, .bool false, .bool false, .bool false] 31)).alloc (.cells #[.int .i64 1, .int .i64 fk, .int .i64 fl, .int .u64 (fa : Int), .bool ft] 33) := hv2
        clear hv2 H2
        go_wp2_with fail
        rw [← he2]
        clear he2
        with_reducible refine (kt _).mono ?_
        rintro _ w5 ⟨rfl, K5⟩
        have F5 := F2.kp K5
        have b0 := F5.cell (j := 0) rfl; have b1 := F5.cell (j := 1) rfl; have b2 := F5.cell (j := 2) rfl; have b3 := F5.cell (j := 3) rfl; have b4 := F5.cell (j := 4) rfl
        have HK : Hid (Kp w w5) := K2.trans K5
        clear F2 F5 K2 K5 kt
        go_wp2
        go_ret
        exact ⟨rfl, HK.out⟩
      · clear e3
        go_wp2_with fail
        with_reducible refine k1.mono ?_
        rintro _ w2 ⟨rfl, H2⟩
        clear k1
        have F2 := box2_f w2 ⟨0, 0, false, false, false, false, false, false⟩ ⟨2, fk, fl, fa, ft⟩
        have K2 := H2.k.trans (box2_kp w2 ⟨0, 0, false, false, false, false, false, false⟩ ⟨2, fk, fl, fa, ft⟩)
        obtain ⟨v2, hv2⟩ : ∃ v, v = box2 w2 ⟨0, 0, false, false, false, false, false, false⟩ ⟨2, fk, fl, fa, ft⟩ := ⟨_, rfl⟩
        rw [← hv2] at F2 K2
        have he2 : v2 = (w2.alloc (.cells #[.int .i64 0, .int .u64 0, .bool false, .bool false, .bool false, .bool false, .bool false, .bool false] 31)).alloc (.cells #[.int .i64 2, .int .i64 fk, .int .i64 fl, .int .u64 (fa : Int), .bool ft] 33) := hv2
        clear hv2 H2
        go_wp2_with fail
        rw [← he2]
        clear he2
        with_reducible refine (kt _).mono ?_
        rintro _ w5 ⟨rfl, K5⟩
        have F5 := F2.kp K5
        have b0 := F5.cell (j := 0) rfl; have b1 := F5.cell (j := 1) rfl; have b2 := F5.cell (j := 2) rfl; have b3 := F5.cell (j := 3) rfl; have b4 := F5.cell (j := 4) rfl
        have HK : Hid (Kp w w5) := K2.trans K5
        clear F2 F5 K2 K5 kt
        go_wp2
        go_ret
        exact ⟨rfl, HK.out⟩

theorem bounds_law (root va access : Int) (na : Option Addr) (n cap : Nat) (V : Nat → EV) (w : World) (H : ES w na n V) (hr : (Lit.int .u64 root).wf = true) (hv : (Lit.int .u64 va).wf = true) :
    Calls Try.prog 5 #[.slice na n cap, .int .u64 root, .int .u64 va, .int .i64 access] w fun e w' => e = .returned (.bool true) ∧ Kp w w' := by
  obtain ⟨h1, h2⟩ := wf_word hv
  obtain ⟨u, rfl⟩ := Int.eq_ofNat_of_zero_le h1
  obtain ⟨h3, h4⟩ := wf_word hr
  obtain ⟨r, rfl⟩ := Int.eq_ofNat_of_zero_le h3
  have hu : u < 18446744073709551616 := by omega
  have hr' : r < 18446744073709551616 := by omega
  obtain ⟨m4, e4, _⟩ := and_lim access 4 (by decide)
  obtain ⟨m3, e3, l3⟩ := and_lim access 3 (by decide)
  have e1 := u64_and_nat r 126976 hr' (by decide)
  have l1 : r &&& 126976 ≤ 126976 := Nat.and_le_right
  have r1 : (r &&& 126976) % 4096 = 0 := by
    have := Nat.and_mod_two_pow (a := r) (b := 126976) (n := 12)
    rw [show (2 : Nat) ^ 12 = 4096 from rfl, show (126976 : Nat) % 4096 = 0 from rfl, Nat.and_zero] at this
    exact this
  exact bounds_walk na n cap V r u (r &&& 126976) m4 m3 (m3 % 3) access w H hu e1 r1 l1 e4 e3 l3 (by rw [Int.tmod_eq_emod_of_nonneg (by omega)]; omega) (by omega) (by omega)

end Go.Proofs.Ytaldekfaebkpkaa
