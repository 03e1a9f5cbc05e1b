/- NestedOff. -/
import Derived.Test.YtaldekfaebkpkaaNS
namespace Go.Proofs.Ytaldekfaebkpkaa
open Go.RowKit
set_option maxRecDepth 10000

set_option maxHeartbeats 8000000 in
theorem off_walk (na : Option Addr) (n cap : Nat) (V : Nat → EV) (va a1 a2 m8 m3 t : Nat) (access : Int) (w : World) (H : ES w na n V) (hva : va < 18446744073709551616) (y1 : bits .and .u64 (va : Int) 281474976710655 = (a1 : Int)) (z1 : a1 < 281474976710656) (y2 : bits .and .u64 (va : Int) 131071 = (a2 : Int)) (z2 : a2 < 281474976710656) (y3 : bits .and .i64 access 8 = (m8 : Int)) (y4 : bits .and .i64 access 3 = (m3 : Int)) (z4 : m3 ≤ 3) (y5 : (m3 : Int).tmod 3 = (t : Int)) (y6 : (m3 : Int) % 3 = (t : Int)) (z5 : t ≤ 2) :
    Calls Try.prog 7 #[.slice na n cap, .int .u64 (va : Int), .int .i64 access] w fun e w' => e = .returned (.bool true) ∧ Kp w w' := by
  have kw := world_any na n cap V w H
  have kt := ltold_any
  have z6 : (t : Int) ≤ 2 := by omega
  have z7 : (m3 : Int) ≤ 3 := by omega
  obtain ⟨acc, hacc⟩ : ∃ acc : Int, 1 + (t : Int) = acc := ⟨_, rfl⟩
  have HH : Hid (a1 < 281474976710656 ∧ a2 < 281474976710656 ∧ va < 18446744073709551616) := ⟨z1, z2, hva⟩
  clear H hva z1 z2 z4 z5
  go_enter Try.func7, Try.ntmps7
  go_wp2_with fail
  with_reducible refine kw.mono ?_
  rintro e v1 ⟨p, M, rfl, H1, _⟩
  clear kw
  have HH1 : Hid (WW w (fun _ => False) p 100 M v1) := H1
  clear H1
  by_cases c : m8 = 0
  · subst c
    rw [show ((0 : Nat) : Int) = 0 from rfl] at y3
    obtain ⟨OO, hO⟩ : ∃ OO, seO (rdM M) 4096 a2 acc = OO := ⟨_, rfl⟩
    obtain ⟨FF, hF⟩ : ∃ FF, seF (rdM M) 4096 a2 acc = FF := ⟨_, rfl⟩
    obtain ⟨N, hN⟩ : ∃ N, slN (rdM M) 4096 a2 = N := ⟨_, rfl⟩
    have hN4 : (N : Int) ≤ 4 := by have := slN_le (rdM M) 4096 a2; omega
    obtain ⟨of', oi, oa, ob, oc, or', oq, ox⟩ := OO
    obtain ⟨fs, fk, fl, fa, ft⟩ := FF
    have k1 : Calls Try.prog 15 #[.pointer (some ⟨p, 0, none⟩), .agg #[.int .u64 4096, .bool false, .int .u64 (va : Int)], .int .u64 (a2 : Int), .int .i64 acc] v1 fun e w' => e = .returned (.tuple #[.agg #[.int .i64 of', .int .u64 (oi : Int), .bool oa, .bool ob, .bool oc, .bool or', .bool oq, .bool ox], .agg #[.int .i64 fs, .int .i64 fk, .int .i64 fl, .int .u64 (fa : Int), .bool ft], .int .i64 (N : Int)]) ∧ Hid (WW w (fun _ => False) p 104 M w') := by
      have := woff_any HH1.out 4096 va a2 acc (by decide) HH.out.2.1 (by decide)
      rw [hO, hF, hN] at this
      exact this.mono fun e w' ⟨e1, e2, _⟩ => ⟨e1, e2⟩
    have k2 : Aside (∀ v X, WW w X p 104 M v → Calls Try.prog 10 #[.pointer (some ⟨p, 0, none⟩), .int .u64 4096, .int .u64 (a2 : Int), .int .i64 acc] v fun e w' => e = .returned (.tuple #[.agg #[.int .i64 of', .int .u64 (oi : Int), .bool oa, .bool ob, .bool oc, .bool or', .bool oq, .bool ox], .agg #[.int .i64 fs, .int .i64 fk, .int .i64 fl, .int .u64 (fa : Int), .bool ft], .int .i64 (N : Int)]) ∧ Hid (WW w X p 108 M w' ∧ Fr (OuX w X) v w')) := fun v X h => by
      have := wsecond_any h 4096 a2 acc (by decide) (by have := HH.out.2.1; omega) (by decide)
      rw [hO, hF, hN] at this
      exact this
    clear hO hF hN HH HH1
    go_wp2_with fail
    with_reducible refine k1.mono ?_
    rintro _ w2 ⟨rfl, H2⟩
    have H3 := H2.out.boxes ⟨of', oi, oa, ob, oc, or', oq, ox⟩ ⟨fs, fk, fl, fa, ft⟩
    have O2 := box2_o w2 ⟨of', oi, oa, ob, oc, or', oq, ox⟩ ⟨fs, fk, fl, fa, ft⟩
    have F2 := box2_f w2 ⟨of', oi, oa, ob, oc, or', oq, ox⟩ ⟨fs, fk, fl, fa, ft⟩
    obtain ⟨v2, hv2⟩ : ∃ v, v = box2 w2 ⟨of', oi, oa, ob, oc, or', oq, ox⟩ ⟨fs, fk, fl, fa, ft⟩ := ⟨_, rfl⟩
    rw [← hv2] at H3 O2 F2
    have he2 : v2 = (w2.alloc (.cells #[.int .i64 of', .int .u64 (oi : Int), .bool oa, .bool ob, .bool oc, .bool or', .bool oq, .bool ox] 31)).alloc (.cells #[.int .i64 fs, .int .i64 fk, .int .i64 fl, .int .u64 (fa : Int), .bool ft] 33) := hv2
    have k3 := k2.out v2 _ H3
    clear k1 k2 H2 hv2 H3
    go_wp2_with fail
    rw [← he2]
    clear he2
    with_reducible refine k3.mono ?_
    rintro _ w4 ⟨rfl, H4⟩
    clear k3
    have O2 := (O2.fr H4.out.2 (fun c => c.2 (.inr ⟨Nat.le_refl _, by omega⟩))).kp (box2_kp w4 ⟨of', oi, oa, ob, oc, or', oq, ox⟩ ⟨fs, fk, fl, fa, ft⟩)
    have F2 := (F2.fr H4.out.2 (fun c => c.2 (.inr ⟨by omega, by omega⟩))).kp (box2_kp w4 ⟨of', oi, oa, ob, oc, or', oq, ox⟩ ⟨fs, fk, fl, fa, ft⟩)
    have O4 := box2_o w4 ⟨of', oi, oa, ob, oc, or', oq, ox⟩ ⟨fs, fk, fl, fa, ft⟩
    have F4 := box2_f w4 ⟨of', oi, oa, ob, oc, or', oq, ox⟩ ⟨fs, fk, fl, fa, ft⟩
    have K4 := H4.out.1.k.trans (box2_kp w4 ⟨of', oi, oa, ob, oc, or', oq, ox⟩ ⟨fs, fk, fl, fa, ft⟩)
    obtain ⟨v4, hv4⟩ : ∃ v, v = box2 w4 ⟨of', oi, oa, ob, oc, or', oq, ox⟩ ⟨fs, fk, fl, fa, ft⟩ := ⟨_, rfl⟩
    rw [← hv4] at O2 F2 O4 F4 K4
    have he4 : v4 = (w4.alloc (.cells #[.int .i64 of', .int .u64 (oi : Int), .bool oa, .bool ob, .bool oc, .bool or', .bool oq, .bool ox] 31)).alloc (.cells #[.int .i64 fs, .int .i64 fk, .int .i64 fl, .int .u64 (fa : Int), .bool ft] 33) := hv4
    clear hv4 H4
    go_wp2_with fail
    rw [← he4]
    clear he4
    with_reducible refine (kt _).mono ?_
    rintro _ w5 ⟨rfl, K5⟩
    have O2 := O2.kp K5
    have F2 := F2.kp K5
    have O4 := O4.kp K5
    have F4 := F4.kp K5
    have a0 := O2.cell (j := 0) rfl; have a1 := O2.cell (j := 1) rfl; have a2 := O2.cell (j := 2) rfl; have a3 := O2.cell (j := 3) rfl; have a4 := O2.cell (j := 4) rfl; have a5 := O2.cell (j := 5) rfl; have a6 := O2.cell (j := 6) rfl; have a7 := O2.cell (j := 7) rfl
    have b0 := F2.cell (j := 0) rfl; have b1 := F2.cell (j := 1) rfl; have b2 := F2.cell (j := 2) rfl; have b3 := F2.cell (j := 3) rfl; have b4 := F2.cell (j := 4) rfl
    have c0 := O4.cell (j := 0) rfl; have c1 := O4.cell (j := 1) rfl; have c2 := O4.cell (j := 2) rfl; have c3 := O4.cell (j := 3) rfl; have c4 := O4.cell (j := 4) rfl; have c5 := O4.cell (j := 5) rfl; have c6 := O4.cell (j := 6) rfl; have c7 := O4.cell (j := 7) rfl
    have d0 := F4.cell (j := 0) rfl; have d1 := F4.cell (j := 1) rfl; have d2 := F4.cell (j := 2) rfl; have d3 := F4.cell (j := 3) rfl; have d4 := F4.cell (j := 4) rfl
    have HK : Hid (Kp w w5) := K4.trans K5
    have q1 : ∀ v : World, (Op.equalIn 10000 31 (.agg #[.int .i64 of', .int .u64 (oi : Int), .bool oa, .bool ob, .bool oc, .bool or', .bool oq, .bool ox]) (.agg #[.int .i64 of', .int .u64 (oi : Int), .bool oa, .bool ob, .bool oc, .bool or', .bool oq, .bool ox])).run Try.prog v = .ok true v := fun v => by rw [eq_out]; simp [samP]
    have q2 : ∀ v : World, (Op.equalIn 10000 33 (.agg #[.int .i64 fs, .int .i64 fk, .int .i64 fl, .int .u64 (fa : Int), .bool ft]) (.agg #[.int .i64 fs, .int .i64 fk, .int .i64 fl, .int .u64 (fa : Int), .bool ft])).run Try.prog v = .ok true v := fun v => by rw [eq_fault]; simp
    clear O2 F2 O4 F4 K4 K5 kt
    go_wp2
    go_ret
    exact ⟨rfl, HK.out⟩
  · have c1 : ((m8 : Int) == 0) = false := by rw [beq_eq_false_iff_ne]; omega
    have c2 : ¬ (m8 : Int) = 0 := by omega
    obtain ⟨OO, hO⟩ : ∃ OO, seO (rdM M) 4096 a1 acc = OO := ⟨_, rfl⟩
    obtain ⟨FF, hF⟩ : ∃ FF, seF (rdM M) 4096 a1 acc = FF := ⟨_, rfl⟩
    obtain ⟨N, hN⟩ : ∃ N, slN (rdM M) 4096 a1 = N := ⟨_, rfl⟩
    have hN4 : (N : Int) ≤ 4 := by have := slN_le (rdM M) 4096 a1; omega
    obtain ⟨of', oi, oa, ob, oc, or', oq, ox⟩ := OO
    obtain ⟨fs, fk, fl, fa, ft⟩ := FF
    have k1 : Calls Try.prog 15 #[.pointer (some ⟨p, 0, none⟩), .agg #[.int .u64 4096, .bool false, .int .u64 (va : Int)], .int .u64 (a1 : Int), .int .i64 acc] v1 fun e w' => e = .returned (.tuple #[.agg #[.int .i64 of', .int .u64 (oi : Int), .bool oa, .bool ob, .bool oc, .bool or', .bool oq, .bool ox], .agg #[.int .i64 fs, .int .i64 fk, .int .i64 fl, .int .u64 (fa : Int), .bool ft], .int .i64 (N : Int)]) ∧ Hid (WW w (fun _ => False) p 104 M w') := by
      have := woff_any HH1.out 4096 va a1 acc (by decide) HH.out.1 (by decide)
      rw [hO, hF, hN] at this
      exact this.mono fun e w' ⟨e1, e2, _⟩ => ⟨e1, e2⟩
    have k2 : Aside (∀ v X, WW w X p 104 M v → Calls Try.prog 10 #[.pointer (some ⟨p, 0, none⟩), .int .u64 4096, .int .u64 (a1 : Int), .int .i64 acc] v fun e w' => e = .returned (.tuple #[.agg #[.int .i64 of', .int .u64 (oi : Int), .bool oa, .bool ob, .bool oc, .bool or', .bool oq, .bool ox], .agg #[.int .i64 fs, .int .i64 fk, .int .i64 fl, .int .u64 (fa : Int), .bool ft], .int .i64 (N : Int)]) ∧ Hid (WW w X p 108 M w' ∧ Fr (OuX w X) v w')) := fun v X h => by
      have := wsecond_any h 4096 a1 acc (by decide) (by have := HH.out.1; omega) (by decide)
      rw [hO, hF, hN] at this
      exact this
    clear hO hF hN HH HH1
    go_wp2_with fail
    with_reducible refine k1.mono ?_
    rintro _ w2 ⟨rfl, H2⟩
    have H3 := H2.out.boxes ⟨of', oi, oa, ob, oc, or', oq, ox⟩ ⟨fs, fk, fl, fa, ft⟩
    have O2 := box2_o w2 ⟨of', oi, oa, ob, oc, or', oq, ox⟩ ⟨fs, fk, fl, fa, ft⟩
    have F2 := box2_f w2 ⟨of', oi, oa, ob, oc, or', oq, ox⟩ ⟨fs, fk, fl, fa, ft⟩
    obtain ⟨v2, hv2⟩ : ∃ v, v = box2 w2 ⟨of', oi, oa, ob, oc, or', oq, ox⟩ ⟨fs, fk, fl, fa, ft⟩ := ⟨_, rfl⟩
    rw [← hv2] at H3 O2 F2
    have he2 : v2 = (w2.alloc (.cells #[.int .i64 of', .int .u64 (oi : Int), .bool oa, .bool ob, .bool oc, .bool or', .bool oq, .bool ox] 31)).alloc (.cells #[.int .i64 fs, .int .i64 fk, .int .i64 fl, .int .u64 (fa : Int), .bool ft] 33) := hv2
    have k3 := k2.out v2 _ H3
    clear k1 k2 H2 hv2 H3
    go_wp2_with fail
    rw [← he2]
    clear he2
    with_reducible refine k3.mono ?_
    rintro _ w4 ⟨rfl, H4⟩
    clear k3
    have O2 := (O2.fr H4.out.2 (fun c => c.2 (.inr ⟨Nat.le_refl _, by omega⟩))).kp (box2_kp w4 ⟨of', oi, oa, ob, oc, or', oq, ox⟩ ⟨fs, fk, fl, fa, ft⟩)
    have F2 := (F2.fr H4.out.2 (fun c => c.2 (.inr ⟨by omega, by omega⟩))).kp (box2_kp w4 ⟨of', oi, oa, ob, oc, or', oq, ox⟩ ⟨fs, fk, fl, fa, ft⟩)
    have O4 := box2_o w4 ⟨of', oi, oa, ob, oc, or', oq, ox⟩ ⟨fs, fk, fl, fa, ft⟩
    have F4 := box2_f w4 ⟨of', oi, oa, ob, oc, or', oq, ox⟩ ⟨fs, fk, fl, fa, ft⟩
    have K4 := H4.out.1.k.trans (box2_kp w4 ⟨of', oi, oa, ob, oc, or', oq, ox⟩ ⟨fs, fk, fl, fa, ft⟩)
    obtain ⟨v4, hv4⟩ : ∃ v, v = box2 w4 ⟨of', oi, oa, ob, oc, or', oq, ox⟩ ⟨fs, fk, fl, fa, ft⟩ := ⟨_, rfl⟩
    rw [← hv4] at O2 F2 O4 F4 K4
    have he4 : v4 = (w4.alloc (.cells #[.int .i64 of', .int .u64 (oi : Int), .bool oa, .bool ob, .bool oc, .bool or', .bool oq, .bool ox] 31)).alloc (.cells #[.int .i64 fs, .int .i64 fk, .int .i64 fl, .int .u64 (fa : Int), .bool ft] 33) := hv4
    clear hv4 H4
    go_wp2_with fail
    rw [← he4]
    clear he4
    with_reducible refine (kt _).mono ?_
    rintro _ w5 ⟨rfl, K5⟩
    have O2 := O2.kp K5
    have F2 := F2.kp K5
    have O4 := O4.kp K5
    have F4 := F4.kp K5
    have a0 := O2.cell (j := 0) rfl; have a1 := O2.cell (j := 1) rfl; have a2 := O2.cell (j := 2) rfl; have a3 := O2.cell (j := 3) rfl; have a4 := O2.cell (j := 4) rfl; have a5 := O2.cell (j := 5) rfl; have a6 := O2.cell (j := 6) rfl; have a7 := O2.cell (j := 7) rfl
    have b0 := F2.cell (j := 0) rfl; have b1 := F2.cell (j := 1) rfl; have b2 := F2.cell (j := 2) rfl; have b3 := F2.cell (j := 3) rfl; have b4 := F2.cell (j := 4) rfl
    have c0 := O4.cell (j := 0) rfl; have c1 := O4.cell (j := 1) rfl; have c2 := O4.cell (j := 2) rfl; have c3 := O4.cell (j := 3) rfl; have c4 := O4.cell (j := 4) rfl; have c5 := O4.cell (j := 5) rfl; have c6 := O4.cell (j := 6) rfl; have c7 := O4.cell (j := 7) rfl
    have d0 := F4.cell (j := 0) rfl; have d1 := F4.cell (j := 1) rfl; have d2 := F4.cell (j := 2) rfl; have d3 := F4.cell (j := 3) rfl; have d4 := F4.cell (j := 4) rfl
    have HK : Hid (Kp w w5) := K4.trans K5
    have q1 : ∀ v : World, (Op.equalIn 10000 31 (.agg #[.int .i64 of', .int .u64 (oi : Int), .bool oa, .bool ob, .bool oc, .bool or', .bool oq, .bool ox]) (.agg #[.int .i64 of', .int .u64 (oi : Int), .bool oa, .bool ob, .bool oc, .bool or', .bool oq, .bool ox])).run Try.prog v = .ok true v := fun v => by rw [eq_out]; simp [samP]
    have q2 : ∀ v : World, (Op.equalIn 10000 33 (.agg #[.int .i64 fs, .int .i64 fk, .int .i64 fl, .int .u64 (fa : Int), .bool ft]) (.agg #[.int .i64 fs, .int .i64 fk, .int .i64 fl, .int .u64 (fa : Int), .bool ft])).run Try.prog v = .ok true v := fun v => by rw [eq_fault]; simp
    clear O2 F2 O4 F4 K4 K5 kt
    go_wp2
    go_ret
    exact ⟨rfl, HK.out⟩

theorem off_law (va access : Int) (na : Option Addr) (n cap : Nat) (V : Nat → EV) (w : World) (H : ES w na n V) (hv : (Lit.int .u64 va).wf = true) :
    Calls Try.prog 7 #[.slice na n cap, .int .u64 va, .int .i64 access] w fun e w' => e = .returned (.bool true) ∧ Kp w w' := by
  obtain ⟨h1, h2⟩ := wf_word hv
  obtain ⟨u, rfl⟩ := Int.eq_ofNat_of_zero_le h1
  have hu : u < 18446744073709551616 := by omega
  obtain ⟨m8, e8, _⟩ := and_lim access 8 (by decide)
  obtain ⟨m3, e3, l3⟩ := and_lim access 3 (by decide)
  have e1 := u64_and_nat u 281474976710655 hu (by decide)
  have e2 := u64_and_nat u 131071 hu (by decide)
  have l1 : u &&& 281474976710655 ≤ 281474976710655 := Nat.and_le_right
  have l2 : u &&& 131071 ≤ 131071 := Nat.and_le_right
  exact off_walk na n cap V u (u &&& 281474976710655) (u &&& 131071) m8 m3 (m3 % 3) access w H hu e1 (by omega) e2 (by omega) e8 e3 l3 (by rw [Int.tmod_eq_emod_of_nonneg (by omega)]; omega) (by omega) (by omega)

end Go.Proofs.Ytaldekfaebkpkaa
