/- desc: the document's Decode. -/
import Derived.Test.YtcbciehffgaapaaEB
namespace Go.Proofs.Ytcbciehffgaapaa
open Go.RowKit

theorem dec_none (s l : Int) (u : Nat) (hp : isPl s l = false) : decG s l u = false ∧ decE s l u = 1 := by
  unfold decG decE outG outE
  rw [hp]
  exact ⟨rfl, rfl⟩
theorem dec_not (s l : Int) (u : Nat) (hp : isPl s l = true) (h0 : btN u 0 = false) : decG s l u = false ∧ decE s l u = 0 := by
  unfold decG decE outG outE
  rw [hp, h0]
  exact ⟨rfl, rfl⟩
theorem dec_good (s l : Int) (u : Nat) (h : decG s l u = true) : decE s l u = 0 ∧ isPl s l = true ∧ btN u 0 = true := by
  unfold decG outG at h
  unfold decE
  simp only [Bool.and_eq_true, Bool.not_eq_true'] at h
  obtain ⟨⟨⟨⟨⟨h1, h2⟩, h3⟩, h4⟩, h5⟩, h6⟩ := h
  rw [h1, h2, h3, h4, h5, h6]
  exact ⟨rfl, rfl, rfl⟩
theorem dec_bad (s l : Int) (u : Nat) (hp : isPl s l = true) (h0 : btN u 0 = true) (h : decG s l u = false) :
    decE s l u = if (rsv u = false ∧ fmW l u = true) ∧ topS s ≤ adN u then 2 else 4 := by
  unfold decG outG at h
  unfold decE outE
  rw [hp, h0] at *
  cases h1 : rsv u
  · cases h2 : fmW l u
    · simp
    · rw [h1, h2] at h
      by_cases c : topS s ≤ adN u
      · simp [c]
      · rw [decide_eq_false c] at h ⊢
        simp at h
        simp [c, h]
  · simp

set_option maxHeartbeats 8000000 in
set_option maxRecDepth 10000 in
theorem rdecode_any (s l : Int) (u : Nat) (w : World) (hu : u < 18446744073709551616) :
    Calls Try.prog 30 #[.int .i64 s, .int .i64 l, .int .u64 (u : Int)] w fun e w' => e = .returned (.tuple #[.agg #[.int .i64 (cond (decG s l u) (kdN l u) 0), .int .u64 ((cond (decG s l u) (adN u) 0 : Nat) : Int), .bool (cond (decG s l u) (btN u 6) false), .bool (cond (decG s l u) (btN u 7) false), .bool (cond (decG s l u) (btN u 8) false), .int .i64 ((cond (decG s l u) (fieldN u 55 4) 0 : Nat) : Int)], .int .i64 (decE s l u)]) ∧ Kp w w' := by
  by_cases hp : ¬ (1 ≤ s ∧ s ≤ 2 ∧ 0 ≤ l ∧ l ≤ 3)
  · rw [(dec_none s l u (isPl_not hp)).1, (dec_none s l u (isPl_not hp)).2]
    simp only [cond_false]
    clear hu
    by_cases c0 : s < 1
    · clear hp
      go_enter Try.func30, Try.ntmps30
      go_wp2
      refine bodyPost_ret (res_d2 rfl rfl (BX.made w 0 0 false false false 0)) rfl ⟨rfl, (Kp.refl w).alloc _⟩
    by_cases c1 : 2 < s
    · clear hp
      go_enter Try.func30, Try.ntmps30
      go_wp2
      refine bodyPost_ret (res_d2 rfl rfl (BX.made w 0 0 false false false 0)) rfl ⟨rfl, (Kp.refl w).alloc _⟩
    by_cases c2 : l < 0
    · clear hp
      go_enter Try.func30, Try.ntmps30
      go_wp2
      refine bodyPost_ret (res_d2 rfl rfl (BX.made w 0 0 false false false 0)) rfl ⟨rfl, (Kp.refl w).alloc _⟩
    have c3 : 3 < l := by omega
    clear hp
    go_enter Try.func30, Try.ntmps30
    go_wp2
    refine bodyPost_ret (res_d2 rfl rfl (BX.made w 0 0 false false false 0)) rfl ⟨rfl, (Kp.refl w).alloc _⟩
  have hp := Decidable.not_not.1 hp
  have hq : isPl s l = true := isPl_iff.2 hp
  have b1 : decide (s < 1) = false := decide_eq_false (by omega)
  have b2 : decide (2 < s) = false := decide_eq_false (by omega)
  have b3 : decide (l < 0) = false := decide_eq_false (by omega)
  have b4 : decide (3 < l) = false := decide_eq_false (by omega)
  have p0 := ask_0 u hu
  have z0 := one_zero (btN u 0)
  by_cases h0 : btN u 0 = false
  · rw [(dec_not s l u hq h0).1, (dec_not s l u hq h0).2]
    simp only [cond_false]
    rw [h0] at z0 p0
    rw [Bool.not_false] at z0
    generalize ((oneN false : Nat) : Int) = zz at *
    clear hu hp hq h0
    go_enter Try.func30, Try.ntmps30
    go_wp2
    refine bodyPost_ret (res_d2 rfl rfl (BX.made w 0 0 false false false 0)) rfl ⟨rfl, (Kp.refl w).alloc _⟩
  have h0 : btN u 0 = true := by simpa using h0
  rw [h0] at z0 p0
  rw [Bool.not_true] at z0
  generalize ((oneN true : Nat) : Int) = zz at *
  have s1 : Aside (∀ w, Calls Try.prog 47 #[.int .i64 l, .int .u64 (u : Int)] w fun e w' => e = .returned (.agg #[.int .i64 (kdN l u), .int .u64 (adN u : Nat), .bool (btN u 6), .bool (btN u 7), .bool (btN u 8), .int .i64 (fieldN u 55 4 : Nat)]) ∧ Kp w w') := fun w => rsplit_any l u w hu
  have s2 : Aside (∀ w, Calls Try.prog 23 #[.int .i64 s, .int .i64 l, .agg #[.int .i64 (kdN l u), .int .u64 (adN u : Nat), .bool (btN u 6), .bool (btN u 7), .bool (btN u 8), .int .i64 (fieldN u 55 4 : Nat)]] w fun e w' => e = .returned (.tuple #[.int .u64 (encW s l u : Nat), .int .i64 (chkW s l u)]) ∧ Kp w w') := fun w => rencode_any s l _ _ _ _ _ _ w
  have s3 : Aside (∀ w, Calls Try.prog 47 #[.int .i64 l, .int .u64 (lowW u : Nat)] w fun e w' => e = .returned (.agg #[.int .i64 (kdN l (lowW u)), .int .u64 (adN (lowW u) : Nat), .bool (btN (lowW u) 6), .bool (btN (lowW u) 7), .bool (btN (lowW u) 8), .int .i64 (fieldN (lowW u) 55 4 : Nat)]) ∧ Kp w w') := fun w => rsplit_any l (lowW u) w (low_lt u hu)
  have s4 : Aside (∀ w, Calls Try.prog 23 #[.int .i64 s, .int .i64 l, .agg #[.int .i64 (kdN l (lowW u)), .int .u64 (adN (lowW u) : Nat), .bool (btN (lowW u) 6), .bool (btN (lowW u) 7), .bool (btN (lowW u) 8), .int .i64 (fieldN (lowW u) 55 4 : Nat)]] w fun e w' => e = .returned (.tuple #[.int .u64 (encW s l (lowW u) : Nat), .int .i64 (chkW s l (lowW u))]) ∧ Kp w w') := fun w => rencode_any s l _ _ _ _ _ _ w
  have c4 := rtop_any s
  have p1 : bits .andNot .u64 (u : Int) 281474976706560 = ((lowW u : Nat) : Int) := by rw [← and_low_word u hu]; exact u64_andNot_nat u 281474976706560 hu (by decide)
  have d1 := dec_iff s l u hu hq h0
  have d2 := low_iff s l u hu hq h0
  have d3 := dec_bad s l u hq h0
  have d4 := dec_good s l u
  obtain ⟨E, hE⟩ : ∃ E, decE s l u = E := ⟨_, rfl⟩
  rw [hE] at d3 d4 ⊢
  simp only [← d2] at d3
  clear hu hp hq h0 d2 hE
  generalize decG s l u = G at *
  generalize topS s = tp at *
  generalize lowW u = lo at *
  generalize encW s l u = x1 at *
  generalize chkW s l u = e1 at *
  generalize encW s l lo = x2 at *
  generalize chkW s l lo = e2 at *
  generalize kdN l u = k at *
  generalize adN u = a at *
  generalize btN u 6 = r at *
  generalize btN u 7 = q at *
  generalize btN u 8 = x at *
  generalize fieldN u 55 4 = f at *
  generalize kdN l lo = k' at *
  generalize adN lo = a' at *
  generalize btN lo 6 = r' at *
  generalize btN lo 7 = q' at *
  generalize btN lo 8 = x' at *
  generalize fieldN lo 55 4 = f' at *
  have D1 : Hid (e1 = 0 ∧ x1 = u ↔ G = true) := d1
  have D3 : Hid (G = false → E = if (e2 = 0 ∧ x2 = lo) ∧ tp ≤ a then 2 else 4) := d3
  have D4 : Hid (G = true → E = 0) := fun h => (d4 h).1
  clear d1 d3 d4
  go_enter Try.func30, Try.ntmps30
  go_wp2_with fail
  with_reducible refine (s1.out _).mono ?_
  rintro e w1 ⟨rfl, K⟩
  have HK1 : Hid (Kp w w1) := ((Kp.refl _).alloc _).trans K
  have HB1 : Hid (BX w1 w.heap.size 0 0 false false false 0) := (BX.made w 0 0 false false false 0).kp K
  clear K s1
  go_wp2_with fail
  with_reducible refine (s2.out _).mono ?_
  rintro e w2 ⟨rfl, K⟩
  have HK : Hid (Kp w w2) := (HK1.out.alloc _).trans K
  have HB : Hid (BX w2 w.heap.size 0 0 false false false 0) := (HB1.out.kp ((Kp.refl _).alloc _)).kp K
  obtain ⟨b8, hb8⟩ : ∃ b8, w1.heap.size = b8 := ⟨_, rfl⟩
  have HD : Hid (BX w2 b8 k a r q x f) := by rw [← hb8]; exact (BX.made w1 k a r q x f).kp K
  rw [hb8]
  clear K HK1 HB1 s2 hb8
  by_cases g : e1 = 0 ∧ x1 = u
  · have hG : G = true := D1.out.1 g
    have hE : E = 0 := D4.out hG
    obtain ⟨rfl, rfl⟩ := g
    subst hG
    subst hE
    have x0 := HB.out.c0
    have x1 := HB.out.c1
    have x2 := HB.out.c2
    have x3 := HB.out.c3
    have x4 := HB.out.c4
    have x5 := HB.out.c5
    have y0 := HB.out.fz 0
    have y1 := HB.out.fz 1
    have y2 := HB.out.fz 2
    have y3 := HB.out.fz 3
    have y4 := HB.out.fz 4
    have y5 := HB.out.fz 5
    have v0 := HD.out.c0
    have v1 := HD.out.c1
    have v2 := HD.out.c2
    have v3 := HD.out.c3
    have v4 := HD.out.c4
    have v5 := HD.out.c5
    clear D1 D3 D4 s3 s4
    go_wp2_with fail
    refine bodyPost_ret (res_d2 rfl rfl (BX.put HB.out k a r q x f)) rfl ⟨rfl, HK.out.putD (Nat.le_refl _)⟩
  have hG : G = false := by
    cases G
    · rfl
    · exact absurd (D1.out.2 rfl) g
  have D5 : Hid (E = if (e2 = 0 ∧ x2 = lo) ∧ tp ≤ a then 2 else 4) := D3.out hG
  subst hG
  clear D1 D3 D4
  have hg : ((e1 == 0) = false) ∨ ((e1 == 0) = true ∧ (((x1 : Nat) : Int) == u) = false) := by
    by_cases c : e1 = 0
    · refine .inr ⟨by rw [c]; rfl, ?_⟩
      rw [beq_eq_false_iff_ne]
      intro h
      exact g ⟨c, by omega⟩
    · exact .inl (by rw [beq_eq_false_iff_ne]; exact c)
  clear g
  rcases hg with g1 | ⟨g1, g2⟩
  all_goals
    go_wp2_with fail
    with_reducible refine (s3.out _).mono ?_
    rintro e w3 ⟨rfl, K⟩
    have HK' : Hid (Kp w w3) := HK.out.trans K
    have HB' : Hid (BX w3 w.heap.size 0 0 false false false 0) := HB.out.kp K
    have HD' : Hid (BX w3 b8 k a r q x f) := HD.out.kp K
    clear K HK HB HD s3
    go_wp2_with fail
    with_reducible refine (s4.out _).mono ?_
    rintro e w4 ⟨rfl, K⟩
    have HK : Hid (Kp w w4) := HK'.out.trans K
    have HB : Hid (BX w4 w.heap.size 0 0 false false false 0) := HB'.out.kp K
    have HD : Hid (BX w4 b8 k a r q x f) := HD'.out.kp K
    clear K HK' HB' HD' s4
    have v1 := HD.out.c1
    by_cases j1 : e2 = 0
    rotate_left
    · have j3 : (e2 == 0) = false := by rw [beq_eq_false_iff_ne]; exact j1
      have hE : E = 4 := by rw [D5.out, if_neg (fun c => j1 c.1.1)]
      subst hE
      clear D5 j1
      go_wp2_with fail
      go_quiet (first | (go_at_call 32; refine Calls.quiet_of_same (c4 _)))
      have HK' : Hid (Kp w (w4.drewN nq)) := HK.out.drewN nq
      have HB' : Hid (BX (w4.drewN nq) w.heap.size 0 0 false false false 0) := HB.out
      clear HK HB HD v1
      have HK := HK'
      have HB := HB'
      clear HK' HB'
      generalize w4.drewN nq = wq at *
      have x0 := HB.out.c0
      have x1 := HB.out.c1
      have x2 := HB.out.c2
      have x3 := HB.out.c3
      have x4 := HB.out.c4
      have x5 := HB.out.c5
      have y0 := HB.out.fz 0
      have y1 := HB.out.fz 1
      have y2 := HB.out.fz 2
      have y3 := HB.out.fz 3
      have y4 := HB.out.fz 4
      have y5 := HB.out.fz 5
      go_wp2_with fail
      refine bodyPost_ret (res_d2 rfl rfl (BX.put HB.out 0 0 false false false 0)) rfl ⟨rfl, HK.out.putD (Nat.le_refl _)⟩
    by_cases j2 : x2 = lo
    rotate_left
    · have j3 : (((x2 : Nat) : Int) == lo) = false := by rw [beq_eq_false_iff_ne]; omega
      have hE : E = 4 := by rw [D5.out, if_neg (fun c => j2 c.1.2)]
      subst j1
      subst hE
      clear D5 j2
      go_wp2_with fail
      go_quiet (first | (go_at_call 32; refine Calls.quiet_of_same (c4 _)))
      have HK' : Hid (Kp w (w4.drewN nq)) := HK.out.drewN nq
      have HB' : Hid (BX (w4.drewN nq) w.heap.size 0 0 false false false 0) := HB.out
      clear HK HB HD v1
      have HK := HK'
      have HB := HB'
      clear HK' HB'
      generalize w4.drewN nq = wq at *
      have x0 := HB.out.c0
      have x1 := HB.out.c1
      have x2 := HB.out.c2
      have x3 := HB.out.c3
      have x4 := HB.out.c4
      have x5 := HB.out.c5
      have y0 := HB.out.fz 0
      have y1 := HB.out.fz 1
      have y2 := HB.out.fz 2
      have y3 := HB.out.fz 3
      have y4 := HB.out.fz 4
      have y5 := HB.out.fz 5
      go_wp2_with fail
      refine bodyPost_ret (res_d2 rfl rfl (BX.put HB.out 0 0 false false false 0)) rfl ⟨rfl, HK.out.putD (Nat.le_refl _)⟩
    by_cases t : tp ≤ a
    · have t1 : ((tp : Nat) : Int) ≤ a := by omega
      have hE : E = 2 := by rw [D5.out, if_pos ⟨⟨j1, j2⟩, t⟩]
      subst j1
      subst j2
      subst hE
      clear D5 t
      go_wp2_with fail
      go_quiet (first | (go_at_call 32; refine Calls.quiet_of_same (c4 _)))
      have HK' : Hid (Kp w (w4.drewN nq)) := HK.out.drewN nq
      have HB' : Hid (BX (w4.drewN nq) w.heap.size 0 0 false false false 0) := HB.out
      clear HK HB HD v1
      have HK := HK'
      have HB := HB'
      clear HK' HB'
      generalize w4.drewN nq = wq at *
      have x0 := HB.out.c0
      have x1 := HB.out.c1
      have x2 := HB.out.c2
      have x3 := HB.out.c3
      have x4 := HB.out.c4
      have x5 := HB.out.c5
      have y0 := HB.out.fz 0
      have y1 := HB.out.fz 1
      have y2 := HB.out.fz 2
      have y3 := HB.out.fz 3
      have y4 := HB.out.fz 4
      have y5 := HB.out.fz 5
      go_wp2_with fail
      refine bodyPost_ret (res_d2 rfl rfl (BX.put HB.out 0 0 false false false 0)) rfl ⟨rfl, HK.out.putD (Nat.le_refl _)⟩
    · have t1 : ¬ ((tp : Nat) : Int) ≤ a := by omega
      have hE : E = 4 := by rw [D5.out, if_neg (fun c => t c.2)]
      subst j1
      subst j2
      subst hE
      clear D5 t
      go_wp2_with fail
      go_quiet (first | (go_at_call 32; refine Calls.quiet_of_same (c4 _)))
      have HK' : Hid (Kp w (w4.drewN nq)) := HK.out.drewN nq
      have HB' : Hid (BX (w4.drewN nq) w.heap.size 0 0 false false false 0) := HB.out
      clear HK HB HD v1
      have HK := HK'
      have HB := HB'
      clear HK' HB'
      generalize w4.drewN nq = wq at *
      have x0 := HB.out.c0
      have x1 := HB.out.c1
      have x2 := HB.out.c2
      have x3 := HB.out.c3
      have x4 := HB.out.c4
      have x5 := HB.out.c5
      have y0 := HB.out.fz 0
      have y1 := HB.out.fz 1
      have y2 := HB.out.fz 2
      have y3 := HB.out.fz 3
      have y4 := HB.out.fz 4
      have y5 := HB.out.fz 5
      go_wp2_with fail
      refine bodyPost_ret (res_d2 rfl rfl (BX.put HB.out 0 0 false false false 0)) rfl ⟨rfl, HK.out.putD (Nat.le_refl _)⟩

end Go.Proofs.Ytcbciehffgaapaa
