/- desc: Decode. -/
import Derived.Test.YtcbciehffgaapaaE5
namespace Go.Proofs.Ytcbciehffgaapaa
open Go.RowKit

/-- What Decode tells, by its tests. -/
def outE (pl b0 g fo t m : Bool) : Int := if pl = false then 1 else if b0 = false then 0 else if g = true then 4 else if fo = false then 4 else if t = true then 2 else if m = true then 4 else 0
def outG (pl b0 g fo t m : Bool) : Bool := pl && b0 && !g && fo && !t && !m
/-- Has a word one of the bits that may not be? -/
def rsv (u : Nat) : Bool := bsN u 2 4 || bsN u 9 3 || bsN u 48 7 || bsN u 59 5
def fmW (l : Int) (u : Nat) : Bool := fm l (kdN l u) (adN u : Nat) (btN u 6) (btN u 7) (btN u 8) (fieldN u 55 4 : Nat)
def decE (s l : Int) (u : Nat) : Int := outE (isPl s l) (btN u 0) (rsv u) (fmW l u) (decide (topS s ≤ adN u)) (decide (adN u % unitN l (kdN l u) ≠ 0))
def decG (s l : Int) (u : Nat) : Bool := outG (isPl s l) (btN u 0) (rsv u) (fmW l u) (decide (topS s ≤ adN u)) (decide (adN u % unitN l (kdN l u) ≠ 0))

/-- What holds at the jumps to the end. -/
def decJ (w : World) (b : Nat) (X : Int) (Y : Bool) : Act → World → Prop := fun a' w' => ∃ (E : Int) (u0 u1 u2 u3 u4 u5 u7 u8 u10 u11 u12 u13 u14 u15 u16 u17 u18 u19 u20 u21 u22 u23 u24 u25 u26 u27 u28 u29 u30 u31 u32 u33 u34 u35 u36 u37 u38 u39 u40 u41 u42 u43 u44 u45 u46 u47 u48 u49 : Value), a' = { tmps := #[u0, u1, u2, u3, u4, u5, .pointer (some ⟨b, 0, none⟩), u7, u8, .int .i64 E, u10, u11, u12, u13, u14, u15, u16, u17, u18, u19, u20, u21, u22, u23, u24, u25, u26, u27, u28, u29, u30, u31, u32, u33, u34, u35, u36, u37, u38, u39, u40, u41, u42, u43, u44, u45, u46, u47, u48, u49], defers := [] } ∧ X = E ∧ Y = false ∧ Kp w w' ∧ BX w' b 0 0 false false false 0

set_option maxHeartbeats 8000000 in
set_option maxRecDepth 10000 in
theorem decode_any (s l : Int) (u : Nat) (w : World) (hu : u < 18446744073709551616) :
    Calls Try.prog 27 #[.int .i64 s, .int .i64 l, .int .u64 (u : Int)] w fun e w' => e = .returned (.tuple #[.agg #[.int .i64 (cond (decG s l u) (kdN l u) 0), .int .u64 ((cond (decG s l u) (adN u) 0 : Nat) : Int), .bool (cond (decG s l u) (btN u 6) false), .bool (cond (decG s l u) (btN u 7) false), .bool (cond (decG s l u) (btN u 8) false), .int .i64 ((cond (decG s l u) (fieldN u 55 4) 0 : Nat) : Int)], .int .i64 (decE s l u)]) ∧ Kp w w' := by
  have c1 := isPlace_any s l
  have s0 : Aside (∀ w, Calls Try.prog 42 #[.int .u64 (u : Int), .int .i64 0] w fun e w' => e = .returned (.bool (btN u 0)) ∧ Dr w w') := fun w => hasBit_any u 0 w hu (by decide)
  have sp : Aside (∀ w, Calls Try.prog 43 #[.int .i64 l, .int .u64 (u : Int)] w fun e w' => e = .returned (.agg #[.int .i64 (kdN l u), .int .u64 (adN u : Nat), .bool (btN u 6), .bool (btN u 7), .bool (btN u 8), .int .i64 (fieldN u 55 4 : Nat)]) ∧ Kp w w') := fun w => dparts_any l u w hu
  have s1 : Aside (∀ w, Calls Try.prog 44 #[.int .u64 (u : Int), .int .i64 2, .int .i64 6] w fun e w' => e = .returned (.bool (bsN u 2 4)) ∧ Dr w w') := fun w => hasBits_any u 2 4 6 w hu (by decide) (by decide) (by decide)
  have s2 : Aside (∀ w, Calls Try.prog 44 #[.int .u64 (u : Int), .int .i64 9, .int .i64 12] w fun e w' => e = .returned (.bool (bsN u 9 3)) ∧ Dr w w') := fun w => hasBits_any u 9 3 12 w hu (by decide) (by decide) (by decide)
  have s3 : Aside (∀ w, Calls Try.prog 44 #[.int .u64 (u : Int), .int .i64 48, .int .i64 55] w fun e w' => e = .returned (.bool (bsN u 48 7)) ∧ Dr w w') := fun w => hasBits_any u 48 7 55 w hu (by decide) (by decide) (by decide)
  have s4 : Aside (∀ w, Calls Try.prog 44 #[.int .u64 (u : Int), .int .i64 59, .int .i64 64] w fun e w' => e = .returned (.bool (bsN u 59 5)) ∧ Dr w w') := fun w => hasBits_any u 59 5 64 w hu (by decide) (by decide) (by decide)
  have sf : Aside (∀ w, Calls Try.prog 45 #[.int .i64 l, .agg #[.int .i64 (kdN l u), .int .u64 (adN u : Nat), .bool (btN u 6), .bool (btN u 7), .bool (btN u 8), .int .i64 (fieldN u 55 4 : Nat)]] w fun e w' => e = .returned (.bool (fmW l u)) ∧ Kp w w') := fun w => formed_any l (kdN l u) (adN u : Nat) (btN u 6) (btN u 7) (btN u 8) (fieldN u 55 4 : Nat) w
  have c4 := top_any s
  have c5 := unit_any l (kdN l u)
  have up := @unit_pos s l (kdN l u)
  unfold decE decG rsv
  clear hu
  obtain ⟨t, ht⟩ : ∃ t, decide (topS s ≤ adN u) = t := ⟨_, rfl⟩
  obtain ⟨m, hm⟩ : ∃ m, decide (adN u % unitN l (kdN l u) ≠ 0) = m := ⟨_, rfl⟩
  rw [ht, hm]
  generalize unitN l (kdN l u) = un at *
  generalize topS s = tp at *
  generalize fmW l u = fo at *
  generalize isPl s l = pl at *
  generalize btN u 0 = b0 at *
  generalize bsN u 2 4 = g1 at *
  generalize bsN u 9 3 = g2 at *
  generalize bsN u 48 7 = g3 at *
  generalize bsN u 59 5 = g4 at *
  generalize kdN l u = k at *
  generalize adN u = a at *
  generalize btN u 6 = r at *
  generalize btN u 7 = q at *
  generalize btN u 8 = x at *
  generalize fieldN u 55 4 = f at *
  have HT : Hid (decide (tp ≤ a) = t) := ht
  have HM : Hid (decide (a % un ≠ 0) = m) := hm
  clear ht hm
  cases pl
  · go_enter Try.func27, Try.ntmps27
    go_wp2_with fail
    refine wp_scope_jumps 0 (fun _ _ => False) (fun _ _ => 0) rfl ?_ (fun _ _ h => h.elim)
    go_wp2_with (go_at_call 41; with_reducible refine (c1 _).mono ?_; rintro e w' ⟨rfl, rfl⟩)
    simp only [Exit.jump]
    refine bodyPost_ret (res_d2 rfl rfl (BX.made w 0 0 false false false 0)) rfl ⟨rfl, (Kp.refl w).alloc _⟩
  have UP : Hid (0 < un) := up rfl
  clear up
  go_enter Try.func27, Try.ntmps27
  go_wp2_with fail
  refine wp_scope_jumps 0 (decJ w w.heap.size (outE true b0 (g1 || g2 || g3 || g4) fo t m) (outG true b0 (g1 || g2 || g3 || g4) fo t m)) (fun _ _ => 0) rfl ?_ ?_
  rotate_left
  · rintro a' w' ⟨E, u0, u1, u2, u3, u4, u5, u7, u8, u10, u11, u12, u13, u14, u15, u16, u17, u18, u19, u20, u21, u22, u23, u24, u25, u26, u27, u28, u29, u30, u31, u32, u33, u34, u35, u36, u37, u38, u39, u40, u41, u42, u43, u44, u45, u46, u47, u48, u49, rfl, rfl, hG, K, B⟩
    have HG : Hid _ := hG
    have HK : Hid (Kp w w') := K
    have HB : Hid (BX w' w.heap.size 0 0 false false false 0) := B
    have x0 := B.c0
    have y0 := B.fz 0
    have x1 := B.c1
    have y1 := B.fz 1
    have x2 := B.c2
    have y2 := B.fz 2
    have x3 := B.c3
    have y3 := B.fz 3
    have x4 := B.c4
    have y4 := B.fz 4
    have x5 := B.c5
    have y5 := B.fz 5
    clear B K hG
    go_wp2_with fail
    simp only [Exit.jump]
    refine bodyPost_ret (res_d2 rfl rfl (BX.put HB.out 0 0 false false false 0)) rfl ⟨by rw [HG.out]; rfl, HK.out.putD (Nat.le_refl _)⟩
  go_wp2_with (go_at_call 41; with_reducible refine (c1 _).mono ?_; rintro e w' ⟨rfl, rfl⟩)
  with_reducible refine (s0.out _).mono ?_
  rintro e w1 ⟨rfl, D⟩
  have B := (BX.made w 0 0 false false false 0).kp D.kp
  have HK : Hid (Kp w w1) := ((Kp.refl _).alloc _).trans D.kp
  have HB : Hid (BX w1 w.heap.size 0 0 false false false 0) := B
  clear D c1 s0
  cases b0
  · have x0 := B.c0
    have y0 := B.fz 0
    have x1 := B.c1
    have y1 := B.fz 1
    have x2 := B.c2
    have y2 := B.fz 2
    have x3 := B.c3
    have y3 := B.fz 3
    have x4 := B.c4
    have y4 := B.fz 4
    have x5 := B.c5
    have y5 := B.fz 5
    clear B
    go_wp2_with fail
    simp only [Exit.jump]
    refine bodyPost_ret (res_d2 rfl rfl (BX.put HB.out 0 0 false false false 0)) rfl ⟨rfl, HK.out.putD (Nat.le_refl _)⟩
  clear B
  go_wp2_with fail
  with_reducible refine (sp.out _).mono ?_
  rintro e w2 ⟨rfl, K⟩
  have HK2 : Hid (Kp w w2) := HK.out.trans K
  have HB2 : Hid (BX w2 w.heap.size 0 0 false false false 0) := HB.out.kp K
  have HL2 : Hid (w.heap.size < w2.heap.size) := HB2.out.lt
  clear K HK HB sp
  go_wp2_with fail
  with_reducible refine (s1.out _).mono ?_
  rintro e w3 ⟨rfl, D⟩
  have HK : Hid (Kp w w3) := (HK2.out.alloc _).trans D.kp
  have B := (HB2.out.kp ((Kp.refl _).alloc _)).kp D.kp
  have HB : Hid (BX w3 w.heap.size 0 0 false false false 0) := B
  obtain ⟨b8, hb8⟩ : ∃ b8, w2.heap.size = b8 := ⟨_, rfl⟩
  have HD : Hid (BX w3 b8 k a r q x f) := by rw [← hb8]; exact (BX.made w2 k a r q x f).kp D.kp
  rw [hb8]
  clear D HK2 HB2 HL2 hb8 s1
  try clear hb8
  clear B
  cases g1
  rotate_left
  · go_wp2_with fail
    go_step3
    exact ⟨rfl, _, _, _, _, _, _, _, _, _, _, _, _, _, _, _, _, _, _, _, _, _, _, _, _, _, _, _, _, _, _, _, _, _, _, _, _, _, _, _, _, _, _, _, _, _, _, _, _, _, rfl, rfl, rfl, HK.out, HB.out⟩
  go_wp2_with fail
  with_reducible refine (s2.out _).mono ?_
  rintro e w4 ⟨rfl, D⟩
  have HK' : Hid (Kp w w4) := HK.out.trans D.kp
  have HB' : Hid (BX w4 w.heap.size 0 0 false false false 0) := HB.out.kp D.kp
  have HD' : Hid (BX w4 b8 k a r q x f) := HD.out.kp D.kp
  clear D HK HB HD s2
  have HK := HK'
  have HB := HB'
  have HD := HD'
  clear HK' HB' HD'
  cases g2
  rotate_left
  · go_wp2_with fail
    go_step3
    exact ⟨rfl, _, _, _, _, _, _, _, _, _, _, _, _, _, _, _, _, _, _, _, _, _, _, _, _, _, _, _, _, _, _, _, _, _, _, _, _, _, _, _, _, _, _, _, _, _, _, _, _, _, rfl, rfl, rfl, HK.out, HB.out⟩
  go_wp2_with fail
  with_reducible refine (s3.out _).mono ?_
  rintro e w5 ⟨rfl, D⟩
  have HK' : Hid (Kp w w5) := HK.out.trans D.kp
  have HB' : Hid (BX w5 w.heap.size 0 0 false false false 0) := HB.out.kp D.kp
  have HD' : Hid (BX w5 b8 k a r q x f) := HD.out.kp D.kp
  clear D HK HB HD s3
  have HK := HK'
  have HB := HB'
  have HD := HD'
  clear HK' HB' HD'
  cases g3
  rotate_left
  · go_wp2_with fail
    go_step3
    exact ⟨rfl, _, _, _, _, _, _, _, _, _, _, _, _, _, _, _, _, _, _, _, _, _, _, _, _, _, _, _, _, _, _, _, _, _, _, _, _, _, _, _, _, _, _, _, _, _, _, _, _, _, rfl, rfl, rfl, HK.out, HB.out⟩
  go_wp2_with fail
  with_reducible refine (s4.out _).mono ?_
  rintro e w6 ⟨rfl, D⟩
  have HK' : Hid (Kp w w6) := HK.out.trans D.kp
  have HB' : Hid (BX w6 w.heap.size 0 0 false false false 0) := HB.out.kp D.kp
  have HD' : Hid (BX w6 b8 k a r q x f) := HD.out.kp D.kp
  clear D HK HB HD s4
  have HK := HK'
  have HB := HB'
  have HD := HD'
  clear HK' HB' HD'
  cases g4
  rotate_left
  · go_wp2_with fail
    go_step3
    exact ⟨rfl, _, _, _, _, _, _, _, _, _, _, _, _, _, _, _, _, _, _, _, _, _, _, _, _, _, _, _, _, _, _, _, _, _, _, _, _, _, _, _, _, _, _, _, _, _, _, _, _, _, rfl, rfl, rfl, HK.out, HB.out⟩
  have v0 := HD.out.c0
  have v1 := HD.out.c1
  have v2 := HD.out.c2
  have v3 := HD.out.c3
  have v4 := HD.out.c4
  have v5 := HD.out.c5
  go_wp2_with fail
  with_reducible refine (sf.out _).mono ?_
  rintro e w7 ⟨rfl, D⟩
  have HK' : Hid (Kp w w7) := HK.out.trans D
  have HB' : Hid (BX w7 w.heap.size 0 0 false false false 0) := HB.out.kp D
  have HD' : Hid (BX w7 b8 k a r q x f) := HD.out.kp D
  clear D HK HB HD sf v0 v1 v2 v3 v4 v5
  have HK := HK'
  have HB := HB'
  have HD := HD'
  clear HK' HB' HD'
  cases fo
  · go_wp2_with fail
    go_step3
    exact ⟨rfl, _, _, _, _, _, _, _, _, _, _, _, _, _, _, _, _, _, _, _, _, _, _, _, _, _, _, _, _, _, _, _, _, _, _, _, _, _, _, _, _, _, _, _, _, _, _, _, _, _, rfl, rfl, rfl, HK.out, HB.out⟩
  have v0 := HD.out.c0
  have v1 := HD.out.c1
  cases t
  rotate_left
  · have t1 : ((tp : Nat) : Int) ≤ a := by have := of_decide_eq_true HT.out; omega
    go_wp2_with fail
    go_quiet (first | (go_at_call 24; refine Calls.quiet_of_same (c4 _)))
    have HK' : Hid (Kp w (w7.drewN nq)) := HK.out.drewN nq
    have HB' : Hid (BX (w7.drewN nq) w.heap.size 0 0 false false false 0) := HB.out
    clear HK HB HD v0 v1
    have HK := HK'
    have HB := HB'
    clear HK' HB'
    generalize w7.drewN nq = wq at *
    go_wp2_with fail
    go_step3
    exact ⟨rfl, _, _, _, _, _, _, _, _, _, _, _, _, _, _, _, _, _, _, _, _, _, _, _, _, _, _, _, _, _, _, _, _, _, _, _, _, _, _, _, _, _, _, _, _, _, _, _, _, _, rfl, rfl, rfl, HK.out, HB.out⟩
  have t1 : ¬ ((tp : Nat) : Int) ≤ a := by have := of_decide_eq_false HT.out; omega
  go_wp2_with fail
  go_quiet (first | (go_at_call 24; refine Calls.quiet_of_same (c4 _)))
  have HK' : Hid (Kp w (w7.drewN nq)) := HK.out.drewN nq
  have HB' : Hid (BX (w7.drewN nq) w.heap.size 0 0 false false false 0) := HB.out
  have HD' : Hid (BX (w7.drewN nq) b8 k a r q x f) := HD.out
  clear HK HB HD v0 v1
  have HK := HK'
  have HB := HB'
  have HD := HD'
  clear HK' HB' HD'
  generalize w7.drewN nq = wq at *
  have v0 := HD.out.c0
  have v1 := HD.out.c1
  have z0 : (0 : Int) < un := by have := UP.out; omega
  have z1 : ¬ ((un : Nat) : Int) = 0 := by omega
  have z2 : (a : Int) % (un : Nat) = ((a % un : Nat) : Int) := by simp
  cases m
  · have g : a % un = 0 := by have := of_decide_eq_false HM.out; omega
    have z3 : (a : Int).tmod (un : Nat) = 0 := by rw [Int.tmod_eq_emod_of_nonneg (by omega), z2, g]; rfl
    rw [g] at z2
    clear g
    go_wp2_with fail
    go_quiet (first | (go_at_call 46; refine Calls.quiet_of_same (c5 _)))
    have HK' : Hid (Kp w (wq.drewN nq)) := HK.out.drewN nq
    have HB' : Hid (BX (wq.drewN nq) w.heap.size 0 0 false false false 0) := HB.out
    have HD' : Hid (BX (wq.drewN nq) b8 k a r q x f) := HD.out
    clear HK HB HD v0 v1
    have HK := HK'
    have HB := HB'
    have HD := HD'
    clear HK' HB' HD'
    generalize wq.drewN nq = wr at *
    have B := HB.out
    have x0 := B.c0
    have y0 := B.fz 0
    have x1 := B.c1
    have y1 := B.fz 1
    have x2 := B.c2
    have y2 := B.fz 2
    have x3 := B.c3
    have y3 := B.fz 3
    have x4 := B.c4
    have y4 := B.fz 4
    have x5 := B.c5
    have y5 := B.fz 5
    have v0 := HD.out.c0
    have v1 := HD.out.c1
    have v2 := HD.out.c2
    have v3 := HD.out.c3
    have v4 := HD.out.c4
    have v5 := HD.out.c5
    clear B
    go_wp2_with fail
    simp only [Exit.jump]
    refine bodyPost_ret (res_d2 rfl rfl (BX.put HB.out k a r q x f)) rfl ⟨rfl, HK.out.putD (Nat.le_refl _)⟩
  · have g : a % un ≠ 0 := of_decide_eq_true HM.out
    have z3 : (a : Int).tmod (un : Nat) = ((a % un : Nat) : Int) := by rw [Int.tmod_eq_emod_of_nonneg (by omega)]; exact z2
    have g1 : ((a % un : Nat) : Int) ≠ 0 := by omega
    have g2 : (((a % un : Nat) : Int) != 0) = true := by rw [bne_iff_ne]; exact g1
    clear z2 HM
    generalize a % un = mm at *
    go_wp2_with fail
    go_quiet (first | (go_at_call 46; refine Calls.quiet_of_same (c5 _)))
    have HK' : Hid (Kp w (wq.drewN nq)) := HK.out.drewN nq
    have HB' : Hid (BX (wq.drewN nq) w.heap.size 0 0 false false false 0) := HB.out
    clear HK HB HD v0 v1
    have HK := HK'
    have HB := HB'
    clear HK' HB'
    generalize wq.drewN nq = wr at *
    go_wp2_with fail
    go_step3
    exact ⟨rfl, _, _, _, _, _, _, _, _, _, _, _, _, _, _, _, _, _, _, _, _, _, _, _, _, _, _, _, _, _, _, _, _, _, _, _, _, _, _, _, _, _, _, _, _, _, _, _, _, _, rfl, rfl, rfl, HK.out, HB.out⟩

end Go.Proofs.Ytcbciehffgaapaa
