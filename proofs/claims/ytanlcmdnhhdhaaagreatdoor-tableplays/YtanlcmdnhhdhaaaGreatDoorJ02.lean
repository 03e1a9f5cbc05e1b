/- Joined: E6, E7, E8, E9, EA, EB, EC. -/
import Derived.Test.YtanlcmdnhhdhaaaGreatDoorJ01
/- desc: Decode. -/
namespace Go.Proofs.YtanlcmdnhhdhaaaGreatDoor
open Go.RowKit

/-- What Decode tells, by its tests. -/
def outE (pl b0 g fo t m : Bool) : Int := if pl = false then 1 else if b0 = false then 0 else if g = true then 4 else if fo = false then 4 else if t = true then 2 else if m = true then 4 else 0
def outG (pl b0 g fo t m : Bool) : Bool := pl && b0 && !g && fo && !t && !m
/-- Has a word one of the bits that may not be? -/
def rsv (u : Nat) : Bool := bsN u 2 4 || bsN u 9 3 || bsN u 48 7 || bsN u 59 5
def fmW (l : Int) (u : Nat) : Bool := fm l (kdN l u) (adN u : Nat) (btN u 6) (btN u 7) (btN u 8) (fieldN u 55 4 : Nat)
def decE (s l : Int) (u : Nat) : Int := outE (isPl s l) (btN u 0) (rsv u) (fmW l u) (decide (topS s ≤ adN u)) (decide (adN u % unitN l (kdN l u) ≠ 0))
def decG (s l : Int) (u : Nat) : Bool := outG (isPl s l) (btN u 0) (rsv u) (fmW l u) (decide (topS s ≤ adN u)) (decide (adN u % unitN l (kdN l u) ≠ 0))

/-- What holds at the jumps to the end. -/
def decJ (w : World) (b : Nat) (X : Int) (Y : Bool) : Act → World → Prop := fun a' w' => ∃ (E : Int) (u0 u1 u2 u3 u4 u5 u7 u8 u10 u11 u12 u13 u14 u15 u16 u17 u18 u19 u20 u21 u22 u23 u24 u25 u26 u27 u28 u29 u30 u31 u32 u33 u34 u35 u36 u37 u38 u39 u40 u41 u42 u43 u44 u45 u46 u47 u48 u49 : Value), a' = { tmps := #[u0, u1, u2, u3, u4, u5, .pointer (some ⟨b, 0, none⟩), u7, u8, .int .i64 E, u10, u11, u12, u13, u14, u15, u16, u17, u18, u19, u20, u21, u22, u23, u24, u25, u26, u27, u28, u29, u30, u31, u32, u33, u34, u35, u36, u37, u38, u39, u40, u41, u42, u43, u44, u45, u46, u47, u48, u49], defers := [] } ∧ X = E ∧ Y = false ∧ Kp w w' ∧ BX w' b 0 0 false false false 0

set_option maxHeartbeats 8000000 in
set_option maxRecDepth 10000 in
theorem decode_any (s l : Int) (u : Nat) (w : World) (hu : u < 18446744073709551616) :
    Calls Tryz.prog 49 #[.int .i64 s, .int .i64 l, .int .u64 (u : Int)] w fun e w' => e = .returned (.tuple #[.agg #[.int .i64 (cond (decG s l u) (kdN l u) 0), .int .u64 ((cond (decG s l u) (adN u) 0 : Nat) : Int), .bool (cond (decG s l u) (btN u 6) false), .bool (cond (decG s l u) (btN u 7) false), .bool (cond (decG s l u) (btN u 8) false), .int .i64 ((cond (decG s l u) (fieldN u 55 4) 0 : Nat) : Int)], .int .i64 (decE s l u)]) ∧ Kp w w' := by
  have c1 := isPlace_any s l
  have s0 : Aside (∀ w, Calls Tryz.prog 86 #[.int .u64 (u : Int), .int .i64 0] w fun e w' => e = .returned (.bool (btN u 0)) ∧ Dr w w') := fun w => hasBit_any u 0 w hu (by decide)
  have sp : Aside (∀ w, Calls Tryz.prog 87 #[.int .i64 l, .int .u64 (u : Int)] w fun e w' => e = .returned (.agg #[.int .i64 (kdN l u), .int .u64 (adN u : Nat), .bool (btN u 6), .bool (btN u 7), .bool (btN u 8), .int .i64 (fieldN u 55 4 : Nat)]) ∧ Kp w w') := fun w => dparts_any l u w hu
  have s1 : Aside (∀ w, Calls Tryz.prog 88 #[.int .u64 (u : Int), .int .i64 2, .int .i64 6] w fun e w' => e = .returned (.bool (bsN u 2 4)) ∧ Dr w w') := fun w => hasBits_any u 2 4 6 w hu (by decide) (by decide) (by decide)
  have s2 : Aside (∀ w, Calls Tryz.prog 88 #[.int .u64 (u : Int), .int .i64 9, .int .i64 12] w fun e w' => e = .returned (.bool (bsN u 9 3)) ∧ Dr w w') := fun w => hasBits_any u 9 3 12 w hu (by decide) (by decide) (by decide)
  have s3 : Aside (∀ w, Calls Tryz.prog 88 #[.int .u64 (u : Int), .int .i64 48, .int .i64 55] w fun e w' => e = .returned (.bool (bsN u 48 7)) ∧ Dr w w') := fun w => hasBits_any u 48 7 55 w hu (by decide) (by decide) (by decide)
  have s4 : Aside (∀ w, Calls Tryz.prog 88 #[.int .u64 (u : Int), .int .i64 59, .int .i64 64] w fun e w' => e = .returned (.bool (bsN u 59 5)) ∧ Dr w w') := fun w => hasBits_any u 59 5 64 w hu (by decide) (by decide) (by decide)
  have sf : Aside (∀ w, Calls Tryz.prog 89 #[.int .i64 l, .agg #[.int .i64 (kdN l u), .int .u64 (adN u : Nat), .bool (btN u 6), .bool (btN u 7), .bool (btN u 8), .int .i64 (fieldN u 55 4 : Nat)]] w fun e w' => e = .returned (.bool (fmW l u)) ∧ Kp w w') := fun w => formed_any l (kdN l u) (adN u : Nat) (btN u 6) (btN u 7) (btN u 8) (fieldN u 55 4 : Nat) w
  have c4 := top_any s
  have c5 := unit_any l (kdN l u)
  have up := @unit_pos s l (kdN l u)
  unfold decE decG rsv
  clear hu
  obtain ⟨t, ht⟩ : ∃ t, decide (topS s ≤ adN u) = t := ⟨_, rfl⟩
  obtain ⟨m, hm⟩ : ∃ m, decide (adN u % unitN l (kdN l u) ≠ 0) = m := ⟨_, rfl⟩
  rw [ht, hm]
  generalize unitN l (kdN l u) = un at *
  generalize topS s = tp at *
  generalize fmW l u = fo at *
  generalize isPl s l = pl at *
  generalize btN u 0 = b0 at *
  generalize bsN u 2 4 = g1 at *
  generalize bsN u 9 3 = g2 at *
  generalize bsN u 48 7 = g3 at *
  generalize bsN u 59 5 = g4 at *
  generalize kdN l u = k at *
  generalize adN u = a at *
  generalize btN u 6 = r at *
  generalize btN u 7 = q at *
  generalize btN u 8 = x at *
  generalize fieldN u 55 4 = f at *
  have HT : Hid (decide (tp ≤ a) = t) := ht
  have HM : Hid (decide (a % un ≠ 0) = m) := hm
  clear ht hm
  cases pl
  · go_enter Tryz.func49, Tryz.ntmps49
    go_wp2_with fail
    refine wp_scope_jumps 0 (fun _ _ => False) (fun _ _ => 0) rfl ?_ (fun _ _ h => h.elim)
    go_wp2_with (go_at_call 85; with_reducible refine (c1 _).mono ?_; rintro e w' ⟨rfl, rfl⟩)
    simp only [Exit.jump]
    refine bodyPost_ret (res_d2 rfl rfl (BX.made w 0 0 false false false 0)) rfl ⟨rfl, (Kp.refl w).alloc _⟩
  have UP : Hid (0 < un) := up rfl
  clear up
  go_enter Tryz.func49, Tryz.ntmps49
  go_wp2_with fail
  refine wp_scope_jumps 0 (decJ w w.heap.size (outE true b0 (g1 || g2 || g3 || g4) fo t m) (outG true b0 (g1 || g2 || g3 || g4) fo t m)) (fun _ _ => 0) rfl ?_ ?_
  rotate_left
  · rintro a' w' ⟨E, u0, u1, u2, u3, u4, u5, u7, u8, u10, u11, u12, u13, u14, u15, u16, u17, u18, u19, u20, u21, u22, u23, u24, u25, u26, u27, u28, u29, u30, u31, u32, u33, u34, u35, u36, u37, u38, u39, u40, u41, u42, u43, u44, u45, u46, u47, u48, u49, rfl, rfl, hG, K, B⟩
    have HG : Hid _ := hG
    have HK : Hid (Kp w w') := K
    have HB : Hid (BX w' w.heap.size 0 0 false false false 0) := B
    have x0 := B.c0
    have y0 := B.fz 0
    have x1 := B.c1
    have y1 := B.fz 1
    have x2 := B.c2
    have y2 := B.fz 2
    have x3 := B.c3
    have y3 := B.fz 3
    have x4 := B.c4
    have y4 := B.fz 4
    have x5 := B.c5
    have y5 := B.fz 5
    clear B K hG
    go_wp2_with fail
    simp only [Exit.jump]
    refine bodyPost_ret (res_d2 rfl rfl (BX.put HB.out 0 0 false false false 0)) rfl ⟨by rw [HG.out]; rfl, HK.out.putD (Nat.le_refl _)⟩
  go_wp2_with (go_at_call 85; with_reducible refine (c1 _).mono ?_; rintro e w' ⟨rfl, rfl⟩)
  with_reducible refine (s0.out _).mono ?_
  rintro e w1 ⟨rfl, D⟩
  have B := (BX.made w 0 0 false false false 0).kp D.kp
  have HK : Hid (Kp w w1) := ((Kp.refl _).alloc _).trans D.kp
  have HB : Hid (BX w1 w.heap.size 0 0 false false false 0) := B
  clear D c1 s0
  cases b0
  · have x0 := B.c0
    have y0 := B.fz 0
    have x1 := B.c1
    have y1 := B.fz 1
    have x2 := B.c2
    have y2 := B.fz 2
    have x3 := B.c3
    have y3 := B.fz 3
    have x4 := B.c4
    have y4 := B.fz 4
    have x5 := B.c5
    have y5 := B.fz 5
    clear B
    go_wp2_with fail
    simp only [Exit.jump]
    refine bodyPost_ret (res_d2 rfl rfl (BX.put HB.out 0 0 false false false 0)) rfl ⟨rfl, HK.out.putD (Nat.le_refl _)⟩
  clear B
  go_wp2_with fail
  with_reducible refine (sp.out _).mono ?_
  rintro e w2 ⟨rfl, K⟩
  have HK2 : Hid (Kp w w2) := HK.out.trans K
  have HB2 : Hid (BX w2 w.heap.size 0 0 false false false 0) := HB.out.kp K
  have HL2 : Hid (w.heap.size < w2.heap.size) := HB2.out.lt
  clear K HK HB sp
  go_wp2_with fail
  with_reducible refine (s1.out _).mono ?_
  rintro e w3 ⟨rfl, D⟩
  have HK : Hid (Kp w w3) := (HK2.out.alloc _).trans D.kp
  have B := (HB2.out.kp ((Kp.refl _).alloc _)).kp D.kp
  have HB : Hid (BX w3 w.heap.size 0 0 false false false 0) := B
  obtain ⟨b8, hb8⟩ : ∃ b8, w2.heap.size = b8 := ⟨_, rfl⟩
  have HD : Hid (BX w3 b8 k a r q x f) := by rw [← hb8]; exact (BX.made w2 k a r q x f).kp D.kp
  rw [hb8]
  clear D HK2 HB2 HL2 hb8 s1
  try clear hb8
  clear B
  cases g1
  rotate_left
  · go_wp2_with fail
    go_step3
    exact ⟨rfl, _, _, _, _, _, _, _, _, _, _, _, _, _, _, _, _, _, _, _, _, _, _, _, _, _, _, _, _, _, _, _, _, _, _, _, _, _, _, _, _, _, _, _, _, _, _, _, _, _, rfl, rfl, rfl, HK.out, HB.out⟩
  go_wp2_with fail
  with_reducible refine (s2.out _).mono ?_
  rintro e w4 ⟨rfl, D⟩
  have HK' : Hid (Kp w w4) := HK.out.trans D.kp
  have HB' : Hid (BX w4 w.heap.size 0 0 false false false 0) := HB.out.kp D.kp
  have HD' : Hid (BX w4 b8 k a r q x f) := HD.out.kp D.kp
  clear D HK HB HD s2
  have HK := HK'
  have HB := HB'
  have HD := HD'
  clear HK' HB' HD'
  cases g2
  rotate_left
  · go_wp2_with fail
    go_step3
    exact ⟨rfl, _, _, _, _, _, _, _, _, _, _, _, _, _, _, _, _, _, _, _, _, _, _, _, _, _, _, _, _, _, _, _, _, _, _, _, _, _, _, _, _, _, _, _, _, _, _, _, _, _, rfl, rfl, rfl, HK.out, HB.out⟩
  go_wp2_with fail
  with_reducible refine (s3.out _).mono ?_
  rintro e w5 ⟨rfl, D⟩
  have HK' : Hid (Kp w w5) := HK.out.trans D.kp
  have HB' : Hid (BX w5 w.heap.size 0 0 false false false 0) := HB.out.kp D.kp
  have HD' : Hid (BX w5 b8 k a r q x f) := HD.out.kp D.kp
  clear D HK HB HD s3
  have HK := HK'
  have HB := HB'
  have HD := HD'
  clear HK' HB' HD'
  cases g3
  rotate_left
  · go_wp2_with fail
    go_step3
    exact ⟨rfl, _, _, _, _, _, _, _, _, _, _, _, _, _, _, _, _, _, _, _, _, _, _, _, _, _, _, _, _, _, _, _, _, _, _, _, _, _, _, _, _, _, _, _, _, _, _, _, _, _, rfl, rfl, rfl, HK.out, HB.out⟩
  go_wp2_with fail
  with_reducible refine (s4.out _).mono ?_
  rintro e w6 ⟨rfl, D⟩
  have HK' : Hid (Kp w w6) := HK.out.trans D.kp
  have HB' : Hid (BX w6 w.heap.size 0 0 false false false 0) := HB.out.kp D.kp
  have HD' : Hid (BX w6 b8 k a r q x f) := HD.out.kp D.kp
  clear D HK HB HD s4
  have HK := HK'
  have HB := HB'
  have HD := HD'
  clear HK' HB' HD'
  cases g4
  rotate_left
  · go_wp2_with fail
    go_step3
    exact ⟨rfl, _, _, _, _, _, _, _, _, _, _, _, _, _, _, _, _, _, _, _, _, _, _, _, _, _, _, _, _, _, _, _, _, _, _, _, _, _, _, _, _, _, _, _, _, _, _, _, _, _, rfl, rfl, rfl, HK.out, HB.out⟩
  have v0 := HD.out.c0
  have v1 := HD.out.c1
  have v2 := HD.out.c2
  have v3 := HD.out.c3
  have v4 := HD.out.c4
  have v5 := HD.out.c5
  go_wp2_with fail
  with_reducible refine (sf.out _).mono ?_
  rintro e w7 ⟨rfl, D⟩
  have HK' : Hid (Kp w w7) := HK.out.trans D
  have HB' : Hid (BX w7 w.heap.size 0 0 false false false 0) := HB.out.kp D
  have HD' : Hid (BX w7 b8 k a r q x f) := HD.out.kp D
  clear D HK HB HD sf v0 v1 v2 v3 v4 v5
  have HK := HK'
  have HB := HB'
  have HD := HD'
  clear HK' HB' HD'
  cases fo
  · go_wp2_with fail
    go_step3
    exact ⟨rfl, _, _, _, _, _, _, _, _, _, _, _, _, _, _, _, _, _, _, _, _, _, _, _, _, _, _, _, _, _, _, _, _, _, _, _, _, _, _, _, _, _, _, _, _, _, _, _, _, _, rfl, rfl, rfl, HK.out, HB.out⟩
  have v0 := HD.out.c0
  have v1 := HD.out.c1
  cases t
  rotate_left
  · have t1 : ((tp : Nat) : Int) ≤ a := by have := of_decide_eq_true HT.out; omega
    go_wp2_with fail
    go_quiet (first | (go_at_call 46; refine Calls.quiet_of_same (c4 _)))
    have HK' : Hid (Kp w (w7.drewN nq)) := HK.out.drewN nq
    have HB' : Hid (BX (w7.drewN nq) w.heap.size 0 0 false false false 0) := HB.out
    clear HK HB HD v0 v1
    have HK := HK'
    have HB := HB'
    clear HK' HB'
    generalize w7.drewN nq = wq at *
    go_wp2_with fail
    go_step3
    exact ⟨rfl, _, _, _, _, _, _, _, _, _, _, _, _, _, _, _, _, _, _, _, _, _, _, _, _, _, _, _, _, _, _, _, _, _, _, _, _, _, _, _, _, _, _, _, _, _, _, _, _, _, rfl, rfl, rfl, HK.out, HB.out⟩
  have t1 : ¬ ((tp : Nat) : Int) ≤ a := by have := of_decide_eq_false HT.out; omega
  go_wp2_with fail
  go_quiet (first | (go_at_call 46; refine Calls.quiet_of_same (c4 _)))
  have HK' : Hid (Kp w (w7.drewN nq)) := HK.out.drewN nq
  have HB' : Hid (BX (w7.drewN nq) w.heap.size 0 0 false false false 0) := HB.out
  have HD' : Hid (BX (w7.drewN nq) b8 k a r q x f) := HD.out
  clear HK HB HD v0 v1
  have HK := HK'
  have HB := HB'
  have HD := HD'
  clear HK' HB' HD'
  generalize w7.drewN nq = wq at *
  have v0 := HD.out.c0
  have v1 := HD.out.c1
  have z0 : (0 : Int) < un := by have := UP.out; omega
  have z1 : ¬ ((un : Nat) : Int) = 0 := by omega
  have z2 : (a : Int) % (un : Nat) = ((a % un : Nat) : Int) := by simp
  cases m
  · have g : a % un = 0 := by have := of_decide_eq_false HM.out; omega
    have z3 : (a : Int).tmod (un : Nat) = 0 := by rw [Int.tmod_eq_emod_of_nonneg (by omega), z2, g]; rfl
    rw [g] at z2
    clear g
    go_wp2_with fail
    go_quiet (first | (go_at_call 90; refine Calls.quiet_of_same (c5 _)))
    have HK' : Hid (Kp w (wq.drewN nq)) := HK.out.drewN nq
    have HB' : Hid (BX (wq.drewN nq) w.heap.size 0 0 false false false 0) := HB.out
    have HD' : Hid (BX (wq.drewN nq) b8 k a r q x f) := HD.out
    clear HK HB HD v0 v1
    have HK := HK'
    have HB := HB'
    have HD := HD'
    clear HK' HB' HD'
    generalize wq.drewN nq = wr at *
    have B := HB.out
    have x0 := B.c0
    have y0 := B.fz 0
    have x1 := B.c1
    have y1 := B.fz 1
    have x2 := B.c2
    have y2 := B.fz 2
    have x3 := B.c3
    have y3 := B.fz 3
    have x4 := B.c4
    have y4 := B.fz 4
    have x5 := B.c5
    have y5 := B.fz 5
    have v0 := HD.out.c0
    have v1 := HD.out.c1
    have v2 := HD.out.c2
    have v3 := HD.out.c3
    have v4 := HD.out.c4
    have v5 := HD.out.c5
    clear B
    go_wp2_with fail
    simp only [Exit.jump]
    refine bodyPost_ret (res_d2 rfl rfl (BX.put HB.out k a r q x f)) rfl ⟨rfl, HK.out.putD (Nat.le_refl _)⟩
  · have g : a % un ≠ 0 := of_decide_eq_true HM.out
    have z3 : (a : Int).tmod (un : Nat) = ((a % un : Nat) : Int) := by rw [Int.tmod_eq_emod_of_nonneg (by omega)]; exact z2
    have g1 : ((a % un : Nat) : Int) ≠ 0 := by omega
    have g2 : (((a % un : Nat) : Int) != 0) = true := by rw [bne_iff_ne]; exact g1
    clear z2 HM
    generalize a % un = mm at *
    go_wp2_with fail
    go_quiet (first | (go_at_call 90; refine Calls.quiet_of_same (c5 _)))
    have HK' : Hid (Kp w (wq.drewN nq)) := HK.out.drewN nq
    have HB' : Hid (BX (wq.drewN nq) w.heap.size 0 0 false false false 0) := HB.out
    clear HK HB HD v0 v1
    have HK := HK'
    have HB := HB'
    clear HK' HB'
    generalize wq.drewN nq = wr at *
    go_wp2_with fail
    go_step3
    exact ⟨rfl, _, _, _, _, _, _, _, _, _, _, _, _, _, _, _, _, _, _, _, _, _, _, _, _, _, _, _, _, _, _, _, _, _, _, _, _, _, _, _, _, _, _, _, _, _, _, _, _, _, rfl, rfl, rfl, HK.out, HB.out⟩

end Go.Proofs.YtanlcmdnhhdhaaaGreatDoor

/- desc: the document's Check. -/
namespace Go.Proofs.YtanlcmdnhhdhaaaGreatDoor
open Go.RowKit

section
variable {s l k : Int} {a : Nat} {r q x : Bool} {f : Int}
theorem chk1 (h : ¬ (isPl s l = true ∧ isKd k = true ∧ 0 ≤ f ∧ f ≤ 15)) : dchk s l k a r q x f = 1 := by unfold dchk; rw [if_pos h]
theorem chk4 (h : isPl s l = true ∧ isKd k = true ∧ 0 ≤ f ∧ f ≤ 15) (h1 : fm l k a r q x f = false) : dchk s l k a r q x f = 4 := by unfold dchk; rw [if_neg (fun c => c h), if_pos h1]
theorem chk2 (h : isPl s l = true ∧ isKd k = true ∧ 0 ≤ f ∧ f ≤ 15) (h1 : fm l k a r q x f = true) (h2 : topS s ≤ a) : dchk s l k a r q x f = 2 := by unfold dchk; rw [if_neg (fun c => c h), if_neg (by rw [h1]; decide), if_pos h2]
theorem chk3 (h : isPl s l = true ∧ isKd k = true ∧ 0 ≤ f ∧ f ≤ 15) (h1 : fm l k a r q x f = true) (h2 : ¬ topS s ≤ a) (h3 : a % unitN l k ≠ 0) : dchk s l k a r q x f = 3 := by unfold dchk; rw [if_neg (fun c => c h), if_neg (by rw [h1]; decide), if_neg h2, if_pos h3]
theorem chk0 (h : isPl s l = true ∧ isKd k = true ∧ 0 ≤ f ∧ f ≤ 15) (h1 : fm l k a r q x f = true) (h2 : ¬ topS s ≤ a) (h3 : a % unitN l k = 0) : dchk s l k a r q x f = 0 := by unfold dchk; rw [if_neg (fun c => c h), if_neg (by rw [h1]; decide), if_neg h2, if_neg (fun c => c h3)]
theorem isKd_iff : isKd k = true ↔ 0 ≤ k ∧ k ≤ 3 := by unfold isKd; exact decide_eq_true_iff
end
end Go.Proofs.YtanlcmdnhhdhaaaGreatDoor

/- desc: the document's Check, of what is well formed; all of it. -/
namespace Go.Proofs.YtanlcmdnhhdhaaaGreatDoor
open Go.RowKit

end Go.Proofs.YtanlcmdnhhdhaaaGreatDoor

/- desc: the document's Encode. -/
namespace Go.Proofs.YtanlcmdnhhdhaaaGreatDoor
open Go.RowKit

theorem u64_id {z : Int} (h : 0 ≤ z) (h' : z < 18446744073709551616) : IntKind.u64.wrap z = z := by
  simp [IntKind.wrap, IntKind.bits, IntKind.signed]; omega
theorem sum_wrap {m1 m2 m3 m4 a g : Nat} (h1 : (m1 : Int) ≤ 2) (h2 : (m2 : Int) ≤ 64) (h3 : (m3 : Int) ≤ 128) (h4 : (m4 : Int) ≤ 256) (h5 : a < topS 1) (h6 : (g : Int) ≤ 15) :
    IntKind.u64.wrap (IntKind.u64.wrap (IntKind.u64.wrap (IntKind.u64.wrap (IntKind.u64.wrap (IntKind.u64.wrap (1 + (m1 : Int)) + m2) + m3) + m4) + a) + (g : Int) * 36028797018963968) = ((1 + m1 + m2 + m3 + m4 + a + g * 36028797018963968 : Nat) : Int) := by
  have h5' : a < 1099511627776 := h5
  rw [u64_id (z := 1 + (m1 : Int)) (by omega) (by omega)]
  rw [u64_id (z := 1 + (m1 : Int) + m2) (by omega) (by omega)]
  rw [u64_id (z := 1 + (m1 : Int) + m2 + m3) (by omega) (by omega)]
  rw [u64_id (z := 1 + (m1 : Int) + m2 + m3 + m4) (by omega) (by omega)]
  rw [u64_id (z := 1 + (m1 : Int) + m2 + m3 + m4 + a) (by omega) (by omega)]
  rw [u64_id (by omega) (by omega)]
  omega

end Go.Proofs.YtanlcmdnhhdhaaaGreatDoor

/- desc: the document's split of a word. -/
namespace Go.Proofs.YtanlcmdnhhdhaaaGreatDoor
open Go.RowKit

theorem and_addr (u : Nat) : u &&& 281474976706560 = adN u := by
  have e1 : (u &&& 281474976706560) % 2 ^ 12 = 0 := by
    rw [Nat.and_mod_two_pow, show (281474976706560 : Nat) % 2 ^ 12 = 0 from by decide +kernel, Nat.and_zero]
  have e2 : (u &&& 281474976706560) / 2 ^ 12 = u / 2 ^ 12 % 2 ^ 36 := by
    rw [← Nat.shiftRight_eq_div_pow, Nat.shiftRight_and_distrib, show (281474976706560 : Nat) >>> 12 = 2 ^ 36 - 1 from by decide +kernel, Nat.and_two_pow_sub_one_eq_mod, Nat.shiftRight_eq_div_pow]
  unfold adN fieldN
  rw [← e2]
  omega
/-- A word without its address. -/
def lowW (u : Nat) : Nat := u - adN u
theorem and_low_word (u : Nat) (hu : u < 18446744073709551616) : u &&& (18446744073709551615 - 281474976706560) = lowW u := by
  rw [show (18446744073709551615 - 281474976706560 : Nat) = 18446462598732845055 from by decide +kernel]
  have e1 : (u &&& 18446462598732845055) % 2 ^ 12 = u % 2 ^ 12 := by
    rw [Nat.and_mod_two_pow, show (18446462598732845055 : Nat) % 2 ^ 12 = 2 ^ 12 - 1 from by decide +kernel, Nat.and_two_pow_sub_one_eq_mod, Nat.mod_mod]
  have e2 : (u &&& 18446462598732845055) / 2 ^ 12 % 2 ^ 36 = 0 := by
    rw [← Nat.shiftRight_eq_div_pow, Nat.shiftRight_and_distrib, Nat.and_mod_two_pow, show (18446462598732845055 : Nat) >>> 12 % 2 ^ 36 = 0 from by decide +kernel, Nat.and_zero]
  have e3 : (u &&& 18446462598732845055) / 2 ^ 48 = u / 2 ^ 48 := by
    rw [← Nat.shiftRight_eq_div_pow, Nat.shiftRight_and_distrib, show (18446462598732845055 : Nat) >>> 48 = 2 ^ 16 - 1 from by decide +kernel, Nat.and_two_pow_sub_one_eq_mod, Nat.shiftRight_eq_div_pow]
    omega
  unfold lowW adN fieldN
  generalize u &&& 18446462598732845055 = y at *
  omega

theorem bt_cast (u i : Nat) : ((fieldN u i 1 : Nat) : Int) = ((oneN (btN u i) : Nat) : Int) := by
  have := field_lt u i 1
  unfold btN oneN
  by_cases c : fieldN u i 1 = 1
  · rw [c]; rfl
  · rw [if_neg (by simpa using c)]; omega
theorem one_eq (b : Bool) : (((oneN b : Nat) : Int) == 1) = b := by cases b <;> rfl
theorem one_two (b : Bool) : (((2 * oneN b : Nat) : Int) != 0) = b := by cases b <;> rfl
theorem one_zero (b : Bool) : (((oneN b : Nat) : Int) == 0) = !b := by cases b <;> rfl

/-- A word's low bits, asked by and. -/
theorem ask_at (u i : Nat) (z : Int) (hz : z = (u : Int) / 2 ^ i) (hu : u < 18446744073709551616) : bits .and .u64 z 1 = ((oneN (btN u i) : Nat) : Int) := by
  rw [hz, ← bt_cast]
  exact field_and u i 1 hu (by decide)
theorem ask_0 (u : Nat) (hu : u < 18446744073709551616) : bits .and .u64 (u : Int) 1 = ((oneN (btN u 0) : Nat) : Int) := ask_at u 0 _ (by simp) hu
theorem ask_1 (u : Nat) (hu : u < 18446744073709551616) : bits .and .u64 (u : Int) 2 = ((2 * oneN (btN u 1) : Nat) : Int) := by
  have h := u64_and_nat u 2 hu (by decide)
  refine h.trans ?_
  have e1 : (u &&& 2) % 2 ^ 1 = 0 := by rw [Nat.and_mod_two_pow, show (2 : Nat) % 2 ^ 1 = 0 from rfl, Nat.and_zero]
  have e2 : (u &&& 2) / 2 ^ 1 = u / 2 ^ 1 % 2 ^ 1 := by
    rw [← Nat.shiftRight_eq_div_pow, Nat.shiftRight_and_distrib, show (2 : Nat) >>> 1 = 2 ^ 1 - 1 from rfl, Nat.and_two_pow_sub_one_eq_mod, Nat.shiftRight_eq_div_pow]
  have b := bt_cast u 1
  unfold fieldN at b
  omega

end Go.Proofs.YtanlcmdnhhdhaaaGreatDoor

/- desc: a word and its parts, by reckoning. -/
namespace Go.Proofs.YtanlcmdnhhdhaaaGreatDoor
open Go.RowKit

theorem bt_one (u i : Nat) : oneN (btN u i) = u / 2 ^ i % 2 := by
  have := bt_cast u i
  unfold fieldN at this
  omega
theorem bt_iff (u i : Nat) : btN u i = true ↔ u / 2 ^ i % 2 = 1 := by
  have := bt_one u i
  cases h : btN u i
  · rw [h] at this; simp [oneN] at this; simp; omega
  · rw [h] at this; simp [oneN] at this; simp; omega
theorem kd_ne (l : Int) (u : Nat) : kdN l u = 1 ∨ kdN l u = 2 ∨ kdN l u = 3 := by unfold kdN; split; exact .inr (.inl rfl); split; exact .inr (.inr rfl); exact .inl rfl
theorem kd_two (l : Int) (u : Nat) : (kdN l u != 2) = btN u 1 := by
  unfold kdN
  cases btN u 1
  · rfl
  · rw [if_neg (by decide)]; split <;> rfl

/-- The word of the parts, and what may not be, is the word. -/
theorem wrd_parts (l : Int) (u : Nat) (hu : u < 18446744073709551616) (h0 : btN u 0 = true) :
    wrd (kdN l u) (adN u) (btN u 6) (btN u 7) (btN u 8) (fieldN u 55 4 : Nat) + 4 * fieldN u 2 4 + 512 * fieldN u 9 3 + 281474976710656 * fieldN u 48 7 + 576460752303423488 * fieldN u 59 5 = u := by
  have k0 : kdN l u ≠ 0 := by rcases kd_ne l u with h | h | h <;> rw [h] <;> decide
  unfold wrd
  rw [if_neg k0, kd_two, bt_one, bt_one, bt_one, bt_one, Int.toNat_natCast]
  have e0 := (bt_iff u 0).1 h0
  unfold adN fieldN
  omega
theorem rsv_iff (u : Nat) : rsv u = false ↔ fieldN u 2 4 = 0 ∧ fieldN u 9 3 = 0 ∧ fieldN u 48 7 = 0 ∧ fieldN u 59 5 = 0 := by
  unfold rsv bsN
  simp [Bool.or_eq_false_iff, and_assoc]
theorem wrd_iff (l : Int) (u : Nat) (hu : u < 18446744073709551616) (h0 : btN u 0 = true) :
    wrd (kdN l u) (adN u) (btN u 6) (btN u 7) (btN u 8) (fieldN u 55 4 : Nat) = u ↔ rsv u = false := by
  have := wrd_parts l u hu h0
  rw [rsv_iff]
  generalize wrd (kdN l u) (adN u) (btN u 6) (btN u 7) (btN u 8) (fieldN u 55 4 : Nat) = z at *
  omega

theorem low_lt (u : Nat) (hu : u < 18446744073709551616) : lowW u < 18446744073709551616 := by unfold lowW; omega
theorem low_ad (u : Nat) : adN (lowW u) = 0 := by unfold lowW adN fieldN; omega
theorem low_at (u i n : Nat) (h : i + n ≤ 12 ∨ 48 ≤ i) : fieldN (lowW u) i n = fieldN u i n := by
  have e : lowW u = u % 4096 + u / 281474976710656 * 281474976710656 := by unfold lowW adN fieldN; omega
  rw [e]
  unfold fieldN
  rcases h with h | h
  · have d : ∃ z, 281474976710656 = 2 ^ i * (2 ^ n * z) := ⟨2 ^ (48 - i - n), by rw [← Nat.pow_add, ← Nat.pow_add, show i + (n + (48 - i - n)) = 48 by omega]⟩
    have d2 : ∃ z, 4096 = 2 ^ i * (2 ^ n * z) := ⟨2 ^ (12 - i - n), by rw [← Nat.pow_add, ← Nat.pow_add, show i + (n + (12 - i - n)) = 12 by omega]⟩
    obtain ⟨z, hz⟩ := d
    obtain ⟨y, hy⟩ := d2
    have a1 : ∀ v t : Nat, (v + 2 ^ i * (2 ^ n * t)) / 2 ^ i % 2 ^ n = v / 2 ^ i % 2 ^ n := fun v t => by
      rw [Nat.add_mul_div_left _ _ (Nat.two_pow_pos i), Nat.add_mul_mod_self_left]
    have b1 : u / 281474976710656 * 281474976710656 = 2 ^ i * (2 ^ n * (z * (u / 281474976710656))) := by
      rw [Nat.mul_comm, hz]
      generalize u / (2 ^ i * (2 ^ n * z)) = t
      rw [Nat.mul_assoc, Nat.mul_assoc]
    rw [b1, a1]
    have b2 : u = u % 4096 + 2 ^ i * (2 ^ n * (y * (u / 4096))) := by
      have : 4096 * (u / 4096) = 2 ^ i * (2 ^ n * (y * (u / 4096))) := by
        rw [← Nat.mul_assoc (2 ^ n), ← Nat.mul_assoc (2 ^ i), ← hy]
      omega
    have b3 := a1 (u % 4096) (y * (u / 4096))
    rw [← b2] at b3
    exact b3.symm
  · obtain ⟨j, rfl⟩ : ∃ j, i = 48 + j := ⟨i - 48, by omega⟩
    rw [Nat.pow_add, ← Nat.div_div_eq_div_mul, ← Nat.div_div_eq_div_mul]
    congr 2
    omega
theorem low_bt (u i : Nat) (h : i < 12) : btN (lowW u) i = btN u i := by unfold btN; rw [low_at u i 1 (by omega)]
theorem low_kd (l : Int) (u : Nat) : kdN l (lowW u) = kdN l u := by unfold kdN; rw [low_bt u 1 (by decide)]
theorem low_rsv (u : Nat) : rsv (lowW u) = rsv u := by
  unfold rsv bsN
  rw [low_at u 2 4 (by decide), low_at u 9 3 (by decide), low_at u 48 7 (by decide), low_at u 59 5 (by decide)]
theorem fm_addr {l k : Int} (hk : k = 1 ∨ k = 2 ∨ k = 3) (a a' : Int) (r q x : Bool) (f : Int) : fm l k a r q x f = fm l k a' r q x f := by
  unfold fm
  rcases hk with rfl | rfl | rfl <;> simp
theorem low_fm (l : Int) (u : Nat) : fmW l (lowW u) = fmW l u := by
  unfold fmW
  rw [low_kd, low_bt u 6 (by decide), low_bt u 7 (by decide), low_bt u 8 (by decide), low_at u 55 4 (by decide)]
  exact fm_addr (kd_ne l u) _ _ _ _ _ _

/-- What refuses the parts of a word. -/
theorem chk_parts (s l : Int) (u : Nat) (hp : isPl s l = true) :
    dchk s l (kdN l u) (adN u) (btN u 6) (btN u 7) (btN u 8) (fieldN u 55 4 : Nat) = 0 ↔ fmW l u = true ∧ ¬ topS s ≤ adN u ∧ adN u % unitN l (kdN l u) = 0 := by
  have f1 := field_lt u 55 4
  have hh : isPl s l = true ∧ isKd (kdN l u) = true ∧ 0 ≤ ((fieldN u 55 4 : Nat) : Int) ∧ ((fieldN u 55 4 : Nat) : Int) ≤ 15 :=
    ⟨hp, by rcases kd_ne l u with h | h | h <;> rw [h] <;> rfl, by omega, by omega⟩
  unfold dchk fmW
  rw [if_neg (fun c => c hh)]
  generalize fm l (kdN l u) (adN u : Nat) (btN u 6) (btN u 7) (btN u 8) (fieldN u 55 4 : Nat) = fo
  cases fo
  · simp
  · rw [if_neg (by decide)]
    by_cases c : topS s ≤ adN u
    · rw [if_pos c]; simp [c]
    · rw [if_neg c]
      by_cases d : adN u % unitN l (kdN l u) = 0
      · rw [if_neg (fun k => k d)]; simp [c, d]
      · rw [if_pos d]; simp [d]
def encW (s l : Int) (u : Nat) : Nat := dencN s l (kdN l u) (adN u) (btN u 6) (btN u 7) (btN u 8) (fieldN u 55 4 : Nat)
def chkW (s l : Int) (u : Nat) : Int := dchk s l (kdN l u) (adN u) (btN u 6) (btN u 7) (btN u 8) (fieldN u 55 4 : Nat)
/-- A word that is there: its parts are a descriptor, and its word. -/
theorem dec_iff (s l : Int) (u : Nat) (hu : u < 18446744073709551616) (hp : isPl s l = true) (h0 : btN u 0 = true) :
    (chkW s l u = 0 ∧ encW s l u = u) ↔ decG s l u = true := by
  unfold decG outG
  rw [hp, h0]
  have h1 : chkW s l u = 0 ↔ _ := chk_parts s l u hp
  have h2 := wrd_iff l u hu h0
  constructor
  · rintro ⟨a, b⟩
    have c := h1.1 a
    unfold encW dencN at b
    rw [if_pos (show dchk s l (kdN l u) (adN u) (btN u 6) (btN u 7) (btN u 8) (fieldN u 55 4 : Nat) = 0 from a)] at b
    have d := h2.1 b
    rw [d, c.1, decide_eq_false c.2.1, decide_eq_false (fun k => k c.2.2)]
    rfl
  · intro a
    simp only [Bool.true_and, Bool.and_eq_true, Bool.not_eq_true', decide_eq_false_iff_not] at a
    obtain ⟨⟨⟨a1, a2⟩, a3⟩, a4⟩ := a
    have c := h1.2 ⟨a2, a3, Decidable.not_not.1 a4⟩
    refine ⟨c, ?_⟩
    unfold encW dencN
    rw [if_pos (show dchk s l (kdN l u) (adN u) (btN u 6) (btN u 7) (btN u 8) (fieldN u 55 4 : Nat) = 0 from c)]
    exact h2.2 a1
theorem top_pos {s l : Int} (hp : isPl s l = true) : 0 < topS s := by
  have := isPl_iff.1 hp
  rcases (by omega : s = 1 ∨ s = 2) with rfl | rfl <;> decide
theorem low_iff (s l : Int) (u : Nat) (hu : u < 18446744073709551616) (hp : isPl s l = true) (h0 : btN u 0 = true) :
    (chkW s l (lowW u) = 0 ∧ encW s l (lowW u) = lowW u) ↔ (rsv u = false ∧ fmW l u = true) := by
  have e := dec_iff s l (lowW u) (low_lt u hu) hp (by rw [low_bt u 0 (by decide)]; exact h0)
  rw [e]
  unfold decG outG
  rw [hp, low_bt u 0 (by decide), h0, low_rsv, low_fm, low_ad, Nat.zero_mod, decide_eq_false (by have := top_pos hp; omega)]
  cases rsv u <;> cases fmW l u <;> simp

end Go.Proofs.YtanlcmdnhhdhaaaGreatDoor

/- desc: the document's Decode. -/
namespace Go.Proofs.YtanlcmdnhhdhaaaGreatDoor
open Go.RowKit

theorem dec_none (s l : Int) (u : Nat) (hp : isPl s l = false) : decG s l u = false ∧ decE s l u = 1 := by
  unfold decG decE outG outE
  rw [hp]
  exact ⟨rfl, rfl⟩
theorem dec_not (s l : Int) (u : Nat) (hp : isPl s l = true) (h0 : btN u 0 = false) : decG s l u = false ∧ decE s l u = 0 := by
  unfold decG decE outG outE
  rw [hp, h0]
  exact ⟨rfl, rfl⟩
theorem dec_good (s l : Int) (u : Nat) (h : decG s l u = true) : decE s l u = 0 ∧ isPl s l = true ∧ btN u 0 = true := by
  unfold decG outG at h
  unfold decE
  simp only [Bool.and_eq_true, Bool.not_eq_true'] at h
  obtain ⟨⟨⟨⟨⟨h1, h2⟩, h3⟩, h4⟩, h5⟩, h6⟩ := h
  rw [h1, h2, h3, h4, h5, h6]
  exact ⟨rfl, rfl, rfl⟩
theorem dec_bad (s l : Int) (u : Nat) (hp : isPl s l = true) (h0 : btN u 0 = true) (h : decG s l u = false) :
    decE s l u = if (rsv u = false ∧ fmW l u = true) ∧ topS s ≤ adN u then 2 else 4 := by
  unfold decG outG at h
  unfold decE outE
  rw [hp, h0] at *
  cases h1 : rsv u
  · cases h2 : fmW l u
    · simp
    · rw [h1, h2] at h
      by_cases c : topS s ≤ adN u
      · simp [c]
      · rw [decide_eq_false c] at h ⊢
        simp at h
        simp [c, h]
  · simp

end Go.Proofs.YtanlcmdnhhdhaaaGreatDoor
