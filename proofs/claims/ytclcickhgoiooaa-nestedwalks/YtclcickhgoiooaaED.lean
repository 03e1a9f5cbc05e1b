/- desc: the document's Near. -/
import Derived.Test.YtclcickhgoiooaaJF
import Derived.Deep.RegionHeld3
namespace Go.Proofs.Ytclcickhgoiooaa
open Go.RowKit
set_option linter.unusedVariables false

theorem near_addr (A un : Nat) : ∃ B : Nat, B ≤ A ∧ B % un = 0 ∧ (A : Int) - ((A % un : Nat) : Int) = (B : Int) := by
  have h := Nat.div_add_mod A un
  refine ⟨un * (A / un), by omega, Nat.mul_mod_right _ _, by omega⟩
section
variable {w : World} {b c : Nat} {k a : Int} {r q x : Bool} {f : Int}
theorem BX.set0 (h : BX w b k a r q x f) (k' : Int) : BX (w.setCell ⟨b, 0, none⟩ (.int .i64 k')) b k' a r q x f := heap_setCell_same w b 0 _ _ _ h
theorem BX.set1 (h : BX w b k a r q x f) (a' : Int) : BX (w.setCell ⟨b, 1, none⟩ (.int .u64 a')) b k a' r q x f := heap_setCell_same w b 1 _ _ _ h
theorem BX.set2 (h : BX w b k a r q x f) (r' : Bool) : BX (w.setCell ⟨b, 2, none⟩ (.bool r')) b k a r' q x f := heap_setCell_same w b 2 _ _ _ h
theorem BX.set3 (h : BX w b k a r q x f) (q' : Bool) : BX (w.setCell ⟨b, 3, none⟩ (.bool q')) b k a r q' x f := heap_setCell_same w b 3 _ _ _ h
theorem BX.set4 (h : BX w b k a r q x f) (x' : Bool) : BX (w.setCell ⟨b, 4, none⟩ (.bool x')) b k a r q x' f := heap_setCell_same w b 4 _ _ _ h
theorem BX.setO (h : BX w c k a r q x f) (i : Nat) (v : Value) (hb : c ≠ b) : BX (w.setCell ⟨b, i, none⟩ v) c k a r q x f := (heap_setCell_other w ⟨b, i, none⟩ c v hb).trans h
end

set_option maxHeartbeats 8000000 in
set_option maxRecDepth 10000 in
theorem near_0 (s l k : Int) (a : Nat) (r q x : Bool) (f : Int) (w : World) (t : Int) (κ m A : Nat) (tp : Nat) (h1 : k.tmod 4 = t) (h2 : -4 < t) (h3 : t < 4) (h4 : (t + 4).tmod 4 = (κ : Int)) (h10 : t % 4 = (κ : Int)) (h11 : (IntKind.i64.wrap (t + 4)).tmod 4 = (κ : Int)) (h5 : bits .and .i64 f 15 = (m : Int)) (h6 : (a : Int).tmod (tp : Nat) = (A : Int)) (h7 : (a : Int) % (tp : Nat) = (A : Int)) (h8 : ¬ ((tp : Nat) : Int) = 0) (h9 : ¬ tp = 0)
    (c4 : ∀ w, Calls Try.prog 58 #[.int .i64 s] w fun e w' => e = .returned (.int .u64 (tp : Nat)) ∧ w' = w) (hκ : κ = 0) :
    Calls Try.prog 27 #[.int .i64 s, .int .i64 l, .agg #[.int .i64 k, .int .u64 (a : Int), .bool r, .bool q, .bool x, .int .i64 f]] w fun e w' => e = .returned (.agg #[.int .i64 0, .int .u64 0, .bool false, .bool false, .bool false, .int .i64 0]) ∧ Kp w w' := by
  have HKK : Hid (κ = 0) := hκ
  clear hκ
  go_enter Try.func27, Try.ntmps27
  go_wp2_with fail
  obtain ⟨W1, hW1⟩ : ∃ W1, W1 = (w.alloc (.cells #[.int .i64 k, .int .u64 (a : Int), .bool r, .bool q, .bool x, .int .i64 f] 73)).alloc (.cells #[.int .i64 0, .int .u64 0, .bool false, .bool false, .bool false, .int .i64 0] 73) := ⟨_, rfl⟩
  obtain ⟨b6, hb6⟩ : ∃ b6, b6 = w.heap.size + 1 := ⟨_, rfl⟩
  obtain ⟨b5, hb5⟩ : ∃ b5, b5 = w.heap.size := ⟨_, rfl⟩
  have B5 : BX W1 b5 k a r q x f := by rw [hW1, hb5]; exact (BX.made w k a r q x f).kp ((Kp.refl _).alloc _)
  have B6 : BX W1 b6 0 0 false false false 0 := by
    have := BX.made (w.alloc (.cells #[.int .i64 k, .int .u64 (a : Int), .bool r, .bool q, .bool x, .int .i64 f] 73)) 0 0 false false false 0
    rw [hW1, hb6]
    simpa using this
  have HK1 : Hid (Kp w W1) := by rw [hW1]; exact ((Kp.refl w).alloc _).alloc _
  have HL : Hid (w.heap.size ≤ b6) := by show w.heap.size ≤ b6; omega
  have HB1 : Hid (BX W1 b6 0 0 false false false 0) := B6
  rw [← hW1, ← hb6, ← hb5]
  clear hW1 hb6 hb5 B6
  have x0 := B5.c0
  have x1 := B5.c1
  have x2 := B5.c2
  have x3 := B5.c3
  have x4 := B5.c4
  have x5 := B5.c5
  clear B5
  go_region_held3 (fun w' => w'.cell? ⟨b5, 0, none⟩ = some (.int .i64 k) ∧ w'.cell? ⟨b5, 1, none⟩ = some (.int .u64 (a : Int)) ∧ w'.cell? ⟨b5, 2, none⟩ = some (.bool r) ∧ w'.cell? ⟨b5, 3, none⟩ = some (.bool q) ∧ w'.cell? ⟨b5, 4, none⟩ = some (.bool x) ∧ w'.cell? ⟨b5, 5, none⟩ = some (.int .i64 f)) (first | go_keep) (first | (go_at_call 58; go_must (with_reducible refine (c4 _).mono ?_); rintro e w' ⟨rfl, rfl⟩))
  all_goals
    obtain ⟨W2, hW2⟩ : ∃ W2, W2 = (W1.alloc (.cells #[.int .i64 κ, .int .u64 (A : Int), .bool r, .bool q, .bool x, .int .i64 (m : Int)] 73)).drew := ⟨_, rfl⟩
    obtain ⟨b7, hb7⟩ : ∃ b7, b7 = W1.heap.size := ⟨_, rfl⟩
    have B7 : BX W2 b7 κ A r q x m := by rw [hW2, hb7]; exact BX.made W1 κ A r q x m
    have B6 : BX W2 b6 0 0 false false false 0 := by rw [hW2]; exact HB1.out.kp ((Kp.refl _).alloc _).drew
    have HK : Hid (Kp w W2) := by rw [hW2]; exact (HK1.out.alloc _).drew
    have hne : b6 ≠ b7 := by have := HB1.out.lt; omega
    have HL7 : Hid (w.heap.size ≤ b7) := by show w.heap.size ≤ b7; have := HB1.out.lt; have := HL.out; omega
    have HB7 : Hid (BX W2 b7 κ A r q x m) := B7
    have HB6 : Hid (BX W2 b6 0 0 false false false 0) := B6
    rw [← hW2, ← hb7]
    clear hW2 hb7 x0 x1 x2 x3 x4 x5 HK1 HB1 h1 h2 h3 h4 h5 h6 h7 h8 h9 h10 h11 c4 B6 B7
    have q1 : ((κ : Int) == 0) = true := by rw [HKK.out]; rfl
    have v0 := HB7.out.c0
    have v1 := HB7.out.c1
    have v2 := HB7.out.c2
    have v3 := HB7.out.c3
    have v4 := HB7.out.c4
    have v5 := HB7.out.c5
    have x0 := HB6.out.c0
    have x1 := HB6.out.c1
    have x2 := HB6.out.c2
    have x3 := HB6.out.c3
    have x4 := HB6.out.c4
    have x5 := HB6.out.c5
    have y0 := HB6.out.fz 0
    have y1 := HB6.out.fz 1
    have y2 := HB6.out.fz 2
    have y3 := HB6.out.fz 3
    have y4 := HB6.out.fz 4
    have y5 := HB6.out.fz 5
    go_wp2_with fail
    refine bodyPost_ret (res_d rfl rfl (BX.put HB6.out 0 0 false false false 0)) rfl ⟨rfl, HK.out.putD HL.out⟩

set_option maxHeartbeats 8000000 in
set_option maxRecDepth 10000 in
theorem near_3 (s l k : Int) (a : Nat) (r q x : Bool) (f : Int) (w : World) (t : Int) (κ m A : Nat) (tp : Nat) (h1 : k.tmod 4 = t) (h2 : -4 < t) (h3 : t < 4) (h4 : (t + 4).tmod 4 = (κ : Int)) (h10 : t % 4 = (κ : Int)) (h11 : (IntKind.i64.wrap (t + 4)).tmod 4 = (κ : Int)) (h5 : bits .and .i64 f 15 = (m : Int)) (h6 : (a : Int).tmod (tp : Nat) = (A : Int)) (h7 : (a : Int) % (tp : Nat) = (A : Int)) (h8 : ¬ ((tp : Nat) : Int) = 0) (h9 : ¬ tp = 0)
    (c4 : ∀ w, Calls Try.prog 58 #[.int .i64 s] w fun e w' => e = .returned (.int .u64 (tp : Nat)) ∧ w' = w) (hκ : κ ≠ 0) (hl : l = 3) (mm B : Nat) (j1 : (A : Int).tmod 4096 = (mm : Int)) (j2 : (A : Int) % 4096 = (mm : Int)) (j3 : (A : Int) - (mm : Int) = (B : Int)) (j4 : IntKind.u64.wrap (B : Int) = (B : Int)) :
    Calls Try.prog 27 #[.int .i64 s, .int .i64 l, .agg #[.int .i64 k, .int .u64 (a : Int), .bool r, .bool q, .bool x, .int .i64 f]] w fun e w' => e = .returned (.agg #[.int .i64 3, .int .u64 (B : Int), .bool r, .bool (q && r), .bool x, .int .i64 (m : Int)]) ∧ Kp w w' := by
  subst hl
  have HKK : Hid (κ ≠ 0) := hκ
  clear hκ
  have J1 : Hid _ := j1
  have J2 : Hid _ := j2
  have J3 : Hid _ := j3
  have J4 : Hid _ := j4
  clear j1 j2 j3 j4
  go_enter Try.func27, Try.ntmps27
  go_wp2_with fail
  obtain ⟨W1, hW1⟩ : ∃ W1, W1 = (w.alloc (.cells #[.int .i64 k, .int .u64 (a : Int), .bool r, .bool q, .bool x, .int .i64 f] 73)).alloc (.cells #[.int .i64 0, .int .u64 0, .bool false, .bool false, .bool false, .int .i64 0] 73) := ⟨_, rfl⟩
  obtain ⟨b6, hb6⟩ : ∃ b6, b6 = w.heap.size + 1 := ⟨_, rfl⟩
  obtain ⟨b5, hb5⟩ : ∃ b5, b5 = w.heap.size := ⟨_, rfl⟩
  have B5 : BX W1 b5 k a r q x f := by rw [hW1, hb5]; exact (BX.made w k a r q x f).kp ((Kp.refl _).alloc _)
  have B6 : BX W1 b6 0 0 false false false 0 := by
    have := BX.made (w.alloc (.cells #[.int .i64 k, .int .u64 (a : Int), .bool r, .bool q, .bool x, .int .i64 f] 73)) 0 0 false false false 0
    rw [hW1, hb6]
    simpa using this
  have HK1 : Hid (Kp w W1) := by rw [hW1]; exact ((Kp.refl w).alloc _).alloc _
  have HL : Hid (w.heap.size ≤ b6) := by show w.heap.size ≤ b6; omega
  have HB1 : Hid (BX W1 b6 0 0 false false false 0) := B6
  rw [← hW1, ← hb6, ← hb5]
  clear hW1 hb6 hb5 B6
  have x0 := B5.c0
  have x1 := B5.c1
  have x2 := B5.c2
  have x3 := B5.c3
  have x4 := B5.c4
  have x5 := B5.c5
  clear B5
  go_region_held3 (fun w' => w'.cell? ⟨b5, 0, none⟩ = some (.int .i64 k) ∧ w'.cell? ⟨b5, 1, none⟩ = some (.int .u64 (a : Int)) ∧ w'.cell? ⟨b5, 2, none⟩ = some (.bool r) ∧ w'.cell? ⟨b5, 3, none⟩ = some (.bool q) ∧ w'.cell? ⟨b5, 4, none⟩ = some (.bool x) ∧ w'.cell? ⟨b5, 5, none⟩ = some (.int .i64 f)) (first | go_keep) (first | (go_at_call 58; go_must (with_reducible refine (c4 _).mono ?_); rintro e w' ⟨rfl, rfl⟩))
  all_goals
    obtain ⟨W2, hW2⟩ : ∃ W2, W2 = (W1.alloc (.cells #[.int .i64 κ, .int .u64 (A : Int), .bool r, .bool q, .bool x, .int .i64 (m : Int)] 73)).drew := ⟨_, rfl⟩
    obtain ⟨b7, hb7⟩ : ∃ b7, b7 = W1.heap.size := ⟨_, rfl⟩
    have B7 : BX W2 b7 κ A r q x m := by rw [hW2, hb7]; exact BX.made W1 κ A r q x m
    have B6 : BX W2 b6 0 0 false false false 0 := by rw [hW2]; exact HB1.out.kp ((Kp.refl _).alloc _).drew
    have HK : Hid (Kp w W2) := by rw [hW2]; exact (HK1.out.alloc _).drew
    have hne : b6 ≠ b7 := by have := HB1.out.lt; omega
    have HL7 : Hid (w.heap.size ≤ b7) := by show w.heap.size ≤ b7; have := HB1.out.lt; have := HL.out; omega
    have HB7 : Hid (BX W2 b7 κ A r q x m) := B7
    have HB6 : Hid (BX W2 b6 0 0 false false false 0) := B6
    rw [← hW2, ← hb7]
    clear hW2 hb7 x0 x1 x2 x3 x4 x5 HK1 HB1 h1 h2 h3 h4 h5 h6 h7 h8 h9 h10 h11 c4 B6 B7
    have q1 : ((κ : Int) == 0) = false := by rw [beq_eq_false_iff_ne]; have := HKK.out; omega
    have v0 := HB7.out.c0
    have v1 := HB7.out.c1
    have v2 := HB7.out.c2
    have v3 := HB7.out.c3
    have v4 := HB7.out.c4
    have v5 := HB7.out.c5
    have z0 := HB7.out.fz 0
    have z1 := HB7.out.fz 1
    have z2 := HB7.out.fz 2
    have z3 := HB7.out.fz 3
    have z4 := HB7.out.fz 4
    have z5 := HB7.out.fz 5
    cases q
    · go_wp2_with fail
      obtain ⟨W3, hW3⟩ : ∃ W3, W3 = ((W2.setCell ⟨b7, 0, none⟩ (.int .i64 3)).setCell ⟨b7, 3, none⟩ (.bool false)) := ⟨_, rfl⟩
      have B7 : BX W3 b7 3 A r false x m := by rw [hW3]; exact ((HB7.out.set0 3).set3 false)
      have B6 : BX W3 b6 0 0 false false false 0 := by rw [hW3]; exact ((HB6.out.setO 0 _ hne).setO 3 _ hne)
      have HK3 : Hid (Kp w W3) := by rw [hW3]; exact ((HK.out.set _ _ HL7.out).set _ _ HL7.out)
      have H7 : Hid (BX W3 b7 3 A r false x m) := B7
      have H6 : Hid (BX W3 b6 0 0 false false false 0) := B6
      rw [← hW3]
      clear hW3 B6 B7 HK HB6 HB7 v0 v1 v2 v3 v4 v5 z0 z1 z2 z3 z4 z5
      have v1 := H7.out.c1
      have z1 := H7.out.fz 1
      have j1 := J1.out
      have j2 := J2.out
      have j3 := J3.out
      go_region
      all_goals
        (try rw [J4.out])
        obtain ⟨W4, hW4⟩ : ∃ W4, W4 = (W3.setCell ⟨b7, 1, none⟩ (.int .u64 (B : Int))).drew := ⟨_, rfl⟩
        have B7 : BX W4 b7 3 B r false x m := by rw [hW4]; exact H7.out.set1 B
        have B6 : BX W4 b6 0 0 false false false 0 := by rw [hW4]; exact H6.out.setO 1 _ hne
        have HK4 : Hid (Kp w W4) := by rw [hW4]; exact (HK3.out.set _ _ HL7.out).drew
        have H6 : Hid (BX W4 b6 0 0 false false false 0) := B6
        rw [← hW4]
        have v0 := B7.c0
        have v1 := B7.c1
        have v2 := B7.c2
        have v3 := B7.c3
        have v4 := B7.c4
        have v5 := B7.c5
        have x0 := B6.c0
        have x1 := B6.c1
        have x2 := B6.c2
        have x3 := B6.c3
        have x4 := B6.c4
        have x5 := B6.c5
        have y0 := B6.fz 0
        have y1 := B6.fz 1
        have y2 := B6.fz 2
        have y3 := B6.fz 3
        have y4 := B6.fz 4
        have y5 := B6.fz 5
        clear hW4 B6 B7
        go_wp2_with fail
        refine bodyPost_ret (res_d rfl rfl (BX.put H6.out 3 B r false x m)) rfl ⟨rfl, HK4.out.putD HL.out⟩
    · go_wp2_with fail
      obtain ⟨W3, hW3⟩ : ∃ W3, W3 = ((W2.setCell ⟨b7, 0, none⟩ (.int .i64 3)).setCell ⟨b7, 3, none⟩ (.bool r)) := ⟨_, rfl⟩
      have B7 : BX W3 b7 3 A r r x m := by rw [hW3]; exact ((HB7.out.set0 3).set3 r)
      have B6 : BX W3 b6 0 0 false false false 0 := by rw [hW3]; exact ((HB6.out.setO 0 _ hne).setO 3 _ hne)
      have HK3 : Hid (Kp w W3) := by rw [hW3]; exact ((HK.out.set _ _ HL7.out).set _ _ HL7.out)
      have H7 : Hid (BX W3 b7 3 A r r x m) := B7
      have H6 : Hid (BX W3 b6 0 0 false false false 0) := B6
      rw [← hW3]
      clear hW3 B6 B7 HK HB6 HB7 v0 v1 v2 v3 v4 v5 z0 z1 z2 z3 z4 z5
      have v1 := H7.out.c1
      have z1 := H7.out.fz 1
      have j1 := J1.out
      have j2 := J2.out
      have j3 := J3.out
      go_region
      all_goals
        (try rw [J4.out])
        obtain ⟨W4, hW4⟩ : ∃ W4, W4 = (W3.setCell ⟨b7, 1, none⟩ (.int .u64 (B : Int))).drew := ⟨_, rfl⟩
        have B7 : BX W4 b7 3 B r r x m := by rw [hW4]; exact H7.out.set1 B
        have B6 : BX W4 b6 0 0 false false false 0 := by rw [hW4]; exact H6.out.setO 1 _ hne
        have HK4 : Hid (Kp w W4) := by rw [hW4]; exact (HK3.out.set _ _ HL7.out).drew
        have H6 : Hid (BX W4 b6 0 0 false false false 0) := B6
        rw [← hW4]
        have v0 := B7.c0
        have v1 := B7.c1
        have v2 := B7.c2
        have v3 := B7.c3
        have v4 := B7.c4
        have v5 := B7.c5
        have x0 := B6.c0
        have x1 := B6.c1
        have x2 := B6.c2
        have x3 := B6.c3
        have x4 := B6.c4
        have x5 := B6.c5
        have y0 := B6.fz 0
        have y1 := B6.fz 1
        have y2 := B6.fz 2
        have y3 := B6.fz 3
        have y4 := B6.fz 4
        have y5 := B6.fz 5
        clear hW4 B6 B7
        go_wp2_with fail
        refine bodyPost_ret (res_d rfl rfl (BX.put H6.out 3 B r r x m)) rfl ⟨rfl, HK4.out.putD HL.out⟩

set_option maxHeartbeats 8000000 in
set_option maxRecDepth 10000 in
theorem near_10 (s l k : Int) (a : Nat) (r q x : Bool) (f : Int) (w : World) (t : Int) (κ m A : Nat) (tp : Nat) (h1 : k.tmod 4 = t) (h2 : -4 < t) (h3 : t < 4) (h4 : (t + 4).tmod 4 = (κ : Int)) (h10 : t % 4 = (κ : Int)) (h11 : (IntKind.i64.wrap (t + 4)).tmod 4 = (κ : Int)) (h5 : bits .and .i64 f 15 = (m : Int)) (h6 : (a : Int).tmod (tp : Nat) = (A : Int)) (h7 : (a : Int) % (tp : Nat) = (A : Int)) (h8 : ¬ ((tp : Nat) : Int) = 0) (h9 : ¬ tp = 0)
    (c4 : ∀ w, Calls Try.prog 58 #[.int .i64 s] w fun e w' => e = .returned (.int .u64 (tp : Nat)) ∧ w' = w) (hκ : κ ≠ 0) (hl : l = 0) (mm B : Nat) (j1 : (A : Int).tmod 4096 = (mm : Int)) (j2 : (A : Int) % 4096 = (mm : Int)) (j3 : (A : Int) - (mm : Int) = (B : Int)) (j4 : IntKind.u64.wrap (B : Int) = (B : Int)) :
    Calls Try.prog 27 #[.int .i64 s, .int .i64 l, .agg #[.int .i64 k, .int .u64 (a : Int), .bool r, .bool q, .bool x, .int .i64 f]] w fun e w' => e = .returned (.agg #[.int .i64 1, .int .u64 (B : Int), .bool false, .bool false, .bool false, .int .i64 (m : Int)]) ∧ Kp w w' := by
  subst hl
  have HKK : Hid (κ ≠ 0) := hκ
  clear hκ
  have J1 : Hid _ := j1
  have J2 : Hid _ := j2
  have J3 : Hid _ := j3
  have J4 : Hid _ := j4
  clear j1 j2 j3 j4
  go_enter Try.func27, Try.ntmps27
  go_wp2_with fail
  obtain ⟨W1, hW1⟩ : ∃ W1, W1 = (w.alloc (.cells #[.int .i64 k, .int .u64 (a : Int), .bool r, .bool q, .bool x, .int .i64 f] 73)).alloc (.cells #[.int .i64 0, .int .u64 0, .bool false, .bool false, .bool false, .int .i64 0] 73) := ⟨_, rfl⟩
  obtain ⟨b6, hb6⟩ : ∃ b6, b6 = w.heap.size + 1 := ⟨_, rfl⟩
  obtain ⟨b5, hb5⟩ : ∃ b5, b5 = w.heap.size := ⟨_, rfl⟩
  have B5 : BX W1 b5 k a r q x f := by rw [hW1, hb5]; exact (BX.made w k a r q x f).kp ((Kp.refl _).alloc _)
  have B6 : BX W1 b6 0 0 false false false 0 := by
    have := BX.made (w.alloc (.cells #[.int .i64 k, .int .u64 (a : Int), .bool r, .bool q, .bool x, .int .i64 f] 73)) 0 0 false false false 0
    rw [hW1, hb6]
    simpa using this
  have HK1 : Hid (Kp w W1) := by rw [hW1]; exact ((Kp.refl w).alloc _).alloc _
  have HL : Hid (w.heap.size ≤ b6) := by show w.heap.size ≤ b6; omega
  have HB1 : Hid (BX W1 b6 0 0 false false false 0) := B6
  rw [← hW1, ← hb6, ← hb5]
  clear hW1 hb6 hb5 B6
  have x0 := B5.c0
  have x1 := B5.c1
  have x2 := B5.c2
  have x3 := B5.c3
  have x4 := B5.c4
  have x5 := B5.c5
  clear B5
  go_region_held3 (fun w' => w'.cell? ⟨b5, 0, none⟩ = some (.int .i64 k) ∧ w'.cell? ⟨b5, 1, none⟩ = some (.int .u64 (a : Int)) ∧ w'.cell? ⟨b5, 2, none⟩ = some (.bool r) ∧ w'.cell? ⟨b5, 3, none⟩ = some (.bool q) ∧ w'.cell? ⟨b5, 4, none⟩ = some (.bool x) ∧ w'.cell? ⟨b5, 5, none⟩ = some (.int .i64 f)) (first | go_keep) (first | (go_at_call 58; go_must (with_reducible refine (c4 _).mono ?_); rintro e w' ⟨rfl, rfl⟩))
  all_goals
    obtain ⟨W2, hW2⟩ : ∃ W2, W2 = (W1.alloc (.cells #[.int .i64 κ, .int .u64 (A : Int), .bool r, .bool q, .bool x, .int .i64 (m : Int)] 73)).drew := ⟨_, rfl⟩
    obtain ⟨b7, hb7⟩ : ∃ b7, b7 = W1.heap.size := ⟨_, rfl⟩
    have B7 : BX W2 b7 κ A r q x m := by rw [hW2, hb7]; exact BX.made W1 κ A r q x m
    have B6 : BX W2 b6 0 0 false false false 0 := by rw [hW2]; exact HB1.out.kp ((Kp.refl _).alloc _).drew
    have HK : Hid (Kp w W2) := by rw [hW2]; exact (HK1.out.alloc _).drew
    have hne : b6 ≠ b7 := by have := HB1.out.lt; omega
    have HL7 : Hid (w.heap.size ≤ b7) := by show w.heap.size ≤ b7; have := HB1.out.lt; have := HL.out; omega
    have HB7 : Hid (BX W2 b7 κ A r q x m) := B7
    have HB6 : Hid (BX W2 b6 0 0 false false false 0) := B6
    rw [← hW2, ← hb7]
    clear hW2 hb7 x0 x1 x2 x3 x4 x5 HK1 HB1 h1 h2 h3 h4 h5 h6 h7 h8 h9 h10 h11 c4 B6 B7
    have q1 : ((κ : Int) == 0) = false := by rw [beq_eq_false_iff_ne]; have := HKK.out; omega
    have v0 := HB7.out.c0
    have v1 := HB7.out.c1
    have v2 := HB7.out.c2
    have v3 := HB7.out.c3
    have v4 := HB7.out.c4
    have v5 := HB7.out.c5
    have z0 := HB7.out.fz 0
    have z1 := HB7.out.fz 1
    have z2 := HB7.out.fz 2
    have z3 := HB7.out.fz 3
    have z4 := HB7.out.fz 4
    have z5 := HB7.out.fz 5
    go_wp2_with fail
    obtain ⟨W3, hW3⟩ : ∃ W3, W3 = (((((W2.setCell ⟨b7, 0, none⟩ (.int .i64 1)).setCell ⟨b7, 2, none⟩ (.bool false)).setCell ⟨b7, 3, none⟩ (.bool false)).setCell ⟨b7, 4, none⟩ (.bool false)).setCell ⟨b7, 3, none⟩ (.bool false)) := ⟨_, rfl⟩
    have B7 : BX W3 b7 1 A false false false m := by rw [hW3]; exact (((((HB7.out.set0 1).set2 false).set3 false).set4 false).set3 false)
    have B6 : BX W3 b6 0 0 false false false 0 := by rw [hW3]; exact (((((HB6.out.setO 0 _ hne).setO 2 _ hne).setO 3 _ hne).setO 4 _ hne).setO 3 _ hne)
    have HK3 : Hid (Kp w W3) := by rw [hW3]; exact (((((HK.out.set _ _ HL7.out).set _ _ HL7.out).set _ _ HL7.out).set _ _ HL7.out).set _ _ HL7.out)
    have H7 : Hid (BX W3 b7 1 A false false false m) := B7
    have H6 : Hid (BX W3 b6 0 0 false false false 0) := B6
    rw [← hW3]
    clear hW3 B6 B7 HK HB6 HB7 v0 v1 v2 v3 v4 v5 z0 z1 z2 z3 z4 z5
    have v1 := H7.out.c1
    have z1 := H7.out.fz 1
    have j1 := J1.out
    have j2 := J2.out
    have j3 := J3.out
    go_region
    all_goals
      (try rw [J4.out])
      obtain ⟨W4, hW4⟩ : ∃ W4, W4 = (W3.setCell ⟨b7, 1, none⟩ (.int .u64 (B : Int))).drew := ⟨_, rfl⟩
      have B7 : BX W4 b7 1 B false false false m := by rw [hW4]; exact H7.out.set1 B
      have B6 : BX W4 b6 0 0 false false false 0 := by rw [hW4]; exact H6.out.setO 1 _ hne
      have HK4 : Hid (Kp w W4) := by rw [hW4]; exact (HK3.out.set _ _ HL7.out).drew
      have H6 : Hid (BX W4 b6 0 0 false false false 0) := B6
      rw [← hW4]
      have v0 := B7.c0
      have v1 := B7.c1
      have v2 := B7.c2
      have v3 := B7.c3
      have v4 := B7.c4
      have v5 := B7.c5
      have x0 := B6.c0
      have x1 := B6.c1
      have x2 := B6.c2
      have x3 := B6.c3
      have x4 := B6.c4
      have x5 := B6.c5
      have y0 := B6.fz 0
      have y1 := B6.fz 1
      have y2 := B6.fz 2
      have y3 := B6.fz 3
      have y4 := B6.fz 4
      have y5 := B6.fz 5
      clear hW4 B6 B7
      go_wp2_with fail
      refine bodyPost_ret (res_d rfl rfl (BX.put H6.out 1 B false false false m)) rfl ⟨rfl, HK4.out.putD HL.out⟩

set_option maxHeartbeats 8000000 in
set_option maxRecDepth 10000 in
theorem near_13 (s l k : Int) (a : Nat) (r q x : Bool) (f : Int) (w : World) (t : Int) (κ m A : Nat) (tp : Nat) (h1 : k.tmod 4 = t) (h2 : -4 < t) (h3 : t < 4) (h4 : (t + 4).tmod 4 = (κ : Int)) (h10 : t % 4 = (κ : Int)) (h11 : (IntKind.i64.wrap (t + 4)).tmod 4 = (κ : Int)) (h5 : bits .and .i64 f 15 = (m : Int)) (h6 : (a : Int).tmod (tp : Nat) = (A : Int)) (h7 : (a : Int) % (tp : Nat) = (A : Int)) (h8 : ¬ ((tp : Nat) : Int) = 0) (h9 : ¬ tp = 0)
    (c4 : ∀ w, Calls Try.prog 58 #[.int .i64 s] w fun e w' => e = .returned (.int .u64 (tp : Nat)) ∧ w' = w) (hκ : κ = 3) (hl : l ≠ 0) (hl3 : l ≠ 3) (mm B : Nat) (j1 : (A : Int).tmod 4096 = (mm : Int)) (j2 : (A : Int) % 4096 = (mm : Int)) (j3 : (A : Int) - (mm : Int) = (B : Int)) (j4 : IntKind.u64.wrap (B : Int) = (B : Int)) :
    Calls Try.prog 27 #[.int .i64 s, .int .i64 l, .agg #[.int .i64 k, .int .u64 (a : Int), .bool r, .bool q, .bool x, .int .i64 f]] w fun e w' => e = .returned (.agg #[.int .i64 1, .int .u64 (B : Int), .bool false, .bool false, .bool false, .int .i64 (m : Int)]) ∧ Kp w w' := by
  have l0 : (l == 0) = false := by rw [beq_eq_false_iff_ne]; exact hl
  have l3 : (l == 3) = false := by rw [beq_eq_false_iff_ne]; exact hl3
  have HKK : Hid (κ = 3) := hκ
  clear hκ
  have J1 : Hid _ := j1
  have J2 : Hid _ := j2
  have J3 : Hid _ := j3
  have J4 : Hid _ := j4
  clear j1 j2 j3 j4
  go_enter Try.func27, Try.ntmps27
  go_wp2_with fail
  obtain ⟨W1, hW1⟩ : ∃ W1, W1 = (w.alloc (.cells #[.int .i64 k, .int .u64 (a : Int), .bool r, .bool q, .bool x, .int .i64 f] 73)).alloc (.cells #[.int .i64 0, .int .u64 0, .bool false, .bool false, .bool false, .int .i64 0] 73) := ⟨_, rfl⟩
  obtain ⟨b6, hb6⟩ : ∃ b6, b6 = w.heap.size + 1 := ⟨_, rfl⟩
  obtain ⟨b5, hb5⟩ : ∃ b5, b5 = w.heap.size := ⟨_, rfl⟩
  have B5 : BX W1 b5 k a r q x f := by rw [hW1, hb5]; exact (BX.made w k a r q x f).kp ((Kp.refl _).alloc _)
  have B6 : BX W1 b6 0 0 false false false 0 := by
    have := BX.made (w.alloc (.cells #[.int .i64 k, .int .u64 (a : Int), .bool r, .bool q, .bool x, .int .i64 f] 73)) 0 0 false false false 0
    rw [hW1, hb6]
    simpa using this
  have HK1 : Hid (Kp w W1) := by rw [hW1]; exact ((Kp.refl w).alloc _).alloc _
  have HL : Hid (w.heap.size ≤ b6) := by show w.heap.size ≤ b6; omega
  have HB1 : Hid (BX W1 b6 0 0 false false false 0) := B6
  rw [← hW1, ← hb6, ← hb5]
  clear hW1 hb6 hb5 B6
  have x0 := B5.c0
  have x1 := B5.c1
  have x2 := B5.c2
  have x3 := B5.c3
  have x4 := B5.c4
  have x5 := B5.c5
  clear B5
  go_region_held3 (fun w' => w'.cell? ⟨b5, 0, none⟩ = some (.int .i64 k) ∧ w'.cell? ⟨b5, 1, none⟩ = some (.int .u64 (a : Int)) ∧ w'.cell? ⟨b5, 2, none⟩ = some (.bool r) ∧ w'.cell? ⟨b5, 3, none⟩ = some (.bool q) ∧ w'.cell? ⟨b5, 4, none⟩ = some (.bool x) ∧ w'.cell? ⟨b5, 5, none⟩ = some (.int .i64 f)) (first | go_keep) (first | (go_at_call 58; go_must (with_reducible refine (c4 _).mono ?_); rintro e w' ⟨rfl, rfl⟩))
  all_goals
    obtain ⟨W2, hW2⟩ : ∃ W2, W2 = (W1.alloc (.cells #[.int .i64 κ, .int .u64 (A : Int), .bool r, .bool q, .bool x, .int .i64 (m : Int)] 73)).drew := ⟨_, rfl⟩
    obtain ⟨b7, hb7⟩ : ∃ b7, b7 = W1.heap.size := ⟨_, rfl⟩
    have B7 : BX W2 b7 κ A r q x m := by rw [hW2, hb7]; exact BX.made W1 κ A r q x m
    have B6 : BX W2 b6 0 0 false false false 0 := by rw [hW2]; exact HB1.out.kp ((Kp.refl _).alloc _).drew
    have HK : Hid (Kp w W2) := by rw [hW2]; exact (HK1.out.alloc _).drew
    have hne : b6 ≠ b7 := by have := HB1.out.lt; omega
    have HL7 : Hid (w.heap.size ≤ b7) := by show w.heap.size ≤ b7; have := HB1.out.lt; have := HL.out; omega
    have HB7 : Hid (BX W2 b7 κ A r q x m) := B7
    have HB6 : Hid (BX W2 b6 0 0 false false false 0) := B6
    rw [← hW2, ← hb7]
    clear hW2 hb7 x0 x1 x2 x3 x4 x5 HK1 HB1 h1 h2 h3 h4 h5 h6 h7 h8 h9 h10 h11 c4 B6 B7
    have q1 : ((κ : Int) == 0) = false := by rw [beq_eq_false_iff_ne]; have := HKK.out; omega
    have q2 : ((κ : Int) == 3) = true := by rw [HKK.out]; rfl
    have v0 := HB7.out.c0
    have v1 := HB7.out.c1
    have v2 := HB7.out.c2
    have v3 := HB7.out.c3
    have v4 := HB7.out.c4
    have v5 := HB7.out.c5
    have z0 := HB7.out.fz 0
    have z1 := HB7.out.fz 1
    have z2 := HB7.out.fz 2
    have z3 := HB7.out.fz 3
    have z4 := HB7.out.fz 4
    have z5 := HB7.out.fz 5
    go_wp2_with fail
    obtain ⟨W3, hW3⟩ : ∃ W3, W3 = (((((W2.setCell ⟨b7, 0, none⟩ (.int .i64 1)).setCell ⟨b7, 2, none⟩ (.bool false)).setCell ⟨b7, 3, none⟩ (.bool false)).setCell ⟨b7, 4, none⟩ (.bool false)).setCell ⟨b7, 3, none⟩ (.bool false)) := ⟨_, rfl⟩
    have B7 : BX W3 b7 1 A false false false m := by rw [hW3]; exact (((((HB7.out.set0 1).set2 false).set3 false).set4 false).set3 false)
    have B6 : BX W3 b6 0 0 false false false 0 := by rw [hW3]; exact (((((HB6.out.setO 0 _ hne).setO 2 _ hne).setO 3 _ hne).setO 4 _ hne).setO 3 _ hne)
    have HK3 : Hid (Kp w W3) := by rw [hW3]; exact (((((HK.out.set _ _ HL7.out).set _ _ HL7.out).set _ _ HL7.out).set _ _ HL7.out).set _ _ HL7.out)
    have H7 : Hid (BX W3 b7 1 A false false false m) := B7
    have H6 : Hid (BX W3 b6 0 0 false false false 0) := B6
    rw [← hW3]
    clear hW3 B6 B7 HK HB6 HB7 v0 v1 v2 v3 v4 v5 z0 z1 z2 z3 z4 z5
    have v1 := H7.out.c1
    have z1 := H7.out.fz 1
    have j1 := J1.out
    have j2 := J2.out
    have j3 := J3.out
    go_region
    all_goals
      (try rw [J4.out])
      obtain ⟨W4, hW4⟩ : ∃ W4, W4 = (W3.setCell ⟨b7, 1, none⟩ (.int .u64 (B : Int))).drew := ⟨_, rfl⟩
      have B7 : BX W4 b7 1 B false false false m := by rw [hW4]; exact H7.out.set1 B
      have B6 : BX W4 b6 0 0 false false false 0 := by rw [hW4]; exact H6.out.setO 1 _ hne
      have HK4 : Hid (Kp w W4) := by rw [hW4]; exact (HK3.out.set _ _ HL7.out).drew
      have H6 : Hid (BX W4 b6 0 0 false false false 0) := B6
      rw [← hW4]
      have v0 := B7.c0
      have v1 := B7.c1
      have v2 := B7.c2
      have v3 := B7.c3
      have v4 := B7.c4
      have v5 := B7.c5
      have x0 := B6.c0
      have x1 := B6.c1
      have x2 := B6.c2
      have x3 := B6.c3
      have x4 := B6.c4
      have x5 := B6.c5
      have y0 := B6.fz 0
      have y1 := B6.fz 1
      have y2 := B6.fz 2
      have y3 := B6.fz 3
      have y4 := B6.fz 4
      have y5 := B6.fz 5
      clear hW4 B6 B7
      go_wp2_with fail
      refine bodyPost_ret (res_d rfl rfl (BX.put H6.out 1 B false false false m)) rfl ⟨rfl, HK4.out.putD HL.out⟩

set_option maxHeartbeats 8000000 in
set_option maxRecDepth 10000 in
theorem near_11 (s l k : Int) (a : Nat) (r q x : Bool) (f : Int) (w : World) (t : Int) (κ m A : Nat) (tp : Nat) (h1 : k.tmod 4 = t) (h2 : -4 < t) (h3 : t < 4) (h4 : (t + 4).tmod 4 = (κ : Int)) (h10 : t % 4 = (κ : Int)) (h11 : (IntKind.i64.wrap (t + 4)).tmod 4 = (κ : Int)) (h5 : bits .and .i64 f 15 = (m : Int)) (h6 : (a : Int).tmod (tp : Nat) = (A : Int)) (h7 : (a : Int) % (tp : Nat) = (A : Int)) (h8 : ¬ ((tp : Nat) : Int) = 0) (h9 : ¬ tp = 0)
    (c4 : ∀ w, Calls Try.prog 58 #[.int .i64 s] w fun e w' => e = .returned (.int .u64 (tp : Nat)) ∧ w' = w) (hκ : κ = 1) (hl : l ≠ 0) (hl3 : l ≠ 3) (mm B : Nat) (j1 : (A : Int).tmod 4096 = (mm : Int)) (j2 : (A : Int) % 4096 = (mm : Int)) (j3 : (A : Int) - (mm : Int) = (B : Int)) (j4 : IntKind.u64.wrap (B : Int) = (B : Int)) :
    Calls Try.prog 27 #[.int .i64 s, .int .i64 l, .agg #[.int .i64 k, .int .u64 (a : Int), .bool r, .bool q, .bool x, .int .i64 f]] w fun e w' => e = .returned (.agg #[.int .i64 κ, .int .u64 (B : Int), .bool false, .bool false, .bool false, .int .i64 (m : Int)]) ∧ Kp w w' := by
  have l0 : (l == 0) = false := by rw [beq_eq_false_iff_ne]; exact hl
  have l3 : (l == 3) = false := by rw [beq_eq_false_iff_ne]; exact hl3
  have HKK : Hid (κ = 1) := hκ
  clear hκ
  have J1 : Hid _ := j1
  have J2 : Hid _ := j2
  have J3 : Hid _ := j3
  have J4 : Hid _ := j4
  clear j1 j2 j3 j4
  go_enter Try.func27, Try.ntmps27
  go_wp2_with fail
  obtain ⟨W1, hW1⟩ : ∃ W1, W1 = (w.alloc (.cells #[.int .i64 k, .int .u64 (a : Int), .bool r, .bool q, .bool x, .int .i64 f] 73)).alloc (.cells #[.int .i64 0, .int .u64 0, .bool false, .bool false, .bool false, .int .i64 0] 73) := ⟨_, rfl⟩
  obtain ⟨b6, hb6⟩ : ∃ b6, b6 = w.heap.size + 1 := ⟨_, rfl⟩
  obtain ⟨b5, hb5⟩ : ∃ b5, b5 = w.heap.size := ⟨_, rfl⟩
  have B5 : BX W1 b5 k a r q x f := by rw [hW1, hb5]; exact (BX.made w k a r q x f).kp ((Kp.refl _).alloc _)
  have B6 : BX W1 b6 0 0 false false false 0 := by
    have := BX.made (w.alloc (.cells #[.int .i64 k, .int .u64 (a : Int), .bool r, .bool q, .bool x, .int .i64 f] 73)) 0 0 false false false 0
    rw [hW1, hb6]
    simpa using this
  have HK1 : Hid (Kp w W1) := by rw [hW1]; exact ((Kp.refl w).alloc _).alloc _
  have HL : Hid (w.heap.size ≤ b6) := by show w.heap.size ≤ b6; omega
  have HB1 : Hid (BX W1 b6 0 0 false false false 0) := B6
  rw [← hW1, ← hb6, ← hb5]
  clear hW1 hb6 hb5 B6
  have x0 := B5.c0
  have x1 := B5.c1
  have x2 := B5.c2
  have x3 := B5.c3
  have x4 := B5.c4
  have x5 := B5.c5
  clear B5
  go_region_held3 (fun w' => w'.cell? ⟨b5, 0, none⟩ = some (.int .i64 k) ∧ w'.cell? ⟨b5, 1, none⟩ = some (.int .u64 (a : Int)) ∧ w'.cell? ⟨b5, 2, none⟩ = some (.bool r) ∧ w'.cell? ⟨b5, 3, none⟩ = some (.bool q) ∧ w'.cell? ⟨b5, 4, none⟩ = some (.bool x) ∧ w'.cell? ⟨b5, 5, none⟩ = some (.int .i64 f)) (first | go_keep) (first | (go_at_call 58; go_must (with_reducible refine (c4 _).mono ?_); rintro e w' ⟨rfl, rfl⟩))
  all_goals
    obtain ⟨W2, hW2⟩ : ∃ W2, W2 = (W1.alloc (.cells #[.int .i64 κ, .int .u64 (A : Int), .bool r, .bool q, .bool x, .int .i64 (m : Int)] 73)).drew := ⟨_, rfl⟩
    obtain ⟨b7, hb7⟩ : ∃ b7, b7 = W1.heap.size := ⟨_, rfl⟩
    have B7 : BX W2 b7 κ A r q x m := by rw [hW2, hb7]; exact BX.made W1 κ A r q x m
    have B6 : BX W2 b6 0 0 false false false 0 := by rw [hW2]; exact HB1.out.kp ((Kp.refl _).alloc _).drew
    have HK : Hid (Kp w W2) := by rw [hW2]; exact (HK1.out.alloc _).drew
    have hne : b6 ≠ b7 := by have := HB1.out.lt; omega
    have HL7 : Hid (w.heap.size ≤ b7) := by show w.heap.size ≤ b7; have := HB1.out.lt; have := HL.out; omega
    have HB7 : Hid (BX W2 b7 κ A r q x m) := B7
    have HB6 : Hid (BX W2 b6 0 0 false false false 0) := B6
    rw [← hW2, ← hb7]
    clear hW2 hb7 x0 x1 x2 x3 x4 x5 HK1 HB1 h1 h2 h3 h4 h5 h6 h7 h8 h9 h10 h11 c4 B6 B7
    have q1 : ((κ : Int) == 0) = false := by rw [beq_eq_false_iff_ne]; have := HKK.out; omega
    have q2 : ((κ : Int) == 3) = false := by rw [beq_eq_false_iff_ne]; have := HKK.out; omega
    have q3 : ((κ : Int) == 1) = true := by rw [HKK.out]; rfl
    have q4 : ((κ : Int) == 2) = false := by rw [beq_eq_false_iff_ne]; have := HKK.out; omega
    have v0 := HB7.out.c0
    have v1 := HB7.out.c1
    have v2 := HB7.out.c2
    have v3 := HB7.out.c3
    have v4 := HB7.out.c4
    have v5 := HB7.out.c5
    have z0 := HB7.out.fz 0
    have z1 := HB7.out.fz 1
    have z2 := HB7.out.fz 2
    have z3 := HB7.out.fz 3
    have z4 := HB7.out.fz 4
    have z5 := HB7.out.fz 5
    go_wp2_with fail
    obtain ⟨W3, hW3⟩ : ∃ W3, W3 = ((((W2.setCell ⟨b7, 2, none⟩ (.bool false)).setCell ⟨b7, 3, none⟩ (.bool false)).setCell ⟨b7, 4, none⟩ (.bool false)).setCell ⟨b7, 3, none⟩ (.bool false)) := ⟨_, rfl⟩
    have B7 : BX W3 b7 κ A false false false m := by rw [hW3]; exact ((((HB7.out.set2 false).set3 false).set4 false).set3 false)
    have B6 : BX W3 b6 0 0 false false false 0 := by rw [hW3]; exact ((((HB6.out.setO 2 _ hne).setO 3 _ hne).setO 4 _ hne).setO 3 _ hne)
    have HK3 : Hid (Kp w W3) := by rw [hW3]; exact ((((HK.out.set _ _ HL7.out).set _ _ HL7.out).set _ _ HL7.out).set _ _ HL7.out)
    have H7 : Hid (BX W3 b7 κ A false false false m) := B7
    have H6 : Hid (BX W3 b6 0 0 false false false 0) := B6
    rw [← hW3]
    clear hW3 B6 B7 HK HB6 HB7 v0 v1 v2 v3 v4 v5 z0 z1 z2 z3 z4 z5
    have v1 := H7.out.c1
    have z1 := H7.out.fz 1
    have j1 := J1.out
    have j2 := J2.out
    have j3 := J3.out
    go_region
    all_goals
      (try rw [J4.out])
      obtain ⟨W4, hW4⟩ : ∃ W4, W4 = (W3.setCell ⟨b7, 1, none⟩ (.int .u64 (B : Int))).drew := ⟨_, rfl⟩
      have B7 : BX W4 b7 κ B false false false m := by rw [hW4]; exact H7.out.set1 B
      have B6 : BX W4 b6 0 0 false false false 0 := by rw [hW4]; exact H6.out.setO 1 _ hne
      have HK4 : Hid (Kp w W4) := by rw [hW4]; exact (HK3.out.set _ _ HL7.out).drew
      have H6 : Hid (BX W4 b6 0 0 false false false 0) := B6
      rw [← hW4]
      have v0 := B7.c0
      have v1 := B7.c1
      have v2 := B7.c2
      have v3 := B7.c3
      have v4 := B7.c4
      have v5 := B7.c5
      have x0 := B6.c0
      have x1 := B6.c1
      have x2 := B6.c2
      have x3 := B6.c3
      have x4 := B6.c4
      have x5 := B6.c5
      have y0 := B6.fz 0
      have y1 := B6.fz 1
      have y2 := B6.fz 2
      have y3 := B6.fz 3
      have y4 := B6.fz 4
      have y5 := B6.fz 5
      clear hW4 B6 B7
      go_wp2_with fail
      refine bodyPost_ret (res_d rfl rfl (BX.put H6.out κ B false false false m)) rfl ⟨rfl, HK4.out.putD HL.out⟩

set_option maxHeartbeats 8000000 in
set_option maxRecDepth 10000 in
theorem near_12 (s l k : Int) (a : Nat) (r q x : Bool) (f : Int) (w : World) (t : Int) (κ m A : Nat) (tp : Nat) (h1 : k.tmod 4 = t) (h2 : -4 < t) (h3 : t < 4) (h4 : (t + 4).tmod 4 = (κ : Int)) (h10 : t % 4 = (κ : Int)) (h11 : (IntKind.i64.wrap (t + 4)).tmod 4 = (κ : Int)) (h5 : bits .and .i64 f 15 = (m : Int)) (h6 : (a : Int).tmod (tp : Nat) = (A : Int)) (h7 : (a : Int) % (tp : Nat) = (A : Int)) (h8 : ¬ ((tp : Nat) : Int) = 0) (h9 : ¬ tp = 0)
    (c4 : ∀ w, Calls Try.prog 58 #[.int .i64 s] w fun e w' => e = .returned (.int .u64 (tp : Nat)) ∧ w' = w) (hκ : κ = 2) (hl : l ≠ 0) (hl3 : l ≠ 3) (un : Nat) (c5 : ∀ w, Calls Try.prog 59 #[.int .i64 l] w fun e w' => e = .returned (.int .u64 (un : Nat)) ∧ w' = w) (hu : 0 < un) (mm B : Nat) (j1 : (A : Int).tmod (un : Nat) = (mm : Int)) (j2 : (A : Int) % (un : Nat) = (mm : Int)) (j3 : (A : Int) - (mm : Int) = (B : Int)) (j4 : IntKind.u64.wrap (B : Int) = (B : Int)) :
    Calls Try.prog 27 #[.int .i64 s, .int .i64 l, .agg #[.int .i64 k, .int .u64 (a : Int), .bool r, .bool q, .bool x, .int .i64 f]] w fun e w' => e = .returned (.agg #[.int .i64 κ, .int .u64 (B : Int), .bool r, .bool (q && r), .bool x, .int .i64 (m : Int)]) ∧ Kp w w' := by
  have l0 : (l == 0) = false := by rw [beq_eq_false_iff_ne]; exact hl
  have l3 : (l == 3) = false := by rw [beq_eq_false_iff_ne]; exact hl3
  have HKK : Hid (κ = 2) := hκ
  have HU : Hid (0 < un) := hu
  have C5 : Aside _ := c5
  clear hκ hu c5
  have J1 : Hid _ := j1
  have J2 : Hid _ := j2
  have J3 : Hid _ := j3
  have J4 : Hid _ := j4
  clear j1 j2 j3 j4
  go_enter Try.func27, Try.ntmps27
  go_wp2_with fail
  obtain ⟨W1, hW1⟩ : ∃ W1, W1 = (w.alloc (.cells #[.int .i64 k, .int .u64 (a : Int), .bool r, .bool q, .bool x, .int .i64 f] 73)).alloc (.cells #[.int .i64 0, .int .u64 0, .bool false, .bool false, .bool false, .int .i64 0] 73) := ⟨_, rfl⟩
  obtain ⟨b6, hb6⟩ : ∃ b6, b6 = w.heap.size + 1 := ⟨_, rfl⟩
  obtain ⟨b5, hb5⟩ : ∃ b5, b5 = w.heap.size := ⟨_, rfl⟩
  have B5 : BX W1 b5 k a r q x f := by rw [hW1, hb5]; exact (BX.made w k a r q x f).kp ((Kp.refl _).alloc _)
  have B6 : BX W1 b6 0 0 false false false 0 := by
    have := BX.made (w.alloc (.cells #[.int .i64 k, .int .u64 (a : Int), .bool r, .bool q, .bool x, .int .i64 f] 73)) 0 0 false false false 0
    rw [hW1, hb6]
    simpa using this
  have HK1 : Hid (Kp w W1) := by rw [hW1]; exact ((Kp.refl w).alloc _).alloc _
  have HL : Hid (w.heap.size ≤ b6) := by show w.heap.size ≤ b6; omega
  have HB1 : Hid (BX W1 b6 0 0 false false false 0) := B6
  rw [← hW1, ← hb6, ← hb5]
  clear hW1 hb6 hb5 B6
  have x0 := B5.c0
  have x1 := B5.c1
  have x2 := B5.c2
  have x3 := B5.c3
  have x4 := B5.c4
  have x5 := B5.c5
  clear B5
  go_region_held3 (fun w' => w'.cell? ⟨b5, 0, none⟩ = some (.int .i64 k) ∧ w'.cell? ⟨b5, 1, none⟩ = some (.int .u64 (a : Int)) ∧ w'.cell? ⟨b5, 2, none⟩ = some (.bool r) ∧ w'.cell? ⟨b5, 3, none⟩ = some (.bool q) ∧ w'.cell? ⟨b5, 4, none⟩ = some (.bool x) ∧ w'.cell? ⟨b5, 5, none⟩ = some (.int .i64 f)) (first | go_keep) (first | (go_at_call 58; go_must (with_reducible refine (c4 _).mono ?_); rintro e w' ⟨rfl, rfl⟩))
  all_goals
    obtain ⟨W2, hW2⟩ : ∃ W2, W2 = (W1.alloc (.cells #[.int .i64 κ, .int .u64 (A : Int), .bool r, .bool q, .bool x, .int .i64 (m : Int)] 73)).drew := ⟨_, rfl⟩
    obtain ⟨b7, hb7⟩ : ∃ b7, b7 = W1.heap.size := ⟨_, rfl⟩
    have B7 : BX W2 b7 κ A r q x m := by rw [hW2, hb7]; exact BX.made W1 κ A r q x m
    have B6 : BX W2 b6 0 0 false false false 0 := by rw [hW2]; exact HB1.out.kp ((Kp.refl _).alloc _).drew
    have HK : Hid (Kp w W2) := by rw [hW2]; exact (HK1.out.alloc _).drew
    have hne : b6 ≠ b7 := by have := HB1.out.lt; omega
    have HL7 : Hid (w.heap.size ≤ b7) := by show w.heap.size ≤ b7; have := HB1.out.lt; have := HL.out; omega
    have HB7 : Hid (BX W2 b7 κ A r q x m) := B7
    have HB6 : Hid (BX W2 b6 0 0 false false false 0) := B6
    rw [← hW2, ← hb7]
    clear hW2 hb7 x0 x1 x2 x3 x4 x5 HK1 HB1 h1 h2 h3 h4 h5 h6 h7 h8 h9 h10 h11 c4 B6 B7
    have q1 : ((κ : Int) == 0) = false := by rw [beq_eq_false_iff_ne]; have := HKK.out; omega
    have q2 : ((κ : Int) == 3) = false := by rw [beq_eq_false_iff_ne]; have := HKK.out; omega
    have q3 : ((κ : Int) == 1) = false := by rw [beq_eq_false_iff_ne]; have := HKK.out; omega
    have q4 : ((κ : Int) == 2) = true := by rw [HKK.out]; rfl
    have c5 := C5.out
    have v0 := HB7.out.c0
    have v1 := HB7.out.c1
    have v2 := HB7.out.c2
    have v3 := HB7.out.c3
    have v4 := HB7.out.c4
    have v5 := HB7.out.c5
    have z0 := HB7.out.fz 0
    have z1 := HB7.out.fz 1
    have z2 := HB7.out.fz 2
    have z3 := HB7.out.fz 3
    have z4 := HB7.out.fz 4
    have z5 := HB7.out.fz 5
    cases q
    · go_wp2_with (go_at_call 59; with_reducible refine (c5 _).mono ?_; rintro e w' ⟨rfl, rfl⟩)
      obtain ⟨W3, hW3⟩ : ∃ W3, W3 = (W2.setCell ⟨b7, 3, none⟩ (.bool false)) := ⟨_, rfl⟩
      have B7 : BX W3 b7 κ A r false x m := by rw [hW3]; exact (HB7.out.set3 false)
      have B6 : BX W3 b6 0 0 false false false 0 := by rw [hW3]; exact (HB6.out.setO 3 _ hne)
      have HK3 : Hid (Kp w W3) := by rw [hW3]; exact (HK.out.set _ _ HL7.out)
      have H7 : Hid (BX W3 b7 κ A r false x m) := B7
      have H6 : Hid (BX W3 b6 0 0 false false false 0) := B6
      rw [← hW3]
      clear hW3 B6 B7 HK HB6 HB7 v0 v1 v2 v3 v4 v5 z0 z1 z2 z3 z4 z5
      have v1 := H7.out.c1
      have z1 := H7.out.fz 1
      have j1 := J1.out
      have j2 := J2.out
      have j3 := J3.out
      have u1 : ¬ ((un : Nat) : Int) = 0 := by have := HU.out; omega
      have u2 : ¬ un = 0 := by omega
      go_region
      all_goals
        (try rw [J4.out])
        obtain ⟨W4, hW4⟩ : ∃ W4, W4 = (W3.setCell ⟨b7, 1, none⟩ (.int .u64 (B : Int))).drew := ⟨_, rfl⟩
        have B7 : BX W4 b7 κ B r false x m := by rw [hW4]; exact H7.out.set1 B
        have B6 : BX W4 b6 0 0 false false false 0 := by rw [hW4]; exact H6.out.setO 1 _ hne
        have HK4 : Hid (Kp w W4) := by rw [hW4]; exact (HK3.out.set _ _ HL7.out).drew
        have H6 : Hid (BX W4 b6 0 0 false false false 0) := B6
        rw [← hW4]
        have v0 := B7.c0
        have v1 := B7.c1
        have v2 := B7.c2
        have v3 := B7.c3
        have v4 := B7.c4
        have v5 := B7.c5
        have x0 := B6.c0
        have x1 := B6.c1
        have x2 := B6.c2
        have x3 := B6.c3
        have x4 := B6.c4
        have x5 := B6.c5
        have y0 := B6.fz 0
        have y1 := B6.fz 1
        have y2 := B6.fz 2
        have y3 := B6.fz 3
        have y4 := B6.fz 4
        have y5 := B6.fz 5
        clear hW4 B6 B7
        go_wp2_with fail
        refine bodyPost_ret (res_d rfl rfl (BX.put H6.out κ B r false x m)) rfl ⟨rfl, HK4.out.putD HL.out⟩
    · go_wp2_with (go_at_call 59; with_reducible refine (c5 _).mono ?_; rintro e w' ⟨rfl, rfl⟩)
      obtain ⟨W3, hW3⟩ : ∃ W3, W3 = (W2.setCell ⟨b7, 3, none⟩ (.bool r)) := ⟨_, rfl⟩
      have B7 : BX W3 b7 κ A r r x m := by rw [hW3]; exact (HB7.out.set3 r)
      have B6 : BX W3 b6 0 0 false false false 0 := by rw [hW3]; exact (HB6.out.setO 3 _ hne)
      have HK3 : Hid (Kp w W3) := by rw [hW3]; exact (HK.out.set _ _ HL7.out)
      have H7 : Hid (BX W3 b7 κ A r r x m) := B7
      have H6 : Hid (BX W3 b6 0 0 false false false 0) := B6
      rw [← hW3]
      clear hW3 B6 B7 HK HB6 HB7 v0 v1 v2 v3 v4 v5 z0 z1 z2 z3 z4 z5
      have v1 := H7.out.c1
      have z1 := H7.out.fz 1
      have j1 := J1.out
      have j2 := J2.out
      have j3 := J3.out
      have u1 : ¬ ((un : Nat) : Int) = 0 := by have := HU.out; omega
      have u2 : ¬ un = 0 := by omega
      go_region
      all_goals
        (try rw [J4.out])
        obtain ⟨W4, hW4⟩ : ∃ W4, W4 = (W3.setCell ⟨b7, 1, none⟩ (.int .u64 (B : Int))).drew := ⟨_, rfl⟩
        have B7 : BX W4 b7 κ B r r x m := by rw [hW4]; exact H7.out.set1 B
        have B6 : BX W4 b6 0 0 false false false 0 := by rw [hW4]; exact H6.out.setO 1 _ hne
        have HK4 : Hid (Kp w W4) := by rw [hW4]; exact (HK3.out.set _ _ HL7.out).drew
        have H6 : Hid (BX W4 b6 0 0 false false false 0) := B6
        rw [← hW4]
        have v0 := B7.c0
        have v1 := B7.c1
        have v2 := B7.c2
        have v3 := B7.c3
        have v4 := B7.c4
        have v5 := B7.c5
        have x0 := B6.c0
        have x1 := B6.c1
        have x2 := B6.c2
        have x3 := B6.c3
        have x4 := B6.c4
        have x5 := B6.c5
        have y0 := B6.fz 0
        have y1 := B6.fz 1
        have y2 := B6.fz 2
        have y3 := B6.fz 3
        have y4 := B6.fz 4
        have y5 := B6.fz 5
        clear hW4 B6 B7
        go_wp2_with fail
        refine bodyPost_ret (res_d rfl rfl (BX.put H6.out κ B r r x m)) rfl ⟨rfl, HK4.out.putD HL.out⟩

end Go.Proofs.Ytclcickhgoiooaa
