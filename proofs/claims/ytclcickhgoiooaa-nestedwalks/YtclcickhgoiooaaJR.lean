/- Joined: NR, NS. -/
import Derived.Test.YtclcickhgoiooaaNE
import Derived.Test.YtclcickhgoiooaaNO
import Derived.Test.YtclcickhgoiooaaNQ
import Derived.Test.YtclcickhgoiooaaKB
/- nested: faults and Outs that are alike. -/
namespace Go.Proofs.Ytclcickhgoiooaa
open Go.RowKit
set_option maxRecDepth 10000

/-- Are two faults alike? -/
theorem eq_fault (x0 x1 x2 x3 x0' x1' x2' x3' : Int) (x4 x4' : Bool) (w : World) : (Op.equalIn 10000 35 (.agg #[.int .i64 x0, .int .i64 x1, .int .i64 x2, .int .u64 x3, .bool x4]) (.agg #[.int .i64 x0', .int .i64 x1', .int .i64 x2', .int .u64 x3', .bool x4'])).run Try.prog w =
    .ok ((x0 == x0') && (x1 == x1') && (x2 == x2') && (x3 == x3') && (x4 == x4')) w := by
  rw [show (10000 : Nat) = 9999 + 1 from rfl, run_equalIn_struct w 9999 _ _ _ (by kernel_rfl) (by kernel_rfl)]
  have e0 : (Op.equalIn 9999 3 (.int .i64 x0) (.int .i64 x0')).run Try.prog w = .ok (x0 == x0') w := run_equalIn_int w 9998 3 .i64 .i64 x0 x0' Try.underlying3
  have e1 : (Op.equalIn 9999 3 (.int .i64 x1) (.int .i64 x1')).run Try.prog w = .ok (x1 == x1') w := run_equalIn_int w 9998 3 .i64 .i64 x1 x1' Try.underlying3
  have e2 : (Op.equalIn 9999 3 (.int .i64 x2) (.int .i64 x2')).run Try.prog w = .ok (x2 == x2') w := run_equalIn_int w 9998 3 .i64 .i64 x2 x2' Try.underlying3
  have e3 : (Op.equalIn 9999 23 (.int .u64 x3) (.int .u64 x3')).run Try.prog w = .ok (x3 == x3') w := run_equalIn_int w 9998 23 .u64 .u64 x3 x3' Try.underlying23
  have e4 : (Op.equalIn 9999 4 (.bool x4) (.bool x4')).run Try.prog w = .ok (x4 == x4') w := run_equalIn_bool w 9998 4 x4 x4' Try.underlying4
  have h0 : ∀ (x0 x1 x2 x3 : Int) (x4 : Bool), (part 3 #[.int .i64 x0, .int .i64 x1, .int .i64 x2, .int .u64 x3, .bool x4] 0).run Try.prog w = .ok (.int .i64 x0) w := fun x0 x1 x2 x3 x4 => by simp [part, isAgg, run_underlying Try.underlying3]
  have h1 : ∀ (x0 x1 x2 x3 : Int) (x4 : Bool), (part 3 #[.int .i64 x0, .int .i64 x1, .int .i64 x2, .int .u64 x3, .bool x4] 1).run Try.prog w = .ok (.int .i64 x1) w := fun x0 x1 x2 x3 x4 => by simp [part, isAgg, run_underlying Try.underlying3]
  have h2 : ∀ (x0 x1 x2 x3 : Int) (x4 : Bool), (part 3 #[.int .i64 x0, .int .i64 x1, .int .i64 x2, .int .u64 x3, .bool x4] 2).run Try.prog w = .ok (.int .i64 x2) w := fun x0 x1 x2 x3 x4 => by simp [part, isAgg, run_underlying Try.underlying3]
  have h3 : ∀ (x0 x1 x2 x3 : Int) (x4 : Bool), (part 23 #[.int .i64 x0, .int .i64 x1, .int .i64 x2, .int .u64 x3, .bool x4] 3).run Try.prog w = .ok (.int .u64 x3) w := fun x0 x1 x2 x3 x4 => by simp [part, isAgg, run_underlying Try.underlying23]
  have h4 : ∀ (x0 x1 x2 x3 : Int) (x4 : Bool), (part 4 #[.int .i64 x0, .int .i64 x1, .int .i64 x2, .int .u64 x3, .bool x4] 4).run Try.prog w = .ok (.bool x4) w := fun x0 x1 x2 x3 x4 => by simp [part, isAgg, run_underlying Try.underlying4]
  generalize (x0 == x0') = c0 at *
  generalize (x1 == x1') = c1 at *
  generalize (x2 == x2') = c2 at *
  generalize (x3 == x3') = c3 at *
  generalize (x4 == x4') = c4 at *
  simp only [Program.fieldsOf, Try.underlying35, Op.eqFields]
  cases c0 <;> cases c1 <;> cases c2 <;> cases c3 <;> cases c4 <;> simp [h0, h1, h2, h3, h4, e0, e1, e2, e3, e4]
/-- Are two Outs alike? -/
theorem eq_out (x0 x1 x0' x1' : Int) (x2a x2b x2c x3a x3b x3c x2a' x2b' x2c' x3a' x3b' x3c' : Bool) (w : World) : (Op.equalIn 10000 33 (.agg #[.int .i64 x0, .int .u64 x1, .bool x2a, .bool x2b, .bool x2c, .bool x3a, .bool x3b, .bool x3c]) (.agg #[.int .i64 x0', .int .u64 x1', .bool x2a', .bool x2b', .bool x2c', .bool x3a', .bool x3b', .bool x3c'])).run Try.prog w =
    .ok ((x0 == x0') && (x1 == x1') && samP x2a x2b x2c x2a' x2b' x2c' && samP x3a x3b x3c x3a' x3b' x3c') w := by
  rw [show (10000 : Nat) = 9999 + 1 from rfl, run_equalIn_struct w 9999 _ _ _ (by kernel_rfl) (by kernel_rfl)]
  have e0 : (Op.equalIn 9999 3 (.int .i64 x0) (.int .i64 x0')).run Try.prog w = .ok (x0 == x0') w := run_equalIn_int w 9998 3 .i64 .i64 x0 x0' Try.underlying3
  have e1 : (Op.equalIn 9999 23 (.int .u64 x1) (.int .u64 x1')).run Try.prog w = .ok (x1 == x1') w := run_equalIn_int w 9998 23 .u64 .u64 x1 x1' Try.underlying23
  have e2 : (Op.equalIn 9999 31 (.agg #[.bool x2a, .bool x2b, .bool x2c]) (.agg #[.bool x2a', .bool x2b', .bool x2c'])).run Try.prog w = .ok (samP x2a x2b x2c x2a' x2b' x2c') w := eq_perm 9997 x2a x2b x2c x2a' x2b' x2c' w
  have e3 : (Op.equalIn 9999 31 (.agg #[.bool x3a, .bool x3b, .bool x3c]) (.agg #[.bool x3a', .bool x3b', .bool x3c'])).run Try.prog w = .ok (samP x3a x3b x3c x3a' x3b' x3c') w := eq_perm 9997 x3a x3b x3c x3a' x3b' x3c' w
  have h0 : ∀ (x0 x1 : Int) (x2a x2b x2c x3a x3b x3c : Bool), (part 3 #[.int .i64 x0, .int .u64 x1, .bool x2a, .bool x2b, .bool x2c, .bool x3a, .bool x3b, .bool x3c] 0).run Try.prog w = .ok (.int .i64 x0) w := fun x0 x1 x2a x2b x2c x3a x3b x3c => by simp [part, isAgg, run_underlying Try.underlying3]
  have h1 : ∀ (x0 x1 : Int) (x2a x2b x2c x3a x3b x3c : Bool), (part 23 #[.int .i64 x0, .int .u64 x1, .bool x2a, .bool x2b, .bool x2c, .bool x3a, .bool x3b, .bool x3c] 1).run Try.prog w = .ok (.int .u64 x1) w := fun x0 x1 x2a x2b x2c x3a x3b x3c => by simp [part, isAgg, run_underlying Try.underlying23]
  have h2 : ∀ (x0 x1 : Int) (x2a x2b x2c x3a x3b x3c : Bool), (part 31 #[.int .i64 x0, .int .u64 x1, .bool x2a, .bool x2b, .bool x2c, .bool x3a, .bool x3b, .bool x3c] 2).run Try.prog w = .ok (.agg #[.bool x2a, .bool x2b, .bool x2c]) w := fun x0 x1 x2a x2b x2c x3a x3b x3c => by simp [part, isAgg, run_underlying Try.underlying31]
  have h3 : ∀ (x0 x1 : Int) (x2a x2b x2c x3a x3b x3c : Bool), (part 31 #[.int .i64 x0, .int .u64 x1, .bool x2a, .bool x2b, .bool x2c, .bool x3a, .bool x3b, .bool x3c] 5).run Try.prog w = .ok (.agg #[.bool x3a, .bool x3b, .bool x3c]) w := fun x0 x1 x2a x2b x2c x3a x3b x3c => by simp [part, isAgg, run_underlying Try.underlying31]
  generalize (x0 == x0') = c0 at *
  generalize (x1 == x1') = c1 at *
  generalize samP x2a x2b x2c x2a' x2b' x2c' = c2 at *
  generalize samP x3a x3b x3c x3a' x3b' x3c' = c3 at *
  simp only [Program.fieldsOf, Try.underlying33, Op.eqFields]
  cases c0 <;> cases c1 <;> cases c2 <;> cases c3 <;> simp [h0, h1, h2, h3, e0, e1, e2, e3]

end Go.Proofs.Ytclcickhgoiooaa

/- demesnelaw14: what the world without edits tells of a few. -/
namespace Go.Proofs.Ytclcickhgoiooaa
open Go.RowKit
set_option maxRecDepth 10000

theorem t1_o : seO (rdM (lay3 16)) 4096 20488 1 = ⟨12, 5, true, true, true, true, true, false⟩ := by kernel_rfl
theorem t1_f : seF (rdM (lay3 16)) 4096 20488 1 = zF := by kernel_rfl
theorem t1_n : slN (rdM (lay3 16)) 4096 20488 = 4 := by kernel_rfl
theorem t3_f : seF (rdM (lay3 16)) 4096 16384 2 = ⟨2, 2, -1, 16384, true⟩ := by kernel_rfl
theorem t2_l : flL (rdM (lay3 16)) 4096 0 4104 = ⟨3, 12296, 20675, ⟨3, 20480, true, true, false, 0⟩⟩ := by kernel_rfl
theorem t2_k : (flF (rdM (lay3 16)) 4096 0 4104).k = 0 := by kernel_rfl
theorem t2_n : flN (rdM (lay3 16)) 4096 0 4104 = 20 := by kernel_rfl

theorem t2_c : onC (rdM (lay3 16)) 4096 0 4104 1 ⟨12, 5, true, true, false, true, true, false⟩ zF 24 := by
  refine .inr (.inr (.inr ⟨t2_k, by kernel_rfl, by kernel_rfl, by kernel_rfl, rfl, by kernel_rfl⟩))
theorem t3_o : seO (rdM (lay3 16)) 4096 16384 2 = zO := by kernel_rfl
theorem t3_n : slN (rdM (lay3 16)) 4096 16384 = 4 := by kernel_rfl

/-- The blocks of an answer. -/
def box2 (w : World) (o : OV) (f : FV) : World := (w.alloc (.cells (encO o).toArray 33)).alloc (.cells (encF f).toArray 35)
theorem box2_kp (w : World) (o : OV) (f : FV) : Kp w (box2 w o f) := ((Kp.refl w).alloc _).alloc _
theorem box2_size (w : World) (o : OV) (f : FV) : (box2 w o f).heap.size = w.heap.size + 2 := by simp [box2]
theorem box2_o (w : World) (o : OV) (f : FV) : RX (box2 w o f) w.heap.size 33 (encO o) := (RX.made w _ _).kp ((Kp.refl _).alloc _)
theorem box2_f (w : World) (o : OV) (f : FV) : RX (box2 w o f) (w.heap.size + 1) 35 (encF f) := by
  have := RX.made (w.alloc (.cells (encO o).toArray 33)) 35 (encF f)
  rw [show (w.alloc (.cells (encO o).toArray 33)).heap.size = w.heap.size + 1 by simp] at this
  exact this
theorem WW.boxes {W w : World} {X : Nat → Prop} {p o : Nat} {M : Nat → Nat → Nat} (h : WW W X p o M w) (a : OV) (f : FV) : WW W (fun i => X i ∨ w.heap.size ≤ i ∧ i < w.heap.size + 2) p o M (box2 w a f) := by
  have h1 := h.more (box2_kp w a f) w.heap.size (Nat.le_refl _) (by rw [box2_size]; omega)
  obtain ⟨S, B, b1, b2, b3, b4, b5⟩ := h
  refine ⟨S, B, b1, b2.kp (box2_kp w a f), fun i hi => ⟨(b3 i hi).1, fun c => ?_⟩, fun i hi => ?_, b5.trans (box2_kp w a f)⟩
  · rcases c with c | c
    · exact (b3 i hi).2 c
    · have := b2.own i hi; omega
  · rw [box2_size]
    rcases hi with hi | hi
    · have := b4 i hi; omega
    · omega

set_option maxHeartbeats 8000000 in
theorem ltold_any (w : World) : Calls Try.prog 10 #[] w fun e w' => e = .returned (.bool true) ∧ Kp w w' := by
  have kw : Calls Try.prog 5 #[.slice none 0 0] w fun e w' => ∃ p, e = .returned (.tuple #[.pointer (some ⟨p, 0, none⟩), .bool true]) ∧ Hid (WW w (fun _ => False) p 100 (lay3 16) w') :=
    (world_any none 0 0 (fun _ => ⟨0, 0, ⟨0, 0, false, false, false, 0⟩, false, 0⟩) w (fun i hi => by omega)).mono fun e w' ⟨p, M, e1, e2, e3⟩ => ⟨p, e1, (e3 rfl ▸ e2)⟩
  have kn : ∀ v, Calls Try.prog 6 #[.pointer none, .agg #[.int .u64 0, .bool false, .int .u64 0], .int .u64 0, .int .i64 1] v fun e w' => e = .returned (.tuple #[.agg #[.int .i64 0, .int .u64 0, .bool false, .bool false, .bool false, .bool false, .bool false, .bool false], .agg #[.int .i64 2, .int .i64 4, .int .i64 (-1), .int .u64 0, .bool false], .int .i64 0]) ∧ Kp v w' := fun v => wnil_any 0 0 0 1 (by decide) v
  have kf : Aside (∀ v, Calls Try.prog 25 #[.int .i64 5] v fun e w' => e = .returned (.int .i64 12) ∧ Kp v w') := fun v => (lframe_any 5 (by decide) v).mono fun e w' ⟨e1, e2⟩ => ⟨e1, e2 ▸ Kp.refl _⟩
  go_enter Try.func10, Try.ntmps10
  go_wp2_with fail
  with_reducible refine kw.mono ?_
  rintro e v1 ⟨p, rfl, HH1⟩
  have H1 := HH1.out
  clear kw HH1
  have k1 : Calls Try.prog 6 #[.pointer (some ⟨p, 0, none⟩), .agg #[.int .u64 4096, .bool false, .int .u64 0], .int .u64 20488, .int .i64 1] v1 fun e w' => e = .returned (.tuple #[.agg #[.int .i64 12, .int .u64 5, .bool true, .bool true, .bool true, .bool true, .bool true, .bool false], .agg #[.int .i64 0, .int .i64 0, .int .i64 0, .int .u64 0, .bool false], .int .i64 4]) ∧ Hid (WW w (fun _ => False) p 104 (lay3 16) w' ∧ Fr (OuX w (fun _ => False)) v1 w') := by
    have := woff_any H1 4096 0 20488 1 (by decide) (by decide) (by decide)
    rw [t1_o, t1_f, t1_n] at this
    exact this
  clear H1
  go_wp2_with fail
  with_reducible refine k1.mono ?_
  rintro _ w1 ⟨rfl, HH⟩
  obtain ⟨v2, hv2⟩ : ∃ v, v = box2 w1 ⟨12, 5, true, true, true, true, true, false⟩ ⟨0, 0, 0, 0, false⟩ := ⟨_, rfl⟩
  have H2 := HH.out.1.boxes ⟨12, 5, true, true, true, true, true, false⟩ ⟨0, 0, 0, 0, false⟩
  have O1 := box2_o w1 ⟨12, 5, true, true, true, true, true, false⟩ ⟨0, 0, 0, 0, false⟩
  have F1 := box2_f w1 ⟨12, 5, true, true, true, true, true, false⟩ ⟨0, 0, 0, 0, false⟩
  rw [← hv2] at H2 O1 F1
  have he2 : v2 = (w1.alloc (.cells #[.int .i64 12, .int .u64 5, .bool true, .bool true, .bool true, .bool true, .bool true, .bool false] 33)).alloc (.cells #[.int .i64 0, .int .i64 0, .int .i64 0, .int .u64 0, .bool false] 35) := hv2
  clear HH k1 hv2
  have k2 : Calls Try.prog 6 #[.pointer (some ⟨p, 0, none⟩), .agg #[.int .u64 4096, .bool true, .int .u64 0], .int .u64 4104, .int .i64 1] v2 fun e w' => e = .returned (.tuple #[.agg #[.int .i64 12, .int .u64 5, .bool true, .bool true, .bool false, .bool true, .bool true, .bool false], .agg #[.int .i64 0, .int .i64 0, .int .i64 0, .int .u64 0, .bool false], .int .i64 24]) ∧ Hid (WW w (fun i => (fun _ => False) i ∨ w1.heap.size ≤ i ∧ i < w1.heap.size + 2) p 128 (lay3 16) w' ∧ Fr (OuX w (fun i => (fun _ => False) i ∨ w1.heap.size ≤ i ∧ i < w1.heap.size + 2)) v2 w') := by
    have := won_any H2 4096 0 4104 1 (by decide) (by decide) (by decide) (by decide) (by decide) _ _ _ t2_c
    exact this
  clear H2
  go_wp2_with fail
  rw [← he2]
  clear he2
  with_reducible refine k2.mono ?_
  rintro _ w2 ⟨rfl, HH⟩
  obtain ⟨v3, hv3⟩ : ∃ v, v = box2 w2 ⟨12, 5, true, true, false, true, true, false⟩ ⟨0, 0, 0, 0, false⟩ := ⟨_, rfl⟩
  have H3 := HH.out.1.boxes ⟨12, 5, true, true, false, true, true, false⟩ ⟨0, 0, 0, 0, false⟩
  have O2 := box2_o w2 ⟨12, 5, true, true, false, true, true, false⟩ ⟨0, 0, 0, 0, false⟩
  have F2 := box2_f w2 ⟨12, 5, true, true, false, true, true, false⟩ ⟨0, 0, 0, 0, false⟩
  have O1 := (O1.fr HH.out.2 (fun c => c.2 (.inr ⟨Nat.le_refl _, by omega⟩))).kp (box2_kp w2 ⟨12, 5, true, true, false, true, true, false⟩ ⟨0, 0, 0, 0, false⟩)
  have F1 := (F1.fr HH.out.2 (fun c => c.2 (.inr ⟨by omega, by omega⟩))).kp (box2_kp w2 ⟨12, 5, true, true, false, true, true, false⟩ ⟨0, 0, 0, 0, false⟩)
  rw [← hv3] at H3 O2 F2 O1 F1
  have he3 : v3 = (w2.alloc (.cells #[.int .i64 12, .int .u64 5, .bool true, .bool true, .bool false, .bool true, .bool true, .bool false] 33)).alloc (.cells #[.int .i64 0, .int .i64 0, .int .i64 0, .int .u64 0, .bool false] 35) := hv3
  clear HH k2 hv3
  have k3 : Calls Try.prog 28 #[.pointer (some ⟨p, 0, none⟩), .int .u64 4096, .int .u64 16384, .int .i64 2] v3 fun e w' => e = .returned (.tuple #[.agg #[.int .i64 0, .int .u64 0, .bool false, .bool false, .bool false, .bool false, .bool false, .bool false], .agg #[.int .i64 2, .int .i64 2, .int .i64 (-1), .int .u64 16384, .bool true], .int .i64 4]) ∧ Hid (WW w (fun i => (fun i => (fun _ => False) i ∨ w1.heap.size ≤ i ∧ i < w1.heap.size + 2) i ∨ w2.heap.size ≤ i ∧ i < w2.heap.size + 2) p 132 (lay3 16) w' ∧ Fr (OuX w (fun i => (fun i => (fun _ => False) i ∨ w1.heap.size ≤ i ∧ i < w1.heap.size + 2) i ∨ w2.heap.size ≤ i ∧ i < w2.heap.size + 2)) v3 w') := by
    have := wsecond_any H3 4096 16384 2 (by decide) (by decide) (by decide)
    rw [t3_o, t3_f, t3_n] at this
    exact this
  clear H3
  go_wp2_with fail
  rw [← he3]
  clear he3
  with_reducible refine k3.mono ?_
  rintro _ w3 ⟨rfl, HH⟩
  obtain ⟨v4, hv4⟩ : ∃ v, v = box2 w3 ⟨0, 0, false, false, false, false, false, false⟩ ⟨2, 2, (-1), 16384, true⟩ := ⟨_, rfl⟩
  have H4 := HH.out.1.boxes ⟨0, 0, false, false, false, false, false, false⟩ ⟨2, 2, (-1), 16384, true⟩
  have O3 := box2_o w3 ⟨0, 0, false, false, false, false, false, false⟩ ⟨2, 2, (-1), 16384, true⟩
  have F3 := box2_f w3 ⟨0, 0, false, false, false, false, false, false⟩ ⟨2, 2, (-1), 16384, true⟩
  have O1 := (O1.fr HH.out.2 (fun c => c.2 (.inl (.inr ⟨Nat.le_refl _, by omega⟩)))).kp (box2_kp w3 ⟨0, 0, false, false, false, false, false, false⟩ ⟨2, 2, (-1), 16384, true⟩)
  have F1 := (F1.fr HH.out.2 (fun c => c.2 (.inl (.inr ⟨by omega, by omega⟩)))).kp (box2_kp w3 ⟨0, 0, false, false, false, false, false, false⟩ ⟨2, 2, (-1), 16384, true⟩)
  have O2 := (O2.fr HH.out.2 (fun c => c.2 (.inr ⟨Nat.le_refl _, by omega⟩))).kp (box2_kp w3 ⟨0, 0, false, false, false, false, false, false⟩ ⟨2, 2, (-1), 16384, true⟩)
  have F2 := (F2.fr HH.out.2 (fun c => c.2 (.inr ⟨by omega, by omega⟩))).kp (box2_kp w3 ⟨0, 0, false, false, false, false, false, false⟩ ⟨2, 2, (-1), 16384, true⟩)
  rw [← hv4] at H4 O3 F3 O1 F1 O2 F2
  have he4 : v4 = (w3.alloc (.cells #[.int .i64 0, .int .u64 0, .bool false, .bool false, .bool false, .bool false, .bool false, .bool false] 33)).alloc (.cells #[.int .i64 2, .int .i64 2, .int .i64 (-1), .int .u64 16384, .bool true] 35) := hv4
  clear HH k3 hv4
  go_wp2_with fail
  rw [← he4]
  clear he4
  with_reducible refine (kn _).mono ?_
  rintro _ w4 ⟨rfl, K4⟩
  have K5 : Kp v4 (box2 w4 ⟨0, 0, false, false, false, false, false, false⟩ ⟨2, 4, -1, 0, false⟩) := K4.trans (box2_kp w4 _ _)
  have F4 := box2_f w4 ⟨0, 0, false, false, false, false, false, false⟩ ⟨2, 4, -1, 0, false⟩
  obtain ⟨w9, hw9⟩ : ∃ w9, w9 = box2 w4 ⟨0, 0, false, false, false, false, false, false⟩ ⟨2, 4, -1, 0, false⟩ := ⟨_, rfl⟩
  rw [← hw9] at K5 F4
  have he5 : w9 = (w4.alloc (.cells #[.int .i64 0, .int .u64 0, .bool false, .bool false, .bool false, .bool false, .bool false, .bool false] 33)).alloc (.cells #[.int .i64 2, .int .i64 4, .int .i64 (-1), .int .u64 0, .bool false] 35) := hw9
  have O1 := O1.kp K5
  have F1 := F1.kp K5
  have O2 := O2.kp K5
  have F2 := F2.kp K5
  have F3 := F3.kp K5
  have HK : Hid (Kp w w9) := H4.k.trans K5
  clear hw9 K4 K5 kn H4 O3
  go_wp2_with fail
  rw [← he5]
  clear he5
  have a0 : ∀ P : KeptBy w9, P.v.cell? ⟨w1.heap.size, 0, none⟩ = some (.int .i64 12) := fun P => (O1.kp P.k).cell (j := 0) rfl
  have a1 : ∀ P : KeptBy w9, P.v.cell? ⟨w1.heap.size, 1, none⟩ = some (.int .u64 5) := fun P => (O1.kp P.k).cell (j := 1) rfl
  have b0 : ∀ P : KeptBy w9, P.v.cell? ⟨w1.heap.size + 1, 0, none⟩ = some (.int .i64 0) := fun P => (F1.kp P.k).cell (j := 0) rfl
  have b1 : ∀ P : KeptBy w9, P.v.cell? ⟨w1.heap.size + 1, 1, none⟩ = some (.int .i64 0) := fun P => (F1.kp P.k).cell (j := 1) rfl
  have b2 : ∀ P : KeptBy w9, P.v.cell? ⟨w1.heap.size + 1, 2, none⟩ = some (.int .i64 0) := fun P => (F1.kp P.k).cell (j := 2) rfl
  have b3 : ∀ P : KeptBy w9, P.v.cell? ⟨w1.heap.size + 1, 3, none⟩ = some (.int .u64 0) := fun P => (F1.kp P.k).cell (j := 3) rfl
  have b4 : ∀ P : KeptBy w9, P.v.cell? ⟨w1.heap.size + 1, 4, none⟩ = some (.bool false) := fun P => (F1.kp P.k).cell (j := 4) rfl
  have c0 : ∀ P : KeptBy w9, P.v.cell? ⟨w2.heap.size, 0, none⟩ = some (.int .i64 12) := fun P => (O2.kp P.k).cell (j := 0) rfl
  have d0 : ∀ P : KeptBy w9, P.v.cell? ⟨w2.heap.size + 1, 0, none⟩ = some (.int .i64 0) := fun P => (F2.kp P.k).cell (j := 0) rfl
  have d1 : ∀ P : KeptBy w9, P.v.cell? ⟨w2.heap.size + 1, 1, none⟩ = some (.int .i64 0) := fun P => (F2.kp P.k).cell (j := 1) rfl
  have d2 : ∀ P : KeptBy w9, P.v.cell? ⟨w2.heap.size + 1, 2, none⟩ = some (.int .i64 0) := fun P => (F2.kp P.k).cell (j := 2) rfl
  have d3 : ∀ P : KeptBy w9, P.v.cell? ⟨w2.heap.size + 1, 3, none⟩ = some (.int .u64 0) := fun P => (F2.kp P.k).cell (j := 3) rfl
  have d4 : ∀ P : KeptBy w9, P.v.cell? ⟨w2.heap.size + 1, 4, none⟩ = some (.bool false) := fun P => (F2.kp P.k).cell (j := 4) rfl
  have e0 : ∀ P : KeptBy w9, P.v.cell? ⟨w3.heap.size + 1, 0, none⟩ = some (.int .i64 2) := fun P => (F3.kp P.k).cell (j := 0) rfl
  have e1 : ∀ P : KeptBy w9, P.v.cell? ⟨w3.heap.size + 1, 1, none⟩ = some (.int .i64 2) := fun P => (F3.kp P.k).cell (j := 1) rfl
  have e2 : ∀ P : KeptBy w9, P.v.cell? ⟨w3.heap.size + 1, 2, none⟩ = some (.int .i64 (-1)) := fun P => (F3.kp P.k).cell (j := 2) rfl
  have e3 : ∀ P : KeptBy w9, P.v.cell? ⟨w3.heap.size + 1, 3, none⟩ = some (.int .u64 16384) := fun P => (F3.kp P.k).cell (j := 3) rfl
  have e4 : ∀ P : KeptBy w9, P.v.cell? ⟨w3.heap.size + 1, 4, none⟩ = some (.bool true) := fun P => (F3.kp P.k).cell (j := 4) rfl
  have g1 : ∀ P : KeptBy w9, P.v.cell? ⟨w4.heap.size + 1, 1, none⟩ = some (.int .i64 4) := fun P => (F4.kp P.k).cell (j := 1) rfl
  have q1 : ∀ v : World, (Op.equalIn 10000 35 (.agg #[.int .i64 0, .int .i64 0, .int .i64 0, .int .u64 0, .bool false]) (.agg #[.int .i64 0, .int .i64 0, .int .i64 0, .int .u64 0, .bool false])).run Try.prog v = .ok true v := fun v => eq_fault 0 0 0 0 0 0 0 0 false false v
  have q2 : ∀ v : World, (Op.equalIn 10000 35 (.agg #[.int .i64 2, .int .i64 2, .int .i64 (-1), .int .u64 16384, .bool true]) (.agg #[.int .i64 2, .int .i64 2, .int .i64 (-1), .int .u64 16384, .bool true])).run Try.prog v = .ok true v := fun v => eq_fault 2 2 (-1) 16384 2 2 (-1) 16384 true true v
  clear O1 F1 O2 F2 F3 F4
  refine wp_region_kept mixed (by kernel_rfl) ?_
  repeat (go_big_quiet_step (first | exact rfl | (go_at_call 25; with_reducible refine Calls.kept_of (kf.out _))))
  refine wpQuiet_nil ?_
  intro _ hw'
  obtain ⟨⟨wq, kq⟩, hw''⟩ := hw'
  subst hw''
  go_wp2
  go_ret
  exact ⟨rfl, HK.out.trans kq⟩

end Go.Proofs.Ytclcickhgoiooaa
