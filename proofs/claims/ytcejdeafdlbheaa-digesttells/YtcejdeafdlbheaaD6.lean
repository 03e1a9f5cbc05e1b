/- A page that is made; told. -/
import Derived.Test.YtcejdeafdlbheaaD5
namespace Go.Proofs.Ytcejdeafdlbheaa
open Go.RowKit

theorem same_num {a b : Nat} {x y : Int} (ha : FI a x) (hb : FI b y) (e : x = y) : (FloatKind.f64.format.order a b == some .eq) = true := by
  rw [ord_eq ha hb, decide_eq_true e]

theorem info_u8 : ∃ i, Try.prog.info? 5 = some i ∧ i.zero = some (.int .u8 0) ∧ i.size = 1 ∧ i.bytes = 1 := by
  have h : (Try.prog.info? 5).map (fun i => (i.zero, i.size, i.bytes)) = some (some (.int .u8 0), 1, 1) := by kernel_rfl
  obtain ⟨i, hi, e⟩ := Option.map_eq_some_iff.1 h
  simp only [Prod.mk.injEq] at e
  exact ⟨i, hi, e.1, e.2.1, e.2.2⟩

/-- n noughts. -/
def Noughts (n : Nat) : Obj := .cells (madeCells #[.int .u8 0] n) 5

theorem make_bytes (n : Nat) (w : World) (hn : n ≤ 1000000) :
    (Instr.makeSlice 23 (.int .i64 (n : Int)) (.int .i64 (n : Int))).run Try.prog w = .ok (.slice (some ⟨w.heap.size, 0, none⟩) n n) (w.alloc (Noughts n)) := by
  obtain ⟨i0, hi, hz0, hz1, hz2⟩ := info_u8
  have := run_make (P := Try.prog) w 23 5 i0 (.int .u8 0) Try.underlying23 hi hz0 .i64 .i64 n n (by omega) (by omega) (by rw [hz2]; omega) (by omega)
  rw [hz1, Nat.mul_one] at this
  exact this

theorem make_page (w : World) :
    (Instr.makeSlice 23 (.int .i64 4096) (.int .i64 4096)).run Try.prog w = .ok (.slice (some ⟨w.heap.size, 0, none⟩) 4096 4096) (w.alloc (Noughts 4096)) := make_bytes 4096 w (by omega)

theorem noughts_get (n j : Nat) (h : j < n) : (madeCells #[Value.int .u8 0] n)[j]? = some (.int .u8 0) := by
  simp [madeCells, h, Nat.mod_one]

def zero : Nat → Nat := fun _ => 0

theorem noughts_bs (n : Nat) (w : World) : BS (w.alloc (Noughts n)) w.heap.size 0 n zero :=
  ⟨by simp, fun i hi => by
    rw [Noughts, World.cell?_alloc_at _ _ _ _ rfl]
    show (madeCells #[Value.int .u8 0] n)[0 + i]? = _
    rw [Nat.zero_add, noughts_get n i hi]; rfl, fun i _ => by rw [Noughts, World.frozen?_alloc_at _ _ _ _ rfl], fun _ => by show 0 < 256; decide⟩

theorem sum_zero : sre zero 512 = 0 ∧ sim zero 512 = 0 := by decide +kernel
theorem sum_five : sre (upd zero 8 5) 512 = 0 ∧ sim (upd zero 8 5) 512 = 5 := by decide +kernel

theorem FI_five : FI 4617315517961601024 5 := FI_const _ (by decide) (by decide)
theorem FI_less_one : FI 13830554455654793216 (-1) := FI_const _ (by decide) (by decide)

theorem of_zero (b : Nat) (w : World) (H : BS w b 0 4096 zero) :
    Calls Try.prog 8 #[.slice (some ⟨b, 0, none⟩) 4096 4096] w fun e w' => ∃ re im, e = .returned (.tuple #[.complex .f64 re im, .int .i64 0]) ∧ FI re 0 ∧ FI im 0 ∧ w' = w :=
  (of_any b 0 4096 zero w H (Nat.le_refl _)).mono fun _ _ ⟨re, im, h1, h2, h3, h4⟩ => ⟨re, im, h1, by rw [sum_zero.1] at h2; exact h2.1, by rw [sum_zero.2] at h3; exact h3.1, h4⟩
theorem of_five (b : Nat) (w : World) (H : BS w b 0 4096 (upd zero 8 5)) :
    Calls Try.prog 8 #[.slice (some ⟨b, 0, none⟩) 4096 4096] w fun e w' => ∃ re im, e = .returned (.tuple #[.complex .f64 re im, .int .i64 0]) ∧ FI re 0 ∧ FI im 5 ∧ w' = w :=
  (of_any b 0 4096 _ w H (Nat.le_refl _)).mono fun _ _ ⟨re, im, h1, h2, h3, h4⟩ => ⟨re, im, h1, by rw [sum_five.1] at h2; exact h2.1, by rw [sum_five.2] at h3; exact h3.1, h4⟩
theorem change_told (w : World) :
    Calls Try.prog 14 #[.complex .f64 0 0, .int .i64 2, .int .u64 0, .int .u64 4294967296] w fun e w' => ∃ re im, e = .returned (.tuple #[.complex .f64 re im, .int .i64 0]) ∧ FI re 0 ∧ FI im (-1) ∧ w' = w :=
  (change_any 0 0 0 0 2 0 4294967296 0 0 0 1 w FI_zero FI_zero (by decide) (by decide) (by decide) (by decide) (by decide) (by decide) (by decide) (by decide) (by decide)).mono fun _ _ ⟨re, im, h1, h2, h3, h4⟩ => ⟨re, im, h1, h2.1, h3.1, h4⟩
theorem word_told (w : World) :
    Calls Try.prog 12 #[.int .u64 4294967303] w fun e w' => e = .returned (.complex .f64 4619567317775286272 4607182418800017408) ∧ w' = w := by
  have := word_num 4294967303 7 1 w (by decide) (by decide) (by decide)
  have e1 : floatOfInt .f64 ((7 : Nat) : Int) = 4619567317775286272 := by decide
  have e2 : floatOfInt .f64 ((1 : Nat) : Int) = 4607182418800017408 := by decide
  rw [e1, e2] at this
  exact this
theorem lit_seven : (FloatKind.f64.format.order 4619567317775286272 4619567317775286272 == some .eq) = true := by decide +kernel
theorem lit_one : (FloatKind.f64.format.order 4607182418800017408 4607182418800017408 == some .eq) = true := by decide +kernel

set_option maxHeartbeats 2000000 in
set_option maxRecDepth 100000 in
theorem told_any (w : World) : Calls Try.prog 10 #[] w fun e w' => e = .returned (.bool true) ∧ Kp w w' := by
  have hmk := make_page
  have B0 := noughts_bs 4096 w
  have B1 : BS ((w.alloc (Noughts 4096)).setCell ⟨w.heap.size, 0 + 8, none⟩ (.int .u8 5)) w.heap.size 0 4096 (upd zero 8 5) := B0.set 8 5 (by omega) (by omega)
  have K1 : Kp w (w.alloc (Noughts 4096)) := (Kp.refl w).alloc _
  have K2 := K1.set ⟨w.heap.size, 0 + 8, none⟩ (.int .u8 5) (Nat.le_refl _)
  have hc := B0.cell 8 (by omega)
  have hf := B0.frz 8 (by omega)
  rw [Nat.zero_add] at B1 K2 hc hf
  have c1 := of_zero _ _ B0
  have c2 := of_five _ _ B1
  have c3 := fun w => of_refuses none 0 0 w (by decide)
  have q1 := lit_seven
  have q2 := lit_one
  have HK : Hid _ := K2
  clear B0 B1 K1 K2
  go_enter Try.func10, Try.ntmps10
  go_wp2_with fail
  with_reducible refine c1.mono ?_
  rintro e w' ⟨x1, y1, rfl, f1, g1, rfl⟩
  have o1 := same_num f1 FI_zero rfl
  have o2 := same_num g1 FI_zero rfl
  clear f1 g1 c1
  have hv : zero 8 = 0 := rfl
  rw [hv] at hc
  go_wp2_with fail
  with_reducible refine c2.mono ?_
  rintro e w' ⟨x2, y2, rfl, f2, g2, rfl⟩
  have o3 := same_num f2 FI_zero rfl
  have o4 := same_num g2 FI_five rfl
  clear f2 g2 c2
  go_wp2_with fail
  with_reducible refine (c3 _).mono ?_
  rintro e w' ⟨rfl, rfl⟩
  go_wp2_with fail
  with_reducible refine (change_told _).mono ?_
  rintro e w' ⟨x3, y3, rfl, f3, g3, rfl⟩
  have o5 := same_num f3 FI_zero rfl
  have o6 := same_num g3 FI_less_one rfl
  clear f3 g3 c3
  go_wp2_with (go_at_call 12; with_reducible refine (word_told _).mono ?_; rintro e w' ⟨rfl, rfl⟩)
  go_ret
  exact ⟨rfl, HK.out⟩

end Go.Proofs.Ytcejdeafdlbheaa
