/- The walk of told: what the program tells of a few heats. -/
import Derived.Test.YtpiekhiamdknjaaH7
namespace Go.Proofs.Ytpiekhiamdknjaa
open Go.RowKit Go.Sort Go.Shelf Go.Lib

set_option maxHeartbeats 1000000 in
theorem coldest_nil (na : Option Addr) (m mcap : Nat) (w : World) :
    Calls Try.prog 15 #[.slice none 0 0, .slice na m mcap] w fun e w' => e = .returned (.int .i64 (-1)) ∧ w' = w := by
  go_enter Try.func15, Try.ntmps15
  go_wp2_with fail
  go_step3
  go_wp2_with fail
  go_step3
  go_wp2_with fail
  refine wp_loop_rounds 1 ?_
  rw [rounds_succ]
  go_wp2_with fail
  rw [Exit.noGoto_ret]
  go_ret
  exact ⟨rfl, rfl⟩

theorem F1 : FI 4607182418800017408 1 := FI_const _ (by decide) (by decide)
theorem F2 : FI 4611686018427387904 2 := FI_const _ (by decide) (by decide)
theorem F3 : FI 4613937818241073152 3 := FI_const _ (by decide) (by decide)
theorem Fm1 : FI 13830554455654793216 (-1) := FI_const _ (by decide) (by decide)
theorem is_eq {a b : Nat} {x y : Int} (ha : FI a x) (hb : FI b y) (h : x = y) : (FloatKind.f64.format.order a b == some .eq) = true := by
  rw [ord_eq ha hb]; exact decide_eq_true h

/-- The three heats of the example. -/
def eA : Nat → Nat | 1 => 4607182418800017408 | _ => 0
def eB : Nat → Nat | 0 => 4611686018427387904 | _ => 0
def eh : Nat → Int × Int | 0 => (0, 2) | 1 => (1, 0) | _ => (0, 0)

theorem eh_fin : ∀ x y z : Fin 3, [x.val, y.val, z.val].isPerm [0, 1, 2] = true → T (ltN 3 eh) y.val x.val = false → T (ltN 3 eh) z.val y.val = false → x.val = 2 ∧ y.val = 1 ∧ z.val = 0 := by decide
theorem eh_only (x : Nat) (hx : x < 3) (y : Nat) (hy : y < 3) (z : Nat) (hz : z < 3) (h : [x, y, z].isPerm [0, 1, 2] = true) (h1 : T (ltN 3 eh) y x = false) (h2 : T (ltN 3 eh) z y = false) : x = 2 ∧ y = 1 ∧ z = 0 :=
  eh_fin ⟨x, hx⟩ ⟨y, hy⟩ ⟨z, hz⟩ h h1 h2

theorem lt3 {i : Nat} (h : i < 3) : i = 0 ∨ i = 1 ∨ i = 2 := by omega

theorem HS3 (w : World) : HS (w.alloc (.cells #[.complex .f64 0 4611686018427387904, .complex .f64 4607182418800017408 0, .complex .f64 0 0] 22)) w.heap.size 0 3 eA eB eh := {
  lt := by simp
  cell := fun i hi => by rcases lt3 hi with rfl | rfl | rfl <;> simp [go_sem, eA, eB]
  fa := fun i hi => by
    rcases lt3 hi with rfl | rfl | rfl
    · exact FI_zero
    · exact F1
    · exact FI_zero
  fb := fun i hi => by
    rcases lt3 hi with rfl | rfl | rfl
    · exact F2
    · exact FI_zero
    · exact FI_zero
  rh := fun i hi => by rcases lt3 hi with rfl | rfl | rfl <;> constructor <;> decide }

theorem rank3 (w : World) : Calls Try.prog 13 #[.slice (some ⟨w.heap.size, 0, none⟩) 3 3] (w.alloc (.cells #[.complex .f64 0 4611686018427387904, .complex .f64 4607182418800017408 0, .complex .f64 0 0] 22)) fun e w' =>
    ∃ blk, e = .returned (.slice (some ⟨blk, 0, none⟩) 3 3) ∧ w'.cell? ⟨blk, 0, none⟩ = some (.int .i64 2) ∧ w'.cell? ⟨blk, 1, none⟩ = some (.int .i64 1) ∧ w'.cell? ⟨blk, 2, none⟩ = some (.int .i64 0) ∧ Kp w w' := by
  refine (rank_any w.heap.size 0 3 3 eA eB eh _ (HS3 w) (by decide) (by decide) (SortC_of (stab_small 3 (by decide)))).mono ?_
  rintro e w' ⟨d', blk, rfl, hP, hT, _, _, hc, hk⟩
  have hs : d'.size = 3 := by rw [hP.1]; simp
  have hl : ∀ i, i < 3 → d'[i]! < 3 := fun i hi => permIn_all _ _ 0 3 (fun x => x < 3) (by simp) hP (fun k _ hk => by rw [range_get 3 k hk]; exact hk) i (Nat.zero_le _) hi
  have he : d'.extract 0 3 = d' := by rw [← hs]; simp
  have hd : d'.toList = [d'[0]!, d'[1]!, d'[2]!] := by
    obtain ⟨l⟩ := d'
    match l, hs with
    | [a, b, c], _ => rfl
  have hp := hP.2.2
  rw [he, hd] at hp
  have hp' : [d'[0]!, d'[1]!, d'[2]!].isPerm [0, 1, 2] = true := List.isPerm_iff.2 hp
  obtain ⟨e0, e1, e2⟩ := eh_only _ (hl 0 (by decide)) _ (hl 1 (by decide)) _ (hl 2 (by decide)) hp' (hT 0 1 (by decide) (by decide) (by decide)) (hT 1 2 (by decide) (by decide) (by decide))
  have c0 := hc 0 (by decide)
  have c1 := hc 1 (by decide)
  have c2 := hc 2 (by decide)
  rw [e0] at c0
  rw [e1] at c1
  rw [e2] at c2
  exact ⟨blk, rfl, c0, c1, c2, (Gr.alloc _ _).kp.trans hk⟩

/-- The two heats of the other example. -/
def gA : Nat → Nat | 1 => 4607182418800017408 | _ => 0
def gh : Nat → Int × Int | 1 => (1, 0) | _ => (0, 0)
theorem lt2 {i : Nat} (h : i < 2) : i = 0 ∨ i = 1 := by omega

theorem HS2 (w : World) : HS (w.alloc (.cells #[.complex .f64 0 0, .complex .f64 4607182418800017408 0] 22)) w.heap.size 0 2 gA (fun _ => 0) gh := {
  lt := by simp
  cell := fun i hi => by rcases lt2 hi with rfl | rfl <;> simp [go_sem, gA]
  fa := fun i hi => by
    rcases lt2 hi with rfl | rfl
    · exact FI_zero
    · exact F1
  fb := fun i hi => by rcases lt2 hi with rfl | rfl <;> exact FI_zero
  rh := fun i hi => by rcases lt2 hi with rfl | rfl <;> constructor <;> decide }

theorem cold2 (w : World) : Calls Try.prog 15 #[.slice (some ⟨w.heap.size, 0, none⟩) 2 2, .slice (some ⟨w.heap.size + 1, 0, none⟩) 1 1] ((w.alloc (.cells #[.complex .f64 0 0, .complex .f64 4607182418800017408 0] 22)).alloc (.cells #[.bool true] 4)) fun e w' =>
    e = .returned (.int .i64 1) ∧ Kp w w' := by
  refine (coldest_any w.heap.size 0 2 2 gA (fun _ => 0) gh (some ⟨w.heap.size + 1, 0, none⟩) 1 1 (fun _ => true) _ ((HS2 w).gr (Gr.alloc _ _)) ?_ (by decide)).mono ?_
  · intro i hi
    obtain rfl : i = 0 := by omega
    exact ⟨_, _, rfl, by simp, by simp [go_sem]⟩
  · rintro e w' ⟨rfl, g⟩
    have e : coldI (fun _ => true) 1 gh 2 = 1 := by decide
    exact ⟨by rw [e], ((Gr.alloc _ _).trans (Gr.alloc _ _)).kp.trans g.kp⟩

theorem touch3 (w : World) : Calls Try.prog 9 #[.complex .f64 4613937818241073152 4607182418800017408, .bool true] w fun e w' => ∃ a b, e = .returned (.complex .f64 a b) ∧ (FloatKind.f64.format.order a 4613937818241073152 == some .eq) = true ∧ (FloatKind.f64.format.order b 4611686018427387904 == some .eq) = true ∧ w' = w := by
  have R : RH 3 1 := ⟨by decide, by decide, by decide, by decide⟩
  exact (touch_any _ _ 3 1 true w F3 F1 R).mono fun _ _ ⟨h1, h2⟩ => ⟨_, _, h1, is_eq (R.touch true).fx.1 F3 (by decide), is_eq (R.touch true).fy.1 F2 (by decide), h2⟩

theorem fade3 (w : World) : Calls Try.prog 11 #[.complex .f64 4613937818241073152 4607182418800017408] w fun e w' => ∃ a b, e = .returned (.complex .f64 a b) ∧ (FloatKind.f64.format.order a 4607182418800017408 == some .eq) = true ∧ (FloatKind.f64.format.order b 0 == some .eq) = true ∧ w' = w := by
  have R : RH 3 1 := ⟨by decide, by decide, by decide, by decide⟩
  exact (fade_any _ _ 3 1 w F3 F1 R).mono fun _ _ ⟨h1, h2⟩ => ⟨_, _, h1, is_eq R.fade.fx.1 F1 (by decide), is_eq R.fade.fy.1 FI_zero (by decide), h2⟩

theorem right1 (w : World) : Calls Try.prog 10 #[.complex .f64 4607182418800017408 0] w fun e w' => e = .returned (.bool true) ∧ w' = w :=
  right_any _ _ 1 0 w F1 FI_zero (by decide) (by decide)
theorem rightm1 (w : World) : Calls Try.prog 10 #[.complex .f64 13830554455654793216 0] w fun e w' => e = .returned (.bool false) ∧ w' = w :=
  right_any _ _ (-1) 0 w Fm1 FI_zero (by decide) (by decide)

set_option maxHeartbeats 1000000 in
set_option maxRecDepth 100000 in
theorem told_any (w : World) : Calls Try.prog 12 #[] w fun e w' => e = .returned (.bool true) ∧ Kp w w' := by
  go_enter Try.func12, Try.ntmps12
  go_wp2_with (first | (go_at_call 13; with_reducible refine (rank3 _).mono ?_; rintro e w1 ⟨blk, rfl, k0, k1, k2, g1⟩) | (go_at_call 9; with_reducible refine (touch3 _).mono ?_; rintro e w2 ⟨ta, tb, rfl, o1, o2, rfl⟩) | (go_at_call 11; with_reducible refine (fade3 _).mono ?_; rintro e w3 ⟨fa, fb, rfl, o3, o4, rfl⟩) | (go_at_call 15; with_reducible refine (cold2 _).mono ?_; rintro e w4 ⟨rfl, g2⟩) | (go_at_call 15; with_reducible refine (coldest_nil _ _ _ _).mono ?_; rintro e w5 ⟨rfl, rfl⟩) | (go_at_call 10; with_reducible refine (right1 _).mono ?_; rintro e w' ⟨rfl, rfl⟩) | (go_at_call 10; with_reducible refine (rightm1 _).mono ?_; rintro e w' ⟨rfl, rfl⟩))
  go_ret
  exact ⟨rfl, g1.trans g2⟩

end Go.Proofs.Ytpiekhiamdknjaa
