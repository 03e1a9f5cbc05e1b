/- demesnelaw16: told. -/
import Derived.Test.YtclheedcdogkbaaI5
namespace Go.Proofs.Ytclheedcdogkbaa
open Go.RowKit
set_option maxRecDepth 10000

/-- The states that told goes through. -/
def tS1 : IV := getS 1 newS 7
def tS2 : IV := getS 1 tS1 8
theorem tS1_ok : okV 1 tS1 := (newS_ok (by decide) (by decide)).get 7
theorem tS2_ok : okV 1 tS2 := tS1_ok.get 8
theorem tS3_ok : okV 1 (drpS tS2 8) := tS2_ok.drop 8
theorem tget1 : getI 1 newS 7 = 1 ∧ getB 1 newS 7 = false ∧ getE 7 = 0 := by decide
theorem tget2 : getI 1 tS1 8 = 1 ∧ getB 1 tS1 8 = true ∧ getE 8 = 0 := by decide
theorem thas : hs tS2 7 = 0 ∧ tS2.t = 1 ∧ hs tS2 8 = 1 ∧ hs (drpS tS2 8) 8 = 0 := by decide

set_option maxHeartbeats 4000000 in
theorem vtold_any (w : World) : Calls Try.prog 15 #[] w fun e w' => e = .returned (.bool true) ∧ Kp w w' := by
  have c1 := vnew_ok 1 w (by decide) (by decide)
  have c2 := vnew_no 256
  obtain ⟨p, hp⟩ : ∃ p, w.heap.size = p := ⟨_, rfl⟩
  have HP : Hid (w.heap.size = p) := hp
  rw [hp] at c1
  clear hp
  rw [show (.int .i64 ((1 : Nat) : Int) : Value) = .int .i64 1 from rfl] at c1
  go_enter Try.func15, Try.ntmps15
  go_wp2_with fail
  with_reducible refine c1.mono ?_
  rintro e w1 ⟨rfl, v1, k1⟩
  have H1 : Hid (VI w1 p 1 newS ∧ Kp w w1) := ⟨v1, k1⟩
  clear c1 v1 k1
  go_wp2_with fail
  with_reducible refine (c2 w1 (by decide)).mono ?_
  rintro e w1 ⟨rfl, rfl⟩
  clear c2
  have k2 := vget_any H1.out.1 (newS_ok (by decide) (by decide)) 7 (by decide)
  rw [tget1.1, tget1.2.1, tget1.2.2] at k2
  go_wp2_with fail
  with_reducible refine k2.mono ?_
  rintro e w2 ⟨rfl, v2, f2⟩
  have H2 : Hid (VI w2 p 1 tS1 ∧ Kp w w2) := ⟨v2, f2.kp H1.out.2 (fun i hi => by have := HP.out; have e : i = p := hi; omega)⟩
  clear k2 v2 f2 H1
  have k3 := vget_any H2.out.1 tS1_ok 8 (by decide)
  rw [tget2.1, tget2.2.1, tget2.2.2] at k3
  go_wp2_with fail
  with_reducible refine k3.mono ?_
  rintro e w3 ⟨rfl, v3, f3⟩
  have H3 : Hid (VI w3 p 1 tS2 ∧ Kp w w3) := ⟨v3, f3.kp H2.out.2 (fun i hi => by have := HP.out; have e : i = p := hi; omega)⟩
  clear k3 v3 f3 H2
  have k4 := vhas_any H3.out.1 tS2_ok 7
  rw [thas.1] at k4
  go_wp2_with fail
  with_reducible refine k4.mono ?_
  rintro e w3 ⟨rfl, rfl⟩
  clear k4
  have k5 := vturn_any H3.out.1
  rw [thas.2.1] at k5
  have k6 := vdrop_any H3.out.1 tS2_ok 8
  rw [thas.2.2.1] at k6
  have k7 : Aside (∀ w4, VI w4 p 1 (drpS tS2 8) → Calls Try.prog 10 #[.pointer (some ⟨p, 0, none⟩), .int .i64 8] w4 fun e w' => e = .returned (.bool (0 != 0)) ∧ VI w' p 1 (drpS (drpS tS2 8) 8) ∧ Fr (· = p) w4 w') := fun w4 h4 => by
    have := vdrop_any h4 tS3_ok 8
    rw [thas.2.2.2] at this
    exact this
  go_wp2_with (first | (go_at_call 14; with_reducible refine k5.mono ?_; rintro e w3 ⟨rfl, rfl⟩) | (go_at_call 10; with_reducible refine k6.mono ?_; rintro e w4 ⟨rfl, v4, f4⟩))
  have H4 : Hid (VI w4 p 1 (drpS tS2 8) ∧ Kp w w4) := ⟨v4, f4.kp H3.out.2 (fun i hi => by have := HP.out; have e : i = p := hi; omega)⟩
  clear v4 f4 k5
  with_reducible refine (k7.out w4 H4.out.1).mono ?_
  rintro e w5 ⟨rfl, v5, f5⟩
  have H5 : Hid (Kp w w5) := f5.kp H4.out.2 (fun i hi => by have := HP.out; have e : i = p := hi; omega)
  clear v5 f5 k7 H4
  go_wp2_with fail
  go_ret
  exact ⟨by simp, H5.out⟩

end Go.Proofs.Ytclheedcdogkbaa
