/- The document's buddy: Give. -/
import Derived.Test.YtjnkmmfppkpgbaaDoorUQ
namespace Go.Proofs.YtjnkmmfppkpgbaaDoor
open Go.RowKit

section
variable {w w' : World} {q ob lo n hi : Nat} {F F' : Nat → Bool}
set_option maxHeartbeats 4000000 in
set_option maxRecDepth 100000 in
theorem rgive_ord (q : Nat) (x o : Int) (w : World) (hw : ¬ (0 ≤ o ∧ o ≤ 9)) :
    Calls Tryd.prog 38 #[.pointer (some ⟨q, 0, none⟩), .int .i64 x, .int .i64 o] w fun e w' => e = .returned (.int .i64 1) ∧ Dr w w' := by
  by_cases d1 : o < 0
  · clear hw
    go_enter Tryd.func38, Tryd.ntmps38
    go_wp2_with fail
    have b1 : decide (o < 0) = true := decide_eq_true (by omega)
    go_quiet (fail)
    go_wp2
    go_ret
    exact ⟨rfl, ⟨_, rfl⟩⟩
  · have d2 : 9 < o := by omega
    clear hw
    go_enter Tryd.func38, Tryd.ntmps38
    go_wp2_with fail
    have b1 : decide (o < 0) = false := decide_eq_false (by omega)
    have b2 : decide (9 < o) = true := decide_eq_true (by omega)
    go_quiet (fail)
    go_wp2
    go_ret
    exact ⟨rfl, ⟨_, rfl⟩⟩
set_option maxHeartbeats 4000000 in
set_option maxRecDepth 100000 in
theorem rgive_no (h : RBU w q ob lo n F) (x m : Int) (a s : Nat) (ha : a ≤ 9) (hs : (2 : Int) ^ a = (s : Int)) (s0 : 0 < s) (s1 : s ≤ 512) (hm : x.tmod s = m) (hx : -9223372036854775808 ≤ x ∧ x ≤ 9223372036854775807) (hw : ¬ (m = 0 ∧ (lo : Int) ≤ x ∧ x - lo ≤ (n : Int) - s)) :
    Calls Tryd.prog 38 #[.pointer (some ⟨q, 0, none⟩), .int .i64 x, .int .i64 (a : Int)] w fun e w' => e = .returned (.int .i64 1) ∧ Dr w w' := by
  have c0 := h.c0
  have c1 := h.c1
  have hh := h.hh
  obtain ⟨hx1, hx2⟩ := hx
  have y0 : (a : Int) ≤ 9 := by omega
  have y1 : ¬ (s : Int) = 0 := by omega
  have y2 : (s : Int) ≤ 512 := by omega
  have y3 : (lo : Int) + n ≤ 1048576 := by omega
  clear h
  by_cases d1 : m = 0
  · subst d1
    by_cases d2 : x < lo
    · clear hw
      go_enter Tryd.func38, Tryd.ntmps38
      go_wp2_with fail
      have b1 : decide ((a : Int) < 0) = false := decide_eq_false (by omega)
      have b2 : decide (9 < (a : Int)) = false := decide_eq_false (by omega)
      have b3 : decide (x < (lo : Int)) = true := decide_eq_true (by omega)
      go_quiet (fail)
      go_wp2
      go_ret
      exact ⟨rfl, ⟨_, rfl⟩⟩
    · have d3 : (n : Int) - s < x - lo := by omega
      have HX : Hid (x - lo ≤ 9223372036854775807 ∧ 0 ≤ x - lo) := by constructor <;> omega
      obtain ⟨d, hd⟩ : ∃ d : Int, x - (lo : Int) = d := ⟨_, rfl⟩
      obtain ⟨e, he⟩ : ∃ e : Int, (n : Int) - s = e := ⟨_, rfl⟩
      have d4 : e < d := by omega
      have d5 : 0 ≤ d := by omega
      have d6 : d ≤ 9223372036854775807 := by omega
      have d7 : -1000 ≤ e := by omega
      clear hw HX d3
      go_enter Tryd.func38, Tryd.ntmps38
      go_wp2_with fail
      have b1 : decide ((a : Int) < 0) = false := decide_eq_false (by omega)
      have b2 : decide (9 < (a : Int)) = false := decide_eq_false (by omega)
      have b3 : decide (x < (lo : Int)) = false := decide_eq_false (by omega)
      have b4 : decide (e < d) = true := decide_eq_true (by omega)
      go_quiet (fail)
      go_wp2
      go_ret
      exact ⟨rfl, ⟨_, rfl⟩⟩
  · have HD : Hid (¬ m = 0) := d1
    have HM : Hid (x.tmod (s : Int) = m) := hm
    clear hw d1 hm
    go_enter Tryd.func38, Tryd.ntmps38
    go_wp2_with fail
    have b1 : decide ((a : Int) < 0) = false := decide_eq_false (by omega)
    have b2 : decide (9 < (a : Int)) = false := decide_eq_false (by omega)
    have b3 := HM.out
    have b4 := HD.out
    have b5 : (m == 0) = false := by simpa using b4
    have b6 : (m != 0) = true := by simpa using b4
    have b7 : decide (m = 0) = false := decide_eq_false b4
    go_quiet (fail)
    go_wp2
    go_ret
    exact ⟨rfl, ⟨_, rfl⟩⟩
set_option maxHeartbeats 4000000 in
set_option maxRecDepth 100000 in
theorem rgive_walk (h : RBU w q ob lo n F) (f a s m : Nat) (ha : a ≤ 9) (hs : (2 : Int) ^ a = (s : Int)) (s0 : 0 < s) (s1 : s ≤ 512) (hf : f % s = 0) (f1 : lo ≤ f) (f2 : f + s ≤ lo + n) (hm : m ≤ s) (h1 : ∀ i, i < m → F (f + i) = false) (h2 : m < s → F (f + m) = true) (E : Int) (F1 : Nat → Bool) (fin : (m < s ∧ E = 20 ∧ F1 = F) ∨ (m = s ∧ E = 0 ∧ ∀ k, F1 k = (F k || decide (f ≤ k ∧ k < f + s)))) :
    Calls Tryd.prog 38 #[.pointer (some ⟨q, 0, none⟩), .int .i64 (f : Int), .int .i64 (a : Int)] w fun e w' => e = .returned (.int .i64 E) ∧ RBU w' q ob lo n F1 ∧ Fr (fun k => k = ob) w w' := by
  have c0 := h.c0
  have c1 := h.c1
  have hh := h.hh
  have y0 : (a : Int) ≤ 9 := by omega
  have y1 : ¬ (s : Int) = 0 := by omega
  have y2 : (s : Int) ≤ 512 := by omega
  have y3 : (lo : Int) + n ≤ 1048576 := by omega
  have y4 : (lo : Int) ≤ f := by omega
  have y5 : (f : Int) + s ≤ lo + n := by omega
  have ht : ((f : Nat) : Int).tmod ((s : Nat) : Int) = 0 := by
    rw [Int.tmod_eq_emod_of_nonneg (by omega), ← Int.natCast_emod, hf]; rfl
  obtain ⟨d, hd⟩ : ∃ d : Nat, (f : Int) - (lo : Int) = (d : Int) := ⟨f - lo, by omega⟩
  obtain ⟨e, he⟩ : ∃ e : Nat, (n : Int) - s = (e : Int) := ⟨n - s, by omega⟩
  have HH : Hid (RBU w q ob lo n F) := h
  have H1 : Aside (∀ i, i < m → F (f + i) = false) := h1
  have H2 : Hid (m < s → F (f + m) = true) := h2
  have FIN : Hid ((m < s ∧ E = 20 ∧ F1 = F) ∨ (m = s ∧ E = 0 ∧ ∀ k, F1 k = (F k || decide (f ≤ k ∧ k < f + s)))) := fin
  have HDE : Hid (d ≤ e ∧ d = f - lo) := ⟨by omega, by omega⟩
  have KD : Aside (∀ m, Kp w (w.drewN m)) := fun m => (Kp.refl w).drewN m
  clear h h1 h2 fin hf
  go_enter Tryd.func38, Tryd.ntmps38
  go_wp2_with fail
  have b1 : decide ((a : Int) < 0) = false := decide_eq_false (by omega)
  have b2 : decide (9 < (a : Int)) = false := decide_eq_false (by omega)
  have b3 : decide ((f : Int) < (lo : Int)) = false := decide_eq_false (by omega)
  have b4 : decide (f < lo) = false := decide_eq_false (by omega)
  have b5 : decide ((e : Int) < (d : Int)) = false := decide_eq_false (by have := HDE.out.1; omega)
  have b6 : decide (e < d) = false := decide_eq_false (by have := HDE.out.1; omega)
  go_quiet (fail)
  rename_i nq
  have HB : Hid (RBU (w.drewN nq) q ob lo n F ∧ Kp w (w.drewN nq)) := ⟨HH.out.kp (KD.out nq), KD.out nq⟩
  clear b1 b2 b3 b4 b5 b6 c0 c1 ht HH KD hd he HDE
  generalize w.drewN nq = w1 at *
  go_wp2_with fail
  go_loopg [7] (m + 1) (fun g v7 wr => ∃ k : Nat, v7 = .int .i64 (k : Int) ∧ k ≤ m ∧ m + 1 - k ≤ g ∧ Hid (Dr w1 wr))
  case atStart => exact ⟨0, rfl, by omega, by omega, Dr.refl w1⟩
  case round =>
    obtain ⟨k, rfl, k2, hg, HD⟩ := hrel
    by_cases e : k < s
    · have y6 : (k : Int) < s := by omega
      have cH := rhas_any (HB.out.1.kp HD.out.kp) ((f : Int) + k) (by omega)
      rw [show (f : Int) + k = ((f + k : Nat) : Int) by omega, hasB_nat] at cH
      rw [show ((f + k : Nat) : Int) = (f : Int) + k by omega] at cH
      by_cases d : k < m
      · rw [H1.out k d] at cH
        go_wp2_with fail
        with_reducible refine cH.mono ?_
        rintro e w2 ⟨rfl, D2⟩
        have HD1 : Hid (Dr w1 w2) := HD.out.trans D2
        clear D2 cH
        go_wp2
        go_roundg (m + 1 - (k + 1))
        case measure => omega
        case rel => exact ⟨k + 1, by go_num, by omega, by omega, HD1⟩
      · have ek : k = m := by omega
        subst ek
        rw [H2.out e] at cH
        rcases FIN.out with ⟨_, rfl, rfl⟩ | ⟨e2, _⟩
        · clear e FIN
          go_wp2_with fail
          with_reducible refine cH.mono ?_
          rintro e w2 ⟨rfl, D2⟩
          have HB2 : Hid (RBU w2 q ob lo n F1 ∧ Fr (fun k => k = ob) w w2) := ⟨(HB.out.1.kp HD.out.kp).kp D2.kp, ((HB.out.2.trans HD.out.kp).trans D2.kp).fr _⟩
          clear cH D2
          go_wp2
          go_ret
          exact ⟨rfl, HB2.out⟩
        · omega
    · have ek : k = m := by omega
      have es : k = s := by omega
      rcases FIN.out with ⟨e2, _⟩ | ⟨_, rfl, hF1⟩
      · omega
      · have HF : Hid (∀ k, F1 k = (F k || decide (f ≤ k ∧ k < f + s))) := hF1
        subst ek; subst es
        have HB0 : Hid (RBU wr q ob lo n F ∧ Fr (fun k => k = ob) w wr) := ⟨HB.out.1.kp HD.out.kp, (HB.out.2.trans HD.out.kp).fr _⟩
        clear HB HD FIN hF1 H1 H2 e
        go_wp2_with fail
        go_loopg [8] (k + 1) (fun g v8 wq => ∃ j : Nat, v8 = .int .i64 (j : Int) ∧ j ≤ k ∧ k + 1 - j ≤ g ∧ Hid (RBU wq q ob lo n (fun x => F x || decide (f ≤ x ∧ x < f + j)) ∧ Fr (fun k => k = ob) w wq))
        case atStart => exact ⟨0, rfl, by omega, by omega, by
          have e : (fun x => F x || decide (f ≤ x ∧ x < f + 0)) = F := funext fun x => by rw [decide_eq_false (by omega)]; simp
          show RBU wr q ob lo n (fun x => F x || decide (f ≤ x ∧ x < f + 0)) ∧ _
          rw [e]; exact HB0.out⟩
        case round =>
          clear HB0
          obtain ⟨j, rfl, hj, hgj, HJ⟩ := hrel
          by_cases hjs : j < k
          · have v1 : (j : Int) < k := by omega
            obtain ⟨x, hx⟩ : ∃ x : Nat, x = f - lo + j := ⟨_, rfl⟩
            have v2 : (f : Int) - lo + j = (x : Int) := by omega
            have v3 : (x : Int) < n := by omega
            have c0 := HJ.out.1.c0
            have c1 := HJ.out.1.c1
            have ci := HJ.out.1.cell x (by omega)
            have fi := HJ.out.1.on.frz x
            have hne := HJ.out.1.ne
            generalize (fun x => F x || decide (f ≤ x ∧ x < f + j)) (lo + x) = bv at ci
            have HJ2 : Hid (RBU (wr.setCell ⟨ob, x, none⟩ (.bool true)).drew q ob lo n (fun x => F x || decide (f ≤ x ∧ x < f + (j + 1))) ∧ Fr (fun k => k = ob) w (wr.setCell ⟨ob, x, none⟩ (.bool true)).drew) := ⟨(HJ.out.1.set x true (by omega) (fun y => by
              by_cases e : y = lo + x
              · rw [if_pos e, decide_eq_true (by omega)]; simp
              · rw [if_neg e]
                congr 1
                apply decide_eq_decide.2
                omega)).kp ((Kp.refl _).drew), (HJ.out.2.set ⟨ob, x, none⟩ _ rfl).drew⟩
            clear HJ hx
            go_wp2_with fail
            go_region
            go_wp2
            go_roundg (k + 1 - (j + 1))
            case measure => omega
            case rel => exact ⟨j + 1, by go_num, by omega, by omega, HJ2⟩
          · have ej : j = k := by omega
            subst ej
            have HJ3 : Hid (RBU wr q ob lo n F1 ∧ Fr (fun k => k = ob) w wr) := by
              have e : (fun x => F x || decide (f ≤ x ∧ x < f + j)) = F1 := funext fun x => (HF.out x).symm
              have := HJ.out
              rw [e] at this
              exact this
            clear HJ HF
            go_wp2
            go_ret
            exact ⟨rfl, HJ3.out⟩
theorem rgive_any (h : RBU w q ob lo n F) (x o : Int) (hx : -9223372036854775808 ≤ x ∧ x ≤ 9223372036854775807) :
    Calls Tryd.prog 38 #[.pointer (some ⟨q, 0, none⟩), .int .i64 x, .int .i64 o] w fun e w' => e = .returned (.int .i64 (gvR lo (lo + n) F x o)) ∧ RBU w' q ob lo n (gvF lo (lo + n) F x o) ∧ Fr (fun k => k = ob) w w' := by
  have out : ∀ {w' : World}, Dr w w' → RBU w' q ob lo n F ∧ Fr (fun k => k = ob) w w' := fun d => ⟨h.kp d.kp, d.kp.fr _⟩
  cases hv : owns lo (lo + n) x o
  · rw [show gvR lo (lo + n) F x o = 1 by unfold gvR; rw [hv]; rfl, show gvF lo (lo + n) F x o = F by unfold gvF; rw [hv]; rfl]
    by_cases c : 0 ≤ o ∧ o ≤ 9
    · obtain ⟨a, rfl⟩ : ∃ a : Nat, o = (a : Int) := ⟨o.toNat, by omega⟩
      have hno := of_decide_eq_false hv
      have e1 : (2 : Int) ^ a = ((2 ^ a : Nat) : Int) := by push_cast; rfl
      have e9 : (2 ^ a : Nat) ≤ 2 ^ 9 := Nat.pow_le_pow_right (by omega) (by omega)
      refine (rgive_no h x (x.tmod ((2 ^ a : Nat) : Int)) a (2 ^ a) (by omega) e1 (Nat.two_pow_pos a) e9 rfl hx (fun z => hno ⟨c.1, c.2, ?_, z.2.1, ?_⟩)).mono fun e w' ⟨g1, g2⟩ => ⟨g1, out g2⟩
      · rw [show ((a : Int)).toNat = a from rfl, e1]; exact z.1
      · rw [show ((a : Int)).toNat = a from rfl, e1]
        have := z.2.2
        omega
    · exact (rgive_ord q x o w c).mono fun e w' ⟨g1, g2⟩ => ⟨g1, out g2⟩
  · obtain ⟨j, a, rfl, ha, rfl, l1, l2⟩ := owns_iff hv
    have e1 : (2 : Int) ^ a = ((2 ^ a : Nat) : Int) := by push_cast; rfl
    have e9 : (2 ^ a : Nat) ≤ 2 ^ 9 := Nat.pow_le_pow_right (by omega) (by omega)
    obtain ⟨q1, q2, q3⟩ := fst_spec F (j * 2 ^ a) (2 ^ a)
    refine rgive_walk h (j * 2 ^ a) a (2 ^ a) (fst F (j * 2 ^ a) (2 ^ a)) ha e1 (Nat.two_pow_pos a) e9 (Nat.mul_mod_left _ _) l1 l2 q1 q2 q3 _ _ ?_
    have t1 : ((j * 2 ^ a : Nat) : Int).toNat = j * 2 ^ a := rfl
    have t2 : ((a : Nat) : Int).toNat = a := rfl
    by_cases c : fst F (j * 2 ^ a) (2 ^ a) < 2 ^ a
    · have ha' : anyF F (j * 2 ^ a) a = true := decide_eq_true c
      refine .inl ⟨c, ?_, ?_⟩
      · unfold gvR; rw [hv, t1, t2, ha']; rfl
      · unfold gvF; rw [hv, t1, t2, ha']; rfl
    · have ha' : anyF F (j * 2 ^ a) a = false := decide_eq_false c
      refine .inr ⟨by omega, ?_, fun k => ?_⟩
      · unfold gvR; rw [hv, t1, t2, ha']; rfl
      · unfold gvF
        rw [hv, t1, t2, ha', if_pos (show (true && !false) = true from rfl), rep]
        unfold addF
        congr 1
        apply decide_eq_decide.2
        exact blk_iff k a j
end
end Go.Proofs.YtjnkmmfppkpgbaaDoor
