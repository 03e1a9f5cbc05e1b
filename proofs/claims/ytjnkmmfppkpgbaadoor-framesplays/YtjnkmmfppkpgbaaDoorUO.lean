/- The document's buddy: Runs. -/
import Derived.Test.YtjnkmmfppkpgbaaDoorUN
namespace Go.Proofs.YtjnkmmfppkpgbaaDoor
open Go.RowKit

section
variable {w w' : World} {q ob lo n : Nat} {F F' : Nat → Bool}
/-- The document's search for the run at a cut. -/
theorem climb {f o r : Nat} (hr : r ≤ 9) (hR : Rn F r (f / 2 ^ r)) (hs : f / 2 ^ r * 2 ^ r = f) (ho : o ≤ r) : (o < r → o < 9 ∧ f % 2 ^ (o + 1) = 0 ∧ (!anyF (fun k => !F k) f (o + 1)) = true) ∧ (o = r → o = 9 ∨ f % 2 ^ (o + 1) ≠ 0 ∨ (!anyF (fun k => !F k) f (o + 1)) = false) := by
  refine ⟨fun h => ?_, fun h => ?_⟩
  · have hd : f % 2 ^ (o + 1) = 0 := by
      have h1 : 2 ^ r ∣ f := ⟨f / 2 ^ r, by rw [Nat.mul_comm]; exact hs.symm⟩
      exact Nat.mod_eq_zero_of_dvd (Nat.dvd_trans (Nat.pow_dvd_pow 2 (by omega)) h1)
    exact ⟨by omega, hd, (all_al hd).2 (hR.1.sub (k := f) (by omega) rfl rfl)⟩
  · subst h
    rcases hR.2 with e | e
    · exact .inl e
    · by_cases c : f % 2 ^ (o + 1) = 0
      · refine .inr (.inr ?_)
        cases hv : (!anyF (fun k => !F k) f (o + 1))
        · rfl
        · refine absurd ((all_al c).1 hv) ?_
          rw [div_par]; exact e
      · exact .inr (.inl c)
set_option maxHeartbeats 4000000 in
set_option maxRecDepth 100000 in
theorem rruns_any (h : RBU w q ob lo n F) :
    Calls Tryd.prog 67 #[.pointer (some ⟨q, 0, none⟩)] w fun e w' => (∃ v, e = .returned v ∧ RL w' w.heap.size v (rl F (lo + n) lo)) ∧ Kp w w' := by
  have c0 := h.c0
  have hh := h.hh
  have HH : Hid (RBU w q ob lo n F) := h
  have y0 : (lo : Int) + n ≤ 1048576 := by omega
  obtain ⟨hi, hhi⟩ : ∃ hi : Nat, hi = lo + n := ⟨_, rfl⟩
  have y5 : (lo : Int) + n = hi := by omega
  have y6 : (hi : Int) ≤ 1048576 := by omega
  have HE : Hid (hi = lo + n) := hhi
  rw [← hhi]
  clear h hhi
  go_enter Tryd.func67, Tryd.ntmps67
  go_wp2_with fail
  clear c0
  go_loopg [3, 4] (hi + 1) (fun g v3 v4 wr => ∃ (f : Nat) (L : List (Nat × Nat)), v4 = .int .i64 (f : Int) ∧ lo ≤ f ∧ f ≤ hi ∧ hi + 1 - f ≤ g ∧ Hid (RL wr w.heap.size v3 L ∧ L ++ rl F hi f = rl F hi lo ∧ L.length ≤ f ∧ Cut F f) ∧ Hid (Kp w wr))
  case atStart => exact ⟨lo, [], rfl, by omega, by omega, by omega, ⟨RL.nil _ _, rfl, Nat.zero_le _, cut_lo HH.out.dom⟩, Kp.refl w⟩
  case round =>
    obtain ⟨f, L, rfl, f1, f2, hg, HL, HK⟩ := hrel
    have B := HH.out.kp HK.out
    have c0 := B.c0
    have c1 := B.c1
    have y1 : (f : Int) ≤ hi := by omega
    have HB : Hid (RBU wr q ob lo n F) := B
    have KD : Aside (∀ m, Kp wr (wr.drewN m)) := fun m => (Kp.refl wr).drewN m
    clear B
    by_cases e : f < hi
    · have z1 : (f : Int) < hi := by omega
      go_wp2_with fail
      have b1 : decide ((f : Int) < hi) = true := decide_eq_true (by omega)
      have b2 : decide (f < hi) = true := decide_eq_true (by omega)
      go_quiet (fail)
      rename_i nq
      clear b1 b2
      have HK1 : Hid (Kp w (wr.drewN nq)) := HK.out.trans (KD.out nq)
      have HB1 : Hid (RBU (wr.drewN nq) q ob lo n F) := HB.out.kp (KD.out nq)
      have HL1 : Hid (RL (wr.drewN nq) w.heap.size u3 L ∧ L ++ rl F hi f = rl F hi lo ∧ L.length ≤ f ∧ Cut F f) := ⟨HL.out.1.kp (KD.out nq), HL.out.2⟩
      clear HK HB HL KD c0 c1
      generalize wr.drewN nq = w1 at *
      have cH := rhas_any HB1.out (f : Int) (by omega)
      rw [hasB_nat] at cH
      cases hF : F f
      · rw [hF] at cH
        have HR : Hid (rl F hi f = rl F hi (f + 1) ∧ Cut F (f + 1)) := ⟨rl_off e hF, cut_off hF⟩
        clear hF
        go_wp2_with fail
        with_reducible refine cH.mono ?_
        rintro e w2 ⟨rfl, D2⟩
        have HK2 : Hid (Kp w w2) := HK1.out.trans D2.kp
        have HL2 : Hid (RL w2 w.heap.size u3 L ∧ L ++ rl F hi (f + 1) = rl F hi lo ∧ L.length ≤ f + 1 ∧ Cut F (f + 1)) := ⟨HL1.out.1.kp D2.kp, by rw [← HR.out.1]; exact HL1.out.2.1, by have := HL1.out.2.2.1; omega, HR.out.2⟩
        clear HL1 HK1 HB1 HR D2 cH
        go_wp2
        go_roundg (hi + 1 - (f + 1))
        case measure => omega
        case rel => exact ⟨f + 1, L, by go_num, by omega, by omega, by omega, HL2, HK2⟩
      · rw [hF] at cH
        obtain ⟨r, r1, r2⟩ := run_of hF
        have hr := rl_on e hF
        rw [ord_of r1 r2] at hr
        have hhi := (r2.1.range HB1.out.dom).2
        have hst := HL1.out.2.2.2.start r1 r2
        rw [hst, ← HE.out] at hhi
        have hp := Nat.two_pow_pos r
        have HR : Hid (rl F hi f = (f, r) :: rl F hi (f + 2 ^ r) ∧ Cut F (f + 2 ^ r) ∧ f + 2 ^ r ≤ hi ∧ 0 < 2 ^ r) := ⟨hr, HL1.out.2.2.2.on r1 r2, hhi, hp⟩
        have HCL : Aside (∀ o, o ≤ r → (o < r → o < 9 ∧ f % 2 ^ (o + 1) = 0 ∧ (!anyF (fun k => !F k) f (o + 1)) = true) ∧ (o = r → o = 9 ∨ f % 2 ^ (o + 1) ≠ 0 ∨ (!anyF (fun k => !F k) f (o + 1)) = false)) := fun o ho => climb r1 r2 hst ho
        clear hF hr hhi hst hp r2
        go_wp2_with fail
        with_reducible refine cH.mono ?_
        rintro e w2 ⟨rfl, D2⟩
        have HK2 : Hid (Kp w w2) := HK1.out.trans D2.kp
        have HB2 : Hid (RBU w2 q ob lo n F) := HB1.out.kp D2.kp
        have HL2 : Hid (RL w2 w.heap.size u3 L ∧ L ++ rl F hi f = rl F hi lo ∧ L.length ≤ f ∧ Cut F f) := ⟨HL1.out.1.kp D2.kp, HL1.out.2⟩
        clear HL1 HK1 HB1 D2 cH
        go_wp2_with fail
        go_loopg [5] (r + 1) (fun g v5 wq => ∃ o : Nat, v5 = .int .i64 (o : Int) ∧ o ≤ r ∧ r + 1 - o ≤ g ∧ Hid (Kp w2 wq))
        case atStart => exact ⟨0, rfl, by omega, by omega, Kp.refl w2⟩
        case round =>
          obtain ⟨o, rfl, ho, hgo, HQ⟩ := hrel
          obtain ⟨hA, hB⟩ := HCL.out o ho
          have e1 : (2 : Int) ^ (o + 1) = ((2 ^ (o + 1) : Nat) : Int) := by push_cast; rfl
          by_cases hor : o < r
          · obtain ⟨a1, a2, a3⟩ := hA hor
            have e2 := (pow_wrap (show o + 1 < 10 by omega)).2
            have cA := rall_any (HB2.out.kp HQ.out) f (o + 1) (by omega) (by omega)
            rw [a3] at cA
            have ht : ((f : Nat) : Int).tmod ((2 ^ (o + 1) : Nat) : Int) = 0 := by
              rw [Int.tmod_eq_emod_of_nonneg (by omega), ← Int.natCast_emod, a2]; rfl
            have hp := Nat.two_pow_pos (o + 1)
            have e1' : (2 : Int) ^ ((o : Int) + 1).toNat = ((2 ^ (o + 1) : Nat) : Int) := by rw [show ((o : Int) + 1).toNat = o + 1 by omega]; exact e1
            clear hA hB a2 a3
            generalize 2 ^ (o + 1) = s at *
            have y7 : (o : Int) < 9 := by omega
            have y8 : ¬ (s : Int) = 0 := by omega
            rw [show ((o + 1 : Nat) : Int) = (o : Int) + 1 by omega] at cA
            go_wp2_with fail
            with_reducible refine cA.mono ?_
            rintro e w3 ⟨rfl, D3⟩
            have HQ2 : Hid (Kp w2 w3) := HQ.out.trans D3.kp
            clear HQ D3 cA
            go_wp2
            go_roundg (r + 1 - (o + 1))
            case measure => omega
            case rel => exact ⟨o + 1, by go_num, by omega, by omega, HQ2⟩
          · have eor : o = r := by omega
            subst eor
            clear hA hor
            have hB' := hB rfl
            clear hB
            by_cases h9 : o = 9
            · have y7 : ¬ (o : Int) < 9 := by omega
              clear hB' e1 h9
              have K5 : Kp w wr := HK2.out.trans HQ.out
              have g1 := (pow_wrap (show o < 10 by omega)).2
              have g2 : (2 : Int) ^ o = ((2 ^ o : Nat) : Int) := by push_cast; rfl
              obtain ⟨v', w5, q1, q2, q3, _⟩ := (HL2.out.1.kp HQ.out).snoc K5.size f o (by have := HL2.out.2.2.1; omega)
              have HK5 : Hid (Kp w w5) := q3 w (Nat.le_refl _) K5
              have HL5 : Hid (RL w5 w.heap.size v' (L ++ [(f, o)]) ∧ (L ++ [(f, o)]) ++ rl F hi (f + 2 ^ o) = rl F hi lo ∧ (L ++ [(f, o)]).length ≤ f + 2 ^ o ∧ Cut F (f + 2 ^ o)) := ⟨q2, by
                rw [List.append_assoc, List.singleton_append, ← HR.out.1]; exact HL2.out.2.1, by
                rw [List.length_append]; have := HL2.out.2.2.1; have := HR.out.2.2.2; simp; omega, HR.out.2.1⟩
              have HS : Hid (f + 2 ^ o ≤ hi ∧ 0 < 2 ^ o) := HR.out.2.2
              clear HL2 HK2 HR q2 q3 K5 HCL HB2
              generalize 2 ^ o = s at *
              repeat' (first | ((with_reducible refine wp_append_of q1 (.tmp 48) (.tmp 52) ?_ ?_ ?_ ?_ ?_); rfl; rfl; rfl; rfl) | go_values | go_skip | go_guarded | go_step | go_upon | go_back | (simp only []) | (go_values <;> (try go_simp)) | (go_ite <;> go_prune <;> (try go_simp)))
              go_roundg (hi + 1 - (f + s))
              case measure => have := HS.out; omega
              case rel => exact ⟨f + s, _, by go_num, by omega, by have := HS.out; omega, by omega, HL5, HK5⟩
            · have y7 : (o : Int) < 9 := by omega
              have e2 := (pow_wrap (show o + 1 < 10 by omega)).2
              have hp := Nat.two_pow_pos (o + 1)
              by_cases hm : f % 2 ^ (o + 1) = 0
              · have a3 : (!anyF (fun k => !F k) f (o + 1)) = false := by
                  rcases hB' with c | c | c
                  · omega
                  · exact absurd hm c
                  · exact c
                have cA := rall_any (HB2.out.kp HQ.out) f (o + 1) (by omega) (by omega)
                rw [a3] at cA
                have ht : ((f : Nat) : Int).tmod ((2 ^ (o + 1) : Nat) : Int) = 0 := by
                  rw [Int.tmod_eq_emod_of_nonneg (by omega), ← Int.natCast_emod, hm]; rfl
                have e1' : (2 : Int) ^ ((o : Int) + 1).toNat = ((2 ^ (o + 1) : Nat) : Int) := by rw [show ((o : Int) + 1).toNat = o + 1 by omega]; exact e1
                clear hB' hm a3 h9
                generalize 2 ^ (o + 1) = s1 at *
                have y8 : ¬ (s1 : Int) = 0 := by omega
                rw [show ((o + 1 : Nat) : Int) = (o : Int) + 1 by omega] at cA
                go_wp2_with fail
                with_reducible refine cA.mono ?_
                rintro e w3 ⟨rfl, D3⟩
                have HQ2 : Hid (Kp w2 w3) := HQ.out.trans D3.kp
                clear HQ D3 cA ht e1 e1' e2 hp y8
                have K5 : Kp w w3 := HK2.out.trans HQ2.out
                have g1 := (pow_wrap (show o < 10 by omega)).2
                have g2 : (2 : Int) ^ o = ((2 ^ o : Nat) : Int) := by push_cast; rfl
                obtain ⟨v', w5, q1, q2, q3, _⟩ := (HL2.out.1.kp HQ2.out).snoc K5.size f o (by have := HL2.out.2.2.1; omega)
                have HK5 : Hid (Kp w w5) := q3 w (Nat.le_refl _) K5
                have HL5 : Hid (RL w5 w.heap.size v' (L ++ [(f, o)]) ∧ (L ++ [(f, o)]) ++ rl F hi (f + 2 ^ o) = rl F hi lo ∧ (L ++ [(f, o)]).length ≤ f + 2 ^ o ∧ Cut F (f + 2 ^ o)) := ⟨q2, by
                  rw [List.append_assoc, List.singleton_append, ← HR.out.1]; exact HL2.out.2.1, by
                  rw [List.length_append]; have := HL2.out.2.2.1; have := HR.out.2.2.2; simp; omega, HR.out.2.1⟩
                have HS : Hid (f + 2 ^ o ≤ hi ∧ 0 < 2 ^ o) := HR.out.2.2
                clear HL2 HK2 HR q2 q3 K5 HCL HB2
                generalize 2 ^ o = s at *
                repeat' (first | ((with_reducible refine wp_append_of q1 (.tmp 48) (.tmp 52) ?_ ?_ ?_ ?_ ?_); rfl; rfl; rfl; rfl) | go_values | go_skip | go_guarded | go_step | go_upon | go_back | (simp only []) | (go_values <;> (try go_simp)) | (go_ite <;> go_prune <;> (try go_simp)))
                go_roundg (hi + 1 - (f + s))
                case measure => have := HS.out; omega
                case rel => exact ⟨f + s, _, by go_num, by omega, by have := HS.out; omega, by omega, HL5, HK5⟩
              · obtain ⟨d, hd⟩ : ∃ d : Nat, d = f % 2 ^ (o + 1) := ⟨_, rfl⟩
                have ht : ((f : Nat) : Int).tmod ((2 ^ (o + 1) : Nat) : Int) = (d : Int) := by
                  rw [Int.tmod_eq_emod_of_nonneg (by omega), ← Int.natCast_emod, hd]
                have hd0 : ((d : Int) == 0) = false := by
                  have : ¬ (d : Int) = 0 := by omega
                  simpa using this
                have hd1 : ¬ (d : Int) = 0 := by omega
                have e1' : (2 : Int) ^ ((o : Int) + 1).toNat = ((2 ^ (o + 1) : Nat) : Int) := by rw [show ((o : Int) + 1).toNat = o + 1 by omega]; exact e1
                clear hB' hm hd h9
                generalize 2 ^ (o + 1) = s1 at *
                have y8 : ¬ (s1 : Int) = 0 := by omega
                have HQ2 : Hid (Kp w2 wr) := HQ.out
                clear HQ
                have K5 : Kp w wr := HK2.out.trans HQ2.out
                have g1 := (pow_wrap (show o < 10 by omega)).2
                have g2 : (2 : Int) ^ o = ((2 ^ o : Nat) : Int) := by push_cast; rfl
                obtain ⟨v', w5, q1, q2, q3, _⟩ := (HL2.out.1.kp HQ2.out).snoc K5.size f o (by have := HL2.out.2.2.1; omega)
                have HK5 : Hid (Kp w w5) := q3 w (Nat.le_refl _) K5
                have HL5 : Hid (RL w5 w.heap.size v' (L ++ [(f, o)]) ∧ (L ++ [(f, o)]) ++ rl F hi (f + 2 ^ o) = rl F hi lo ∧ (L ++ [(f, o)]).length ≤ f + 2 ^ o ∧ Cut F (f + 2 ^ o)) := ⟨q2, by
                  rw [List.append_assoc, List.singleton_append, ← HR.out.1]; exact HL2.out.2.1, by
                  rw [List.length_append]; have := HL2.out.2.2.1; have := HR.out.2.2.2; simp; omega, HR.out.2.1⟩
                have HS : Hid (f + 2 ^ o ≤ hi ∧ 0 < 2 ^ o) := HR.out.2.2
                clear HL2 HK2 HR q2 q3 K5 HCL HB2
                generalize 2 ^ o = s at *
                repeat' (first | ((with_reducible refine wp_append_of q1 (.tmp 48) (.tmp 52) ?_ ?_ ?_ ?_ ?_); rfl; rfl; rfl; rfl) | go_values | go_skip | go_guarded | go_step | go_upon | go_back | (simp only []) | (go_values <;> (try go_simp)) | (go_ite <;> go_prune <;> (try go_simp)))
                go_roundg (hi + 1 - (f + s))
                case measure => have := HS.out; omega
                case rel => exact ⟨f + s, _, by go_num, by omega, by have := HS.out; omega, by omega, HL5, HK5⟩
    · have ef : f = hi := by omega
      subst ef
      have HL2 : Aside (∀ m, RL (wr.drewN m) w.heap.size u3 (rl F f lo)) := fun m => by
        have h2 := HL.out.2.1
        rw [rl_end (Nat.le_refl _), List.append_nil] at h2
        show RL (wr.drewN m) w.heap.size u3 (rl F f lo)
        rw [← h2]; exact HL.out.1.kp (KD.out m)
      have HK2 : Aside (∀ m, Kp w (wr.drewN m)) := fun m => HK.out.trans (KD.out m)
      clear HL HK HB KD
      go_wp2_with fail
      have b1 : decide ((f : Int) < f) = false := decide_eq_false (by omega)
      have b2 : decide (f < f) = false := decide_eq_false (by omega)
      go_quiet (fail)
      go_wp2
      go_ret
      exact ⟨⟨_, rfl, HL2.out _⟩, HK2.out _⟩
end
end Go.Proofs.YtjnkmmfppkpgbaaDoor
