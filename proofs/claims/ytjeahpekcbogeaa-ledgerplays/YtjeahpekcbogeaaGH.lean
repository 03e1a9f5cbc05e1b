/- The document's ledger: next of anything, May, Do, List. -/
import Derived.Test.YtjeahpekcbogeaaGG
namespace Go.Proofs.Ytjeahpekcbogeaa
open Go.RowKit Go.Maps

variable {W w w' : World} {qd b N : Nat} {E : Int → Int × Int}
theorem NXT.other {r : Int} {v v' : Int × Int} {e : Ending} (h : NXT w r v e w') (hv : r = 0 → v = v') : NXT w r v' e w' := by
  obtain ⟨⟨s, q, e1, e2⟩, k⟩ := h
  exact ⟨⟨s, q, e1, fun hr => (e2 hr).trans (hv hr)⟩, k⟩
theorem aft_like (n : Nat) (h1 : 1 ≤ n) (h2 : n ≤ 10) (h9 : n ≠ 9) (s q q0 : Int) (h : movN s q (mvF n) (mvO n) (mvG n) q0 = 0) : (mvT n, if mvT n = 2 ∨ mvT n = 6 then 0 else q0) = aftN (n : Int) q0 := by
  obtain ⟨r1, _, _⟩ := movN_ok h
  have e : n = 1 ∨ n = 2 ∨ n = 3 ∨ n = 4 ∨ n = 5 ∨ n = 6 ∨ n = 7 ∨ n = 8 ∨ n = 10 := by omega
  clear h h1 h2 h9
  rcases e with rfl | rfl | rfl | rfl | rfl | rfl | rfl | rfl | rfl
  · rw [fit_no r1]; rfl
  all_goals rfl

set_option maxHeartbeats 8000000 in
theorem dnext_out (h : DL w qd b N E) (x a q0 : Int) (hx : x < 0 ∨ (N : Int) ≤ x) (v : Int × Int) :
    Calls Try.prog 23 #[.pointer (some ⟨qd, 0, none⟩), .int .i64 x, .int .i64 a, .int .i64 q0] w (NXT w 2 v) := by
  have k1 : Kp w (w.alloc (.cells #[.int .i64 0, .int .i64 0] 36)) := (Kp.refl w).alloc _
  have c0 := (h.kp k1).c0
  have z2 : (N : Int) ≤ 2000000 := by have := h.n2; omega
  clear h k1
  unfold NXT
  by_cases h1 : x < 0
  · clear hx
    go_enter Try.func23, Try.ntmps23
    go_wp2_with fail
    first | exact bodyPost_ret (res_n2 rfl rfl (NX.made w _ _)) rfl ⟨⟨_, _, rfl, (by intro h; omega)⟩, (Kp.refl _).alloc _⟩ | exact bodyPost_ret (res_n2 rfl rfl (NX.made w _ _)) rfl ⟨⟨_, _, rfl⟩, (Kp.refl _).alloc _⟩
  · have h3 : (N : Int) ≤ x := by omega
    clear hx
    go_enter Try.func23, Try.ntmps23
    go_wp2_with fail
    first | exact bodyPost_ret (res_n2 rfl rfl (NX.made w _ _)) rfl ⟨⟨_, _, rfl, (by intro h; omega)⟩, (Kp.refl _).alloc _⟩ | exact bodyPost_ret (res_n2 rfl rfl (NX.made w _ _)) rfl ⟨⟨_, _, rfl⟩, (Kp.refl _).alloc _⟩
set_option maxHeartbeats 8000000 in
theorem dnext_act (h : DL w qd b N E) (n : Nat) (hn : n < N) (a q0 : Int) (ha : a < 1 ∨ 10 < a) (v : Int × Int) :
    Calls Try.prog 23 #[.pointer (some ⟨qd, 0, none⟩), .int .i64 (n : Int), .int .i64 a, .int .i64 q0] w (NXT w 1 v) := by
  have k1 : Kp w (w.alloc (.cells #[.int .i64 0, .int .i64 0] 36)) := (Kp.refl w).alloc _
  have h2 := h.kp k1
  have c0 := h2.c0
  obtain ⟨d0, d1⟩ := h2.cell n hn
  have z1 : (n : Int) < N := by omega
  have z2 : (N : Int) ≤ 2000000 := by have := h.n2; omega
  have z3 : ¬ n < 0 := by omega
  have z4 : ¬ N ≤ n := by omega
  have cR := drow_no a ha
  have y9 : (a == 9) = false := beq_eq_false_iff_ne.2 (by omega)
  clear h h2 k1 hn ha
  generalize (E (n : Int)).1 = s at *
  generalize (E (n : Int)).2 = q at *
  unfold NXT
  go_enter Try.func23, Try.ntmps23
  go_wp2_with (first | (go_at_call 32; with_reducible refine (cR _).mono ?_; rintro e w' ⟨rfl, rfl⟩))
  exact bodyPost_ret (res_n2 rfl rfl (NX.made0 w _ _ _)) rfl ⟨⟨_, _, rfl, (by intro h; omega)⟩, ((Kp.refl _).alloc _).alloc _⟩
theorem dnext_any (h : DL w qd b N E) (x a q0 : Int) :
    Calls Try.prog 23 #[.pointer (some ⟨qd, 0, none⟩), .int .i64 x, .int .i64 a, .int .i64 q0] w (NXT w (mayN N (E x) x a q0) (aftN a q0)) := by
  by_cases hx : x < 0 ∨ (N : Int) ≤ x
  · unfold mayN
    rw [if_pos hx]
    exact dnext_out h x a q0 hx _
  · obtain ⟨n, rfl⟩ : ∃ n : Nat, x = n := ⟨x.toNat, by omega⟩
    by_cases ha : a < 1 ∨ 10 < a
    · unfold mayN
      rw [if_neg hx, if_pos ha]
      exact dnext_act h n (by omega) a q0 ha _
    · obtain ⟨s, q, he⟩ : ∃ s q, E (n : Int) = (s, q) := ⟨_, _, rfl⟩
      rw [he]
      by_cases h9 : a = 9
      · subst h9
        rw [may_rel (by omega) (by omega)]
        exact dnext_rel h n (by omega) q0 s q he
      · obtain ⟨k, rfl⟩ : ∃ k : Nat, a = k := ⟨a.toNat, by omega⟩
        rw [may_mov (by omega) (by omega) s q q0 k (by omega) (by omega) (by omega)]
        refine (dnext_mw h n (by omega) (k : Int) q0 s q (mvF k) (mvT k) (mvO k) (mvG k) he (beq_eq_false_iff_ne.2 (by omega)) (drow_ok k (by omega) (by omega) (by omega))).mono (fun e w' hN => hN.other (aft_like k (by omega) (by omega) (by omega) s q q0))

set_option maxHeartbeats 2000000 in
theorem dmay_any (h : DL w qd b N E) (x a q0 : Int) :
    Calls Try.prog 11 #[.pointer (some ⟨qd, 0, none⟩), .int .i64 x, .int .i64 a, .int .i64 q0] w fun e w' => e = .returned (.int .i64 (mayN N (E x) x a q0)) ∧ Kp w w' := by
  have cX := dnext_any h x a q0
  generalize mayN N (E x) x a q0 = r at *
  clear h
  unfold NXT at cX
  go_enter Try.func11, Try.ntmps11
  go_wp2_with (first | (go_at_call 23; with_reducible refine cX.mono ?_; rintro e w1 ⟨⟨s, q, rfl, _⟩, K1⟩))
  go_ret
  exact ⟨rfl, K1.alloc _⟩
set_option maxHeartbeats 2000000 in
theorem ddo_any (h : DL w qd b N E) (x a q0 : Int) :
    Calls Try.prog 13 #[.pointer (some ⟨qd, 0, none⟩), .int .i64 x, .int .i64 a, .int .i64 q0] w fun e w' => e = .returned (.int .i64 (mayN N (E x) x a q0)) ∧ DL w' qd b N (doE N E x a q0) ∧ Fr (· = b) w w' := by
  have cX := dnext_any h x a q0
  have HH : Hid (DL w qd b N E) := h
  unfold doE
  by_cases e : mayN N (E x) x a q0 = 0
  · obtain ⟨h0, h1, h2, h3⟩ := mayN_ok e
    have hf := aftN_free (q := q0) h2 h3
    rw [if_pos e, e]
    rw [e] at cX
    obtain ⟨n, rfl⟩ : ∃ n : Nat, x = n := ⟨x.toNat, by omega⟩
    have z1 : (n : Int) < N := by omega
    have z2 : (N : Int) ≤ 2000000 := by have := h.n2; omega
    have HF : Hid (n < N ∧ ((aftN a q0).1 = 0 → aftN a q0 = (0, 0))) := ⟨by omega, hf⟩
    clear h e h0 h1 h2 h3 hf
    generalize aftN a q0 = v at *
    unfold NXT at cX
    go_enter Try.func13, Try.ntmps13
    go_wp2_with fail
    with_reducible refine cX.mono ?_
    rintro e w1 ⟨⟨s, q, rfl, hv⟩, K1⟩
    have hv' : (s, q) = v := by first | exact hv rfl | exact hv trivial
    subst hv'
    clear hv cX
    have K2 : Kp w (w1.alloc (.cells #[.int .i64 s, .int .i64 q] 36)).drew := (K1.alloc _).drew
    have D2 := HH.out.kp K2
    have D3 := HH.out.kp (K1.alloc (.cells #[.int .i64 s, .int .i64 q] 36))
    have c0 := D3.c0
    obtain ⟨d0, d1⟩ := D3.cell n HF.out.1
    have f0 := D3.frz (n * 2)
    have f1 := D3.frz (n * 2 + 1)
    obtain ⟨T1, T2⟩ := D2.set n HF.out.1 (s, q) HF.out.2
    have HT : Hid (DL (((w1.alloc (.cells #[.int .i64 s, .int .i64 q] 36)).drew.setCell ⟨b, n * 2, none⟩ (.int .i64 s)).setCell ⟨b, n * 2 + 1, none⟩ (.int .i64 q)) qd b N (putE E (n : Int) (s, q)) ∧ Fr (· = b) w (((w1.alloc (.cells #[.int .i64 s, .int .i64 q] 36)).drew.setCell ⟨b, n * 2, none⟩ (.int .i64 s)).setCell ⟨b, n * 2 + 1, none⟩ (.int .i64 q))) := ⟨T1, (K2.fr _).trans T2⟩
    clear D2 D3 T1 T2 K2 K1
    go_wp2_with fail
    go_region
    go_wp2_with fail
    go_ret
    exact ⟨rfl, HT.out⟩
  · rw [if_neg e]
    have y : (mayN N (E x) x a q0 == 0) = false := beq_eq_false_iff_ne.2 e
    clear h
    generalize mayN N (E x) x a q0 = r at *
    unfold NXT at cX
    go_enter Try.func13, Try.ntmps13
    go_wp2_with (first | (go_at_call 23; with_reducible refine cX.mono ?_; rintro e w1 ⟨⟨s, q, rfl, _⟩, K1⟩))
    go_ret
    exact ⟨rfl, HH.out.kp (K1.alloc _), (K1.alloc _).fr _⟩

/-! ### List -/
set_option maxHeartbeats 4000000 in
set_option maxRecDepth 100000 in
theorem dlist_any (h : DL w qd b N E) (st pt : Int) :
    Calls Try.prog 16 #[.pointer (some ⟨qd, 0, none⟩), .int .i64 st, .int .i64 pt] w fun e w' => (∃ v, e = .returned v ∧ IL w' v (lsE E N st pt)) ∧ Kp w w' := by
  have HH : Hid (DL w qd b N E) := h
  have N2 : Hid (N ≤ 1048576) := h.n2
  clear h
  unfold lsE
  obtain ⟨F, hF⟩ : ∃ F, (fun x => isN (E x) st pt) = F := ⟨_, rfl⟩
  have HF : Hid (∀ x, F x = isN (E x) st pt) := (show ∀ x, F x = isN (E x) st pt from fun x => by rw [← hF])
  rw [hF]
  clear hF
  go_enter Try.func16, Try.ntmps16
  go_wp2_with fail
  go_loopg [7, 8] (N + 1) (fun g v7 v8 wr => ∃ (k : Nat), v8 = .int .i64 (k : Int) ∧ k ≤ N ∧ N + 1 - k ≤ g ∧ Hid (LI wr w.heap.size v7 (fl F k) ∧ Kp w wr))
  case atStart => exact ⟨0, rfl, by omega, by omega, LI.nil _ _, Kp.refl _⟩
  case round =>
    obtain ⟨k, rfl, hk, hg, HL⟩ := hrel
    have y1 : (k : Int) ≤ N := by omega
    have DD := HH.out.kp HL.out.2
    have c0 := DD.c0
    have y9 : (N : Int) ≤ 2000000 := by have := N2.out; omega
    by_cases e : k < N
    · have z1 : (k : Int) < N := by omega
      have z2 : (k : Int) ≤ 2000000 := by omega
      obtain ⟨d0, d1⟩ := DD.cell k e
      have hFk := HF.out (k : Int)
      obtain ⟨s, q, he⟩ : ∃ s q, E (k : Int) = (s, q) := ⟨_, _, rfl⟩
      rw [he] at d0 d1 hFk
      simp only at d0 d1
      have hlen := fl_le F k
      obtain ⟨v', w2, r1, r2, r3⟩ := HL.out.1.snoc HL.out.2.size (k : Int) (by omega)
      have HL2 : Hid (F (k : Int) = true → LI w2 w.heap.size v' (fl F (k + 1)) ∧ Kp w w2) := (show F (k : Int) = true → LI w2 w.heap.size v' (fl F (k + 1)) ∧ Kp w w2 from fun h => ⟨by rw [fl_succ_on h]; exact r2, HL.out.1.kp_of r3 (Nat.le_refl _) HL.out.2⟩)
      have HL3 : Hid (F (k : Int) = false → LI wr w.heap.size u7 (fl F (k + 1)) ∧ Kp w wr) := (show F (k : Int) = false → LI wr w.heap.size u7 (fl F (k + 1)) ∧ Kp w wr from fun h => ⟨by rw [fl_succ_off h]; exact HL.out.1, HL.out.2⟩)
      clear HL r2 r3 he hlen DD
      unfold isN at hFk
      simp only at hFk
      by_cases hs : s = st
      · subst hs
        rw [decide_eq_true rfl, Bool.true_and] at hFk
        by_cases hp : pt < 0
        · rw [decide_eq_true hp, Bool.true_or] at hFk
          have HL4 : Hid (LI w2 w.heap.size v' (fl F (k + 1)) ∧ Kp w w2) := HL2.out hFk
          clear HL2 HL3 hFk
          repeat' (first | ((with_reducible refine wp_append_of r1 (.tmp 44) (.tmp 46) ?_ ?_ ?_ ?_ ?_); rfl; rfl; rfl; rfl) | go_values | go_skip | go_guarded | go_step | go_upon | go_back | (simp only []) | (go_values <;> (try go_simp)) | (go_ite <;> go_prune <;> (try go_simp)))
          go_roundg (N + 1 - (k + 1))
          case measure => omega
          case rel => exact ⟨k + 1, by go_num, by omega, by omega, HL4⟩
        · rw [decide_eq_false hp, Bool.false_or] at hFk
          by_cases hq : q = pt
          · subst hq
            rw [decide_eq_true rfl] at hFk
            have HL4 : Hid (LI w2 w.heap.size v' (fl F (k + 1)) ∧ Kp w w2) := HL2.out hFk
            clear HL2 HL3 hFk
            repeat' (first | ((with_reducible refine wp_append_of r1 (.tmp 44) (.tmp 46) ?_ ?_ ?_ ?_ ?_); rfl; rfl; rfl; rfl) | go_values | go_skip | go_guarded | go_step | go_upon | go_back | (simp only []) | (go_values <;> (try go_simp)) | (go_ite <;> go_prune <;> (try go_simp)))
            go_roundg (N + 1 - (k + 1))
            case measure => omega
            case rel => exact ⟨k + 1, by go_num, by omega, by omega, HL4⟩
          · rw [decide_eq_false hq] at hFk
            have HL4 : Hid (LI wr w.heap.size u7 (fl F (k + 1)) ∧ Kp w wr) := HL3.out hFk
            have yq : (q == pt) = false := beq_eq_false_iff_ne.2 hq
            clear HL2 HL3 hFk r1
            go_wp2_with fail
            go_roundg (N + 1 - (k + 1))
            case measure => omega
            case rel => exact ⟨k + 1, by go_num, by omega, by omega, HL4⟩
      · rw [decide_eq_false hs, Bool.false_and] at hFk
        have HL4 : Hid (LI wr w.heap.size u7 (fl F (k + 1)) ∧ Kp w wr) := HL3.out hFk
        have ys : (s == st) = false := beq_eq_false_iff_ne.2 hs
        clear HL2 HL3 hFk r1
        go_wp2_with fail
        go_roundg (N + 1 - (k + 1))
        case measure => omega
        case rel => exact ⟨k + 1, by go_num, by omega, by omega, HL4⟩
    · have ek : k = N := by omega
      subst ek
      clear DD
      go_wp2_with fail
      go_ret
      exact ⟨⟨_, rfl, HL.out.1.il⟩, HL.out.2⟩

end Go.Proofs.Ytjeahpekcbogeaa
