/- The document's ledger: next of a move that is no release. -/
import Derived.Test.YtjeahpekcbogeaaGF
namespace Go.Proofs.Ytjeahpekcbogeaa
open Go.RowKit Go.Maps

variable {W w w' : World} {qd b N : Nat} {E : Int → Int × Int}
theorem NX.put00 (w : World) (o1 : Obj) (s q : Int) (s' q' : Int) : NX (((w.alloc (.cells #[.int .i64 s, .int .i64 q] 36)).alloc o1).alloc (.cells #[.int .i64 s', .int .i64 q'] 36)) w.heap.size s q := NX.made00 w o1 _ s q
set_option maxHeartbeats 16000000 in
theorem dnext_mw (h : DL w qd b N E) (n : Nat) (hn : n < N) (a q0 s q f t : Int) (o g : Bool) (he : E (n : Int) = (s, q)) (h9 : (a == 9) = false)
    (cR : ∀ w, Calls Try.prog 32 #[.int .i64 a] w fun e w' => e = .returned (.tuple #[.int .i64 f, .int .i64 t, .bool (o || g), .bool o, .bool true]) ∧ w' = w) :
    Calls Try.prog 23 #[.pointer (some ⟨qd, 0, none⟩), .int .i64 (n : Int), .int .i64 a, .int .i64 q0] w (NXT w (movN s q f o g q0) (t, if t = 2 ∨ t = 6 then 0 else q0)) := by
  have k1 : Kp w (w.alloc (.cells #[.int .i64 0, .int .i64 0] 36)) := (Kp.refl w).alloc _
  have h2 := h.kp k1
  have c0 := h2.c0
  obtain ⟨d0, d1⟩ := h2.cell n hn
  rw [he] at d0 d1
  simp only at d0 d1
  have z1 : (n : Int) < N := by omega
  have z2 : (N : Int) ≤ 2000000 := by have := h.n2; omega
  have z3 : ¬ n < 0 := by omega
  have z4 : ¬ N ≤ n := by omega
  clear h h2 k1 he hn
  have cP := dparty_any q0
  obtain ⟨bf, hf⟩ : ∃ bf, fitB q0 (o || g) = bf := ⟨_, rfl⟩
  have hz : (o || g) = false → (q0 == 0) = bf ∧ (q0 != 0) = !bf := fun e => by
    have : (q0 == 0) = bf := by rw [← hf, e]; unfold fitB; rw [if_neg (by decide), Bool.eq_iff_iff]; simp
    exact ⟨this, by rw [bne, this]⟩
  have hp : (o || g) = true → fitB q0 true = bf := fun e => by rw [← hf, e]
  obtain ⟨v, hv⟩ : ∃ v, (t, if t = 2 ∨ t = 6 then 0 else q0) = v := ⟨_, rfl⟩
  rw [hv]
  have HV : Hid ((t, if t = 2 ∨ t = 6 then 0 else q0) = v) := hv
  clear hv
  unfold movN
  rw [hf]
  clear hf
  cases bf
  · rw [if_pos rfl]
    unfold NXT
    cases o <;> cases g <;> simp only [Bool.or_true, Bool.or_false] at cR
    · obtain ⟨y1, y2⟩ := hz rfl
      clear hz hp
      go_enter Try.func23, Try.ntmps23
      go_wp2_with (first | (go_at_call 32; with_reducible refine (cR _).mono ?_; rintro e w' ⟨rfl, rfl⟩))
      exact bodyPost_ret (res_n2 rfl rfl (by first | exact NX.made0 w _ _ _ | exact NX.made00 w _ _ _ _)) rfl ⟨⟨_, _, rfl, (by first | exact (fun _ => rfl) | (intro h; omega))⟩, by first | exact ((Kp.refl _).alloc _).alloc _ | exact (((Kp.refl _).alloc _).alloc _).alloc _⟩
    all_goals
      rw [hp rfl] at cP
      clear hz hp
      go_enter Try.func23, Try.ntmps23
      go_wp2_with (first | (go_at_call 32; with_reducible refine (cR _).mono ?_; rintro e w' ⟨rfl, rfl⟩) | (go_at_call 31; with_reducible refine (cP _).mono ?_; rintro e w' ⟨rfl, rfl⟩))
      exact bodyPost_ret (res_n2 rfl rfl (by first | exact NX.made0 w _ _ _ | exact NX.made00 w _ _ _ _)) rfl ⟨⟨_, _, rfl, (by first | exact (fun _ => rfl) | (intro h; omega))⟩, by first | exact ((Kp.refl _).alloc _).alloc _ | exact (((Kp.refl _).alloc _).alloc _).alloc _⟩
  · rw [if_neg (by decide)]
    by_cases hs : s = f
    · subst hs
      rw [if_neg (by simp)]
      by_cases h21 : o = true ∧ q ≠ q0
      · rw [if_pos h21]
        obtain ⟨rfl, h21⟩ := h21
        have y3 : (q == q0) = false := beq_eq_false_iff_ne.2 h21
        unfold NXT
        simp only [Bool.true_or] at cR
        rw [hp rfl] at cP
        clear hz hp
        go_enter Try.func23, Try.ntmps23
        go_wp2_with (first | (go_at_call 32; with_reducible refine (cR _).mono ?_; rintro e w' ⟨rfl, rfl⟩) | (go_at_call 31; with_reducible refine (cP _).mono ?_; rintro e w' ⟨rfl, rfl⟩))
        exact bodyPost_ret (res_n2 rfl rfl (by first | exact NX.made0 w _ _ _ | exact NX.made00 w _ _ _ _)) rfl ⟨⟨_, _, rfl, (by first | exact (fun _ => rfl) | (intro h; omega))⟩, by first | exact ((Kp.refl _).alloc _).alloc _ | exact (((Kp.refl _).alloc _).alloc _).alloc _⟩
      · rw [if_neg h21]
        have hqo : o = true → q = q0 := fun e => Decidable.byContradiction fun e2 => h21 ⟨e, e2⟩
        clear h21
        unfold NXT
        by_cases t2 : t = 2
        · subst t2
          have hv := HV.out
          rw [if_pos (.inl rfl)] at hv
          subst hv
          clear HV
          cases o <;> cases g <;> simp only [Bool.or_true, Bool.or_false] at cR
          all_goals first | (obtain ⟨y1, y2⟩ := hz rfl) | (rw [hp rfl] at cP)
          all_goals first | (obtain rfl := hqo rfl) | skip
          all_goals
            clear hz hp hqo
            go_enter Try.func23, Try.ntmps23
            go_wp2_with (first | (go_at_call 32; with_reducible refine (cR _).mono ?_; rintro e w' ⟨rfl, rfl⟩) | (go_at_call 31; with_reducible refine (cP _).mono ?_; rintro e w' ⟨rfl, rfl⟩))
            exact bodyPost_ret (res_n2 rfl rfl (by first | exact NX.made0 w _ _ _ | exact NX.made00 w _ _ _ _)) rfl ⟨⟨_, _, rfl, (by first | exact (fun _ => rfl) | (intro h; omega))⟩, by first | exact ((Kp.refl _).alloc _).alloc _ | exact (((Kp.refl _).alloc _).alloc _).alloc _⟩
        · by_cases t6 : t = 6
          · subst t6
            have hv := HV.out
            rw [if_pos (.inr rfl)] at hv
            subst hv
            clear HV
            cases o <;> cases g <;> simp only [Bool.or_true, Bool.or_false] at cR
            all_goals first | (obtain ⟨y1, y2⟩ := hz rfl) | (rw [hp rfl] at cP)
            all_goals first | (obtain rfl := hqo rfl) | skip
            all_goals
              clear hz hp hqo
              go_enter Try.func23, Try.ntmps23
              go_wp2_with (first | (go_at_call 32; with_reducible refine (cR _).mono ?_; rintro e w' ⟨rfl, rfl⟩) | (go_at_call 31; with_reducible refine (cP _).mono ?_; rintro e w' ⟨rfl, rfl⟩))
              exact bodyPost_ret (res_n2 rfl rfl (by first | exact NX.made0 w _ _ _ | exact NX.made00 w _ _ _ _)) rfl ⟨⟨_, _, rfl, (by first | exact (fun _ => rfl) | (intro h; omega))⟩, by first | exact ((Kp.refl _).alloc _).alloc _ | exact (((Kp.refl _).alloc _).alloc _).alloc _⟩
          · have hv := HV.out
            rw [if_neg (by omega)] at hv
            subst hv
            have y4 : (t == 2) = false := beq_eq_false_iff_ne.2 t2
            have y5 : (t == 6) = false := beq_eq_false_iff_ne.2 t6
            clear HV
            cases o <;> cases g <;> simp only [Bool.or_true, Bool.or_false] at cR
            all_goals first | (obtain ⟨y1, y2⟩ := hz rfl) | (rw [hp rfl] at cP)
            all_goals first | (obtain rfl := hqo rfl) | skip
            all_goals
              clear hz hp hqo
              go_enter Try.func23, Try.ntmps23
              go_wp2_with (first | (go_at_call 32; with_reducible refine (cR _).mono ?_; rintro e w' ⟨rfl, rfl⟩) | (go_at_call 31; with_reducible refine (cP _).mono ?_; rintro e w' ⟨rfl, rfl⟩))
              exact bodyPost_ret (res_n2 rfl rfl (by first | exact NX.made0 w _ _ _ | exact NX.made00 w _ _ _ _)) rfl ⟨⟨_, _, rfl, (by first | exact (fun _ => rfl) | (intro h; omega))⟩, by first | exact ((Kp.refl _).alloc _).alloc _ | exact (((Kp.refl _).alloc _).alloc _).alloc _⟩
    · rw [if_pos hs]
      have y3 : (s == f) = false := beq_eq_false_iff_ne.2 hs
      unfold NXT
      cases o <;> cases g <;> simp only [Bool.or_true, Bool.or_false] at cR
      · obtain ⟨y1, y2⟩ := hz rfl
        clear hz hp
        go_enter Try.func23, Try.ntmps23
        go_wp2_with (first | (go_at_call 32; with_reducible refine (cR _).mono ?_; rintro e w' ⟨rfl, rfl⟩))
        exact bodyPost_ret (res_n2 rfl rfl (by first | exact NX.made0 w _ _ _ | exact NX.made00 w _ _ _ _)) rfl ⟨⟨_, _, rfl, (by first | exact (fun _ => rfl) | (intro h; omega))⟩, by first | exact ((Kp.refl _).alloc _).alloc _ | exact (((Kp.refl _).alloc _).alloc _).alloc _⟩
      all_goals
        rw [hp rfl] at cP
        clear hz hp
        go_enter Try.func23, Try.ntmps23
        go_wp2_with (first | (go_at_call 32; with_reducible refine (cR _).mono ?_; rintro e w' ⟨rfl, rfl⟩) | (go_at_call 31; with_reducible refine (cP _).mono ?_; rintro e w' ⟨rfl, rfl⟩))
        exact bodyPost_ret (res_n2 rfl rfl (by first | exact NX.made0 w _ _ _ | exact NX.made00 w _ _ _ _)) rfl ⟨⟨_, _, rfl, (by first | exact (fun _ => rfl) | (intro h; omega))⟩, by first | exact ((Kp.refl _).alloc _).alloc _ | exact (((Kp.refl _).alloc _).alloc _).alloc _⟩

end Go.Proofs.Ytjeahpekcbogeaa
