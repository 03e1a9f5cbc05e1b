/- The document's ledger: next, May, Do. -/
import Derived.Test.YtjeahpekcbogeaaGE
namespace Go.Proofs.Ytjeahpekcbogeaa
open Go.RowKit Go.Maps

variable {W w w' : World} {qd b N : Nat} {E : Int → Int × Int}
/-- What next tells: the error, and the entry where there is none. -/
def NXT (w : World) (r : Int) (v : Int × Int) (e : Ending) (w' : World) : Prop := (∃ s q : Int, e = .returned (.tuple #[.agg #[.int .i64 s, .int .i64 q], .int .i64 r]) ∧ (r = 0 → (s, q) = v)) ∧ Kp w w'
theorem NX.made0 (w : World) (o1 : Obj) (s q : Int) : NX ((w.alloc (.cells #[.int .i64 s, .int .i64 q] 36)).alloc o1) w.heap.size s q := (NX.made w s q).kp ((Kp.refl _).alloc _)
theorem NX.made00 (w : World) (o1 o2 : Obj) (s q : Int) : NX (((w.alloc (.cells #[.int .i64 s, .int .i64 q] 36)).alloc o1).alloc o2) w.heap.size s q := (NX.made0 w o1 s q).kp ((Kp.refl _).alloc _)

set_option maxHeartbeats 8000000 in
theorem dnext_rel (h : DL w qd b N E) (n : Nat) (hn : n < N) (q0 s q : Int) (he : E (n : Int) = (s, q)) :
    Calls Try.prog 23 #[.pointer (some ⟨qd, 0, none⟩), .int .i64 (n : Int), .int .i64 9, .int .i64 q0] w (NXT w (relN s q q0) (0, 0)) := by
  have k1 : Kp w (w.alloc (.cells #[.int .i64 0, .int .i64 0] 36)) := (Kp.refl w).alloc _
  have h2 := h.kp k1
  have c0 := h2.c0
  obtain ⟨d0, d1⟩ := h2.cell n hn
  rw [he] at d0 d1
  simp only at d0 d1
  have z1 : (n : Int) < N := by omega
  have z2 : (N : Int) ≤ 2000000 := by have := h.n2; omega
  have z3 : ¬ n < 0 := by omega
  have z4 : ¬ N ≤ n := by omega
  clear h h2 k1 he hn
  unfold relN NXT
  by_cases h0 : s = 0
  · subst h0
    rw [if_pos (.inl rfl)]
    go_enter Try.func23, Try.ntmps23
    go_wp2_with fail
    exact bodyPost_ret (res_n2 rfl rfl (NX.made0 w _ _ _)) rfl ⟨⟨_, _, rfl, (fun _ => rfl)⟩, ((Kp.refl _).alloc _).alloc _⟩
  by_cases h3 : s = 3
  · subst h3
    rw [if_pos (.inr rfl)]
    go_enter Try.func23, Try.ntmps23
    go_wp2_with fail
    exact bodyPost_ret (res_n2 rfl rfl (NX.made0 w _ _ _)) rfl ⟨⟨_, _, rfl, (fun _ => rfl)⟩, ((Kp.refl _).alloc _).alloc _⟩
  rw [if_neg (by omega)]
  have y0 : (s == 0) = false := beq_eq_false_iff_ne.2 h0
  have y3 : (s == 3) = false := beq_eq_false_iff_ne.2 h3
  have cP := dparty_any q0
  have fin : ∀ bf bq : Bool, fitB q0 (decide (s = 4) || decide (s = 5)) = bf → (q == q0) = bq → (if fitB q0 (decide (s = 4) || decide (s = 5)) = false then (1 : Int) else if q ≠ q0 then 21 else 0) = if bf = false then 1 else if bq = false then 21 else 0 := fun bf bq h1 h2 => by
    rw [h1, ← h2]
    by_cases e : q = q0 <;> simp [e]
  obtain ⟨bq, hq⟩ : ∃ bq, (q == q0) = bq := ⟨_, rfl⟩
  by_cases h45 : s = 4 ∨ s = 5
  · have eg : (decide (s = 4) || decide (s = 5)) = true := by simpa using h45
    obtain ⟨bf, hf⟩ : ∃ bf, fitB q0 true = bf := ⟨_, rfl⟩
    rw [fin bf bq (by rw [eg]; exact hf) hq]
    rw [hf] at cP
    clear fin eg hf
    have hq' : (q != q0) = !bq := by rw [bne, hq]
    obtain ⟨r, hr⟩ : ∃ r : Int, (if bf = false then 1 else if bq = false then 21 else 0) = r := ⟨_, rfl⟩
    rw [hr]
    rcases h45 with rfl | rfl <;> cases bf <;> cases bq
    all_goals
      simp at hr
      subst hr
      go_enter Try.func23, Try.ntmps23
      go_wp2_with (go_at_call 31; with_reducible refine (cP _).mono ?_; rintro e w' ⟨rfl, rfl⟩)
      exact bodyPost_ret (res_n2 rfl rfl (NX.made0 w _ _ _)) rfl ⟨⟨_, _, rfl, (fun _ => rfl)⟩, ((Kp.refl _).alloc _).alloc _⟩
  · have eg : (decide (s = 4) || decide (s = 5)) = false := by simpa using h45
    have y4 : (s == 4) = false := beq_eq_false_iff_ne.2 (by omega)
    have y5 : (s == 5) = false := beq_eq_false_iff_ne.2 (by omega)
    obtain ⟨bf, hf⟩ : ∃ bf, (q0 == 0) = bf := ⟨_, rfl⟩
    rw [fin bf bq (by rw [eg, ← hf]; unfold fitB; rw [if_neg (by decide), Bool.eq_iff_iff]; simp) hq]
    have hf' : (q0 != 0) = !bf := by rw [bne, hf]
    have hq' : (q != q0) = !bq := by rw [bne, hq]
    clear fin eg cP h45 h0 h3
    obtain ⟨r, hr⟩ : ∃ r : Int, (if bf = false then 1 else if bq = false then 21 else 0) = r := ⟨_, rfl⟩
    rw [hr]
    cases bf <;> cases bq
    all_goals
      simp at hr
      subst hr
      go_enter Try.func23, Try.ntmps23
      go_wp2_with fail
      all_goals exact bodyPost_ret (res_n2 rfl rfl (NX.made0 w _ _ _)) rfl ⟨⟨_, _, rfl, (fun _ => rfl)⟩, ((Kp.refl _).alloc _).alloc _⟩

end Go.Proofs.Ytjeahpekcbogeaa
