/- ledger: May, put, Do. -/
import Derived.Test.YtjeahpekcbogeaaG5
namespace Go.Proofs.Ytjeahpekcbogeaa
open Go.RowKit Go.Maps

/-- What May tells of the frame x, whose entry is e. -/
def mayN (N : Nat) (e : Int × Int) (x a q : Int) : Int :=
  if x < 0 ∨ (N : Int) ≤ x then 2 else if a < 1 ∨ 10 < a then 1 else if a = 9 then relN e.1 e.2 q else movN e.1 e.2 (mvF a.toNat) (mvO a.toNat) (mvG a.toNat) q
/-- The entry behind the move. -/
def aftN (a q : Int) : Int × Int := (mvT a.toNat, if mvG a.toNat then q else 0)
/-- What Do leaves. -/
def doE (N : Nat) (E : Int → Int × Int) (x a q : Int) : Int → Int × Int := if mayN N (E x) x a q = 0 then putE E x (aftN a q) else E

theorem mayN_ok {N : Nat} {e : Int × Int} {x a q : Int} (h : mayN N e x a q = 0) : 0 ≤ x ∧ x < (N : Int) ∧ 1 ≤ a ∧ a ≤ 10 := by
  unfold mayN at h
  by_cases h1 : x < 0 ∨ (N : Int) ≤ x
  · rw [if_pos h1] at h; omega
  · rw [if_neg h1] at h
    by_cases h2 : a < 1 ∨ 10 < a
    · rw [if_pos h2] at h; omega
    · omega
theorem aftN_free {a q : Int} (h1 : 1 ≤ a) (h2 : a ≤ 10) (h : (aftN a q).1 = 0) : aftN a q = (0, 0) := by
  have h' : mvT a.toNat = 0 := h
  clear h
  have e : a = 1 ∨ a = 2 ∨ a = 3 ∨ a = 4 ∨ a = 5 ∨ a = 6 ∨ a = 7 ∨ a = 8 ∨ a = 9 ∨ a = 10 := by omega
  rcases e with rfl | rfl | rfl | rfl | rfl | rfl | rfl | rfl | rfl | rfl <;> first | rfl | (exact absurd h' (by decide))

variable {w w' : World} {p bm N : Nat} {E : Int → Int × Int}
set_option maxHeartbeats 4000000 in
theorem lmay_any (h : LG w p bm N E) (x a q : Int) (hx : (Lit.int .i64 x).wf = true) :
    Calls Try.prog 10 #[.pointer (some ⟨p, 0, none⟩), .int .i64 x, .int .i64 a, .int .i64 q] w fun e w' => e = .returned (.int .i64 (mayN N (E x) x a q)) ∧ Kp w w' := by
  have cG := lget_any h x hx
  have c0 := h.c0
  unfold mayN
  unfold entV at cG
  generalize E x = e at *
  obtain ⟨s, t⟩ := e
  simp only at cG ⊢
  clear h hx
  by_cases h1 : x < 0
  · rw [if_pos (.inl h1)]
    clear cG
    go_enter Try.func10, Try.ntmps10
    go_wp2_with fail
    go_ret
    exact ⟨rfl, Kp.refl _⟩
  by_cases h2 : (N : Int) ≤ x
  · rw [if_pos (.inr h2)]
    clear cG
    go_enter Try.func10, Try.ntmps10
    go_wp2_with fail
    go_ret
    exact ⟨rfl, Kp.refl _⟩
  rw [if_neg (by omega)]
  by_cases h3 : a < 1
  · rw [if_pos (.inl h3)]
    clear cG
    go_enter Try.func10, Try.ntmps10
    go_wp2_with fail
    go_ret
    exact ⟨rfl, Kp.refl _⟩
  by_cases h4 : 10 < a
  · rw [if_pos (.inr h4)]
    clear cG
    go_enter Try.func10, Try.ntmps10
    go_wp2_with fail
    go_ret
    exact ⟨rfl, Kp.refl _⟩
  rw [if_neg (by omega)]
  by_cases h9 : a = 9
  · subst h9
    rw [if_pos rfl]
    have cR := mrel_any s t q
    generalize relN s t q = r at *
    go_enter Try.func10, Try.ntmps10
    go_wp2_with (first | (go_at_call 14; with_reducible refine cG.mono ?_; rintro e w1 ⟨rfl, K1⟩) | (go_at_call 20; with_reducible refine (cR _).mono ?_; rintro e w2 ⟨rfl, K2⟩))
    go_ret
    exact ⟨rfl, K1.trans K2⟩
  · rw [if_neg h9]
    obtain ⟨n, rfl⟩ : ∃ n : Nat, a = n := ⟨a.toNat, by omega⟩
    rw [Int.toNat_natCast]
    have cM := moveOf_any n (by omega)
    have cV := mmov_any s t (mvF n) (mvT n) q (mvO n) (mvG n)
    generalize movN s t (mvF n) (mvO n) (mvG n) q = r at *
    generalize mvF n = f at *
    generalize mvT n = u at *
    generalize mvO n = o at *
    generalize mvG n = g at *
    have y9 : ((n : Int) == 9) = false := by simpa using h9
    have y3 : ¬ n < 1 := by omega
    have y4 : ¬ 10 < n := by omega
    go_enter Try.func10, Try.ntmps10
    go_wp2_with (first | (go_at_call 14; with_reducible refine cG.mono ?_; rintro e w1 ⟨rfl, K1⟩) | (go_at_call 22; with_reducible refine (cM _).mono ?_; rintro e w2 ⟨rfl, K2⟩) | (go_at_call 21; with_reducible refine (cV _).mono ?_; rintro e w3 ⟨rfl, K3⟩))
    go_ret
    exact ⟨rfl, (K1.trans K2).trans K3⟩

set_option maxHeartbeats 4000000 in
theorem lput_any (h : LG w p bm N E) (x : Int) (v : Int × Int) (h0 : 0 ≤ x) (h1 : x < (N : Int)) (hv : v.1 = 0 → v = (0, 0)) :
    Calls Try.prog 24 #[.pointer (some ⟨p, 0, none⟩), .int .i64 x, entV v] w fun e w' => e = .returned (.tuple #[]) ∧ LG w' p bm N (putE E x v) ∧ Fr (· = bm) w w' := by
  have hn := h.n2
  have hx : (Lit.int .i64 x).wf = true := WalkArith.wf_i64 (by omega)
  have k1 : Kp w (w.alloc (.cells #[.int .i64 v.1, .int .i64 v.2] 36)) := (Kp.refl w).alloc _
  have h2 := h.kp k1
  have c1 := h2.c1
  by_cases e : v.1 = 0
  · obtain rfl := hv e
    obtain ⟨w2, r1, r2, r3⟩ := h2.me.drop x hx 0
    have H2 : Hid (LG w2 p bm N (putE E x (0, 0)) ∧ Fr (· = bm) w w2) := ⟨h2.put r3 r2, (k1.fr _).trans r3⟩
    simp only at *
    clear h h2 r2 r3 hx hv e k1
    unfold entV
    go_enter Try.func24, Try.ntmps24
    go_wp2_with fail
    (try simp only [Exit.inBlock, Exit.then])
    refine bodyPost_ret (results_none rfl _ _ _) rfl ?_
    exact ⟨rfl, H2.out⟩
  · obtain ⟨w2, r1, r2, r3⟩ := (show ME (w.alloc (.cells #[.int .i64 v.1, .int .i64 v.2] 36)).drew bm N E from h2.me.kp (Kp.refl _).drew).store x v hx h0 h1 e (by unfold maxLen; omega)
    have H2 : Hid (LG w2 p bm N (putE E x v) ∧ Fr (· = bm) w w2) := ⟨(show LG (w.alloc (.cells #[.int .i64 v.1, .int .i64 v.2] 36)).drew p bm N E from h2.kp (Kp.refl _).drew).put r3 r2, ((k1.drew).fr _).trans r3⟩
    obtain ⟨s, t⟩ := v
    unfold entV at *
    simp only at *
    clear h h2 r2 r3 hx hv k1
    have y : (s == 0) = false := by simpa using e
    go_enter Try.func24, Try.ntmps24
    go_wp2_with fail
    go_region
    go_wp2_with fail
    go_end0
    exact ⟨rfl, H2.out⟩

set_option maxHeartbeats 4000000 in
theorem ldo_any (h : LG w p bm N E) (x a q : Int) (hx : (Lit.int .i64 x).wf = true) :
    Calls Try.prog 12 #[.pointer (some ⟨p, 0, none⟩), .int .i64 x, .int .i64 a, .int .i64 q] w fun e w' => e = .returned (.int .i64 (mayN N (E x) x a q)) ∧ LG w' p bm N (doE N E x a q) ∧ Fr (· = bm) w w' := by
  have cM := lmay_any h x a q hx
  unfold doE
  by_cases e : mayN N (E x) x a q = 0
  · obtain ⟨h0, h1, h2, h3⟩ := mayN_ok e
    have hf := aftN_free (q := q) h2 h3
    rw [if_pos e]
    rw [e] at cM ⊢
    have cP : Aside (∀ w', Kp w w' → Calls Try.prog 24 #[.pointer (some ⟨p, 0, none⟩), .int .i64 x, entV (aftN a q)] w' fun e w'' => e = .returned (.tuple #[]) ∧ LG w'' p bm N (putE E x (aftN a q)) ∧ Fr (· = bm) w' w'') := fun w' k => lput_any (h.kp k) x (aftN a q) h0 h1 hf
    unfold aftN at *
    obtain ⟨n, rfl⟩ : ∃ n : Nat, a = n := ⟨a.toNat, by omega⟩
    rw [Int.toNat_natCast] at *
    have cO := moveOf_any n (by omega)
    have cA := after_any (mvF n) (mvT n) (mvO n) (mvG n) q
    clear h e hx hf h0 h1 h2 h3
    generalize mvF n = f at *
    generalize mvT n = u at *
    generalize mvO n = o at *
    generalize mvG n = g at *
    generalize (u, if g = true then q else 0) = v at *
    unfold entV at *
    generalize putE E x v = E2 at *
    go_enter Try.func12, Try.ntmps12
    go_wp2_with (first | (go_at_call 10; with_reducible refine cM.mono ?_; rintro e w1 ⟨rfl, K1⟩) | (go_at_call 22; with_reducible refine (cO _).mono ?_; rintro e w2 ⟨rfl, K2⟩) | (go_at_call 25; with_reducible refine (cA _).mono ?_; rintro e w3 ⟨rfl, K3⟩) | (go_at_call 24; with_reducible refine (cP.out _ ((K1.trans K2).trans K3)).mono ?_; rintro e w4 ⟨rfl, L4, F4⟩))
    go_ret
    exact ⟨rfl, L4, (((K1.trans K2).trans K3).fr _).trans F4⟩
  · rw [if_neg e]
    have HH : Hid (LG w p bm N E) := h
    have y : (mayN N (E x) x a q == 0) = false := by simpa using e
    clear h hx
    generalize mayN N (E x) x a q = r at *
    go_enter Try.func12, Try.ntmps12
    go_wp2_with (first | (go_at_call 10; with_reducible refine cM.mono ?_; rintro e w1 ⟨rfl, K1⟩))
    go_ret
    exact ⟨rfl, HH.out.kp K1, K1.fr _⟩

end Go.Proofs.Ytjeahpekcbogeaa
