/- Joined: MW, CN. -/
import Derived.Test.YtpjlmmiceiionaaDoorP4
import Derived.Test.YtpjlmmiceiionaaDoorCM
/- The words of frames, by their bytes. -/
namespace Go.Proofs.YtpjlmmiceiionaaDoor
open Go.RowKit

theorem numb_putAt (f : Nat → Nat) (p s v : Nat) : ∀ k, k ≤ s → numb (putF f p s v) p k = v % 2 ^ (8 * k)
  | 0, _ => by simp [numb, Nat.mod_one]
  | k + 1, h => by
    have ih := numb_putAt f p s v k (by omega)
    have e : putF f p s v (p + k) = v / 2 ^ (8 * k) % 256 := by
      unfold putF; rw [if_pos (by omega), show p + k - p = k by omega]
    unfold numb
    rw [ih, e, show 8 * (k + 1) = 8 * k + 8 by omega, Nat.pow_add, Nat.mod_mul, Nat.mul_comm (2 ^ (8 * k))]
/-- The words of frames. -/
def wM (B : Nat → Nat → Nat) : Nat → Nat → Nat := fun x i => numb (B x) (8 * i) 8
def updM (M : Nat → Nat → Nat) (x i v : Nat) : Nat → Nat → Nat := fun y j => if y = x ∧ j = i then v else M y j
def zerM (M : Nat → Nat → Nat) (x : Nat) : Nat → Nat → Nat := fun y j => if y = x then 0 else M y j
theorem wM_put (B : Nat → Nat → Nat) (x i v : Nat) (hv : v < 18446744073709551616) : wM (putFr B x (putF (B x) (8 * i) 8 v)) = updM (wM B) x i v := by
  funext y j
  unfold wM updM putFr
  by_cases c : y = x
  · subst c
    rw [if_pos rfl]
    by_cases c2 : j = i
    · subst c2
      rw [if_pos ⟨rfl, rfl⟩, numb_putAt _ _ _ _ _ (Nat.le_refl _)]
      exact Nat.mod_eq_of_lt hv
    · rw [if_neg (by omega)]
      refine numb_like _ _ _ _ _ fun k hk => ?_
      unfold putF
      rw [if_neg (by omega)]
  · rw [if_neg c, if_neg (by omega)]
theorem wM_zero (B : Nat → Nat → Nat) (x : Nat) : wM (putFr B x z0) = zerM (wM B) x := by
  funext y j
  unfold wM zerM putFr
  by_cases c : y = x
  · rw [if_pos c, if_pos c, numb_zero]
  · rw [if_neg c, if_neg c]
theorem chk_word {N x i : Nat} (hx : x < N) (hi : i < 512) : chkP N (x * 4096 + 8 * i) (8 : Nat) = 0 := by
  unfold chkP
  rw [if_neg (by omega), if_neg (by show ¬ (x * 4096 + 8 * i) % 8 ≠ 0; omega), if_neg (by omega)]
/-- What a memory of N frames tells of a place. -/
def rdB (N : Nat) (B : Nat → Nat → Nat) : Nat → Nat × Bool := fun a => if a % 8 = 0 ∧ a / 4096 < N then (numb (B (a / 4096)) (a % 4096) 8, true) else (0, false)
theorem rdB_at {N : Nat} {B : Nat → Nat → Nat} {x i : Nat} (hx : x < N) (hi : i < 512) : rdB N B (x * 4096 + 8 * i) = (wM B x i, true) := by
  unfold rdB wM
  rw [if_pos (by omega), show (x * 4096 + 8 * i) / 4096 = x by omega, show (x * 4096 + 8 * i) % 4096 = 8 * i by omega]

end Go.Proofs.YtpjlmmiceiionaaDoor

/- index: a frame that changed. -/
namespace Go.Proofs.YtpjlmmiceiionaaDoor
open Go.RowKit Go.Maps
set_option maxRecDepth 10000

theorem TIx.tab {w : World} {X : Nat → Prop} {p pm ops : Nat} {F : Nat → Nat → Nat} {Sg : Nat → Option CN} (h : TIx w X p pm ops F Sg) : TAB w := by
  obtain ⟨_, _, _, _, h3, _⟩ := h
  exact h3
/-- One frame is in. -/
def S1o (f : Nat) (d : CN) : Nat → Option CN := setS (fun _ => none) f (some d)
theorem S1o_iff (f : Nat) (d1 : CN) (i : Nat) (d : CN) : S1o f d1 i = some d ↔ i = f ∧ d = d1 := by
  unfold S1o setS
  by_cases c : i = f
  · rw [if_pos c]; simp [c, eq_comm]
  · rw [if_neg c]; simp [c]
theorem S1o_mk {f : Nat} (hf : f < 12) (d1 d : CN) : mkD (S1o f d1) 12 d = if d = d1 then 2 ^ f else 0 := by
  apply Nat.eq_of_testBit_eq
  intro i
  rw [mkD_bit]
  by_cases c : d = d1
  · rw [if_pos c, Nat.testBit_two_pow, ← Bool.decide_and]
    refine decide_eq_decide.2 ?_
    rw [S1o_iff]
    constructor
    · rintro ⟨_, h, _⟩; exact h.symm
    · intro h; exact ⟨by omega, h.symm, c⟩
  · rw [if_neg c, Nat.zero_testBit, decide_eq_false (p := S1o f d1 i = some d) (fun h => c ((S1o_iff f d1 i d).1 h).2)]
    simp
theorem blF_pow {f : Nat} (hf : f < 12) : blF (2 ^ f) = [f] := by
  have := blF_step 0 (show f < 64 by omega)
  rw [Nat.mul_zero, Nat.zero_add, Nat.mul_one, Nat.mul_zero, blF_0] at this
  exact this
theorem S1o_find {f : Nat} (hf : f < 12) (d1 : CN) (F : Nat → Nat → Nat) (h : Nat → Nat) (notv : Int) : fndR (S1o f d1) 12 F h notv = if dgt h = d1 ∧ (f : Int) ≠ notv ∧ alike (F f) h 4096 = true then some f else none := by
  unfold fndR
  rw [S1o_mk hf]
  by_cases c : dgt h = d1
  · rw [if_pos c, blF_pow hf]
    by_cases e : (f : Int) ≠ notv ∧ alike (F f) h 4096 = true
    · rw [if_pos ⟨c, e⟩]
      simp [e.1, e.2]
    · rw [if_neg (fun q => e q.2)]
      simp only [List.find?_cons]
      have : (decide ((f : Int) ≠ notv) && alike (F f) h 4096) = false := by
        cases e1 : decide ((f : Int) ≠ notv)
        · rfl
        · rw [Bool.true_and]
          cases e2 : alike (F f) h 4096
          · rfl
          · exact absurd ⟨of_decide_eq_true e1, e2⟩ e
      rw [this]
      rfl
  · rw [if_neg c, if_neg (fun q => c q.1), blF_0]
    rfl
theorem chk_8 {f : Nat} (hf : f < 12) (o : Nat) (h8 : o % 8 = 0) (ho : o < 4096) : chkP 12 (f * 4096 + o) ((8 : Nat) : Int) = 0 := by
  unfold chkP
  rw [if_neg (by decide), if_neg (by simp; omega), if_neg (by omega)]
theorem far_put {h : Nat → Nat} {A B : Nat} (hA : A < 18446744073709551616) (hB : B < 18446744073709551616) (hne : A ≠ B) : alike (putF (putF h 8 8 A) 8 8 B) (putF h 8 8 A) 4096 = false := by
  cases e : alike (putF (putF h 8 8 A) 8 8 B) (putF h 8 8 A) 4096
  · rfl
  · have h1 := (alike_iff _ _ _).1 e
    have h2 := numb_like (putF (putF h 8 8 A) 8 8 B) (putF h 8 8 A) 8 8 8 (fun i hi => h1 _ (by omega))
    rw [numb_putAt _ 8 8 B 8 (Nat.le_refl _), numb_putAt _ 8 8 A 8 (Nat.le_refl _), Nat.mod_eq_of_lt (by simpa using hB), Nat.mod_eq_of_lt (by simpa using hA)] at h2
    exact absurd h2.symm hne
theorem xor1_ne (a : Nat) : a ^^^ 1 ≠ a := fun e => by
  have h1 := congrArg (fun x => x.testBit 0) e
  simp at h1
  omega
theorem xor_l64 {a b : Nat} (ha : a < 18446744073709551616) (hb : b < 18446744073709551616) : a ^^^ b < 18446744073709551616 := Nat.xor_lt_two_pow (n := 64) ha hb

end Go.Proofs.YtpjlmmiceiionaaDoor
