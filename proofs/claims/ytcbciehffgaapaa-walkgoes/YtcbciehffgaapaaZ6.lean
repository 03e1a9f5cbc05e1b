/- WalkEnds: what a walk is, whatever it reads. -/
import Derived.Test.YtcbciehffgaapaaZ5
namespace Go.Proofs.Ytcbciehffgaapaa
open Go.RowKit

/-- The table in which the step i lies. -/
def tabN (root : Nat) (L : List SV) : Nat → Nat
  | 0 => root
  | i + 1 => ((L[i]?).map (fun x => x.d.a)).getD 0
theorem tabN_cons (t : Nat) (x : SV) (L : List SV) : ∀ i, tabN t (x :: L) (i + 1) = tabN x.d.a L i
  | 0 => rfl
  | _ + 1 => rfl

theorem end_zero (s : Int) (l u : Nat) (hk : ¬ (dvN s l u).k = 1) : endN (dvN s l u).k (decE s l u) = 0 ↔ ((dvN s l u).k = 3 ∨ (dvN s l u).k = 2) := by
  cases g : decG s l u
  · have e : (dvN s l u).k = 0 := by unfold dvN; rw [g]; rfl
    rw [e]
    unfold endN
    constructor
    · intro h
      split at h
      · omega
      split at h
      · omega
      · rw [if_pos rfl] at h; omega
    · intro h; omega
  · have e : (dvN s l u).k = kdN l u := by unfold dvN; rw [g]; rfl
    have d := (dec_good s l u g).1
    have k := kd_ne l u
    rw [d, e]
    rw [e] at hk
    unfold endN
    rw [if_neg (by decide), if_neg (by decide), if_neg (by omega)]
    simp
    omega
theorem end_nonneg (k e : Int) : 0 ≤ endN k e := by
  unfold endN
  split
  · decide
  split
  · decide
  split <;> decide

/-- The kind of the last step. -/
def lastK (L : List SV) : Int := ((L.getLast?).map (fun x => x.d.k)).getD 0

structure WE (u : Nat) (n l t : Nat) (r : List SV × Int × Nat) : Prop where
  few : r.2.2 ≤ n
  le : r.1.length ≤ r.2.2
  ge : r.2.2 ≤ r.1.length + 1
  stop : r.2.1 = -1 ↔ r.1.length < r.2.2
  step : ∀ (i : Nat) (x : SV), r.1[i]? = some x → x.l = l + i ∧ x.p = atN (tabN t r.1 i) u (l + i) ∧ (i + 1 < r.1.length → x.d.k = 1)
  last : r.2.1 = 0 ↔ (lastK r.1 = 3 ∨ lastK r.1 = 2)
  addr : ∀ (i : Nat) (x : SV), r.1[i]? = some x → x.d.a < 18446744073709551616

theorem ends_any (s : Int) (u : Nat) (rd : Nat → Nat × Bool) : ∀ n l t, l + n = 4 → 1 ≤ n → WE u n l t (goW s u rd n l t)
  | 0, _, _, _, h => absurd h (by decide)
  | n + 1, l, t, hl, _ => by
    cases ho : (rd (atN t u l)).2
    · rw [goW_stop ho]
      exact ⟨by show 1 ≤ _; omega, Nat.zero_le _, Nat.le_refl _, ⟨fun _ => Nat.zero_lt_one, fun _ => rfl⟩, (fun i x h => by cases h), ⟨(fun h => by revert h; decide), (fun h => by revert h; decide)⟩, (fun i x h => by cases h)⟩
    · by_cases hk : (dvN s l (rd (atN t u l)).1).k = 1
      · rw [goW_on ho hk]
        have h3 : 1 ≤ n := by
          rcases (by omega : 1 ≤ n ∨ l = 3) with c | c
          · exact c
          · subst c; exact absurd hk (dv_last s _)
        have E := ends_any s u rd n (l + 1) (dvN s l (rd (atN t u l)).1).a (by omega) h3
        have da := dv_addr s l (rd (atN t u l)).1
        generalize goW s u rd n (l + 1) (dvN s l (rd (atN t u l)).1).a = r at *
        generalize dvN s l (rd (atN t u l)).1 = d at *
        refine ⟨by have := E.few; show r.2.2 + 1 ≤ n + 1; omega, by have := E.le; show r.1.length + 1 ≤ r.2.2 + 1; omega, by have := E.ge; show r.2.2 + 1 ≤ r.1.length + 1 + 1; omega, ?_, ?_, ?_, ?_⟩
        · show r.2.1 = -1 ↔ r.1.length + 1 < r.2.2 + 1
          rw [E.stop]; omega
        · intro i x h
          cases i with
          | zero =>
            simp at h
            subst h
            exact ⟨rfl, rfl, fun _ => hk⟩
          | succ i =>
            have h' : r.1[i]? = some x := by simpa using h
            obtain ⟨a1, a2, a3⟩ := E.step i x h'
            refine ⟨by omega, ?_, fun hi => a3 (by have : i + 1 + 1 < r.1.length + 1 := hi; omega)⟩
            show x.p = atN (tabN t (_ :: r.1) (i + 1)) u (l + (i + 1))
            rw [tabN_cons, a2, show l + (i + 1) = l + 1 + i by omega]
        · show r.2.1 = 0 ↔ _
          rw [E.last]
          unfold lastK
          cases hr : r.1 with
          | nil =>
            have := E.stop
            have := E.last
            show (((none : Option SV).map (fun x => x.d.k)).getD 0 = 3 ∨ _) ↔ (d.k = 3 ∨ d.k = 2)
            rw [hk]
            simp
          | cons y ys => rfl
        · intro i x h
          cases i with
          | zero => simp at h; subst h; exact da
          | succ i => exact E.addr i x (by simpa using h)
      · rw [goW_end ho hk]
        have ez := end_zero s l (rd (atN t u l)).1 hk
        have en := end_nonneg (dvN s l (rd (atN t u l)).1).k (decE s l (rd (atN t u l)).1)
        have da := dv_addr s l (rd (atN t u l)).1
        refine ⟨by show 1 ≤ _; omega, Nat.le_refl _, by show 1 ≤ 1 + 1; decide, ?_, ?_, ?_, ?_⟩
        · show endN _ _ = -1 ↔ 1 < 1
          omega
        · intro i x h
          cases i with
          | zero =>
            simp at h
            subst h
            exact ⟨rfl, rfl, fun hi => by have : 0 + 1 < 1 := hi; omega⟩
          | succ i => simp at h
        · exact ez
        · intro i x h
          cases i with
          | zero => simp at h; subst h; exact da
          | succ i => simp at h

end Go.Proofs.Ytcbciehffgaapaa
