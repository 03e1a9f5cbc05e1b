/- index: IndexAlike's reckoning. -/
import Derived.Test.YtpjlmmiceiionaaDoorJ45
namespace Go.Proofs.YtpjlmmiceiionaaDoor
open Go.RowKit Go.Maps
set_option maxRecDepth 10000

/-- A page with one word less at one place and the same more at another. -/
def pgF (k v : Nat) : Nat → Nat := putF (putF z0 64 8 (100 - v)) (64 + 32 * (k + 1)) 8 v
set_option maxRecDepth 100000 in
theorem dgt_pg : ∀ k < 4, ∀ v < 4, dgt (pgF k v) = (100, 0) := by decide +kernel
theorem blF_mk (Sg : Nat → Option CN) (d : CN) : blF (mkD Sg 12 d) = (List.range 12).filter fun i => decide (Sg i = some d) := by
  unfold blF
  have e : List.range 64 = List.range 12 ++ List.range' 12 52 := by decide +kernel
  rw [e, List.filter_append]
  have l2 : (List.range' 12 52).filter (fun i => (mkD Sg 12 d).testBit i) = [] := List.filter_eq_nil_iff.2 fun i hi => by
    rw [List.mem_range'_1] at hi
    rw [mkD_bit, decide_eq_false (by omega)]; simp
  rw [l2, List.append_nil]
  refine List.filter_congr fun i hi => ?_
  rw [List.mem_range] at hi
  rw [mkD_bit, decide_eq_true hi, Bool.true_and]
/-- The first f frames are as they shall be, and in. -/
def FsA (PG : Nat → Nat → Nat) (f : Nat) : Nat → Nat → Nat := fun x => if x < f then PG x else z0
def SgA (f : Nat) : Nat → Option CN := fun i => if i < f then some (100, 0) else none
theorem FsA_0 (PG : Nat → Nat → Nat) : FsA PG 0 = fun _ => z0 := by funext x; unfold FsA; rw [if_neg (by omega)]
theorem SgA_0 : SgA 0 = fun _ => none := by funext x; unfold SgA; rw [if_neg (by omega)]
theorem FsA_at (PG : Nat → Nat → Nat) (f : Nat) : FsA PG f f = z0 := by unfold FsA; rw [if_neg (by omega)]
theorem FsA_lt (PG : Nat → Nat → Nat) {f x : Nat} (h : x < f) : FsA PG f x = PG x := by unfold FsA; rw [if_pos h]
theorem FsA_next (PG : Nat → Nat → Nat) (f : Nat) : putFr (FsA PG f) f (PG f) = FsA PG (f + 1) := by
  funext x
  unfold putFr FsA
  by_cases c : x = f
  · rw [if_pos c, if_pos (by omega), c]
  · rw [if_neg c]
    by_cases d : x < f
    · rw [if_pos d, if_pos (by omega)]
    · rw [if_neg d, if_neg (by omega)]
theorem SgA_next (f : Nat) : setS (SgA f) f (some (100, 0)) = SgA (f + 1) := by
  funext x
  unfold setS SgA
  by_cases c : x = f
  · rw [if_pos c, if_pos (by omega)]
  · rw [if_neg c]
    by_cases d : x < f
    · rw [if_pos d, if_pos (by omega)]
    · rw [if_neg d, if_neg (by omega)]
theorem SgA_mk : blF (mkD (SgA 12) 12 (100, 0)) = List.range 12 := by
  rw [blF_mk]
  refine List.filter_eq_self.2 fun i hi => ?_
  rw [List.mem_range] at hi
  unfold SgA
  rw [if_pos hi]; rfl
theorem SgA_no {d : CN} (h : d ≠ (100, 0)) : blF (mkD (SgA 12) 12 d) = [] := by
  rw [blF_mk]
  refine List.filter_eq_nil_iff.2 fun i hi => ?_
  rw [List.mem_range] at hi
  unfold SgA
  rw [if_pos hi]
  intro c
  exact h (Option.some.inj (of_decide_eq_true c)).symm
theorem SgA_alike {w : World} {b : Nat} {v : Value} {L : List GE} {D : CN → Prop} (h : GrS w b v L D (mkD (SgA 12) 12)) (hD : ∀ d, mkD (SgA 12) 12 d ≠ 0 → D d) : ∃ e, L = [e] ∧ AX LTfr w b (geV e) (List.range 12) := by
  have one : ∀ e ∈ L, AX LTfr w b (geV e) (List.range 12) ∧ e.2 = 0 := fun e he => by
    obtain ⟨d, _, q1, q2, q3⟩ := h.all e he
    have hd : d = (100, 0) := Classical.byContradiction fun c => by
      rw [SgA_no c] at q1
      simp at q1
    rw [hd, SgA_mk] at q2 q3
    exact ⟨q2, q3⟩
  obtain ⟨e, he, _⟩ := h.back (100, 0) (hD (100, 0) (fun c => by have := SgA_mk; rw [c, blF_0] at this; exact absurd this (by decide))) (by rw [SgA_mk]; decide)
  refine ⟨e, ?_, (one e he).1⟩
  cases hL : L with
  | nil => rw [hL] at he; cases he
  | cons x l =>
    cases l with
    | nil => rw [hL] at he; simp at he; rw [he]
    | cons y l =>
      have nd := h.nd
      have hx := (one x (by rw [hL]; simp)).2
      have hy := (one y (by rw [hL]; simp)).2
      rw [hL] at nd
      simp [hx, hy] at nd
/-- The least of those from k on for which P holds. -/
def wnt (P : Nat → Bool) (k : Nat) : Option Nat := (List.range' k (12 - k)).find? P
def wntI (o : Option Nat) : Int := match o with | some x => (x : Int) | none => -1
theorem wnt_12 (P : Nat → Bool) : wnt P 12 = none := rfl
theorem wnt_at (P : Nat → Bool) {k : Nat} (h : k < 12) : wnt P k = if P k = true then some k else wnt P (k + 1) := by
  unfold wnt
  rw [show 12 - k = (12 - (k + 1)) + 1 by omega, List.range'_succ, List.find?_cons]
  cases P k <;> rfl
theorem wnt_0 (P : Nat → Bool) : wnt P 0 = (List.range 12).find? P := by unfold wnt; rw [List.range_eq_range']
theorem fnd_1 {FF : Nat → Nat → Nat} {f : Nat} (hd : dgt (FF f) = (100, 0)) : fndR (SgA 12) 12 FF (FF f) (f : Int) = wnt (fun k => decide (k ≠ f) && alike (FF k) (FF f) 4096) 0 := by
  unfold fndR
  rw [hd, SgA_mk, wnt_0]
  congr 1
  funext i
  congr 1
  exact decide_eq_decide.2 (by omega)
theorem fnd_2 {FF : Nat → Nat → Nat} {f : Nat} (hf : f < 12) (hd : dgt (FF f) = (100, 0)) : ∃ h, fndR (SgA 12) 12 FF (FF f) (-1) = some h ∧ h ≤ f ∧ alike (FF h) (FF f) 4096 = true := by
  unfold fndR
  rw [hd, SgA_mk]
  have hP : ∀ i, (decide (((i : Nat) : Int) ≠ -1) && alike (FF i) (FF f) 4096) = alike (FF i) (FF f) 4096 := fun i => by
    rw [decide_eq_true (by omega), Bool.true_and]
  rw [show (fun i : Nat => decide ((i : Int) ≠ -1) && alike (FF i) (FF f) 4096) = fun i => alike (FF i) (FF f) 4096 from funext hP]
  have hr : alike (FF f) (FF f) 4096 = true := alike_refl _ _
  have key : ∀ (n k : Nat), k ≤ f → f < k + n → ∃ h, (List.range' k n).find? (fun i => alike (FF i) (FF f) 4096) = some h ∧ h ≤ f ∧ alike (FF h) (FF f) 4096 = true := by
    intro n
    induction n with
    | zero => intro k h1 h2; omega
    | succ n ih =>
      intro k h1 h2
      rw [List.range'_succ, List.find?_cons]
      cases e : alike (FF k) (FF f) 4096 with
      | true => exact ⟨k, rfl, h1, e⟩
      | false =>
        have : k ≠ f := fun c => by rw [c, hr] at e; cases e
        exact ih (k + 1) (by omega) (by omega)
  rw [List.range_eq_range']
  exact key 12 0 (Nat.zero_le _) (by omega)

end Go.Proofs.YtpjlmmiceiionaaDoor
