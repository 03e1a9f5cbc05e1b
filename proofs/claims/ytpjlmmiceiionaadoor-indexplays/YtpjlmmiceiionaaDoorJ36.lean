/- Joined: MW, CN, CP. -/
import Derived.Test.YtpjlmmiceiionaaDoorP4
import Derived.Test.YtpjlmmiceiionaaDoorCM
/- The words of frames, by their bytes. -/
namespace Go.Proofs.YtpjlmmiceiionaaDoor
open Go.RowKit

theorem numb_putAt (f : Nat → Nat) (p s v : Nat) : ∀ k, k ≤ s → numb (putF f p s v) p k = v % 2 ^ (8 * k)
  | 0, _ => by simp [numb, Nat.mod_one]
  | k + 1, h => by
    have ih := numb_putAt f p s v k (by omega)
    have e : putF f p s v (p + k) = v / 2 ^ (8 * k) % 256 := by
      unfold putF; rw [if_pos (by omega), show p + k - p = k by omega]
    unfold numb
    rw [ih, e, show 8 * (k + 1) = 8 * k + 8 by omega, Nat.pow_add, Nat.mod_mul, Nat.mul_comm (2 ^ (8 * k))]
/-- The words of frames. -/
def wM (B : Nat → Nat → Nat) : Nat → Nat → Nat := fun x i => numb (B x) (8 * i) 8
def updM (M : Nat → Nat → Nat) (x i v : Nat) : Nat → Nat → Nat := fun y j => if y = x ∧ j = i then v else M y j
def zerM (M : Nat → Nat → Nat) (x : Nat) : Nat → Nat → Nat := fun y j => if y = x then 0 else M y j
theorem wM_put (B : Nat → Nat → Nat) (x i v : Nat) (hv : v < 18446744073709551616) : wM (putFr B x (putF (B x) (8 * i) 8 v)) = updM (wM B) x i v := by
  funext y j
  unfold wM updM putFr
  by_cases c : y = x
  · subst c
    rw [if_pos rfl]
    by_cases c2 : j = i
    · subst c2
      rw [if_pos ⟨rfl, rfl⟩, numb_putAt _ _ _ _ _ (Nat.le_refl _)]
      exact Nat.mod_eq_of_lt hv
    · rw [if_neg (by omega)]
      refine numb_like _ _ _ _ _ fun k hk => ?_
      unfold putF
      rw [if_neg (by omega)]
  · rw [if_neg c, if_neg (by omega)]
theorem wM_zero (B : Nat → Nat → Nat) (x : Nat) : wM (putFr B x z0) = zerM (wM B) x := by
  funext y j
  unfold wM zerM putFr
  by_cases c : y = x
  · rw [if_pos c, if_pos c, numb_zero]
  · rw [if_neg c, if_neg c]
theorem chk_word {N x i : Nat} (hx : x < N) (hi : i < 512) : chkP N (x * 4096 + 8 * i) (8 : Nat) = 0 := by
  unfold chkP
  rw [if_neg (by omega), if_neg (by show ¬ (x * 4096 + 8 * i) % 8 ≠ 0; omega), if_neg (by omega)]
/-- What a memory of N frames tells of a place. -/
def rdB (N : Nat) (B : Nat → Nat → Nat) : Nat → Nat × Bool := fun a => if a % 8 = 0 ∧ a / 4096 < N then (numb (B (a / 4096)) (a % 4096) 8, true) else (0, false)
theorem rdB_at {N : Nat} {B : Nat → Nat → Nat} {x i : Nat} (hx : x < N) (hi : i < 512) : rdB N B (x * 4096 + 8 * i) = (wM B x i, true) := by
  unfold rdB wM
  rw [if_pos (by omega), show (x * 4096 + 8 * i) / 4096 = x by omega, show (x * 4096 + 8 * i) % 4096 = 8 * i by omega]

end Go.Proofs.YtpjlmmiceiionaaDoor

/- index: a frame that changed. -/
namespace Go.Proofs.YtpjlmmiceiionaaDoor
open Go.RowKit Go.Maps
set_option maxRecDepth 10000

theorem TIx.tab {w : World} {X : Nat → Prop} {p pm ops : Nat} {F : Nat → Nat → Nat} {Sg : Nat → Option CN} (h : TIx w X p pm ops F Sg) : TAB w := by
  obtain ⟨_, _, _, _, h3, _⟩ := h
  exact h3
/-- One frame is in. -/
def S1o (f : Nat) (d : CN) : Nat → Option CN := setS (fun _ => none) f (some d)
theorem S1o_iff (f : Nat) (d1 : CN) (i : Nat) (d : CN) : S1o f d1 i = some d ↔ i = f ∧ d = d1 := by
  unfold S1o setS
  by_cases c : i = f
  · rw [if_pos c]; simp [c, eq_comm]
  · rw [if_neg c]; simp [c]
theorem S1o_mk {f : Nat} (hf : f < 12) (d1 d : CN) : mkD (S1o f d1) 12 d = if d = d1 then 2 ^ f else 0 := by
  apply Nat.eq_of_testBit_eq
  intro i
  rw [mkD_bit]
  by_cases c : d = d1
  · rw [if_pos c, Nat.testBit_two_pow, ← Bool.decide_and]
    refine decide_eq_decide.2 ?_
    rw [S1o_iff]
    constructor
    · rintro ⟨_, h, _⟩; exact h.symm
    · intro h; exact ⟨by omega, h.symm, c⟩
  · rw [if_neg c, Nat.zero_testBit, decide_eq_false (p := S1o f d1 i = some d) (fun h => c ((S1o_iff f d1 i d).1 h).2)]
    simp
theorem blF_pow {f : Nat} (hf : f < 12) : blF (2 ^ f) = [f] := by
  have := blF_step 0 (show f < 64 by omega)
  rw [Nat.mul_zero, Nat.zero_add, Nat.mul_one, Nat.mul_zero, blF_0] at this
  exact this
theorem S1o_find {f : Nat} (hf : f < 12) (d1 : CN) (F : Nat → Nat → Nat) (h : Nat → Nat) (notv : Int) : fndR (S1o f d1) 12 F h notv = if dgt h = d1 ∧ (f : Int) ≠ notv ∧ alike (F f) h 4096 = true then some f else none := by
  unfold fndR
  rw [S1o_mk hf]
  by_cases c : dgt h = d1
  · rw [if_pos c, blF_pow hf]
    by_cases e : (f : Int) ≠ notv ∧ alike (F f) h 4096 = true
    · rw [if_pos ⟨c, e⟩]
      simp [e.1, e.2]
    · rw [if_neg (fun q => e q.2)]
      simp only [List.find?_cons]
      have : (decide ((f : Int) ≠ notv) && alike (F f) h 4096) = false := by
        cases e1 : decide ((f : Int) ≠ notv)
        · rfl
        · rw [Bool.true_and]
          cases e2 : alike (F f) h 4096
          · rfl
          · exact absurd ⟨of_decide_eq_true e1, e2⟩ e
      rw [this]
      rfl
  · rw [if_neg c, if_neg (fun q => c q.1), blF_0]
    rfl
theorem chk_8 {f : Nat} (hf : f < 12) (o : Nat) (h8 : o % 8 = 0) (ho : o < 4096) : chkP 12 (f * 4096 + o) ((8 : Nat) : Int) = 0 := by
  unfold chkP
  rw [if_neg (by decide), if_neg (by simp; omega), if_neg (by omega)]
theorem far_put {h : Nat → Nat} {A B : Nat} (hA : A < 18446744073709551616) (hB : B < 18446744073709551616) (hne : A ≠ B) : alike (putF (putF h 8 8 A) 8 8 B) (putF h 8 8 A) 4096 = false := by
  cases e : alike (putF (putF h 8 8 A) 8 8 B) (putF h 8 8 A) 4096
  · rfl
  · have h1 := (alike_iff _ _ _).1 e
    have h2 := numb_like (putF (putF h 8 8 A) 8 8 B) (putF h 8 8 A) 8 8 8 (fun i hi => h1 _ (by omega))
    rw [numb_putAt _ 8 8 B 8 (Nat.le_refl _), numb_putAt _ 8 8 A 8 (Nat.le_refl _), Nat.mod_eq_of_lt (by simpa using hB), Nat.mod_eq_of_lt (by simpa using hA)] at h2
    exact absurd h2.symm hne
theorem xor1_ne (a : Nat) : a ^^^ 1 ≠ a := fun e => by
  have h1 := congrArg (fun x => x.testBit 0) e
  simp at h1
  omega
theorem xor_l64 {a b : Nat} (ha : a < 18446744073709551616) (hb : b < 18446744073709551616) : a ^^^ b < 18446744073709551616 := Nat.xor_lt_two_pow (n := 64) ha hb

end Go.Proofs.YtpjlmmiceiionaaDoor

/- index: IndexAlike's reckoning. -/
namespace Go.Proofs.YtpjlmmiceiionaaDoor
open Go.RowKit Go.Maps
set_option maxRecDepth 10000

/-- A page with one word less at one place and the same more at another. -/
def pgF (k v : Nat) : Nat → Nat := putF (putF z0 64 8 (100 - v)) (64 + 32 * (k + 1)) 8 v
set_option maxRecDepth 100000 in
theorem dgt_pg : ∀ k < 4, ∀ v < 4, dgt (pgF k v) = (100, 0) := by decide +kernel
theorem blF_mk (Sg : Nat → Option CN) (d : CN) : blF (mkD Sg 12 d) = (List.range 12).filter fun i => decide (Sg i = some d) := by
  unfold blF
  have e : List.range 64 = List.range 12 ++ List.range' 12 52 := by decide +kernel
  rw [e, List.filter_append]
  have l2 : (List.range' 12 52).filter (fun i => (mkD Sg 12 d).testBit i) = [] := List.filter_eq_nil_iff.2 fun i hi => by
    rw [List.mem_range'_1] at hi
    rw [mkD_bit, decide_eq_false (by omega)]; simp
  rw [l2, List.append_nil]
  refine List.filter_congr fun i hi => ?_
  rw [List.mem_range] at hi
  rw [mkD_bit, decide_eq_true hi, Bool.true_and]
/-- The first f frames are as they shall be, and in. -/
def FsA (PG : Nat → Nat → Nat) (f : Nat) : Nat → Nat → Nat := fun x => if x < f then PG x else z0
def SgA (f : Nat) : Nat → Option CN := fun i => if i < f then some (100, 0) else none
theorem FsA_0 (PG : Nat → Nat → Nat) : FsA PG 0 = fun _ => z0 := by funext x; unfold FsA; rw [if_neg (by omega)]
theorem SgA_0 : SgA 0 = fun _ => none := by funext x; unfold SgA; rw [if_neg (by omega)]
theorem FsA_at (PG : Nat → Nat → Nat) (f : Nat) : FsA PG f f = z0 := by unfold FsA; rw [if_neg (by omega)]
theorem FsA_lt (PG : Nat → Nat → Nat) {f x : Nat} (h : x < f) : FsA PG f x = PG x := by unfold FsA; rw [if_pos h]
theorem FsA_next (PG : Nat → Nat → Nat) (f : Nat) : putFr (FsA PG f) f (PG f) = FsA PG (f + 1) := by
  funext x
  unfold putFr FsA
  by_cases c : x = f
  · rw [if_pos c, if_pos (by omega), c]
  · rw [if_neg c]
    by_cases d : x < f
    · rw [if_pos d, if_pos (by omega)]
    · rw [if_neg d, if_neg (by omega)]
theorem SgA_next (f : Nat) : setS (SgA f) f (some (100, 0)) = SgA (f + 1) := by
  funext x
  unfold setS SgA
  by_cases c : x = f
  · rw [if_pos c, if_pos (by omega)]
  · rw [if_neg c]
    by_cases d : x < f
    · rw [if_pos d, if_pos (by omega)]
    · rw [if_neg d, if_neg (by omega)]
theorem SgA_mk : blF (mkD (SgA 12) 12 (100, 0)) = List.range 12 := by
  rw [blF_mk]
  refine List.filter_eq_self.2 fun i hi => ?_
  rw [List.mem_range] at hi
  unfold SgA
  rw [if_pos hi]; rfl
theorem SgA_no {d : CN} (h : d ≠ (100, 0)) : blF (mkD (SgA 12) 12 d) = [] := by
  rw [blF_mk]
  refine List.filter_eq_nil_iff.2 fun i hi => ?_
  rw [List.mem_range] at hi
  unfold SgA
  rw [if_pos hi]
  intro c
  exact h (Option.some.inj (of_decide_eq_true c)).symm
theorem SgA_alike {w : World} {b : Nat} {v : Value} {L : List GE} {D : CN → Prop} (h : GrS w b v L D (mkD (SgA 12) 12)) (hD : ∀ d, mkD (SgA 12) 12 d ≠ 0 → D d) : ∃ e, L = [e] ∧ AX LTfr w b (geV e) (List.range 12) := by
  have one : ∀ e ∈ L, AX LTfr w b (geV e) (List.range 12) ∧ e.2 = 0 := fun e he => by
    obtain ⟨d, _, q1, q2, q3⟩ := h.all e he
    have hd : d = (100, 0) := Classical.byContradiction fun c => by
      rw [SgA_no c] at q1
      simp at q1
    rw [hd, SgA_mk] at q2 q3
    exact ⟨q2, q3⟩
  obtain ⟨e, he, _⟩ := h.back (100, 0) (hD (100, 0) (fun c => by have := SgA_mk; rw [c, blF_0] at this; exact absurd this (by decide))) (by rw [SgA_mk]; decide)
  refine ⟨e, ?_, (one e he).1⟩
  cases hL : L with
  | nil => rw [hL] at he; cases he
  | cons x l =>
    cases l with
    | nil => rw [hL] at he; simp at he; rw [he]
    | cons y l =>
      have nd := h.nd
      have hx := (one x (by rw [hL]; simp)).2
      have hy := (one y (by rw [hL]; simp)).2
      rw [hL] at nd
      simp [hx, hy] at nd
/-- The least of those from k on for which P holds. -/
def wnt (P : Nat → Bool) (k : Nat) : Option Nat := (List.range' k (12 - k)).find? P
def wntI (o : Option Nat) : Int := match o with | some x => (x : Int) | none => -1
theorem wnt_12 (P : Nat → Bool) : wnt P 12 = none := rfl
theorem wnt_at (P : Nat → Bool) {k : Nat} (h : k < 12) : wnt P k = if P k = true then some k else wnt P (k + 1) := by
  unfold wnt
  rw [show 12 - k = (12 - (k + 1)) + 1 by omega, List.range'_succ, List.find?_cons]
  cases P k <;> rfl
theorem wnt_0 (P : Nat → Bool) : wnt P 0 = (List.range 12).find? P := by unfold wnt; rw [List.range_eq_range']
theorem fnd_1 {FF : Nat → Nat → Nat} {f : Nat} (hd : dgt (FF f) = (100, 0)) : fndR (SgA 12) 12 FF (FF f) (f : Int) = wnt (fun k => decide (k ≠ f) && alike (FF k) (FF f) 4096) 0 := by
  unfold fndR
  rw [hd, SgA_mk, wnt_0]
  congr 1
  funext i
  congr 1
  exact decide_eq_decide.2 (by omega)
theorem fnd_2 {FF : Nat → Nat → Nat} {f : Nat} (hf : f < 12) (hd : dgt (FF f) = (100, 0)) : ∃ h, fndR (SgA 12) 12 FF (FF f) (-1) = some h ∧ h ≤ f ∧ alike (FF h) (FF f) 4096 = true := by
  unfold fndR
  rw [hd, SgA_mk]
  have hP : ∀ i, (decide (((i : Nat) : Int) ≠ -1) && alike (FF i) (FF f) 4096) = alike (FF i) (FF f) 4096 := fun i => by
    rw [decide_eq_true (by omega), Bool.true_and]
  rw [show (fun i : Nat => decide ((i : Int) ≠ -1) && alike (FF i) (FF f) 4096) = fun i => alike (FF i) (FF f) 4096 from funext hP]
  have hr : alike (FF f) (FF f) 4096 = true := alike_refl _ _
  have key : ∀ (n k : Nat), k ≤ f → f < k + n → ∃ h, (List.range' k n).find? (fun i => alike (FF i) (FF f) 4096) = some h ∧ h ≤ f ∧ alike (FF h) (FF f) 4096 = true := by
    intro n
    induction n with
    | zero => intro k h1 h2; omega
    | succ n ih =>
      intro k h1 h2
      rw [List.range'_succ, List.find?_cons]
      cases e : alike (FF k) (FF f) 4096 with
      | true => exact ⟨k, rfl, h1, e⟩
      | false =>
        have : k ≠ f := fun c => by rw [c, hr] at e; cases e
        exact ih (k + 1) (by omega) (by omega)
  rw [List.range_eq_range']
  exact key 12 0 (Nat.zero_le _) (by omega)

end Go.Proofs.YtpjlmmiceiionaaDoor
