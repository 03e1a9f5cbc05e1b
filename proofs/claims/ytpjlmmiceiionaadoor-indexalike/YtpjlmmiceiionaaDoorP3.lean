/- phys.Mem: what only reads: Ops, Frames, has, Clear, Read. -/
import Derived.Test.YtpjlmmiceiionaaDoorP2
namespace Go.Proofs.YtpjlmmiceiionaaDoor
open Go.RowKit Go.Maps
theorem pframes_any {w : World} {S : Nat → Prop} {p N ops : Nat} {F : Nat → Nat → Nat} (h : PM w S p N ops F) :
    Calls Tryd.prog 26 #[.pointer (some ⟨p, 0, none⟩)] w fun e w' => e = .returned (.int .i64 (N : Nat)) ∧ w' = w := by
  obtain ⟨bm, g, h⟩ := h
  have c0 := h.c0
  clear h
  go_enter Tryd.func26, Tryd.ntmps26
  go_wp2
  go_ret
  exact ⟨rfl, rfl⟩

/-- There is such a frame. -/
def hasF (N : Nat) (x : Int) : Bool := decide (0 ≤ x ∧ x < (N : Int))
theorem phas_cell (p N : Nat) (x : Int) (w : World) (c0 : w.cell? ⟨p, 0, none⟩ = some (.int .i64 (N : Nat))) :
    Calls Tryd.prog 37 #[.pointer (some ⟨p, 0, none⟩), .int .i64 x] w fun e w' => e = .returned (.bool (hasF N x)) ∧ w' = w := by
  unfold hasF
  by_cases e1 : 0 ≤ x
  · by_cases e2 : x < (N : Int)
    · rw [decide_eq_true ⟨e1, e2⟩]
      go_enter Tryd.func37, Tryd.ntmps37
      go_wp2
      go_ret
      exact ⟨rfl, rfl⟩
    · rw [decide_eq_false (by omega)]
      go_enter Tryd.func37, Tryd.ntmps37
      go_wp2
      go_ret
      exact ⟨rfl, rfl⟩
  · rw [decide_eq_false (by omega)]
    go_enter Tryd.func37, Tryd.ntmps37
    go_wp2
    go_ret
    exact ⟨rfl, rfl⟩
theorem hasF_iff (N : Nat) (x : Int) : hasF N x = true ↔ 0 ≤ x ∧ x < (N : Int) := by unfold hasF; simp

/-- All the frame's bytes are 0. -/
def clearF (N : Nat) (F : Nat → Nat → Nat) (x : Int) : Bool := hasF N x && alike (F x.toNat) z0 4096
theorem clearF_of {w : World} {S : Nat → Prop} {p bm : Nat} {g : Int → Option Nat} {N ops : Nat} {F : Nat → Nat → Nat} (h : PMat w S p bm g N ops F) (x : Int) : clearF N F x = (hasF N x && !(g x).isSome) := by
  unfold clearF
  cases e : hasF N x
  · rfl
  · have := (hasF_iff N x).1 e
    have ex : ((x.toNat : Nat) : Int) = x := by omega
    cases eg : g x with
    | none =>
      rw [alike_of (g := z0) (fun i hi => h.none x.toNat (by rw [ex]; exact eg) i hi)]; rfl
    | some b =>
      obtain ⟨i, hi, hn⟩ := h.some x b eg
      rw [alike_not hi (g := z0) hn]; rfl

/-! ### Read -/
theorem numb_like (f g : Nat → Nat) (p q : Nat) : ∀ k, (∀ i, i < k → f (p + i) = g (q + i)) → numb f p k = numb g q k
  | 0, _ => rfl
  | k + 1, h => by unfold numb; rw [numb_like f g p q k (fun i hi => h i (by omega)), h k (by omega)]
theorem numb_zero (p : Nat) : ∀ k, numb z0 p k = 0
  | 0 => rfl
  | k + 1 => by unfold numb; rw [numb_zero p k]; simp [z0]

def Size (s : Nat) : Prop := s = 1 ∨ s = 2 ∨ s = 4 ∨ s = 8
theorem chkP_zero {N addr : Nat} {s : Nat} (h : chkP N addr s = 0) : Size s ∧ addr % s = 0 ∧ addr / 4096 < N := by
  unfold chkP at h
  by_cases c1 : (s : Int) ≠ 1 ∧ (s : Int) ≠ 2 ∧ (s : Int) ≠ 4 ∧ (s : Int) ≠ 8
  · rw [if_pos c1] at h; omega
  · rw [if_neg c1] at h
    by_cases c2 : addr % (s : Int).toNat ≠ 0
    · rw [if_pos c2] at h; omega
    · rw [if_neg c2] at h
      by_cases c3 : N ≤ addr / 4096
      · rw [if_pos c3] at h; omega
      · have e : (s : Int).toNat = s := by omega
        rw [e] at c2
        refine ⟨?_, by omega, by omega⟩
        unfold Size
        omega
theorem place_fit {addr s : Nat} (hs : Size s) (h : addr % s = 0) : addr % 4096 % s = 0 ∧ addr % 4096 + s ≤ 4096 := by
  rcases hs with rfl | rfl | rfl | rfl <;> omega
theorem chk_page {q s : Nat} (hs : Size s) (h1 : q % s = 0) (h2 : q + s ≤ 4096) : chk ((4096 : Nat) : Int) q s = 0 := by
  rcases hs with rfl | rfl | rfl | rfl <;> (rw [chk_of (by omega), if_neg (by simp only [ne_eq, Decidable.not_not]; rw [Int.tmod_eq_emod_of_nonneg (by omega)]; omega), if_neg (by omega)])

theorem PMat.tick {w : World} {S : Nat → Prop} {p bm : Nat} {g : Int → Option Nat} {N ops : Nat} {F : Nat → Nat → Nat} (h : PMat w S p bm g N ops F) : PMat (w.setCell ⟨p, 1, .none⟩ (.int .i64 ((ops : Int) + 1))) S p bm g N (ops + 1) F ∧ Fr S w (w.setCell ⟨p, 1, .none⟩ (.int .i64 ((ops : Int) + 1))) := by
  have k : Fr (· = p) w (w.setCell ⟨p, 1, .none⟩ (.int .i64 ((ops : Int) + 1))) := (Fr.refl _ w).set _ _ rfl
  refine ⟨⟨fun i hi => by rw [World.size_setCell]; exact h.own i hi, h.sp, h.sm, h.ne, ?_, h.map.fr k h.ne, fun x b hx => ?_, h.inj, h.none, h.some, h.n1, h.n2, h.byte⟩, k.mono (fun i _ hi => by rw [hi]; exact h.sp)⟩
  · rw [heap_setCell_same w p 1 _ _ _ h.row]
    simp
  · obtain ⟨h1, h2, h3, h4⟩ := h.page x b hx
    exact ⟨h1, h2, h3, h4.fr k h2⟩

end Go.Proofs.YtpjlmmiceiionaaDoor
