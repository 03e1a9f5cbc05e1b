/- The document's walk and what it comes to. -/
import Derived.Test.YtclcickhgoiooaaZF
namespace Go.Proofs.Ytclcickhgoiooaa
open Go.RowKit
set_option maxRecDepth 10000

/-- The document's walk and what it comes to. -/
def GR (W : World) (q : Nat) (s : Int) (root u : Nat) (rd : Nat → Nat × Bool) (mm : Nat) (t : Nat) (L : List SV) (k : Int) (over : Bool) (v : Value) (w : World) : Prop :=
  RWk W q s t u L k over v w ∧ ((over = false ∧ sofar s root u rd L mm t ∧ k = 4) ∨ (over = true ∧ goW s u rd 4 0 root = (L, k, mm)))

theorem GR.keep {W w w' : World} {q : Nat} {s : Int} {root u : Nat} {rd : Nat → Nat × Bool} {mm t : Nat} {L : List SV} {k : Int} {over : Bool} {v : Value} (h : GR W q s root u rd mm t L k over v w) (g : Kp w w') : GR W q s root u rd mm t L k over v w' := ⟨h.1.keep g, h.2⟩
theorem give_GR {W w : World} {q : Nat} {s : Int} {root u : Nat} {rd : Nat → Nat × Bool} {mm t : Nat} {L : List SV} {k : Int} {v : Value} (h : GR W q s root u rd mm t L k false v w) (hu : u < 18446744073709551616) (wd : ∀ p, (rd p).1 < 18446744073709551616) :
    Calls Try.prog 35 #[.pointer (some ⟨q, 0, none⟩), .int .u64 ((rd (atN t u mm)).1 : Int), .bool (rd (atN t u mm)).2] w fun e w' => e = .returned (.tuple #[]) ∧ ∃ t' L' k' o' v', GR W q s root u rd (mm + 1) t' L' k' o' v' w' := by
  obtain ⟨h1, h2⟩ := h
  rcases h2 with ⟨_, hS, hk⟩ | ⟨h3, _⟩
  · have hl := hS.1
    cases ho : (rd (atN t u mm)).2
    · refine (give_stop h1 _).mono ?_
      rintro e w1 ⟨rfl, H⟩
      exact ⟨rfl, _, _, _, _, _, H, .inr ⟨rfl, sofar_stop hS ho⟩⟩
    · by_cases hd : (dvN s mm (rd (atN t u mm)).1).k = 1
      · have hon := sofar_on hS ho hd
        refine (give_word h1 (rd (atN t u mm)).1 (wd _) hu (by rw [hl]; exact hS.2.1) (dvN s mm (rd (atN t u mm)).1).a k false (.inl ⟨by rw [hl]; exact hd, by rw [hl], rfl, ?_⟩)).mono ?_
        · rw [hl]
          symm
          exact decide_eq_false (by have := hon.2.1; omega)
        · rintro e w1 ⟨rfl, v', H⟩
          rw [hl] at H
          exact ⟨rfl, _, _, _, _, _, H, .inl ⟨rfl, hon, hk⟩⟩
      · have hen := sofar_end hS ho hd
        refine (give_word h1 (rd (atN t u mm)).1 (wd _) hu (by rw [hl]; exact hS.2.1) t _ true (.inr ⟨by rw [hl]; exact hd, rfl, rfl, rfl⟩)).mono ?_
        rintro e w1 ⟨rfl, v', H⟩
        rw [hl] at H
        exact ⟨rfl, _, _, _, _, _, H, .inr ⟨rfl, hen⟩⟩
  · cases h3

/-- As much is known as was told. -/
theorem give_GRn {W w : World} {q : Nat} {s : Int} {root u : Nat} {rd : Nat → Nat × Bool} {mm t : Nat} {L : List SV} {k : Int} {v : Value} (h : GR W q s root u rd mm t L k false v w) (hu : u < 18446744073709551616) (wd : ∀ p, (rd p).1 < 18446744073709551616) :
    Calls Try.prog 35 #[.pointer (some ⟨q, 0, none⟩), .int .u64 ((rd (atN t u mm)).1 : Int), .bool (rd (atN t u mm)).2] w fun e w' => e = .returned (.tuple #[]) ∧ ∃ t' L' k' o' v', GR W q s root u rd (mm + 1) t' L' k' o' v' w' ∧ L'.length = mm + cond (rd (atN t u mm)).2 1 0 := by
  obtain ⟨h1, h2⟩ := h
  rcases h2 with ⟨_, hS, hk⟩ | ⟨h3, _⟩
  · have hl := hS.1
    cases ho : (rd (atN t u mm)).2
    · refine (give_stop h1 _).mono ?_
      rintro e w1 ⟨rfl, H⟩
      exact ⟨rfl, _, _, _, _, _, ⟨H, .inr ⟨rfl, sofar_stop hS ho⟩⟩, hl⟩
    · by_cases hd : (dvN s mm (rd (atN t u mm)).1).k = 1
      · have hon := sofar_on hS ho hd
        refine (give_word h1 (rd (atN t u mm)).1 (wd _) hu (by rw [hl]; exact hS.2.1) (dvN s mm (rd (atN t u mm)).1).a k false (.inl ⟨by rw [hl]; exact hd, by rw [hl], rfl, ?_⟩)).mono ?_
        · rw [hl]
          symm
          exact decide_eq_false (by have := hon.2.1; omega)
        · rintro e w1 ⟨rfl, v', H⟩
          rw [hl] at H
          exact ⟨rfl, _, _, _, _, _, ⟨H, .inl ⟨rfl, hon, hk⟩⟩, by rw [List.length_append, hl]; rfl⟩
      · have hen := sofar_end hS ho hd
        refine (give_word h1 (rd (atN t u mm)).1 (wd _) hu (by rw [hl]; exact hS.2.1) t _ true (.inr ⟨by rw [hl]; exact hd, rfl, rfl, rfl⟩)).mono ?_
        rintro e w1 ⟨rfl, v', H⟩
        rw [hl] at H
        exact ⟨rfl, _, _, _, _, _, ⟨H, .inr ⟨rfl, hen⟩⟩, by rw [List.length_append, hl]; rfl⟩
  · cases h3

end Go.Proofs.Ytclcickhgoiooaa
