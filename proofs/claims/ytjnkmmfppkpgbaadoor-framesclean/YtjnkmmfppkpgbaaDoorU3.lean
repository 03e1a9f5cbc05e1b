/- buddy.Buddy: walks of its small methods. -/
import Derived.Test.YtjnkmmfppkpgbaaDoorU2
import Derived.Deep.RegionHeld3
namespace Go.Proofs.YtjnkmmfppkpgbaaDoor
open Go.RowKit

set_option maxHeartbeats 2000000 in
theorem badd_walk (p o f i fr s : Nat) (w : World) (P : World → Prop) (ho : (o : Int) < 10) (hi : (f : Int) / 2 ^ o = (i : Int)) (hs : wrap64 (2 ^ o) = (s : Int)) (hf : (fr : Int) ≤ 2000000) (hs2 : (s : Int) ≤ 1000)
    (cA : Calls Tryd.prog 62 #[.pointer (some ⟨p, 3 + o * 3, none⟩), .int .i64 (i : Int)] w.drew fun e w' => e = .returned (.tuple #[]) ∧ P w')
    (hP : ∀ w', P w' → w'.cell? ⟨p, 2, none⟩ = some (.int .i64 (fr : Int)) ∧ w'.frozen? ⟨p, 2, none⟩ = false) :
    Calls Tryd.prog 51 #[.pointer (some ⟨p, 0, none⟩), .int .i64 (f : Int), .int .i64 (o : Int)] w fun e w' => e = .returned (.tuple #[]) ∧ ∃ w1, P w1 ∧ w' = (w1.setCell ⟨p, 2, none⟩ (.int .i64 ((fr : Int) + s))).drew := by
  have HP : Aside (∀ w', P w' → w'.cell? ⟨p, 2, none⟩ = some (.int .i64 (fr : Int)) ∧ w'.frozen? ⟨p, 2, none⟩ = false) := hP
  clear hP
  go_enter Tryd.func51, Tryd.ntmps51
  go_wp2_with fail
  go_region_held3 (fun _ => True) (first | trivial | go_keep) (first | (go_at_call 62; go_must (with_reducible refine cA.mono ?_); rintro e w1 ⟨rfl, H1⟩))
  obtain ⟨c2, f2⟩ := HP.out w1 H1
  go_wp2_with fail
  go_region
  go_wp2
  go_end0
  exact ⟨rfl, w1, H1, rfl⟩
set_option maxHeartbeats 2000000 in
theorem brem_walk (p o f i fr s : Nat) (w : World) (P : World → Prop) (ho : (o : Int) < 10) (hi : (f : Int) / 2 ^ o = (i : Int)) (hs : wrap64 (2 ^ o) = (s : Int)) (hf : (fr : Int) ≤ 2000000) (hs2 : (s : Int) ≤ 1000)
    (cA : Calls Tryd.prog 76 #[.pointer (some ⟨p, 3 + o * 3, none⟩), .int .i64 (i : Int)] w.drew fun e w' => e = .returned (.tuple #[]) ∧ P w')
    (hP : ∀ w', P w' → w'.cell? ⟨p, 2, none⟩ = some (.int .i64 (fr : Int)) ∧ w'.frozen? ⟨p, 2, none⟩ = false) :
    Calls Tryd.prog 66 #[.pointer (some ⟨p, 0, none⟩), .int .i64 (f : Int), .int .i64 (o : Int)] w fun e w' => e = .returned (.tuple #[]) ∧ ∃ w1, P w1 ∧ w' = (w1.setCell ⟨p, 2, none⟩ (.int .i64 ((fr : Int) - s))).drew := by
  have HP : Aside (∀ w', P w' → w'.cell? ⟨p, 2, none⟩ = some (.int .i64 (fr : Int)) ∧ w'.frozen? ⟨p, 2, none⟩ = false) := hP
  clear hP
  go_enter Tryd.func66, Tryd.ntmps66
  go_wp2_with fail
  go_region_held3 (fun _ => True) (first | trivial | go_keep) (first | (go_at_call 76; go_must (with_reducible refine cA.mono ?_); rintro e w1 ⟨rfl, H1⟩))
  obtain ⟨c2, f2⟩ := HP.out w1 H1
  go_wp2_with fail
  go_region
  go_wp2
  go_end0
  exact ⟨rfl, w1, H1, rfl⟩
set_option maxHeartbeats 2000000 in
theorem fitting_walk (p o r : Nat) (E : Nat → Bool) (w : World) (cE : ∀ k, k < 10 → Calls Tryd.prog 75 #[.pointer (some ⟨p, 3 + k * 3, none⟩)] w fun e w' => e = .returned (.bool (E k)) ∧ w' = w)
    (h1 : o ≤ r) (h2 : r ≤ 10) (h3 : ∀ k, o ≤ k → k < r → E k = true) (h4 : r < 10 → E r = false) :
    Calls Tryd.prog 64 #[.pointer (some ⟨p, 0, none⟩), .int .i64 (o : Int)] w fun e w' => e = .returned (.int .i64 (r : Int)) ∧ w' = w := by
  have CE : Aside (∀ k, k < 10 → Calls Tryd.prog 75 #[.pointer (some ⟨p, 3 + k * 3, none⟩)] w fun e w' => e = .returned (.bool (E k)) ∧ w' = w) := cE
  have H3 : Aside (∀ k, o ≤ k → k < r → E k = true) := h3
  have H4 : Hid (r < 10 → E r = false) := h4
  clear cE h3 h4
  go_enter Tryd.func64, Tryd.ntmps64
  go_wp2_with fail
  go_loopg [1] (r + 1) (fun g v1 wr => ∃ k : Nat, v1 = .int .i64 (k : Int) ∧ o ≤ k ∧ k ≤ r ∧ r + 1 - k ≤ g ∧ wr = w)
  case atStart => exact ⟨o, rfl, by omega, by omega, by omega, rfl⟩
  case round =>
    obtain ⟨k, rfl, k1, k2, hg, rfl⟩ := hrel
    by_cases e : k < r
    · have y1 : (k : Int) < 10 := by omega
      have c1 := CE.out k (by omega)
      rw [H3.out k k1 e] at c1
      go_wp2_with (first | (go_at_call 75; go_must (with_reducible refine c1.mono ?_); rintro e w' ⟨rfl, rfl⟩))
      go_roundg (r + 1 - (k + 1))
      case measure => omega
      case rel => exact ⟨k + 1, by go_num, by omega, by omega, by omega, rfl⟩
    · have ek : k = r := by omega
      subst ek
      by_cases e10 : k < 10
      · have y1 : (k : Int) < 10 := by omega
        have c1 := CE.out k e10
        rw [H4.out e10] at c1
        go_wp2_with (first | (go_at_call 75; go_must (with_reducible refine c1.mono ?_); rintro e w' ⟨rfl, rfl⟩))
        go_ret
        exact ⟨rfl, rfl⟩
      · have e' : k = 10 := by omega
        subst e'
        go_wp2
        go_ret
        exact ⟨rfl, rfl⟩
set_option maxHeartbeats 2000000 in
theorem around_walk (p f r : Nat) (B : Nat → Bool) (w : World) (cH : ∀ k w', k < 10 → Dr w w' → Calls Tryd.prog 70 #[.pointer (some ⟨p, 3 + k * 3, none⟩), .int .i64 ((f / 2 ^ k : Nat) : Int)] w' fun e w'' => e = .returned (.bool (B k)) ∧ w'' = w')
    (h2 : r ≤ 10) (h3 : ∀ k, k < r → B k = false) (h4 : r < 10 → B r = true) :
    Calls Tryd.prog 79 #[.pointer (some ⟨p, 0, none⟩), .int .i64 (f : Int)] w fun e w' => e = .returned (.int .i64 (r : Int)) ∧ Dr w w' := by
  have CH : Aside (∀ k w', k < 10 → Dr w w' → Calls Tryd.prog 70 #[.pointer (some ⟨p, 3 + k * 3, none⟩), .int .i64 ((f / 2 ^ k : Nat) : Int)] w' fun e w'' => e = .returned (.bool (B k)) ∧ w'' = w') := cH
  have H3 : Aside (∀ k, k < r → B k = false) := h3
  have H4 : Hid (r < 10 → B r = true) := h4
  clear cH h3 h4
  go_enter Tryd.func79, Tryd.ntmps79
  go_wp2_with fail
  go_loopg [5] (r + 1) (fun g v5 wr => ∃ k : Nat, v5 = .int .i64 (k : Int) ∧ k ≤ r ∧ r + 1 - k ≤ g ∧ Hid (Dr w wr))
  case atStart => exact ⟨0, rfl, by omega, by omega, Dr.refl w⟩
  case round =>
    obtain ⟨k, rfl, k2, hg, HD⟩ := hrel
    have HD2 : Aside (∀ n, Dr w (wr.drewN n)) := fun n => HD.out.trans ⟨n, rfl⟩
    by_cases e10 : k < 10
    · have y1 : (k : Int) < 10 := by omega
      have c1 := fun n => CH.out k (wr.drewN n) e10 (HD2.out n)
      have hi : (f : Int) / 2 ^ k = ((f / 2 ^ k : Nat) : Int) := by push_cast; rfl
      generalize f / 2 ^ k = i at *
      by_cases e : k < r
      · rw [H3.out k e] at c1
        go_wp2_with fail
        have yb : decide ((k : Int) ≤ 9) = true := decide_eq_true (by omega)
        have yc : decide (k ≤ 9) = true := decide_eq_true (by omega)
        go_quiet (first | (go_at_call 70; go_must (exact (c1 _).mono fun e w' h => ⟨h.1, _, h.2⟩)))
        go_wp2
        go_roundg (r + 1 - (k + 1))
        case measure => omega
        case rel => exact ⟨k + 1, by go_num, by omega, by omega, HD2.out _⟩
      · have ek : k = r := by omega
        subst ek
        rw [H4.out e10] at c1
        go_wp2_with fail
        have yb : decide ((k : Int) ≤ 9) = true := decide_eq_true (by omega)
        have yc : decide (k ≤ 9) = true := decide_eq_true (by omega)
        go_quiet (first | (go_at_call 70; go_must (exact (c1 _).mono fun e w' h => ⟨h.1, _, h.2⟩)))
        go_wp2
        go_ret
        exact ⟨rfl, HD2.out _⟩
    · have e' : k = 10 := by omega
      subst e'
      go_wp2_with fail
      go_quiet (fail)
      go_wp2
      go_ret
      exact ⟨by rw [show r = 10 by omega]; rfl, HD2.out _⟩
end Go.Proofs.YtjnkmmfppkpgbaaDoor
