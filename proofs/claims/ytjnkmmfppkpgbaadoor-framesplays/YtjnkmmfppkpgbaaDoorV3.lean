/- frames: New, take. -/
import Derived.Test.YtjnkmmfppkpgbaaDoorV2
import Derived.Deep.DeepCutAuto
namespace Go.Proofs.YtjnkmmfppkpgbaaDoor
open Go.RowKit Go.Maps
set_option maxRecDepth 10000

/-- The frames from x on, j of them: all 0; counted once. -/
def zerR (B : Nat → Nat → Nat) (x j : Nat) : Nat → Nat → Nat := fun k => if x ≤ k ∧ k < x + j then z0 else B k
def onR (C : Nat → Nat) (x j : Nat) : Nat → Nat := fun k => if x ≤ k ∧ k < x + j then 1 else C k
theorem zerR_zero (B : Nat → Nat → Nat) (x : Nat) : zerR B x 0 = B := by funext k; unfold zerR; rw [if_neg (by omega)]
theorem onR_zero (C : Nat → Nat) (x : Nat) : onR C x 0 = C := by funext k; unfold onR; rw [if_neg (by omega)]
theorem zerR_succ (B : Nat → Nat → Nat) (x j : Nat) : putFr (zerR B x j) (x + j) z0 = zerR B x (j + 1) := by
  funext k
  unfold putFr zerR
  by_cases e : k = x + j
  · rw [if_pos e, if_pos (by omega)]
  · rw [if_neg e]
    by_cases c : x ≤ k ∧ k < x + j
    · rw [if_pos c, if_pos (by omega)]
    · rw [if_neg c, if_neg (by omega)]
theorem onR_succ (C : Nat → Nat) (x j : Nat) : putC (onR C x j) (x + j) 1 = onR C x (j + 1) := by
  funext k
  unfold putC onR
  by_cases e : k = x + j
  · rw [if_pos e, if_pos (by omega)]
  · rw [if_neg e]
    by_cases c : x ≤ k ∧ k < x + j
    · rw [if_pos c, if_pos (by omega)]
    · rw [if_neg c, if_neg (by omega)]

section
variable {w : World} {S M U V : Nat → Prop} {p pm bt bp bc N pool ops : Nat} {B : Nat → Nat → Nat} {Ft Fp : Nat → Bool} {C : Nat → Nat}
set_option maxHeartbeats 2000000 in
theorem ftake_walk (pb o x s : Nat) (lack : Int) (ho : o ≤ 9) (hs : (2 : Int) ^ o = (s : Int)) (hs2 : (s : Int) ≤ 1000) (hx : x + s ≤ N) (hN : N ≤ 1048576)
    (cT : Calls Tryd.prog 52 #[.pointer (some ⟨pb, 0, none⟩), .int .i64 (o : Int)] w fun e w' => e = .returned (.tuple #[.int .i64 (x : Int), .int .i64 0]) ∧ FA w' S M U V p pm bt bp bc N pool ops B Ft Fp C ∧ Fr S w w') :
    Calls Tryd.prog 34 #[.pointer (some ⟨p, 0, none⟩), .pointer (some ⟨pb, 0, none⟩), .int .i64 (o : Int), .int .i64 lack] w fun e w' => e = .returned (.tuple #[.int .i64 (x : Int), .int .i64 0]) ∧ FA w' S M U V p pm bt bp bc N pool ops (zerR B x s) Ft Fp (onR C x s) ∧ Fr S w w' := by
  have z1 : (o : Int) ≤ 9 := by omega
  have z2 : (x : Int) + s ≤ 1048576 := by omega
  have z3 : (x : Int) + s ≤ N := by omega
  go_enter Tryd.func34, Tryd.ntmps34
  go_wp2_with fail
  with_reducible refine cT.mono ?_
  rintro e w1 ⟨rfl, h1, k1⟩
  have I0 : Hid (FA w1 S M U V p pm bt bp bc N pool ops (zerR B x 0) Ft Fp (onR C x 0) ∧ Fr S w w1) := ⟨by rw [zerR_zero, onR_zero]; exact h1, k1⟩
  clear h1 k1 cT
  go_wp2_with fail
  go_loopg [12] (s + 1) (fun g v12 wr => ∃ j : Nat, v12 = .int .i64 ((x : Int) + j) ∧ j ≤ s ∧ s + 1 - j ≤ g ∧ Hid (FA wr S M U V p pm bt bp bc N pool ops (zerR B x j) Ft Fp (onR C x j) ∧ Fr S w wr))
  case atStart => exact ⟨0, by simp, by omega, by omega, I0⟩
  case round =>
    clear I0
    obtain ⟨j, rfl, hj, hg, HI⟩ := hrel
    by_cases e : j < s
    · have z4 : (j : Int) < s := by omega
      have c0 := HI.out.1.c0
      have kZ := pzero_ok HI.out.1.mem (x + j) (by omega)
      have HK : Hid (∀ w', PM w' M pm N ops (putFr (zerR B x j) (x + j) z0) → Fr M wr w' → w'.cell? ⟨p, 4, none⟩ = some (.map (some bc)) ∧ ∃ w2, (Instr.mapUpdate 67 (.map (some bc)) (.int .i64 ((x : Int) + j)) (.int .i64 1)).run Tryd.prog w' = .ok () w2 ∧ Hid (FA w2 S M U V p pm bt bp bc N pool ops (zerR B x (j + 1)) Ft Fp (onR C x (j + 1)) ∧ Fr S w w2)) := fun w' m k => by
        have h2 := HI.out.1.setM m k
        obtain ⟨w2, r1, r2, r3⟩ := h2.cs.store (x + j) 1 (by omega) (by decide) (by decide) hN
        refine ⟨h2.c4, w2, by rw [← Int.natCast_add]; exact r1, ?_⟩
        have h3 := h2.setC r2 r3
        rw [zerR_succ, onR_succ] at h3
        exact ⟨h3, (HI.out.2.trans (HI.out.1.frM k)).trans (h2.frC r3)⟩
      rw [Int.natCast_add] at kZ
      clear HI
      go_wp2_with fail
      with_reducible refine kZ.mono ?_
      rintro e w' ⟨rfl, m, k⟩
      obtain ⟨c4, w2, r1, HI2⟩ := HK.out w' m k
      clear HK m k kZ
      go_wp2_with fail
      go_roundg (s + 1 - (j + 1))
      case measure => omega
      case rel => exact ⟨j + 1, by go_num, by omega, by omega, HI2⟩
    · have ei : j = s := by omega
      subst ei
      go_wp2
      go_ret2
      exact ⟨rfl, HI.out⟩
set_option maxHeartbeats 1000000 in
theorem ftake_no (pb o : Nat) (lack : Int)
    (cT : Calls Tryd.prog 52 #[.pointer (some ⟨pb, 0, none⟩), .int .i64 (o : Int)] w fun e w' => e = .returned (.tuple #[.int .i64 0, .int .i64 10]) ∧ w' = w) :
    Calls Tryd.prog 34 #[.pointer (some ⟨p, 0, none⟩), .pointer (some ⟨pb, 0, none⟩), .int .i64 (o : Int), .int .i64 lack] w fun e w' => e = .returned (.tuple #[.int .i64 0, .int .i64 lack]) ∧ w' = w := by
  go_enter Tryd.func34, Tryd.ntmps34
  go_wp2_with (go_at_call 52; with_reducible refine cT.mono ?_; rintro e w' ⟨rfl, rfl⟩)
  go_ret2
  exact ⟨rfl, rfl⟩
end
end Go.Proofs.YtjnkmmfppkpgbaaDoor
