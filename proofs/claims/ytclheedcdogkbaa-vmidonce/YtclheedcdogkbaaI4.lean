/- demesneref16: who has which, in a list. -/
import Derived.Test.YtclheedcdogkbaaI3
import Derived.BigQuiet
namespace Go.Proofs.Ytclheedcdogkbaa
open Go.RowKit
set_option maxRecDepth 10000

theorem hs_all {n : Nat} {s : IV} (ok : okV n s) {x : Int} (hx : 0 < x) : hsN s.f x n 1 = hs s x := by
  have hn : n = s.g + (n - s.g) := by have := ok.g; omega
  have e : hsN s.f x n 1 = hsN s.f x s.g 1 := by
    rw [hn]
    exact hsN_add s.f x s.g 1 _ (fun i h1 h2 => by rw [ok.z i (by omega)]; omega)
  rw [e]
  unfold hs
  split
  · rfl
  · rename_i c
    refine hsN_zero fun i h1 h2 => ?_
    have := ok.lt i
    have c' : ¬ (1 ≤ x ∧ x ≤ 255) := fun h => c (isG_iff.2 h)
    omega
/-- The document's IDs lie at b, the list in the block a. -/
structure VD (w : World) (b a n : Nat) (s : IV) : Prop where
  c0 : w.cell? ⟨b, 0, none⟩ = some (.slice (some ⟨a, 0, none⟩) n n)
  c1 : w.cell? ⟨b, 1, none⟩ = some (.int .i64 (s.g : Int))
  c2 : w.cell? ⟨b, 2, none⟩ = some (.int .i64 (s.t : Int))
  fz : ∀ j, w.frozen? ⟨b, j, none⟩ = false
  bl : b < w.heap.size
  row : WI w a n (fun i => s.f (i + 1))
  ne : b ≠ a
section
variable {w w' : World} {b a n : Nat} {s : IV}
theorem VD.fr (h : VD w b a n s) {S : Nat → Prop} (f : Fr S w w') (h1 : ¬ S b) (h2 : ¬ S a) : VD w' b a n s :=
  ⟨(f.cell (a := ⟨b, 0, none⟩) h.bl h1).trans h.c0, (f.cell (a := ⟨b, 1, none⟩) h.bl h1).trans h.c1, (f.cell (a := ⟨b, 2, none⟩) h.bl h1).trans h.c2, fun j => (World.frozen?_of_block (a := ⟨b, j, none⟩) (f.block b h.bl h1)).trans (h.fz j), Nat.lt_of_lt_of_le h.bl f.size, h.row.fr f h2, h.ne⟩
theorem VD.kp (h : VD w b a n s) (k : Kp w w') : VD w' b a n s := h.fr (k.fr (fun _ => False)) id id

set_option maxHeartbeats 2000000 in
theorem dhas16 (h : VD w b a n s) (ok : okV n s) (x : Int) :
    Calls Try.prog 13 #[.pointer (some ⟨b, 0, none⟩), .int .i64 x] w fun e w' => e = .returned (.tuple #[.int .i64 (hs s x : Int), .bool (hs s x != 0)]) ∧ w' = w := by
  have c0 := h.c0
  have HO : Hid (∀ i : Nat, i < n → w.cell? ⟨a, i, none⟩ = some (.int .i64 (s.f (i + 1) : Int))) := fun i hi => h.row.cell i hi
  have n2 := ok.n2
  have hz0 : ∃ z, hs s x = z ∧ (¬ 0 < x → z = 0) ∧ (0 < x → hsN s.f x n 1 = z) := by
    refine ⟨_, rfl, fun hx => ?_, fun hx => hs_all ok hx⟩
    unfold hs
    rw [if_neg (fun c => by have := isG_iff.1 c; omega)]
  obtain ⟨z, hz, hz1, hz2⟩ := hz0
  rw [hz]
  have HZ : Hid ((¬ 0 < x → z = 0) ∧ (0 < x → hsN s.f x n 1 = z)) := ⟨hz1, hz2⟩
  generalize s.f = f at *
  clear h ok hz hz1 hz2
  go_enter Try.func13, Try.ntmps13
  go_wp2_with fail
  go_loopg [6] n (fun m v6 wr => ∃ j : Nat, v6 = .int .i64 (j : Int) ∧ j ≤ n ∧ n - j ≤ m ∧ w = wr ∧ Hid (0 < x → hsN f x (n - j) (j + 1) = z))
  case atStart => exact ⟨0, rfl, by omega, by omega, rfl, HZ.out.2⟩
  case round =>
    obtain ⟨j, rfl, j1, jm, ew, HJ⟩ := hrel
    subst ew
    have y2 : (n : Int) ≤ 255 := by omega
    by_cases hjn : j < n
    · have y3 : (j : Int) < n := by omega
      have co := HO.out j hjn
      by_cases hx : 0 < x
      · have hz := HJ.out hx
        rw [show n - j = (n - (j + 1)) + 1 by omega] at hz
        unfold hsN at hz
        have d0 : decide (0 < x) = true := decide_eq_true hx
        generalize (f (j + 1) : Nat) = u at *
        by_cases e : (u : Int) = x
        · rw [if_pos e] at hz
          have b1 : ((u : Int) == x) = true := by simpa using e
          have b3 : Hid ((z != 0) = true) := by show (z != 0) = true; simp; omega
          have HZ2 : Hid (j + 1 = z) := hz
          clear hz e HJ hx
          go_wp2
          go_ret2
          exact ⟨by rw [b3.out, ← HZ2.out]; rfl, rfl⟩
        · rw [if_neg e] at hz
          have b1 : ((u : Int) == x) = false := by simpa using e
          have HZ2 : Hid (0 < x → hsN f x (n - (j + 1)) (j + 1 + 1) = z) := fun _ => hz
          clear hz e HJ hx
          go_wp2
          go_roundg (n - (j + 1))
          case measure => omega
          case rel => exact ⟨j + 1, by go_num, by omega, by omega, rfl, HZ2⟩
      · have d0 : decide (0 < x) = false := decide_eq_false hx
        have HZ2 : Hid (0 < x → hsN f x (n - (j + 1)) (j + 1 + 1) = z) := fun c => absurd c hx
        clear HJ hx
        go_wp2
        go_roundg (n - (j + 1))
        case measure => omega
        case rel => exact ⟨j + 1, by go_num, by omega, by omega, rfl, HZ2⟩
    · have d1 : decide ((j : Int) < (n : Int)) = false := decide_eq_false (by omega)
      have d2 : decide (j < n) = false := decide_eq_false hjn
      have hz : z = 0 := by
        by_cases hx : 0 < x
        · have := HJ.out hx
          rw [show n - j = 0 by omega] at this
          exact this.symm
        · exact HZ.out.1 (by first | exact hx | omega)
      subst hz
      clear HJ HZ HO
      go_wp2
      go_ret2
      exact ⟨rfl, rfl⟩

set_option maxHeartbeats 2000000 in
theorem ddrop16 (h : VD w b a n s) (ok : okV n s) (x : Int) :
    Calls Try.prog 11 #[.pointer (some ⟨b, 0, none⟩), .int .i64 x] w fun e w' => e = .returned (.bool (hs s x != 0)) ∧ VD w' b a n (drpS s x) ∧ Fr (· = a) w w' := by
  have k1 := dhas16 h ok x
  unfold drpS
  by_cases c : hs s x = 0
  · rw [if_pos c]
    rw [c] at k1 ⊢
    have HH : Hid (VD w b a n s) := h
    clear h ok c
    go_enter Try.func11, Try.ntmps11
    go_wp2_with fail
    with_reducible refine k1.mono ?_
    rintro e w ⟨rfl, rfl⟩
    go_wp2
    go_ret
    exact ⟨rfl, HH.out, Fr.refl _ _⟩
  · rw [if_neg c]
    have hle := hs_le s x
    have g1 := ok.g
    have n2 := ok.n2
    obtain ⟨k, hk⟩ : ∃ k, hs s x = k + 1 := ⟨hs s x - 1, by omega⟩
    rw [hk] at k1 c hle ⊢
    have y2 : (n : Int) ≤ 255 := by omega
    have y4 : (k : Int) < n := by omega
    have f2 : Fr (· = a) w (w.setCell ⟨a, k, none⟩ (.int .i64 ((0 : Nat) : Int))) := (Fr.refl _ w).set _ _ rfl
    have h2 : VD (w.setCell ⟨a, k, none⟩ (.int .i64 ((0 : Nat) : Int))) b a n ⟨s.t, s.g, updI s.f (k + 1) 0⟩ := by
      have nb : ¬ b = a := h.ne
      refine ⟨(f2.cell (a := ⟨b, 0, none⟩) h.bl nb).trans h.c0, (f2.cell (a := ⟨b, 1, none⟩) h.bl nb).trans h.c1, (f2.cell (a := ⟨b, 2, none⟩) h.bl nb).trans h.c2, fun j => (World.frozen?_of_block (a := ⟨b, j, none⟩) (f2.block b h.bl nb)).trans (h.fz j), Nat.lt_of_lt_of_le h.bl f2.size, (h.row.set k 0).like fun i hi => ?_, h.ne⟩
      show updI s.f (k + 1) 0 (i + 1) = updI (fun i => s.f (i + 1)) k 0 i
      unfold updI
      by_cases e : i = k
      · rw [if_pos e, if_pos (by omega)]
      · rw [if_neg e, if_neg (by omega)]
    have HH : Hid (VD (w.setCell ⟨a, k, none⟩ (.int .i64 0)) b a n ⟨s.t, s.g, updI s.f (k + 1) 0⟩ ∧ Fr (· = a) w (w.setCell ⟨a, k, none⟩ (.int .i64 0))) := ⟨h2, f2⟩
    have c0 := h.c0
    have c1 := h.row.cell k (by omega)
    have c2 := h.row.fz k
    have bz : (k + 1 != 0) = true := by simp
    rw [bz] at k1 ⊢
    generalize s.f (k + 1) = u at *
    clear h ok h2 f2 hle g1 n2 hk c bz
    have e1 : ((k + 1 : Nat) : Int) = (k : Int) + 1 := by omega
    rw [e1] at k1
    go_enter Try.func11, Try.ntmps11
    go_wp2_with fail
    with_reducible refine k1.mono ?_
    rintro e w ⟨rfl, rfl⟩
    go_wp2
    go_ret
    exact ⟨rfl, HH.out⟩
end

end Go.Proofs.Ytclheedcdogkbaa
