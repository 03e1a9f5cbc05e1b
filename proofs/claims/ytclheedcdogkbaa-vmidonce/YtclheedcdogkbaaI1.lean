/- vmid: who has which; isGuest, Turn, Has, giveNext, Drop. -/
import Derived.Test.YtclheedcdogkbaaSA
import Derived.Test.YtclheedcdogkbaaRXG
import Derived.Test.YtclheedcdogkbaaWI
import Derived.Deep.WholeRow
import Derived.Laws.Tables
namespace Go.Proofs.Ytclheedcdogkbaa
open Go.RowKit
set_option maxRecDepth 10000

def isG (x : Int) : Bool := decide (1 ≤ x) && decide (x ≤ 255)
theorem isG_iff {x : Int} : isG x = true ↔ 1 ≤ x ∧ x ≤ 255 := by simp [isG]
/-- The turn, how many were given in it, whose each is. -/
structure IV where
  t : Nat
  g : Nat
  f : Nat → Nat
/-- The first of m places from j on that is x's; 0: none. -/
def hsN (f : Nat → Nat) (x : Int) : Nat → Nat → Nat
  | 0, _ => 0
  | m + 1, j => if ((f j : Nat) : Int) = x then j else hsN f x m (j + 1)
theorem hsN_le (f : Nat → Nat) (x : Int) : ∀ m j, hsN f x m j = 0 ∨ (j ≤ hsN f x m j ∧ hsN f x m j < j + m ∧ ((f (hsN f x m j) : Nat) : Int) = x)
  | 0, _ => .inl rfl
  | m + 1, j => by
    unfold hsN
    by_cases c : ((f j : Nat) : Int) = x
    · rw [if_pos c]; exact .inr ⟨Nat.le_refl _, by omega, c⟩
    · rw [if_neg c]
      rcases hsN_le f x m (j + 1) with h | ⟨h1, h2, h3⟩
      · exact .inl h
      · exact .inr ⟨by omega, by omega, h3⟩
theorem hsN_none {f : Nat → Nat} {x : Int} : ∀ {m j : Nat}, 1 ≤ j → hsN f x m j = 0 → ∀ i, j ≤ i → i < j + m → ((f i : Nat) : Int) ≠ x
  | 0, _, _, _, i, h1, h2 => by omega
  | m + 1, j, hj, h, i, h1, h2 => by
    unfold hsN at h
    by_cases c : ((f j : Nat) : Int) = x
    · rw [if_pos c] at h; omega
    · rw [if_neg c] at h
      by_cases e : i = j
      · rw [e]; exact c
      · exact hsN_none (by omega) h i (by omega) (by omega)
theorem hsN_zero {f : Nat → Nat} {x : Int} : ∀ {m j : Nat}, (∀ i, j ≤ i → i < j + m → ((f i : Nat) : Int) ≠ x) → hsN f x m j = 0
  | 0, _, _ => rfl
  | m + 1, j, h => by
    unfold hsN
    rw [if_neg (h j (by omega) (by omega))]
    exact hsN_zero fun i h1 h2 => h i (by omega) (by omega)
theorem hsN_add (f : Nat → Nat) (x : Int) : ∀ m j k, (∀ i, j + m ≤ i → i < j + m + k → ((f i : Nat) : Int) ≠ x) → hsN f x (m + k) j = hsN f x m j
  | 0, j, k, h => by rw [Nat.zero_add]; exact hsN_zero fun i h1 h2 => h i (by omega) (by omega)
  | m + 1, j, k, h => by
    rw [show m + 1 + k = (m + k) + 1 by omega]
    unfold hsN
    rw [hsN_add f x m (j + 1) k (fun i h1 h2 => h i (by omega) (by omega))]
def hs (s : IV) (x : Int) : Nat := if isG x = true then hsN s.f x s.g 1 else 0
/-- One of n IDs' states. -/
structure okV (n : Nat) (s : IV) : Prop where
  n1 : 1 ≤ n
  n2 : n ≤ 255
  g : s.g ≤ n
  lt : ∀ i, s.f i ≤ 255
  z : ∀ i, s.g < i → s.f i = 0
def givS (s : IV) (x : Int) : IV := ⟨s.t, s.g + 1, updI s.f (s.g + 1) x.toNat⟩
def rolS (s : IV) : IV := ⟨s.t + 1, 0, fun _ => 0⟩
def drpS (s : IV) (x : Int) : IV := if hs s x = 0 then s else ⟨s.t, s.g, updI s.f (hs s x) 0⟩
theorem okV.give {n : Nat} {s : IV} (h : okV n s) {x : Int} (hx : isG x = true) (hg : s.g ≠ n) : okV n (givS s x) := by
  have := isG_iff.1 hx
  refine ⟨h.n1, h.n2, by have := h.g; show s.g + 1 ≤ n; omega, fun i => ?_, fun i hi => ?_⟩
  · show updI s.f (s.g + 1) x.toNat i ≤ 255
    unfold updI
    split
    · omega
    · exact h.lt i
  · show updI s.f (s.g + 1) x.toNat i = 0
    have hi : s.g + 1 < i := hi
    unfold updI
    rw [if_neg (by omega)]
    exact h.z i (by omega)
theorem okV.roll {n : Nat} {s : IV} (h : okV n s) : okV n (rolS s) := ⟨h.n1, h.n2, Nat.zero_le _, fun _ => Nat.zero_le _, fun _ _ => rfl⟩
theorem okV.drop {n : Nat} {s : IV} (h : okV n s) (x : Int) : okV n (drpS s x) := by
  unfold drpS
  split
  · exact h
  · refine ⟨h.n1, h.n2, h.g, fun i => ?_, fun i hi => ?_⟩
    · show updI s.f (hs s x) 0 i ≤ 255
      unfold updI
      split
      · omega
      · exact h.lt i
    · show updI s.f (hs s x) 0 i = 0
      unfold updI
      split
      · rfl
      · exact h.z i hi
theorem hs_le (s : IV) (x : Int) : hs s x = 0 ∨ (1 ≤ hs s x ∧ hs s x ≤ s.g) := by
  unfold hs
  split
  · rcases hsN_le s.f x s.g 1 with h | ⟨h1, h2, _⟩
    · exact .inl h
    · exact .inr ⟨h1, by omega⟩
  · exact .inl rfl
/-- The IDs lie in the block b. -/
structure VI (w : World) (b n : Nat) (s : IV) : Prop where
  blk : ∃ A : Array Value, w.heap[b]? = some (.cells A 49 (0, 0)) ∧ A.size = 259 ∧ A[0]? = some (.int .i64 (n : Int)) ∧ A[1]? = some (.int .i64 (s.t : Int)) ∧ A[2]? = some (.int .i64 (s.g : Int)) ∧ ∀ i, i < 256 → A[3 + i]? = some (.int .i64 (s.f i : Int))
section
variable {w w' : World} {b n : Nat} {s : IV}
theorem VI.lt (h : VI w b n s) : b < w.heap.size := by obtain ⟨A, h, _⟩ := h.blk; exact (Array.getElem?_eq_some_iff.1 h).1
theorem VI.fr (h : VI w b n s) {S : Nat → Prop} (f : Fr S w w') (hS : ¬ S b) : VI w' b n s := by
  have hl := h.lt
  obtain ⟨A, h1, h2⟩ := h.blk
  exact ⟨A, (f.block b hl hS).trans h1, h2⟩
theorem VI.kp (h : VI w b n s) (k : Kp w w') : VI w' b n s := h.fr (k.fr (fun _ => False)) id
theorem VI.c0 (h : VI w b n s) : w.cell? ⟨b, 0, none⟩ = some (.int .i64 (n : Int)) := by
  obtain ⟨A, h1, _, h2, _⟩ := h.blk
  rw [cell_of_row _ _ _ _ _ _ h1]; exact h2
theorem VI.c1 (h : VI w b n s) : w.cell? ⟨b, 1, none⟩ = some (.int .i64 (s.t : Int)) := by
  obtain ⟨A, h1, _, _, h2, _⟩ := h.blk
  rw [cell_of_row _ _ _ _ _ _ h1]; exact h2
theorem VI.c2 (h : VI w b n s) : w.cell? ⟨b, 2, none⟩ = some (.int .i64 (s.g : Int)) := by
  obtain ⟨A, h1, _, _, _, h2, _⟩ := h.blk
  rw [cell_of_row _ _ _ _ _ _ h1]; exact h2
theorem VI.own (h : VI w b n s) {i : Nat} (hi : i < 256) : w.cell? ⟨b, 3 + i, none⟩ = some (.int .i64 (s.f i : Int)) := by
  obtain ⟨A, h1, _, _, _, _, h2⟩ := h.blk
  rw [cell_of_row _ _ _ _ _ _ h1]; exact h2 i hi
theorem VI.fz (h : VI w b n s) (j : Nat) : w.frozen? ⟨b, j, none⟩ = false := by
  obtain ⟨A, h1, _⟩ := h.blk
  exact frozen_of_row _ _ _ _ _ h1
theorem VI.setg (h : VI w b n s) (g : Nat) : VI (w.setCell ⟨b, 2, none⟩ (.int .i64 (g : Int))) b n ⟨s.t, g, s.f⟩ := by
  obtain ⟨A, h1, h2, h3, h4, h5, h6⟩ := h.blk
  refine ⟨_, heap_setCell_same w b 2 _ _ _ h1, by simpa using h2, by simpa using h3, by simpa using h4, ?_, fun i hi => ?_⟩
  · simp [h2]
  · rw [Array.getElem?_setIfInBounds_ne (by omega)]; exact h6 i hi
theorem VI.seto (h : VI w b n s) (k v : Nat) (hk : k < 256) : VI (w.setCell ⟨b, 3 + k, none⟩ (.int .i64 (v : Int))) b n ⟨s.t, s.g, updI s.f k v⟩ := by
  obtain ⟨A, h1, h2, h3, h4, h5, h6⟩ := h.blk
  refine ⟨_, heap_setCell_same w b (3 + k) _ _ _ h1, by simpa using h2, ?_, ?_, ?_, fun i hi => ?_⟩
  · rw [Array.getElem?_setIfInBounds_ne (by omega)]; exact h3
  · rw [Array.getElem?_setIfInBounds_ne (by omega)]; exact h4
  · rw [Array.getElem?_setIfInBounds_ne (by omega)]; exact h5
  · show _ = some (Value.int .i64 ((updI s.f k v i : Nat) : Int))
    unfold updI
    by_cases e : i = k
    · subst e
      rw [if_pos rfl, Array.getElem?_setIfInBounds_self_of_lt (by omega)]
    · rw [if_neg e, Array.getElem?_setIfInBounds_ne (by omega)]; exact h6 i hi
end

set_option maxHeartbeats 1000000 in
theorem isg_any (x : Int) (w : World) : Calls Try.prog 16 #[.int .i64 x] w fun e w' => e = .returned (.bool (isG x)) ∧ w' = w := by
  unfold isG
  obtain ⟨b2, h2⟩ : ∃ b2, decide (x ≤ 255) = b2 := ⟨_, rfl⟩
  rw [h2]
  by_cases c : 1 ≤ x
  · have d1 : decide (1 ≤ x) = true := decide_eq_true c
    rw [d1]
    go_enter Try.func16, Try.ntmps16
    go_wp2
    go_ret
    exact ⟨by simp, rfl⟩
  · have d1 : decide (1 ≤ x) = false := decide_eq_false c
    rw [d1]
    go_enter Try.func16, Try.ntmps16
    go_wp2
    go_ret
    exact ⟨by simp, rfl⟩

section
variable {w : World} {b n : Nat} {s : IV}
theorem vturn_any (h : VI w b n s) : Calls Try.prog 14 #[.pointer (some ⟨b, 0, none⟩)] w fun e w' => e = .returned (.int .i64 (s.t : Int)) ∧ w' = w := by
  have c1 := h.c1
  clear h
  go_enter Try.func14, Try.ntmps14
  go_wp2
  go_ret
  exact ⟨rfl, rfl⟩

set_option maxHeartbeats 2000000 in
theorem vhas_any (h : VI w b n s) (ok : okV n s) (x : Int) :
    Calls Try.prog 12 #[.pointer (some ⟨b, 0, none⟩), .int .i64 x] w fun e w' => e = .returned (.tuple #[.int .i64 (hs s x : Int), .bool (hs s x != 0)]) ∧ w' = w := by
  have c2 := h.c2
  have HO : Hid (∀ i : Nat, i < 256 → w.cell? ⟨b, 3 + i, none⟩ = some (.int .i64 (s.f i : Int))) := fun i hi => h.own hi
  have ci := isg_any x
  have g1 := ok.g
  have n2 := ok.n2
  unfold hs
  cases hx : isG x
  · rw [hx] at ci
    rw [if_neg (by decide)]
    clear HO h ok
    go_enter Try.func12, Try.ntmps12
    go_wp2_with (go_at_call 16; with_reducible refine (ci _).mono ?_; rintro e w' ⟨rfl, rfl⟩)
    go_ret2
    exact ⟨by simp, rfl⟩
  · rw [hx] at ci
    rw [if_pos rfl]
    obtain ⟨z, hz⟩ : ∃ z, hsN s.f x s.g 1 = z := ⟨_, rfl⟩
    rw [hz]
    have HZ : Hid (hsN s.f x s.g 1 = z) := hz
    have HS : Hid (s.g ≤ n) := g1
    have y1 : s.g ≤ 255 := by omega
    obtain ⟨g, hg⟩ : ∃ g, s.g = g := ⟨_, rfl⟩
    rw [hg] at c2 y1 HZ
    generalize s.f = f at *
    clear h ok hz g1 n2 HS hg
    go_enter Try.func12, Try.ntmps12
    go_wp2_with (go_at_call 16; with_reducible refine (ci _).mono ?_; rintro e w ⟨rfl, rfl⟩)
    clear ci hx
    go_loopg [6] g (fun m v6 wr => ∃ j : Nat, v6 = .int .i64 (j : Int) ∧ 1 ≤ j ∧ j ≤ g + 1 ∧ g + 1 - j ≤ m ∧ w = wr ∧ Hid (hsN f x (g + 1 - j) j = z))
    case atStart => exact ⟨1, rfl, by omega, by omega, by omega, rfl, by show hsN f x (g + 1 - 1) 1 = z; rw [Nat.add_sub_cancel]; exact HZ.out⟩
    case round =>
      obtain ⟨j, rfl, j1, j2, jm, ew, HJ⟩ := hrel
      subst ew
      have y2 : (g : Int) ≤ 255 := by omega
      by_cases hj : j ≤ g
      · have y3 : (j : Int) ≤ g := by omega
        have co := HO.out j (by omega)
        have he : hsN f x (g + 1 - j) j = if ((f j : Nat) : Int) = x then j else hsN f x (g + 1 - (j + 1)) (j + 1) := by
          rw [show g + 1 - j = (g + 1 - (j + 1)) + 1 by omega]; rfl
        have hz := HJ.out
        rw [he] at hz
        clear HJ he
        generalize (f j : Nat) = u at *
        by_cases e : (u : Int) = x
        · rw [if_pos e] at hz
          have b1 : ((u : Int) == x) = true := by simpa using e
          have b3 : Hid ((z != 0) = true) := by show (z != 0) = true; simp; omega
          have HZ2 : Hid (j = z) := hz
          clear hz e
          go_wp2
          go_ret2
          exact ⟨by rw [b3.out, HZ2.out]; rfl, rfl⟩
        · rw [if_neg e] at hz
          have b1 : ((u : Int) == x) = false := by simpa using e
          have HZ2 : Hid (hsN f x (g + 1 - (j + 1)) (j + 1) = z) := hz
          clear hz e
          go_wp2
          go_roundg (g + 1 - (j + 1))
          case measure => omega
          case rel => exact ⟨j + 1, by go_num, by omega, by omega, by omega, rfl, HZ2⟩
      · have ej : j = g + 1 := by omega
        have hz : 0 = z := by
          have := HJ.out
          rw [ej, Nat.sub_self] at this
          exact this
        subst hz
        clear HJ HZ HO
        have y3 : decide ((j : Int) ≤ (g : Int)) = false := decide_eq_false (by omega)
        have y4 : decide (j ≤ g) = false := decide_eq_false (by omega)
        clear ej
        go_wp2
        go_ret2
        exact ⟨by simp, rfl⟩

set_option maxHeartbeats 2000000 in
theorem vgive_any (h : VI w b n s) (ok : okV n s) (x : Int) (hx : isG x = true) (hg : s.g ≠ n) :
    Calls Try.prog 18 #[.pointer (some ⟨b, 0, none⟩), .int .i64 x] w fun e w' => e = .returned (.tuple #[]) ∧ VI w' b n (givS s x) ∧ Fr (· = b) w w' := by
  obtain ⟨x1, x2⟩ := isG_iff.1 hx
  obtain ⟨m, rfl⟩ : ∃ m : Nat, x = (m : Int) := ⟨x.toNat, by omega⟩
  have g1 := ok.g
  have n2 := ok.n2
  have h1 := h.setg (s.g + 1)
  have h2 := h1.seto (s.g + 1) m (by omega)
  have f1 : Fr (· = b) w (w.setCell ⟨b, 2, none⟩ (.int .i64 ((s.g + 1 : Nat) : Int))) := (Fr.refl _ w).set _ _ rfl
  have f2 := f1.set ⟨b, 3 + (s.g + 1), none⟩ (.int .i64 (m : Int)) rfl
  have c2 := h.c2
  have z2 := h.fz 2
  have e2 := h1.c2
  have e3 := h1.own (i := s.g + 1) (by omega)
  have y2 := h1.fz (3 + (s.g + 1))
  have l1 : s.g + 1 ≤ 255 := by omega
  have H2 : Hid (VI ((w.setCell ⟨b, 2, none⟩ (.int .i64 ((s.g + 1 : Nat) : Int))).setCell ⟨b, 3 + (s.g + 1), none⟩ (.int .i64 (m : Int))) b n (givS s (m : Int)) ∧ Fr (· = b) w ((w.setCell ⟨b, 2, none⟩ (.int .i64 ((s.g + 1 : Nat) : Int))).setCell ⟨b, 3 + (s.g + 1), none⟩ (.int .i64 (m : Int)))) := ⟨h2, f2⟩
  have eg : (s.g : Int) + 1 = ((s.g + 1 : Nat) : Int) := by omega
  generalize givS s (m : Int) = S at *
  generalize s.g + 1 = G at *
  generalize s.g = g at *
  generalize hW1 : w.setCell ⟨b, 2, none⟩ (.int .i64 (G : Int)) = W1 at *
  dsimp only at e2 e3
  generalize s.f G = o at *
  clear h h1 h2 f1 f2 ok hx hg x1 x2 g1 n2
  have y5 : (G : Int) ≤ 255 := by omega
  go_enter Try.func18, Try.ntmps18
  go_wp2_with fail
  clear hW1 c2 z2 eg
  go_region
  go_wp2
  go_end0
  exact ⟨rfl, H2.out.1.kp (Kp.refl _).drew, H2.out.2.drew⟩
end

end Go.Proofs.Ytclheedcdogkbaa
