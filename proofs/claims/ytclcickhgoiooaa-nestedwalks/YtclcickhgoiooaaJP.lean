/- Joined: P2, P3, P4, P5, P6. -/
import Derived.Test.YtclcickhgoiooaaP1
import Derived.Laws.MakeOwn
/- A machine's memory, as it lies: phys.Mem. -/
namespace Go.Proofs.Ytclcickhgoiooaa
open Go.RowKit Go.Maps
set_option maxRecDepth 10000

/-- Block b is a page with the bytes f. -/
def PG (w : World) (b : Nat) (f : Nat → Nat) : Prop := w.heap[b]? = some (.cells (bytesOf f 4096).toArray 124 (0, 0))
theorem PG.lt {w : World} {b : Nat} {f : Nat → Nat} (h : PG w b f) : b < w.heap.size := (Array.getElem?_eq_some_iff.1 h).1
theorem PG.bs {w : World} {b : Nat} {f : Nat → Nat} (h : PG w b f) (hb : Bytes f) : BS w b 0 4096 f :=
  ⟨h.lt, fun i hi => by rw [Nat.zero_add, cell_of_row w b i _ _ _ h]; simpa using bytesOf_get f 4096 i hi, fun i _ => frozen_of_row w b _ _ _ h, hb⟩
theorem PG.fr {w w' : World} {b : Nat} {f : Nat → Nat} (h : PG w b f) {S : Nat → Prop} (k : Fr S w w') (hS : ¬ S b) : PG w' b f := (k.block b h.lt hS).trans h
theorem PG.made (w : World) : PG (w.alloc (.cells (bytesOf z0 4096).toArray 124)) w.heap.size z0 := heap_alloc_new w _

/-- The memory whose struct is block p: N frames, so many ops, the frames' bytes F; all that is its own lies in S. -/
structure PMat (w : World) (S : Nat → Prop) (p bm : Nat) (g : Int → Option Nat) (N ops : Nat) (F : Nat → Nat → Nat) : Prop where
  own : ∀ k, S k → k < w.heap.size
  sp : S p
  sm : S bm
  ne : bm ≠ p
  row : w.heap[p]? = some (.cells #[.int .i64 (N : Nat), .int .i64 (ops : Nat), .map (some bm)] 117 (0, 0))
  map : MP w bm N g
  page : ∀ x b, g x = some b → S b ∧ b ≠ p ∧ b ≠ bm ∧ PG w b (F x.toNat)
  inj : ∀ x y b, g x = some b → g y = some b → x = y
  none : ∀ x : Nat, g x = none → ∀ i, i < 4096 → F x i = 0
  some : ∀ x b, g x = some b → ∃ i, i < 4096 ∧ F x.toNat i ≠ 0
  n1 : 1 ≤ N
  n2 : N ≤ 1048576
  byte : ∀ x, Bytes (F x)
def PM (w : World) (S : Nat → Prop) (p N ops : Nat) (F : Nat → Nat → Nat) : Prop := ∃ bm g, PMat w S p bm g N ops F

theorem PMat.fr {w w' : World} {S T : Nat → Prop} {p bm : Nat} {g : Int → Option Nat} {N ops : Nat} {F : Nat → Nat → Nat} (h : PMat w S p bm g N ops F) (k : Fr T w w') (hT : ∀ i, S i → ¬ T i) : PMat w' S p bm g N ops F :=
  ⟨fun i hi => Nat.lt_of_lt_of_le (h.own i hi) k.size, h.sp, h.sm, h.ne, (k.block p (h.own p h.sp) (hT p h.sp)).trans h.row, h.map.fr k (hT bm h.sm),
   fun x b hx => by obtain ⟨h1, h2, h3, h4⟩ := h.page x b hx; exact ⟨h1, h2, h3, h4.fr k (hT b h1)⟩, h.inj, h.none, h.some, h.n1, h.n2, h.byte⟩
theorem PM.fr {w w' : World} {S T : Nat → Prop} {p : Nat} {N ops : Nat} {F : Nat → Nat → Nat} (h : PM w S p N ops F) (k : Fr T w w') (hT : ∀ i, S i → ¬ T i) : PM w' S p N ops F := by
  obtain ⟨bm, g, h⟩ := h
  exact ⟨bm, g, h.fr k hT⟩
theorem PM.kp {w w' : World} {S : Nat → Prop} {p : Nat} {N ops : Nat} {F : Nat → Nat → Nat} (h : PM w S p N ops F) (k : Kp w w') : PM w' S p N ops F := h.fr (k.fr (fun _ => False)) (fun _ _ => id)
theorem PM.own {w : World} {S : Nat → Prop} {p : Nat} {N ops : Nat} {F : Nat → Nat → Nat} (h : PM w S p N ops F) : ∀ i, S i → i < w.heap.size := by
  obtain ⟨bm, g, h⟩ := h
  exact h.own

section
variable {w : World} {S : Nat → Prop} {p bm : Nat} {g : Int → Option Nat} {N ops : Nat} {F : Nat → Nat → Nat}
theorem PMat.c0 (h : PMat w S p bm g N ops F) : w.cell? ⟨p, 0, .none⟩ = .some (.int .i64 (N : Nat)) := by rw [cell_of_row w p 0 _ _ _ h.row]; rfl
theorem PMat.c1 (h : PMat w S p bm g N ops F) : w.cell? ⟨p, 1, .none⟩ = .some (.int .i64 (ops : Nat)) := by rw [cell_of_row w p 1 _ _ _ h.row]; rfl
theorem PMat.c2 (h : PMat w S p bm g N ops F) : w.cell? ⟨p, 2, .none⟩ = .some (.map (.some bm)) := by rw [cell_of_row w p 2 _ _ _ h.row]; rfl
theorem PMat.f1 (h : PMat w S p bm g N ops F) : w.frozen? ⟨p, 1, .none⟩ = false := frozen_of_row w p 1 _ _ h.row
end

/-! ### New -/
set_option maxHeartbeats 1000000 in
theorem new_ok (n : Nat) (w : World) (h1 : 1 ≤ n) (h2 : n ≤ 1048576) :
    Calls Try.prog 21 #[.int .i64 (n : Int)] w fun e w' => ∃ p S, e = .returned (.tuple #[.pointer (some ⟨p, 0, none⟩), .int .i64 0]) ∧ PM w' S p n 0 (fun _ => z0) ∧ Kp w w' ∧ ∀ k, S k → w.heap.size ≤ k := by
  have z1 : (1 : Int) ≤ n := by omega
  have z2 : (n : Int) ≤ 1048576 := by omega
  have hmm := @run_makeMap Try.prog
  go_enter Try.func21, Try.ntmps21
  go_wp2
  go_ret2
  have k1 : Kp w (w.alloc (.map #[] 0)) := (Kp.refl w).alloc _
  have e1 : (w.alloc (.map #[] 0)).heap.size = w.heap.size + 1 := by simp
  have k2 : Kp (w.alloc (.map #[] 0)) ((w.alloc (.map #[] 0)).alloc (.cells #[.int .i64 (n : Int), .int .i64 0, .map (some w.heap.size)] 117)) := (Kp.refl _).alloc _
  have e2 := heap_alloc_new (w.alloc (.map #[] 0)) (.cells #[.int .i64 (n : Int), .int .i64 0, .map (some w.heap.size)] 117)
  rw [e1] at e2
  refine ⟨w.heap.size + 1, fun k => w.heap.size ≤ k ∧ k < w.heap.size + 2, rfl, ⟨w.heap.size, fun _ => none, ⟨fun k hk => ?_, ⟨by omega, by omega⟩, ⟨by omega, by omega⟩, by omega, e2, (MP.made w n).fr (k2.fr (fun _ => False)) id, fun _ _ h => (by cases h), fun _ _ _ h => (by cases h), fun _ _ _ _ => rfl, fun _ _ h => (by cases h), h1, h2, fun _ => z0_byte⟩⟩, k1.trans k2, fun k hk => hk.1⟩
  have : ((w.alloc (.map #[] 0)).alloc (.cells #[.int .i64 (n : Int), .int .i64 0, .map (some w.heap.size)] 117)).heap.size = w.heap.size + 2 := by simp
  omega

theorem new_no (n : Int) (w : World) (h : n < 1 ∨ 1048576 < n) :
    Calls Try.prog 21 #[.int .i64 n] w fun e w' => e = .returned (.tuple #[.pointer none, .int .i64 1]) ∧ w' = w := by
  rcases h with h | h
  · go_enter Try.func21, Try.ntmps21
    go_wp2
    go_ret2
    exact ⟨rfl, rfl⟩
  · have h' : ¬ n < 1 := by omega
    go_enter Try.func21, Try.ntmps21
    go_wp2
    go_ret2
    exact ⟨rfl, rfl⟩

/-! ### check, place -/
def chkP (N addr : Nat) (size : Int) : Int := if size ≠ 1 ∧ size ≠ 2 ∧ size ≠ 4 ∧ size ≠ 8 then 1 else if addr % size.toNat ≠ 0 then 3 else if N ≤ addr / 4096 then 2 else 0

set_option maxHeartbeats 1000000 in
set_option maxRecDepth 10000 in
theorem pcheck_1 (p N addr : Nat) (w : World) (c0 : w.cell? ⟨p, 0, none⟩ = some (.int .i64 (N : Nat))) (hN : N ≤ 1048576) (ha : addr < 18446744073709551616) :
    Calls Try.prog 53 #[.pointer (some ⟨p, 0, none⟩), .int .u64 (addr : Int), .int .i64 1] w fun e w' => e = .returned (.int .i64 (chkP N addr 1)) ∧ w' = w := by
  have z1 : (N : Int) ≤ 1048576 := by omega
  have z2 : (addr : Int) / 4096 < 4503599627370496 := by omega
  clear ha
  have e0 : chkP N addr 1 = if addr % 1 ≠ 0 then 3 else if N ≤ addr / 4096 then 2 else 0 := by unfold chkP; rw [if_neg (by omega)]; rfl
  by_cases c1 : addr % 1 = 0
  · have y1 : (addr : Int) % 1 = 0 := by omega
    by_cases c2 : N ≤ addr / 4096
    · have y2 : (N : Int) ≤ (addr : Int) / 4096 := by omega
      have hr : chkP N addr 1 = 2 := by rw [e0, if_neg (by omega), if_pos c2]
      clear e0 c1 c2
      go_enter Try.func53, Try.ntmps53
      go_wp2
      go_ret
      exact ⟨by first | (rw [hr]; rfl) | rfl, rfl⟩
    · have y2 : ¬ (N : Int) ≤ (addr : Int) / 4096 := by omega
      have hr : chkP N addr 1 = 0 := by rw [e0, if_neg (by omega), if_neg c2]
      clear e0 c1 c2
      go_enter Try.func53, Try.ntmps53
      go_wp2
      go_ret
      exact ⟨by first | (rw [hr]; rfl) | rfl, rfl⟩
  · exact absurd (Nat.mod_one addr) c1

set_option maxHeartbeats 1000000 in
set_option maxRecDepth 10000 in
theorem pcheck_2 (p N addr : Nat) (w : World) (c0 : w.cell? ⟨p, 0, none⟩ = some (.int .i64 (N : Nat))) (hN : N ≤ 1048576) (ha : addr < 18446744073709551616) :
    Calls Try.prog 53 #[.pointer (some ⟨p, 0, none⟩), .int .u64 (addr : Int), .int .i64 2] w fun e w' => e = .returned (.int .i64 (chkP N addr 2)) ∧ w' = w := by
  have z1 : (N : Int) ≤ 1048576 := by omega
  have z2 : (addr : Int) / 4096 < 4503599627370496 := by omega
  clear ha
  have e0 : chkP N addr 2 = if addr % 2 ≠ 0 then 3 else if N ≤ addr / 4096 then 2 else 0 := by unfold chkP; rw [if_neg (by omega)]; rfl
  by_cases c1 : addr % 2 = 0
  · have y1 : (addr : Int) % 2 = 0 := by omega
    by_cases c2 : N ≤ addr / 4096
    · have y2 : (N : Int) ≤ (addr : Int) / 4096 := by omega
      have hr : chkP N addr 2 = 2 := by rw [e0, if_neg (by omega), if_pos c2]
      clear e0 c1 c2
      go_enter Try.func53, Try.ntmps53
      go_wp2
      go_ret
      exact ⟨by first | (rw [hr]; rfl) | rfl, rfl⟩
    · have y2 : ¬ (N : Int) ≤ (addr : Int) / 4096 := by omega
      have hr : chkP N addr 2 = 0 := by rw [e0, if_neg (by omega), if_neg c2]
      clear e0 c1 c2
      go_enter Try.func53, Try.ntmps53
      go_wp2
      go_ret
      exact ⟨by first | (rw [hr]; rfl) | rfl, rfl⟩
  · have y1 : ¬ (addr : Int) % 2 = 0 := by omega
    have hr : chkP N addr 2 = 3 := by rw [e0, if_pos (by omega)]
    clear e0 c1 z2
    go_enter Try.func53, Try.ntmps53
    go_wp2
    go_ret
    exact ⟨by first | (rw [hr]; rfl) | rfl, rfl⟩

set_option maxHeartbeats 1000000 in
set_option maxRecDepth 10000 in
theorem pcheck_4 (p N addr : Nat) (w : World) (c0 : w.cell? ⟨p, 0, none⟩ = some (.int .i64 (N : Nat))) (hN : N ≤ 1048576) (ha : addr < 18446744073709551616) :
    Calls Try.prog 53 #[.pointer (some ⟨p, 0, none⟩), .int .u64 (addr : Int), .int .i64 4] w fun e w' => e = .returned (.int .i64 (chkP N addr 4)) ∧ w' = w := by
  have z1 : (N : Int) ≤ 1048576 := by omega
  have z2 : (addr : Int) / 4096 < 4503599627370496 := by omega
  clear ha
  have e0 : chkP N addr 4 = if addr % 4 ≠ 0 then 3 else if N ≤ addr / 4096 then 2 else 0 := by unfold chkP; rw [if_neg (by omega)]; rfl
  by_cases c1 : addr % 4 = 0
  · have y1 : (addr : Int) % 4 = 0 := by omega
    by_cases c2 : N ≤ addr / 4096
    · have y2 : (N : Int) ≤ (addr : Int) / 4096 := by omega
      have hr : chkP N addr 4 = 2 := by rw [e0, if_neg (by omega), if_pos c2]
      clear e0 c1 c2
      go_enter Try.func53, Try.ntmps53
      go_wp2
      go_ret
      exact ⟨by first | (rw [hr]; rfl) | rfl, rfl⟩
    · have y2 : ¬ (N : Int) ≤ (addr : Int) / 4096 := by omega
      have hr : chkP N addr 4 = 0 := by rw [e0, if_neg (by omega), if_neg c2]
      clear e0 c1 c2
      go_enter Try.func53, Try.ntmps53
      go_wp2
      go_ret
      exact ⟨by first | (rw [hr]; rfl) | rfl, rfl⟩
  · have y1 : ¬ (addr : Int) % 4 = 0 := by omega
    have hr : chkP N addr 4 = 3 := by rw [e0, if_pos (by omega)]
    clear e0 c1 z2
    go_enter Try.func53, Try.ntmps53
    go_wp2
    go_ret
    exact ⟨by first | (rw [hr]; rfl) | rfl, rfl⟩

set_option maxHeartbeats 1000000 in
set_option maxRecDepth 10000 in
theorem pcheck_8 (p N addr : Nat) (w : World) (c0 : w.cell? ⟨p, 0, none⟩ = some (.int .i64 (N : Nat))) (hN : N ≤ 1048576) (ha : addr < 18446744073709551616) :
    Calls Try.prog 53 #[.pointer (some ⟨p, 0, none⟩), .int .u64 (addr : Int), .int .i64 8] w fun e w' => e = .returned (.int .i64 (chkP N addr 8)) ∧ w' = w := by
  have z1 : (N : Int) ≤ 1048576 := by omega
  have z2 : (addr : Int) / 4096 < 4503599627370496 := by omega
  clear ha
  have e0 : chkP N addr 8 = if addr % 8 ≠ 0 then 3 else if N ≤ addr / 4096 then 2 else 0 := by unfold chkP; rw [if_neg (by omega)]; rfl
  by_cases c1 : addr % 8 = 0
  · have y1 : (addr : Int) % 8 = 0 := by omega
    by_cases c2 : N ≤ addr / 4096
    · have y2 : (N : Int) ≤ (addr : Int) / 4096 := by omega
      have hr : chkP N addr 8 = 2 := by rw [e0, if_neg (by omega), if_pos c2]
      clear e0 c1 c2
      go_enter Try.func53, Try.ntmps53
      go_wp2
      go_ret
      exact ⟨by first | (rw [hr]; rfl) | rfl, rfl⟩
    · have y2 : ¬ (N : Int) ≤ (addr : Int) / 4096 := by omega
      have hr : chkP N addr 8 = 0 := by rw [e0, if_neg (by omega), if_neg c2]
      clear e0 c1 c2
      go_enter Try.func53, Try.ntmps53
      go_wp2
      go_ret
      exact ⟨by first | (rw [hr]; rfl) | rfl, rfl⟩
  · have y1 : ¬ (addr : Int) % 8 = 0 := by omega
    have hr : chkP N addr 8 = 3 := by rw [e0, if_pos (by omega)]
    clear e0 c1 z2
    go_enter Try.func53, Try.ntmps53
    go_wp2
    go_ret
    exact ⟨by first | (rw [hr]; rfl) | rfl, rfl⟩

set_option maxHeartbeats 1000000 in
set_option maxRecDepth 10000 in
theorem pcheck_any (p N addr : Nat) (size : Int) (w : World) (c0 : w.cell? ⟨p, 0, none⟩ = some (.int .i64 (N : Nat))) (hN : N ≤ 1048576) (ha : addr < 18446744073709551616) :
    Calls Try.prog 53 #[.pointer (some ⟨p, 0, none⟩), .int .u64 (addr : Int), .int .i64 size] w fun e w' => e = .returned (.int .i64 (chkP N addr size)) ∧ w' = w := by
  by_cases c1 : size = 1
  · subst c1; exact pcheck_1 p N addr w c0 hN ha
  by_cases c2 : size = 2
  · subst c2; exact pcheck_2 p N addr w c0 hN ha
  by_cases c4 : size = 4
  · subst c4; exact pcheck_4 p N addr w c0 hN ha
  by_cases c8 : size = 8
  · subst c8; exact pcheck_8 p N addr w c0 hN ha
  rw [show chkP N addr size = 1 from if_pos ⟨c1, c2, c4, c8⟩]
  go_enter Try.func53, Try.ntmps53
  go_wp2
  go_ret
  exact ⟨rfl, rfl⟩

theorem place_any (addr : Nat) (w : World) (ha : addr < 18446744073709551616) :
    Calls Try.prog 54 #[.int .u64 (addr : Int)] w fun e w' => e = .returned (.tuple #[.int .i64 ((addr / 4096 : Nat) : Int), .int .i64 ((addr % 4096 : Nat) : Int)]) ∧ w' = w := by
  have z2 : (addr : Int) < 18446744073709551616 := by omega
  go_enter Try.func54, Try.ntmps54
  go_wp2
  go_ret2
  exact ⟨by simp, rfl⟩

end Go.Proofs.Ytclcickhgoiooaa

/- phys.Mem: what only reads: Ops, Frames, has, Clear, Read. -/
namespace Go.Proofs.Ytclcickhgoiooaa
open Go.RowKit Go.Maps
theorem pframes_any {w : World} {S : Nat → Prop} {p N ops : Nat} {F : Nat → Nat → Nat} (h : PM w S p N ops F) :
    Calls Try.prog 39 #[.pointer (some ⟨p, 0, none⟩)] w fun e w' => e = .returned (.int .i64 (N : Nat)) ∧ w' = w := by
  obtain ⟨bm, g, h⟩ := h
  have c0 := h.c0
  clear h
  go_enter Try.func39, Try.ntmps39
  go_wp2
  go_ret
  exact ⟨rfl, rfl⟩

/-- There is such a frame. -/
def hasF (N : Nat) (x : Int) : Bool := decide (0 ≤ x ∧ x < (N : Int))
theorem phas_cell (p N : Nat) (x : Int) (w : World) (c0 : w.cell? ⟨p, 0, none⟩ = some (.int .i64 (N : Nat))) :
    Calls Try.prog 68 #[.pointer (some ⟨p, 0, none⟩), .int .i64 x] w fun e w' => e = .returned (.bool (hasF N x)) ∧ w' = w := by
  unfold hasF
  by_cases e1 : 0 ≤ x
  · by_cases e2 : x < (N : Int)
    · rw [decide_eq_true ⟨e1, e2⟩]
      go_enter Try.func68, Try.ntmps68
      go_wp2
      go_ret
      exact ⟨rfl, rfl⟩
    · rw [decide_eq_false (by omega)]
      go_enter Try.func68, Try.ntmps68
      go_wp2
      go_ret
      exact ⟨rfl, rfl⟩
  · rw [decide_eq_false (by omega)]
    go_enter Try.func68, Try.ntmps68
    go_wp2
    go_ret
    exact ⟨rfl, rfl⟩
theorem hasF_iff (N : Nat) (x : Int) : hasF N x = true ↔ 0 ≤ x ∧ x < (N : Int) := by unfold hasF; simp

/-- All the frame's bytes are 0. -/
def clearF (N : Nat) (F : Nat → Nat → Nat) (x : Int) : Bool := hasF N x && alike (F x.toNat) z0 4096
theorem clearF_of {w : World} {S : Nat → Prop} {p bm : Nat} {g : Int → Option Nat} {N ops : Nat} {F : Nat → Nat → Nat} (h : PMat w S p bm g N ops F) (x : Int) : clearF N F x = (hasF N x && !(g x).isSome) := by
  unfold clearF
  cases e : hasF N x
  · rfl
  · have := (hasF_iff N x).1 e
    have ex : ((x.toNat : Nat) : Int) = x := by omega
    cases eg : g x with
    | none =>
      rw [alike_of (g := z0) (fun i hi => h.none x.toNat (by rw [ex]; exact eg) i hi)]; rfl
    | some b =>
      obtain ⟨i, hi, hn⟩ := h.some x b eg
      rw [alike_not hi (g := z0) hn]; rfl

/-! ### Read -/
theorem numb_like (f g : Nat → Nat) (p q : Nat) : ∀ k, (∀ i, i < k → f (p + i) = g (q + i)) → numb f p k = numb g q k
  | 0, _ => rfl
  | k + 1, h => by unfold numb; rw [numb_like f g p q k (fun i hi => h i (by omega)), h k (by omega)]
theorem numb_zero (p : Nat) : ∀ k, numb z0 p k = 0
  | 0 => rfl
  | k + 1 => by unfold numb; rw [numb_zero p k]; simp [z0]

def Size (s : Nat) : Prop := s = 1 ∨ s = 2 ∨ s = 4 ∨ s = 8
theorem chkP_zero {N addr : Nat} {s : Nat} (h : chkP N addr s = 0) : Size s ∧ addr % s = 0 ∧ addr / 4096 < N := by
  unfold chkP at h
  by_cases c1 : (s : Int) ≠ 1 ∧ (s : Int) ≠ 2 ∧ (s : Int) ≠ 4 ∧ (s : Int) ≠ 8
  · rw [if_pos c1] at h; omega
  · rw [if_neg c1] at h
    by_cases c2 : addr % (s : Int).toNat ≠ 0
    · rw [if_pos c2] at h; omega
    · rw [if_neg c2] at h
      by_cases c3 : N ≤ addr / 4096
      · rw [if_pos c3] at h; omega
      · have e : (s : Int).toNat = s := by omega
        rw [e] at c2
        refine ⟨?_, by omega, by omega⟩
        unfold Size
        omega
theorem place_fit {addr s : Nat} (hs : Size s) (h : addr % s = 0) : addr % 4096 % s = 0 ∧ addr % 4096 + s ≤ 4096 := by
  rcases hs with rfl | rfl | rfl | rfl <;> omega
theorem chk_page {q s : Nat} (hs : Size s) (h1 : q % s = 0) (h2 : q + s ≤ 4096) : chk ((4096 : Nat) : Int) q s = 0 := by
  rcases hs with rfl | rfl | rfl | rfl <;> (rw [chk_of (by omega), if_neg (by simp only [ne_eq, Decidable.not_not]; rw [Int.tmod_eq_emod_of_nonneg (by omega)]; omega), if_neg (by omega)])

theorem PMat.tick {w : World} {S : Nat → Prop} {p bm : Nat} {g : Int → Option Nat} {N ops : Nat} {F : Nat → Nat → Nat} (h : PMat w S p bm g N ops F) : PMat (w.setCell ⟨p, 1, .none⟩ (.int .i64 ((ops : Int) + 1))) S p bm g N (ops + 1) F ∧ Fr S w (w.setCell ⟨p, 1, .none⟩ (.int .i64 ((ops : Int) + 1))) := by
  have k : Fr (· = p) w (w.setCell ⟨p, 1, .none⟩ (.int .i64 ((ops : Int) + 1))) := (Fr.refl _ w).set _ _ rfl
  refine ⟨⟨fun i hi => by rw [World.size_setCell]; exact h.own i hi, h.sp, h.sm, h.ne, ?_, h.map.fr k h.ne, fun x b hx => ?_, h.inj, h.none, h.some, h.n1, h.n2, h.byte⟩, k.mono (fun i _ hi => by rw [hi]; exact h.sp)⟩
  · rw [heap_setCell_same w p 1 _ _ _ h.row]
    simp
  · obtain ⟨h1, h2, h3, h4⟩ := h.page x b hx
    exact ⟨h1, h2, h3, h4.fr k h2⟩

set_option maxHeartbeats 1000000 in
theorem pread_no {w : World} {S : Nat → Prop} {p N ops : Nat} {F : Nat → Nat → Nat} (h : PM w S p N ops F) (addr : Nat) (s r : Int) (ha : addr < 18446744073709551616) (hc : chkP N addr s = r) (hr : r ≠ 0) :
    Calls Try.prog 76 #[.pointer (some ⟨p, 0, none⟩), .int .u64 (addr : Int), .int .i64 s] w fun e w' => e = .returned (.tuple #[.int .u64 0, .int .i64 r]) ∧ w' = w := by
  obtain ⟨bm, g, h⟩ := h
  have k1 := pcheck_any p N addr s w h.c0 h.n2 ha
  rw [hc] at k1
  have z : (r != 0) = true := by simp [hr]
  clear h hc ha
  go_enter Try.func76, Try.ntmps76
  go_wp2_with (go_at_call 53; with_reducible refine k1.mono ?_; rintro e w' ⟨rfl, rfl⟩)
  go_ret2
  exact ⟨rfl, rfl⟩

set_option maxHeartbeats 1000000 in
theorem pread_ok {w : World} {S : Nat → Prop} {p N ops : Nat} {F : Nat → Nat → Nat} (h : PM w S p N ops F) (addr s : Nat) (ha : addr < 18446744073709551616) (hc : chkP N addr s = 0) (ho : ops < 4611686018427387904) :
    Calls Try.prog 76 #[.pointer (some ⟨p, 0, none⟩), .int .u64 (addr : Int), .int .i64 (s : Int)] w fun e w' => e = .returned (.tuple #[.int .u64 (numb (F (addr / 4096)) (addr % 4096) s : Nat), .int .i64 0]) ∧ PM w' S p N (ops + 1) F ∧ Fr S w w' := by
  obtain ⟨bm, g, h⟩ := h
  have k1 := pcheck_any p N addr s w h.c0 h.n2 ha
  rw [hc] at k1
  have k2 := fun w => place_any addr w ha
  obtain ⟨hs, hm, hN⟩ := chkP_zero hc
  obtain ⟨q1, q2⟩ := place_fit hs hm
  have hn2 := h.n2
  have hk := chk_page hs q1 q2
  have c1 := h.c1
  have f1 := h.f1
  obtain ⟨h2, fr2⟩ := h.tick
  have c2 := h2.c2
  have hl := h2.map.look ((addr / 4096 : Nat) : Int) (WalkArith.wf_i64 (by omega))
  have z1 : (ops : Int) < 4611686018427387904 := by omega
  have H2 : Aside (PMat (w.setCell ⟨p, 1, none⟩ (.int .i64 ((ops : Int) + 1))) S p bm g N (ops + 1) F) := h2
  have FR : Aside (Fr S w (w.setCell ⟨p, 1, none⟩ (.int .i64 ((ops : Int) + 1)))) := fr2
  have hs8 : s ≤ 8 ∧ 1 ≤ s := by unfold Size at hs; omega
  clear h h2 fr2 hc ha hm hs
  cases eg : g ((addr / 4096 : Nat) : Int) with
  | none =>
    have hv : numb (F (addr / 4096)) (addr % 4096) s = 0 := by
      rw [numb_like (F (addr / 4096)) z0 (addr % 4096) (addr % 4096) s (fun i hi => H2.out.none (addr / 4096) eg _ (by omega)), numb_zero]
    rw [hv]
    simp only [at_, eg, Option.map_none, Option.isSome_none] at hl
    clear eg hv q1 q2 hk hN
    generalize addr / 4096 = fr at *
    generalize addr % 4096 = at0 at *
    go_enter Try.func76, Try.ntmps76
    go_wp2_with (first | (go_at_call 53; with_reducible refine k1.mono ?_; rintro e w' ⟨rfl, rfl⟩) | (go_at_call 54; with_reducible refine (k2 _).mono ?_; rintro e w' ⟨rfl, rfl⟩))
    go_ret2
    exact ⟨rfl, ⟨bm, g, H2.out⟩, FR.out⟩
  | some b =>
    have pg := (H2.out.page _ b eg).2.2.2
    have kg := fun w2 (e : w2 = (w.setCell ⟨p, 1, none⟩ (.int .i64 ((ops : Int) + 1)))) => get_some b 4096 4096 (addr % 4096) s (F (addr / 4096)) w2 (by rw [e]; exact pg.bs (H2.out.byte _)) (by omega) (by omega) hs8.1 hs8.2 q2 hk
    simp only [at_, eg, Option.map_some, Option.isSome_some] at hl
    clear eg q1 q2 hk hN pg
    generalize numb (F (addr / 4096)) (addr % 4096) s = v at *
    generalize addr / 4096 = fr at *
    generalize addr % 4096 = at0 at *
    go_enter Try.func76, Try.ntmps76
    go_wp2_with (first | (go_at_call 53; with_reducible refine k1.mono ?_; rintro e w' ⟨rfl, rfl⟩) | (go_at_call 54; with_reducible refine (k2 _).mono ?_; rintro e w' ⟨rfl, rfl⟩) | (go_at_call 86; with_reducible refine (kg _ rfl).mono ?_; rintro e w' ⟨rfl, rfl⟩))
    go_ret2
    exact ⟨rfl, ⟨bm, g, H2.out⟩, FR.out⟩

end Go.Proofs.Ytclcickhgoiooaa

/- phys.Mem: keep; Put of a piece of a page. -/
namespace Go.Proofs.Ytclcickhgoiooaa
open Go.RowKit Go.Maps
set_option maxRecDepth 10000

set_option maxHeartbeats 2000000 in
theorem clone_at (b o n cap : Nat) (f : Nat → Nat) (w : World) (H : BS w b o n f) (hn : n ≤ 1000000) :
    Calls Try.prog 71 #[.slice (some ⟨b, o, none⟩) n cap] w fun e w' => ∃ g cap', e = .returned (.slice (some ⟨g, 0, none⟩) n cap') ∧ OP w' w.heap.size g n cap' f ∧ Kp w w' := by
  obtain ⟨g, cap', W', h1, h2, h3⟩ := copy_any w b o n cap f H.lt H.cells H.byte hn
  have H2 : Hid _ := h2
  have H3 : Hid _ := h3
  clear H h2 h3
  have hq : (Try.prog.underlying 100) = some (.slice 5) := Try.underlying100
  have h0 : ∀ w, (binOp .eql 100 (.slice (some ⟨b, o, none⟩) n cap) (.slice none 0 0)).run Try.prog w = .ok (.bool false) w := fun w => by
    simp [binOp, run_equal_slice_nil w 100 5 _ n cap hq]
  go_enter Try.func71, Try.ntmps71
  repeat' (first | ((with_reducible refine wp_append_of h1 (.tmp 5) (.tmp 6) ?_ ?_ ?_ ?_ ?_); rfl; rfl; rfl; rfl) | go_values | go_skip | go_guarded | go_step | go_upon | go_back | (simp only []) | (go_values <;> (try go_simp)) | (go_ite <;> go_prune <;> (try go_simp)))
  go_ret
  exact ⟨g, cap', rfl, H2.out, H3.out⟩

set_option maxHeartbeats 2000000 in
set_option maxRecDepth 10000 in
theorem put_at (b o n cap p s v : Nat) (f : Nat → Nat) (w : World) (H : BS w b o n f) (hn : n ≤ 1000000) (hs : s ≤ 8) (hp : p + s ≤ n) (hv : v < 18446744073709551616) (hc : chk n p s = 0) :
    Calls Try.prog 55 #[.slice (some ⟨b, o, none⟩) n cap, .int .i64 (p : Int), .int .i64 (s : Int), .int .u64 (v : Int)] w fun e w' => ∃ g cap', e = .returned (.tuple #[.slice (some ⟨g, 0, none⟩) n cap', .int .i64 0]) ∧ OP w' w.heap.size g n cap' (putF f p s v) ∧ Kp w w' := by
  have c1 := fun w => check_any n p s w (by omega) (by omega) (by omega) (by omega)
  rw [hc] at c1
  have c2 := clone_at b o n cap f w H hn
  have z1 : (p : Int) + s ≤ n := by omega
  have z3 : (n : Int) ≤ 1000000 := by omega
  have z4 : (s : Int) ≤ 8 := by omega
  have z5 : (v : Int) < 18446744073709551616 := by omega
  clear H hc hv
  go_enter Try.func55, Try.ntmps55
  go_wp2_with (go_at_call 70; with_reducible refine (c1 _).mono ?_; rintro e w' ⟨rfl, rfl⟩)
  with_reducible refine c2.mono ?_
  rintro e w1 ⟨g, cap', rfl, O1, K1⟩
  have HO : Hid _ := O1
  have HK : Hid _ := K1
  clear O1 K1 c2
  go_wp2_with fail
  go_loopg [24] s (fun gg v24 wr => ∃ k : Nat, v24 = .int .i64 k ∧ k ≤ s ∧ s - k ≤ gg ∧ Aside (OP wr w'.heap.size g n cap' (putF f p k v)) ∧ Aside (Kp w' wr))
  case atStart => exact ⟨0, rfl, by omega, by omega, by rw [putF_zero]; exact HO.out, HK.out⟩
  case round =>
    clear HO HK
    obtain ⟨k, rfl, hk, hg, HO, HK⟩ := hrel
    by_cases hlt : k < s
    · have y1 : (k : Int) < s := by omega
      have c2 := HO.out.bs.cell (p + k) (by omega)
      have c3 := HO.out.bs.frz (p + k) (by omega)
      rw [Nat.zero_add] at c2 c3
      have q := shr_byte v k
      have O2 := HO.out.set (p + k) (v / 2 ^ (8 * k) % 256) (by omega)
      rw [putF_succ] at O2
      have K2 := HK.out.set ⟨g, p + k, none⟩ (.int .u8 ((v / 2 ^ (8 * k) % 256 : Nat) : Int)) HO.out.facts.1
      generalize v / 2 ^ (8 * k) % 256 = d at *
      have A2 : Aside _ := O2
      have B2 : Aside _ := K2
      clear O2 K2
      go_wp2
      go_roundg (s - (k + 1))
      case measure => omega
      case rel => exact ⟨k + 1, by go_num, by omega, by omega, A2, B2⟩
    · have e : k = s := by omega
      subst e
      go_wp2
      go_ret2
      exact ⟨g, cap', rfl, HO.out, HK.out⟩

theorem load_page {w : World} {b : Nat} {f : Nat → Nat} (h : PG w b f) : (Instr.loadAt 124 (.pointer (some ⟨b, 0, none⟩))).run Try.prog w = .ok (.agg (bytesOf f 4096).toArray) w := by
  have := run_loadVar_row (P := Try.prog) w b 124 124 _ _ _ h Try.underlying124 rfl (by rw [List.size_toArray, bytesOf_len]; kernel_rfl)
  simp only [Instr.loadAt, Instr.sureAddr, Sem.run_bind, Sem.run_pure, Result.andThen_ok, this]
theorem build_page (w : World) : (Instr.build 124 #[]).run Try.prog w = .ok (.agg (bytesOf z0 4096).toArray) w := by kernel_rfl
theorem alloc_page (w : World) (v : Value) : (Instr.alloc 124 true v).run Try.prog w = .ok (.pointer (some ⟨w.heap.size, 0, none⟩)) (w.alloc (.cells (bytesOf z0 4096).toArray 124)) := by
  unfold Instr.alloc
  rw [Sem.run_bind, zero_page]
  rfl

theorem eqGuard_page (x y : Operand) (A B : Array Value) (w : World) : (eqGuard .eql 124 x y (.agg A) (.agg B)).run Try.prog w = .ok () w := run_eqGuard_agg w .eql 124 x y A B (by kernel_rfl)

section
variable {P : Program} {w : World} {ops : Array Oper} {rest : List Oper} {o : Oper} {a : Act} {Q : Exit → Act → World → Prop}
theorem wpList_build_of {v : Value} (t : TypeId) (hr : (Instr.build t #[]).run P w = .ok v w) (hg : o.guard = none) (ho : o.op = .build t #[]) (h : wpList P ops Q rest (a.put o.dst v) w) : wpList P ops Q (o :: rest) a w := by
  refine wpList_plain hg fun K hK => ?_
  unfold Oper.wp execOp
  simp only [ho, List.map_toArray, List.map_nil, Sem.run_bind, hr, Result.andThen_ok, Sem.run_pure]
  exact hK _ _ h
theorem wpList_load_of {v va : Value} (t : TypeId) (hr : (Instr.loadAt t va).run P w = .ok v w) (x : Operand) (hg : o.guard = none) (ho : o.op = .load t x) (hx : a.eval x = va) (h : wpList P ops Q rest (a.put o.dst v) w) : wpList P ops Q (o :: rest) a w := by
  refine wpList_plain hg fun K hK => ?_
  unfold Oper.wp execOp
  simp only [ho, hx, Sem.run_bind, hr, Result.andThen_ok, Sem.run_pure]
  exact hK _ _ h
theorem wpList_eql_of {v vx vy : Value} (t : TypeId) (hr : (binOp .eql t vx vy).run P w = .ok v w) (x y : Operand) (ty : TypeId) (hg : o.guard = none) (ho : o.op = .binOp .eql t x y ty) (hx : a.eval x = vx) (hy : a.eval y = vy) (hq : (eqGuard .eql t x y vx vy).run P w = .ok () w)
    (h : wpList P ops Q rest (a.put o.dst v) w) : wpList P ops Q (o :: rest) a w := by
  refine wpList_plain hg fun K hK => ?_
  unfold Oper.wp execOp
  simp only [ho, hx, hy, Sem.run_bind, hq, hr, Result.andThen_ok, Sem.run_pure]
  exact hK _ _ h
theorem wpList_alloc_of {v : Value} {w' : World} (t : TypeId) (hr : (Instr.alloc t true (.tuple #[])).run P w = .ok v w') (hg : o.guard = none) (ho : o.op = .alloc t) (h : wpList P ops Q rest (a.put o.dst v) w') : wpList P ops Q (o :: rest) a w := by
  refine wpList_plain hg fun K hK => ?_
  unfold Oper.wp execOp
  simp only [ho, Sem.run_bind, hr, Result.andThen_ok, Sem.run_pure]
  exact hK _ _ h
theorem wpList_update_of {vm vk vx : Value} {w' : World} (t : TypeId) (hr : (Instr.mapUpdate t vm vk vx).run P w = .ok () w') (m k x : Operand) (hg : o.guard = none) (ho : o.op = .mapUpdate t m k x) (hm : a.eval m = vm) (hk : a.eval k = vk) (hx : a.eval x = vx) (h : wpList P ops Q rest (a.put o.dst undef) w') : wpList P ops Q (o :: rest) a w := by
  refine wpList_plain hg fun K hK => ?_
  unfold Oper.wp execOp
  simp only [ho, hm, hk, hx, Sem.run_bind, hr, Result.andThen_ok, Sem.run_pure]
  exact hK _ _ h
theorem wpList_copy_of {v v1 v2 : Value} {w' : World} {t1 t2 : TypeId} (hr : ∀ ty, (Builtin.copy_ #[t1, t2] ty #[v1, v2]).run P w = .ok v w') (x y : Operand)
    (hg : o.guard = none) (ho : o.op = .call { callee := .builtin .copy, args := #[x, y], argTypes := #[t1, t2] }) (hx : a.eval x = v1) (hy : a.eval y = v2) (h : wpList P ops Q rest (a.put o.dst v) w') : wpList P ops Q (o :: rest) a w := by
  refine wpList_plain hg fun K hK => ?_
  unfold Oper.wp
  simp [execOp, ho, resolve, invoke, builtin, hx, hy, hr, Result.andThen]
  exact hK _ _ h
end

set_option maxHeartbeats 1000000 in
theorem keep_low {w : World} {p bm b N : Nat} {g : Int → Option Nat} {f : Nat → Nat} (x : Nat) (c2 : w.cell? ⟨p, 2, none⟩ = some (.map (some bm))) (hm : MP w bm N g) (pg : PG w b f) (hx : x < N) (hN : N ≤ 1048576) :
    Calls Try.prog 56 #[.pointer (some ⟨p, 0, none⟩), .int .i64 (x : Int), .pointer (some ⟨b, 0, none⟩)] w fun e w' => e = .returned (.tuple #[]) ∧ MP w' bm N (if alike f z0 4096 then without g x else withp g x b) ∧ Fr (· = bm) w w' := by
  have l1 := load_page pg
  have l2 := build_page w
  have l3 := eql_pages f z0 w
  cases e : alike f z0 4096
  · rw [e] at l3
    obtain ⟨w2, r1, r2, r3⟩ := hm.store (x : Int) b (WalkArith.wf_i64 (by omega)) (by omega) (by omega) (by unfold maxLen; omega)
    have R2 : Hid (MP w2 bm N (withp g x b)) := r2
    have R3 : Hid (Fr (· = bm) w w2) := r3
    clear hm pg r2 r3
    generalize (bytesOf f 4096).toArray = A at *
    generalize (bytesOf z0 4096).toArray = B at *
    go_enter Try.func56, Try.ntmps56
    go_wp2_with (first | (refine wpList_load_of 124 l1 _ rfl rfl rfl ?_) | (refine wpList_build_of 124 l2 rfl rfl ?_) | (refine wpList_eql_of 124 l3 _ _ _ rfl rfl rfl rfl (eqGuard_page _ _ _ _ _) ?_) | (refine wpList_update_of 115 r1 _ _ _ rfl rfl rfl rfl rfl ?_))
    go_end0
    exact ⟨rfl, R2.out, R3.out⟩
  · rw [e] at l3
    obtain ⟨w2, r1, r2, r3⟩ := hm.drop (x : Int) (WalkArith.wf_i64 (by omega)) 0
    have R2 : Hid (MP w2 bm N (without g x)) := r2
    have R3 : Hid (Fr (· = bm) w w2) := r3
    clear hm pg r2 r3
    generalize (bytesOf f 4096).toArray = A at *
    generalize (bytesOf z0 4096).toArray = B at *
    go_enter Try.func56, Try.ntmps56
    go_wp2_with (first | (refine wpList_load_of 124 l1 _ rfl rfl rfl ?_) | (refine wpList_build_of 124 l2 rfl rfl ?_) | (refine wpList_eql_of 124 l3 _ _ _ rfl rfl rfl rfl (eqGuard_page _ _ _ _ _) ?_))
    refine bodyPost_ret (results_none rfl _ _ _) rfl ?_
    exact ⟨rfl, R2.out, R3.out⟩

/-- Frame x's bytes are f. -/
def putFr (F : Nat → Nat → Nat) (x : Nat) (f : Nat → Nat) : Nat → Nat → Nat := fun y => if y = x then f else F y
theorem putFr_same (F : Nat → Nat → Nat) (x : Nat) (f : Nat → Nat) : putFr F x f x = f := if_pos rfl
theorem putFr_other (F : Nat → Nat → Nat) (x y : Nat) (f : Nat → Nat) (h : y ≠ x) : putFr F x f y = F y := if_neg h

theorem PMat.renew {w w1 w2 : World} {S T : Nat → Prop} {p bm : Nat} {g : Int → Option Nat} {N ops : Nat} {F : Nat → Nat → Nat} (h : PMat w S p bm g N ops F) (x : Nat) (hx : x < N) (b : Nat) (f : Nat → Nat) (hf : Bytes f)
    (k1 : Fr T w w1) (hT : ∀ k, k < w.heap.size → T k → g x = .some k) (pg : PG w1 b f) (hb : g x = .some b ∨ w.heap.size ≤ b)
    (m2 : MP w2 bm N (if alike f z0 4096 then without g x else withp g x b)) (k2 : Fr (· = bm) w1 w2) :
    PMat w2 (fun k => S k ∨ k = b) p bm (if alike f z0 4096 then without g x else withp g x b) N ops (putFr F x f) ∧ Fr S w w2 := by
  have hbp : b ≠ p ∧ b ≠ bm := by
    rcases hb with hb | hb
    · exact ⟨(h.page _ _ hb).2.1, (h.page _ _ hb).2.2.1⟩
    · exact ⟨fun e => by have := h.own p h.sp; omega, fun e => by have := h.own bm h.sm; omega⟩
  have hTp : ¬ T p := fun t => (h.page _ _ (hT p (h.own p h.sp) t)).2.1 rfl
  have kp : ∀ k, k < w.heap.size → ¬ T k → k ≠ bm → w2.heap[k]? = w.heap[k]? := fun k hk ht hne => (k2.block k (Nat.lt_of_lt_of_le hk k1.size) hne).trans (k1.block k hk ht)
  have frS : Fr S w w2 := ⟨k2.os.trans k1.os, k2.tape.trans k1.tape, k2.output.trans k1.output, Nat.le_trans k1.size k2.size, fun k hk hS => kp k hk (fun t => hS (h.page _ _ (hT k hk t)).1) (fun e => hS (e ▸ h.sm))⟩
  have pg2 : PG w2 b f := pg.fr k2 hbp.2
  -- a page of another frame
  have other : ∀ y c, y ≠ (x : Int) → g y = .some c → (S c ∨ c = b) ∧ c ≠ p ∧ c ≠ bm ∧ PG w2 c (putFr F x f y.toNat) := fun y c hy hc => by
    obtain ⟨q1, q2, q3, q4⟩ := h.page y c hc
    refine ⟨.inl q1, q2, q3, ?_⟩
    have hd := h.map.dom y c hc
    rw [putFr_other _ _ _ _ (by omega)]
    exact (kp c (h.own c q1) (fun t => hy (h.inj y x c hc (hT c (h.own c q1) t))) q3).trans q4
  refine ⟨⟨fun k hk => ?_, .inl h.sp, .inl h.sm, h.ne, (kp p (h.own p h.sp) hTp (fun e => h.ne e.symm)).trans h.row, m2, fun y c hy => ?_, fun y z c hy hz => ?_, fun y hy i hi => ?_, fun y c hy => ?_, h.n1, h.n2, fun y => ?_⟩, frS⟩
  · rcases hk with hk | rfl
    · exact Nat.lt_of_lt_of_le (h.own k hk) frS.size
    · exact pg2.lt
  · by_cases e : y = (x : Int)
    · subst e
      by_cases ea : alike f z0 4096 = true
      · rw [if_pos ea] at hy; unfold without at hy; rw [if_pos rfl] at hy; cases hy
      · rw [if_neg ea] at hy; unfold withp at hy; rw [if_pos rfl] at hy; cases hy
        refine ⟨.inr rfl, hbp.1, hbp.2, ?_⟩
        rw [show ((x : Int)).toNat = x from rfl, putFr_same]
        exact pg2
    · refine other y c e ?_
      split at hy
      · unfold without at hy; rwa [if_neg e] at hy
      · unfold withp at hy; rwa [if_neg e] at hy
  · have q : ∀ y, (if alike f z0 4096 then without g x else withp g x b) y = .some c → (y = (x : Int) ∧ c = b) ∨ (y ≠ (x : Int) ∧ g y = .some c) := fun y hy => by
      by_cases e : y = (x : Int)
      · subst e
        split at hy
        · unfold without at hy; rw [if_pos rfl] at hy; cases hy
        · unfold withp at hy; rw [if_pos rfl] at hy; cases hy; exact .inl ⟨rfl, rfl⟩
      · split at hy
        · unfold without at hy; rw [if_neg e] at hy; exact .inr ⟨e, hy⟩
        · unfold withp at hy; rw [if_neg e] at hy; exact .inr ⟨e, hy⟩
    have no : ∀ y, y ≠ (x : Int) → g y = .some b → False := fun y hy hb' => by
      rcases hb with hb | hb
      · exact hy (h.inj y x b hb' hb)
      · have := h.own b (h.page y b hb').1; omega
    rcases q y hy with ⟨e1, e2⟩ | ⟨e1, e2⟩ <;> rcases q z hz with ⟨d1, d2⟩ | ⟨d1, d2⟩
    · rw [e1, d1]
    · exact absurd (e2 ▸ d2) (no z d1)
    · exact absurd (d2 ▸ e2) (no y e1)
    · exact h.inj y z c e2 d2
  · by_cases e : (y : Int) = (x : Int)
    · have e' : y = x := by omega
      subst e'
      rw [putFr_same]
      split at hy
      · rename_i ea; exact (alike_iff f z0 4096).1 ea i hi
      · unfold withp at hy; rw [if_pos rfl] at hy; cases hy
    · rw [putFr_other _ _ _ _ (by omega)]
      refine h.none y ?_ i hi
      split at hy
      · unfold without at hy; rwa [if_neg e] at hy
      · unfold withp at hy; rwa [if_neg e] at hy
  · by_cases e : y = (x : Int)
    · subst e
      rw [show ((x : Int)).toNat = x from rfl, putFr_same]
      split at hy
      · unfold without at hy; rw [if_pos rfl] at hy; cases hy
      · rename_i ea
        have : ¬ ∀ i, i < 4096 → f i = z0 i := fun hh => ea (alike_of hh)
        exact Classical.byContradiction fun hh => this fun i hi => Classical.byContradiction fun hn => hh ⟨i, hi, hn⟩
    · have hg : g y = .some c := by
        split at hy
        · unfold without at hy; rwa [if_neg e] at hy
        · unfold withp at hy; rwa [if_neg e] at hy
      have hd := h.map.dom y c hg
      rw [putFr_other _ _ _ _ (by omega)]
      exact h.some y c hg
  · unfold putFr
    split
    · exact hf
    · exact h.byte y

end Go.Proofs.Ytclcickhgoiooaa

/- phys.Mem: Write, Set, Zero. -/
namespace Go.Proofs.Ytclcickhgoiooaa
open Go.RowKit Go.Maps
set_option maxRecDepth 10000

/-- f with the s bytes of h from o on. -/
def layF (f : Nat → Nat) (o s : Nat) (h : Nat → Nat) : Nat → Nat := fun i => if o ≤ i ∧ i < o + s then h (i - o) else f i
theorem layF_byte {f h : Nat → Nat} (hf : Bytes f) (hh : Bytes h) (o s : Nat) : Bytes (layF f o s h) := fun i => by unfold layF; split; exact hh _; exact hf _
theorem bytesOf_lay (f h : Nat → Nat) (n o s : Nat) (hs : o + s ≤ n) : (bytesOf f n).take o ++ bytesOf h s ++ (bytesOf f n).drop (o + s) = bytesOf (layF f o s h) n := by
  apply List.ext_getElem?
  intro i
  by_cases c : i < n
  · rw [bytesOf_get _ _ _ c]
    by_cases c1 : i < o
    · rw [List.append_assoc, List.getElem?_append_left (by simp [bytesOf_len]; omega), List.getElem?_take, if_pos c1, bytesOf_get _ _ _ c]
      unfold layF; rw [if_neg (by omega)]
    · by_cases c2 : i < o + s
      · rw [List.append_assoc, List.getElem?_append_right (by simp [bytesOf_len]; omega), List.getElem?_append_left (by simp [bytesOf_len]; omega)]
        rw [show i - ((bytesOf f n).take o).length = i - o by simp [bytesOf_len]; omega, bytesOf_get _ _ _ (by omega)]
        unfold layF; rw [if_pos ⟨by omega, c2⟩]
      · rw [List.getElem?_append_right (by simp [bytesOf_len]; omega), List.getElem?_drop]
        rw [show o + s + (i - ((bytesOf f n).take o ++ bytesOf h s).length) = i by simp [bytesOf_len]; omega, bytesOf_get _ _ _ c]
        unfold layF; rw [if_neg (by omega)]
  · rw [List.getElem?_eq_none (by simp [bytesOf_len]; omega), List.getElem?_eq_none (by simp [bytesOf_len]; omega)]

theorem page_array : Try.prog.underlying 124 = some (.array (Try.prog.arrayLen 124) (Try.prog.elem 124)) := by kernel_rfl
theorem page_len : Try.prog.arrayLen 124 = 4096 := by kernel_rfl
theorem page_elem : Try.prog.elem 124 = 5 := by kernel_rfl
theorem slice_lh (w : World) (b l s : Nat) (h : l + s ≤ 4096) (hs : 1 ≤ s) : (Instr.sliceAt 124 (.pointer (some ⟨b, 0, none⟩)) (some (.int .i64 (l : Int))) (some (.int .i64 ((l : Int) + s))) none).run Try.prog w = .ok (.slice (some ⟨b, l, none⟩) s (4096 - l)) w := by
  rw [run_sliceAt_array_lh w _ _ page_array .i64 .i64 _ _ (by omega) (by omega) (by rw [page_len]; omega), page_elem, size_u8, page_len]
  simp only [Result.andThen_ok, slicedAt]
  rw [if_neg (by omega), Nat.mul_one, Int.toNat_natCast, show ((l : Int) + s).toNat = l + s by omega, add_at, Nat.zero_add, Nat.add_sub_cancel_left]
theorem slice_l (w : World) (b l : Nat) (h : l < 4096) : (Instr.sliceAt 124 (.pointer (some ⟨b, 0, none⟩)) (some (.int .i64 (l : Int))) none none).run Try.prog w = .ok (.slice (some ⟨b, l, none⟩) (4096 - l) (4096 - l)) w := by
  rw [run_sliceAt_array_l w _ _ page_array .i64 _ (by omega) (by rw [page_len]; omega), page_elem, size_u8, page_len]
  simp only [Result.andThen_ok, slicedAt]
  rw [if_neg (by omega), Nat.mul_one, Int.toNat_natCast, add_at, Nat.zero_add]

/-- copy(page[o:], bytes). -/
theorem copy_page {w : World} {b : Nat} {f : Nat → Nat} (pg : PG w b f) (o s n d dc cap c : Nat) (h : Nat → Nat) (H : Cells w c n s h) (ho : o + s ≤ 4096) (hd : s ≤ d) (ty : TypeId) :
    (Builtin.copy_ #[100, 100] ty #[.slice (some ⟨b, o, none⟩) d dc, .slice (some ⟨c, n, none⟩) s cap]).run Try.prog w = .ok (goInt s) (w.setRow b (bytesOf (layF f o s h) 4096).toArray) ∧ PG (w.setRow b (bytesOf (layF f o s h) 4096).toArray) b (layF f o s h) ∧ Fr (· = b) w (w.setRow b (bytesOf (layF f o s h) 4096).toArray) := by
  refine ⟨?_, setRow_heap w b _ _ _ _ pg, ⟨rfl, rfl, rfl, by simp, fun k _ hk => setRow_other w b k _ hk⟩⟩
  have := run_copy_row Try.prog w 100 100 ty 5 b o d dc ⟨c, n, none⟩ s cap _ _ (bytesOf h s) Try.underlying100 (by kernel_rfl) pg (by rw [bytesOf_len]; exact (Nat.min_eq_left hd).symm) H.news (by simp [bytesOf_len]; omega) (bytesOf_one h s)
  rw [bytesOf_len, List.toList_toArray, bytesOf_lay f h 4096 o s ho] at this
  exact this

theorem putF_lay (f : Nat → Nat) (o s v : Nat) : layF f o s (putF (fun i => f (o + i)) 0 s v) = putF f o s v := by
  funext i
  unfold layF putF
  by_cases c : o ≤ i ∧ i < o + s
  · rw [if_pos c, if_pos (by omega), if_pos c, Nat.sub_zero]
  · rw [if_neg c, if_neg c]

set_option maxHeartbeats 1000000 in
theorem pwrite_no {w : World} {S : Nat → Prop} {p N ops : Nat} {F : Nat → Nat → Nat} (h : PM w S p N ops F) (addr : Nat) (s r v : Int) (ha : addr < 18446744073709551616) (hc : chkP N addr s = r) (hr : r ≠ 0) :
    Calls Try.prog 23 #[.pointer (some ⟨p, 0, none⟩), .int .u64 (addr : Int), .int .i64 s, .int .u64 v] w fun e w' => e = .returned (.int .i64 r) ∧ w' = w := by
  obtain ⟨bm, g, h⟩ := h
  have k1 := pcheck_any p N addr s w h.c0 h.n2 ha
  rw [hc] at k1
  have z : (r != 0) = true := by simp [hr]
  clear h hc ha
  go_enter Try.func23, Try.ntmps23
  go_wp2_with (go_at_call 53; with_reducible refine k1.mono ?_; rintro e w' ⟨rfl, rfl⟩)
  go_ret
  exact ⟨rfl, rfl⟩

/-- What is left of a change: the memory's own, and new blocks. -/
def Less (S S' : Nat → Prop) (w : World) : Prop := ∀ k, S' k → S k ∨ w.heap.size ≤ k

theorem bytesOf_like {f f' : Nat → Nat} {n : Nat} (h : ∀ i, i < n → f' i = f i) : bytesOf f' n = bytesOf f n := by
  unfold bytesOf
  apply List.map_congr_left
  intro i hi
  rw [h i (List.mem_range.1 hi)]
theorem PG.like {w : World} {b : Nat} {f f' : Nat → Nat} (h : PG w b f) (hf : ∀ i, i < 4096 → f' i = f i) : PG w b f' := by unfold PG; rw [bytesOf_like hf]; exact h
theorem PMat.like {w : World} {S : Nat → Prop} {p bm : Nat} {g : Int → Option Nat} {N ops : Nat} {F F' : Nat → Nat → Nat} (h : PMat w S p bm g N ops F) (hF : ∀ x i, i < 4096 → F' x i = F x i) (hb : ∀ x, Bytes (F' x)) : PMat w S p bm g N ops F' :=
  ⟨h.own, h.sp, h.sm, h.ne, h.row, h.map, fun x b hx => by obtain ⟨h1, h2, h3, h4⟩ := h.page x b hx; exact ⟨h1, h2, h3, h4.like (hF _)⟩, h.inj, fun x hx i hi => by rw [hF x i hi]; exact h.none x hx i hi, fun x b hx => by obtain ⟨i, hi, hn⟩ := h.some x b hx; exact ⟨i, hi, by rw [hF _ i hi]; exact hn⟩, h.n1, h.n2, hb⟩

theorem chk_own {s : Nat} (hs : Size s) : chk (s : Int) ((0 : Nat) : Int) s = 0 := by
  rcases hs with rfl | rfl | rfl | rfl <;> decide

/-- A Write's end, from Put on. -/
theorem pwrite_tail {w wA w1 : World} {S : Nat → Prop} {p N ops b gn cap fr at0 s v : Nat} {F : Nat → Nat → Nat} {g : Int → Option Nat} {bm : Nat} {f : Nat → Nat} (h : PMat w S p bm g N ops F) (kA : Kp w wA) (pg : PG wA b f) (hfb : Bytes f) (hf : ∀ i, i < 4096 → f i = F fr i) (hb : g fr = some b ∨ w.heap.size ≤ b)
    (hfr : fr < N) (ho : at0 + s ≤ 4096) (O1 : OP w1 wA.heap.size gn s cap (putF (fun i => f (at0 + i)) 0 s v)) (K1 : Kp wA w1) :
    ∃ w2, (∀ ty, (Builtin.copy_ #[100, 100] ty #[.slice (some ⟨b, at0, none⟩) (4096 - at0) (4096 - at0), .slice (some ⟨gn, 0, none⟩) s cap]).run Try.prog w1 = .ok (goInt s) w2) ∧
      Calls Try.prog 56 #[.pointer (some ⟨p, 0, none⟩), .int .i64 (fr : Int), .pointer (some ⟨b, 0, none⟩)] w2 fun e w' => e = .returned (.tuple #[]) ∧ ∃ g' S', PMat w' S' p bm g' N ops (putFr F fr (putF (F fr) at0 s v)) ∧ Fr S w w' ∧ Less S S' w := by
  have pg1 : PG w1 b f := pg.fr (K1.fr (fun _ => False)) id
  have cp := copy_page pg1 at0 s 0 (4096 - at0) (4096 - at0) cap gn _ O1.bs.cells ho (by omega)
  rw [putF_lay f at0 s v] at cp
  obtain ⟨_, pg2, k2⟩ := cp 0
  refine ⟨w1.setRow b (bytesOf (putF f at0 s v) 4096).toArray, fun ty => (cp ty).1, ?_⟩
  have kw : Kp w w1 := kA.trans K1
  have hbp : b ≠ p ∧ b ≠ bm := by
    rcases hb with hb | hb
    · exact ⟨(h.page _ _ hb).2.1, (h.page _ _ hb).2.2.1⟩
    · exact ⟨fun e => by have := h.own p h.sp; omega, fun e => by have := h.own bm h.sm; omega⟩
  have k12 : Fr (· = b) w (w1.setRow b (bytesOf (putF f at0 s v) 4096).toArray) := (kw.fr _).trans k2
  have m2 := h.map.fr k12 (fun e => hbp.2 e.symm)
  have c2 : (w1.setRow b (bytesOf (putF f at0 s v) 4096).toArray).cell? ⟨p, 2, none⟩ = some (.map (some bm)) := by
    rw [cell_of_row _ p 2 _ _ _ ((k12.block p (h.own p h.sp) (fun e => hbp.1 e.symm)).trans h.row)]; rfl
  refine (keep_low fr c2 m2 pg2 hfr h.n2).mono fun e w' ⟨he, m3, k3⟩ => ⟨he, ?_⟩
  have hbT : ∀ k, k < w.heap.size → k = b → g fr = some k := fun k hk e => by
    subst e
    rcases hb with hb | hb
    · exact hb
    · omega
  obtain ⟨r1, r2⟩ := h.renew fr hfr b (putF f at0 s v) (putF_byte hfb at0 s v) k12 hbT pg2 hb m3 k3
  refine ⟨_, _, r1.like (fun x i hi => ?_) (fun x => ?_), r2, fun k hk => ?_⟩
  · unfold putFr
    split
    · unfold putF
      split
      · rfl
      · exact (hf i hi).symm
    · rfl
  · unfold putFr
    split
    · exact putF_byte (h.byte fr) _ _ _
    · exact h.byte x
  · rcases hk with hk | rfl
    · exact .inl hk
    · rcases hb with hb | hb
      · exact .inl (h.page _ _ hb).1
      · exact .inr hb

set_option maxHeartbeats 2000000 in
theorem pwrite_ok {w : World} {S : Nat → Prop} {p N ops : Nat} {F : Nat → Nat → Nat} (h : PM w S p N ops F) (addr s v : Nat) (ha : addr < 18446744073709551616) (hc : chkP N addr s = 0) (hv : v < 18446744073709551616) (ho : ops < 4611686018427387904) :
    Calls Try.prog 23 #[.pointer (some ⟨p, 0, none⟩), .int .u64 (addr : Int), .int .i64 (s : Int), .int .u64 (v : Int)] w fun e w' => e = .returned (.int .i64 0) ∧ ∃ S', PM w' S' p N (ops + 1) (putFr F (addr / 4096) (putF (F (addr / 4096)) (addr % 4096) s v)) ∧ Fr S w w' ∧ Less S S' w := by
  obtain ⟨bm, g, h⟩ := h
  have k1 := pcheck_any p N addr s w h.c0 h.n2 ha
  rw [hc] at k1
  have k2 := fun w => place_any addr w ha
  obtain ⟨hs, hm, hN⟩ := chkP_zero hc
  obtain ⟨q1, q2⟩ := place_fit hs hm
  have hn2 := h.n2
  have c2 := h.c2
  have hl := h.map.look ((addr / 4096 : Nat) : Int) (WalkArith.wf_i64 (by omega))
  have hs8 : s ≤ 8 ∧ 1 ≤ s := by unfold Size at hs; omega
  have hk := chk_own hs
  have z1 : (s : Int) ≤ 8 := by omega
  have z2 : ((addr % 4096 : Nat) : Int) + s ≤ 4096 := by omega
  have z4 : (ops : Int) < 4611686018427387904 := by omega
  have HH : Aside (PMat w S p bm g N ops F) := h
  have HS : Aside (Size s) := hs
  clear h hc ha hm hs
  generalize addr / 4096 = fr at *
  generalize addr % 4096 = at0 at *
  cases eg : g (fr : Int) with
  | none =>
    simp only [at_, eg, Option.map_none, Option.isSome_none] at hl
    have a1 := alloc_page w (.tuple #[])
    have kA : Kp w (w.alloc (.cells (bytesOf z0 4096).toArray 124)) := (Kp.refl w).alloc _
    have pgA := PG.made w
    have hf : ∀ i, i < 4096 → z0 i = F fr i := fun i hi => (HH.out.none fr eg i hi).symm
    have kput := put_at w.heap.size at0 s (4096 - at0) 0 s v (fun i => z0 (at0 + i)) _ ⟨pgA.lt, fun i hi => by have := (pgA.bs z0_byte).cell (at0 + i) (by omega); rwa [Nat.zero_add] at this, fun i hi => by have := (pgA.bs z0_byte).frz (at0 + i) (by omega); rwa [Nat.zero_add] at this, fun i => z0_byte _⟩ (by omega) hs8.1 (by omega) hv hk
    have tail := fun w1 gn cap O1 K1 => pwrite_tail (w1 := w1) (gn := gn) (cap := cap) (v := v) HH.out kA pgA z0_byte hf (.inr (Nat.le_refl _)) hN q2 O1 K1
    have TL : Aside (∀ w1 gn cap, OP w1 (w.alloc (.cells (bytesOf z0 4096).toArray 124)).heap.size gn s cap (putF (fun i => z0 (at0 + i)) 0 s v) → Kp (w.alloc (.cells (bytesOf z0 4096).toArray 124)) w1 → _) := tail
    have sl1 := slice_lh (w.alloc (.cells (bytesOf z0 4096).toArray 124)) w.heap.size at0 s q2 hs8.2
    have sl2 := fun w1 => slice_l w1 w.heap.size at0 (by omega)
    clear pgA hf kA tail hv ho q1 q2 hk
    rw [show ((0 : Nat) : Int) = 0 from rfl] at kput
    generalize (bytesOf z0 4096).toArray = A at *
    go_enter Try.func23, Try.ntmps23
    go_wp2_with (first | (go_at_call 53; with_reducible refine k1.mono ?_; rintro e w' ⟨rfl, rfl⟩) | (go_at_call 54; with_reducible refine (k2 _).mono ?_; rintro e w' ⟨rfl, rfl⟩) | (refine wpList_alloc_of 124 a1 rfl rfl ?_))
    with_reducible refine kput.mono ?_
    rintro e w1 ⟨gn, cap', rfl, O1, K1⟩
    obtain ⟨w2, cpy, kk⟩ := TL.out w1 gn cap' O1 K1
    clear kput O1 K1 TL
    go_wp2_with (refine wpList_copy_of cpy _ _ rfl rfl rfl rfl ?_)
    with_reducible refine kk.mono ?_
    rintro e w3 ⟨rfl, g', S', P3, F3, L3⟩
    have c1 := P3.c1
    have f1 := P3.f1
    obtain ⟨P4, F4⟩ := P3.tick
    have E : Hid (∃ S', PM (w3.setCell ⟨p, 1, none⟩ (.int .i64 ((ops : Int) + 1))) S' p N (ops + 1) (putFr F fr (putF (F fr) at0 s v)) ∧ Fr S w' (w3.setCell ⟨p, 1, none⟩ (.int .i64 ((ops : Int) + 1))) ∧ Less S S' w') := ⟨S', ⟨bm, g', P4⟩, F3.trans2 F4 (fun k hk hS => (L3 k hS).resolve_right (Nat.not_le.2 hk)), L3⟩
    clear P3 P4 F3 F4 L3 kk cpy
    go_wp2
    go_ret
    exact ⟨rfl, E.out⟩
  | some b =>
    simp only [at_, eg, Option.map_some, Option.isSome_some] at hl
    have pgA := (HH.out.page _ b eg).2.2.2
    rw [show ((fr : Int)).toNat = fr from rfl] at pgA
    have hfb := HH.out.byte fr
    have kput := put_at b at0 s (4096 - at0) 0 s v (fun i => F fr (at0 + i)) w ⟨pgA.lt, fun i hi => by have := (pgA.bs hfb).cell (at0 + i) (by omega); rwa [Nat.zero_add] at this, fun i hi => by have := (pgA.bs hfb).frz (at0 + i) (by omega); rwa [Nat.zero_add] at this, fun i => hfb _⟩ (by omega) hs8.1 (by omega) hv hk
    have TL : Aside (∀ w1 gn cap, OP w1 w.heap.size gn s cap (putF (fun i => F fr (at0 + i)) 0 s v) → Kp w w1 → _) := fun w1 gn cap O1 K1 => pwrite_tail (w1 := w1) (gn := gn) (cap := cap) (v := v) HH.out (Kp.refl w) pgA hfb (fun _ _ => rfl) (.inl eg) hN q2 O1 K1
    have sl1 := slice_lh w b at0 s q2 hs8.2
    have sl2 := fun w1 => slice_l w1 b at0 (by omega)
    clear pgA hfb hv ho q1 q2 hk
    rw [show ((0 : Nat) : Int) = 0 from rfl] at kput
    go_enter Try.func23, Try.ntmps23
    go_wp2_with (first | (go_at_call 53; with_reducible refine k1.mono ?_; rintro e w' ⟨rfl, rfl⟩) | (go_at_call 54; with_reducible refine (k2 _).mono ?_; rintro e w' ⟨rfl, rfl⟩))
    with_reducible refine kput.mono ?_
    rintro e w1 ⟨gn, cap', rfl, O1, K1⟩
    obtain ⟨w2, cpy, kk⟩ := TL.out w1 gn cap' O1 K1
    clear kput O1 K1 TL
    go_wp2_with (refine wpList_copy_of cpy _ _ rfl rfl rfl rfl ?_)
    with_reducible refine kk.mono ?_
    rintro e w3 ⟨rfl, g', S', P3, F3, L3⟩
    have c1 := P3.c1
    have f1 := P3.f1
    obtain ⟨P4, F4⟩ := P3.tick
    have E : Hid (∃ S', PM (w3.setCell ⟨p, 1, none⟩ (.int .i64 ((ops : Int) + 1))) S' p N (ops + 1) (putFr F fr (putF (F fr) at0 s v)) ∧ Fr S w' (w3.setCell ⟨p, 1, none⟩ (.int .i64 ((ops : Int) + 1))) ∧ Less S S' w') := ⟨S', ⟨bm, g', P4⟩, F3.trans2 F4 (fun k hk hS => (L3 k hS).resolve_right (Nat.not_le.2 hk)), L3⟩
    clear P3 P4 F3 F4 L3 kk cpy
    go_wp2
    go_ret
    exact ⟨rfl, E.out⟩

end Go.Proofs.Ytclcickhgoiooaa

/- phys.Mem: Set, Zero, Get, Same. -/
namespace Go.Proofs.Ytclcickhgoiooaa
open Go.RowKit Go.Maps
set_option maxRecDepth 10000

theorem slice_all (w : World) (b : Nat) : (Instr.sliceAt 124 (.pointer (some ⟨b, 0, none⟩)) none none none).run Try.prog w = .ok (.slice (some ⟨b, 0, none⟩) 4096 4096) w := by
  rw [run_sliceAt_array_all w _ _ page_array, page_elem, size_u8, page_len]
  simp only [Result.andThen_ok, slicedAt]
  rw [if_neg (by omega), Nat.zero_mul, add_at, Nat.zero_add, Nat.sub_zero]

theorem wf_nat {x : Nat} (h : x ≤ 1048576) : (Lit.int .i64 (x : Int)).wf = true := WalkArith.wf_i64 (by omega)

theorem PMat.drop {w w2 : World} {S : Nat → Prop} {p bm : Nat} {g : Int → Option Nat} {N ops : Nat} {F : Nat → Nat → Nat} (h : PMat w S p bm g N ops F) (x : Nat) (m2 : MP w2 bm N (without g x)) (k : Fr (· = bm) w w2) : PMat w2 S p bm (without g x) N ops (putFr F x z0) ∧ Fr S w w2 := by
  have hk : Fr S w w2 := k.mono (fun i _ e => by rw [e]; exact h.sm)
  have hw : ∀ y c, without g x y = .some c → y ≠ (x : Int) ∧ g y = .some c := fun y c hy => by
    unfold without at hy
    by_cases e : y = (x : Int)
    · rw [if_pos e] at hy; cases hy
    · rw [if_neg e] at hy; exact ⟨e, hy⟩
  have hF : ∀ y c, without g x y = .some c → putFr F x z0 y.toNat = F y.toNat := fun y c hy => by
    obtain ⟨h1, h2⟩ := hw y c hy
    have := h.map.dom y c h2
    exact putFr_other _ _ _ _ (by omega)
  refine ⟨⟨fun i hi => Nat.lt_of_lt_of_le (h.own i hi) k.size, h.sp, h.sm, h.ne, (k.block p (h.own p h.sp) (fun e => h.ne e.symm)).trans h.row, m2, fun y c hy => ?_, fun y z c hy hz => h.inj y z c (hw y c hy).2 (hw z c hz).2, fun y hy i hi => ?_, fun y c hy => ?_, h.n1, h.n2, fun y => ?_⟩, hk⟩
  · obtain ⟨h1, h2, h3, h4⟩ := h.page y c (hw y c hy).2
    exact ⟨h1, h2, h3, by rw [hF y c hy]; exact h4.fr k h3⟩
  · unfold putFr
    by_cases e : y = x
    · rw [if_pos e]; rfl
    · rw [if_neg e]
      refine h.none y ?_ i hi
      unfold without at hy
      rwa [if_neg (by omega)] at hy
  · rw [hF y c hy]
    exact h.some y c (hw y c hy).2
  · unfold putFr
    split
    · exact z0_byte
    · exact h.byte y

/-! ### Get -/
set_option maxHeartbeats 1000000 in
theorem pget_no {w : World} {S : Nat → Prop} {p N ops : Nat} {F : Nat → Nat → Nat} (h : PM w S p N ops F) (x : Int) (hx : hasF N x = false) :
    Calls Try.prog 40 #[.pointer (some ⟨p, 0, none⟩), .int .i64 x] w fun e w' => e = .returned (.tuple #[.slice none 0 0, .int .i64 2]) ∧ w' = w := by
  obtain ⟨bm, g, h⟩ := h
  have k1 := phas_cell p N x w h.c0
  rw [hx] at k1
  clear h hx
  go_enter Try.func40, Try.ntmps40
  go_wp2_with (go_at_call 68; with_reducible refine k1.mono ?_; rintro e w' ⟨rfl, rfl⟩)
  go_ret2
  exact ⟨rfl, rfl⟩

/-- A row of n bytes that is block b. -/
def RB (w : World) (b n : Nat) (f : Nat → Nat) : Prop := w.heap[b]? = some (.cells (bytesOf f n).toArray 5 (0, 0))
theorem RB.lt {w : World} {b n : Nat} {f : Nat → Nat} (h : RB w b n f) : b < w.heap.size := (Array.getElem?_eq_some_iff.1 h).1
theorem RB.bs {w : World} {b n : Nat} {f : Nat → Nat} (h : RB w b n f) (hb : Bytes f) : BS w b 0 n f :=
  ⟨h.lt, fun i hi => by rw [Nat.zero_add, cell_of_row w b i _ _ _ h]; simpa using bytesOf_get f n i hi, fun i _ => frozen_of_row w b _ _ _ h, hb⟩
theorem RB.like {w : World} {b n : Nat} {f f' : Nat → Nat} (h : RB w b n f) (hf : ∀ i, i < n → f' i = f i) : RB w b n f' := by unfold RB; rw [bytesOf_like hf]; exact h
theorem RB.kp {w w' : World} {b n : Nat} {f : Nat → Nat} (h : RB w b n f) (k : Kp w w') : RB w' b n f := (k.block b h.lt).trans h
theorem RB.fr {w w' : World} {b n : Nat} {f : Nat → Nat} (h : RB w b n f) {S : Nat → Prop} (k : Fr S w w') (hS : ¬ S b) : RB w' b n f := (k.block b h.lt hS).trans h

theorem made_bytes (n : Nat) : madeCells #[Value.int .u8 0] n = (bytesOf z0 n).toArray := by
  apply Array.ext_getElem?
  intro i
  by_cases h : i < n
  · simp [madeCells, h, Nat.mod_one, bytesOf, z0]
  · simp [madeCells, h, bytesOf]
theorem make_bytes (n : Nat) (w : World) (hn : n ≤ 1000000) :
    (Instr.makeSlice 100 (.int .i64 (n : Int)) (.int .i64 (n : Int))).run Try.prog w = .ok (.slice (some ⟨w.heap.size, 0, none⟩) n n) (w.alloc (.cells (bytesOf z0 n).toArray 5)) := by
  obtain ⟨i0, hi, hz0, hz1, hz2⟩ := info_u8
  have := run_make (P := Try.prog) w 100 5 i0 (.int .u8 0) Try.underlying100 hi hz0 .i64 .i64 n n (by omega) (by omega) (by rw [hz2]; omega) (by omega)
  rw [hz1, Nat.mul_one] at this
  rw [← made_bytes]
  exact this
theorem make_page (w : World) : (Instr.makeSlice 100 (.int .i64 4096) (.int .i64 4096)).run Try.prog w = .ok (.slice (some ⟨w.heap.size, 0, none⟩) 4096 4096) (w.alloc (.cells (bytesOf z0 4096).toArray 5)) := make_bytes 4096 w (by omega)
theorem RB.made (w : World) (n : Nat) : RB (w.alloc (.cells (bytesOf z0 n).toArray 5)) w.heap.size n z0 := heap_alloc_new w _

/-- copy(l, page[:]). -/
theorem copy_out {w : World} {b n : Nat} {f : Nat → Nat} (rb : RB w b n f) (dc cap c o : Nat) (h : Nat → Nat) (H : Cells w c o n h) (ty : TypeId) :
    (Builtin.copy_ #[100, 100] ty #[.slice (some ⟨b, 0, none⟩) n dc, .slice (some ⟨c, o, none⟩) n cap]).run Try.prog w = .ok (goInt n) (w.setRow b (bytesOf h n).toArray) := by
  have := run_copy_row Try.prog w 100 100 ty 5 b 0 n dc ⟨c, o, none⟩ n cap _ _ (bytesOf h n) Try.underlying100 (by kernel_rfl) rb (by rw [bytesOf_len]; exact (Nat.min_self n).symm) H.news (by simp [bytesOf_len]) (bytesOf_one h n)
  rw [bytesOf_len, List.toList_toArray, bytesOf_lay f h n 0 n (by omega)] at this
  rw [this, bytesOf_like (f := h) (f' := layF f 0 n h) (fun i hi => by unfold layF; rw [if_pos (by omega), Nat.sub_zero])]

set_option maxHeartbeats 1000000 in
theorem pget_ok {w : World} {S : Nat → Prop} {p N ops : Nat} {F : Nat → Nat → Nat} (h : PM w S p N ops F) (x : Nat) (hx : x < N) :
    Calls Try.prog 40 #[.pointer (some ⟨p, 0, none⟩), .int .i64 (x : Int)] w fun e w' => e = .returned (.tuple #[.slice (some ⟨w.heap.size, 0, none⟩) 4096 4096, .int .i64 0]) ∧ RB w' w.heap.size 4096 (F x) ∧ Kp w w' := by
  obtain ⟨bm, g, h⟩ := h
  have k1 := phas_cell p N x w h.c0
  rw [(hasF_iff N x).2 (by omega)] at k1
  have hmk := make_page w
  have kA : Kp w (w.alloc (.cells (bytesOf z0 4096).toArray 5)) := (Kp.refl w).alloc _
  have rb := RB.made w 4096
  have hA := h.fr (kA.fr (fun _ => False)) (fun _ _ => id)
  have c2 := hA.c2
  have hl := hA.map.look (x : Int) (wf_nat (by have := h.n2; omega))
  cases eg : g (x : Int) with
  | none =>
    simp only [at_, eg, Option.map_none, Option.isSome_none] at hl
    have E : Hid (RB (w.alloc (.cells (bytesOf z0 4096).toArray 5)) w.heap.size 4096 (F x) ∧ Kp w (w.alloc (.cells (bytesOf z0 4096).toArray 5))) := ⟨rb.like (fun i hi => by rw [h.none x eg i hi]; rfl), kA⟩
    clear h hA rb kA hx eg
    generalize (bytesOf z0 4096).toArray = A at *
    go_enter Try.func40, Try.ntmps40
    go_wp2_with (go_at_call 68; with_reducible refine k1.mono ?_; rintro e w' ⟨rfl, rfl⟩)
    go_ret2
    exact ⟨rfl, E.out⟩
  | some b =>
    simp only [at_, eg, Option.map_some, Option.isSome_some] at hl
    have pg := (hA.page _ b eg).2.2.2
    rw [show ((x : Int)).toNat = x from rfl] at pg
    have cpy := copy_out rb 4096 4096 b 0 (F x) (pg.bs (h.byte x)).cells
    have sl := slice_all (w.alloc (.cells (bytesOf z0 4096).toArray 5)) b
    have E : Hid (RB ((w.alloc (.cells (bytesOf z0 4096).toArray 5)).setRow w.heap.size (bytesOf (F x) 4096).toArray) w.heap.size 4096 (F x) ∧ Kp w ((w.alloc (.cells (bytesOf z0 4096).toArray 5)).setRow w.heap.size (bytesOf (F x) 4096).toArray)) :=
      ⟨setRow_heap _ _ _ _ _ _ rb, ⟨rfl, rfl, rfl, by simp [World.setRow], fun k hk => (setRow_other _ _ k _ (by omega)).trans (kA.block k hk)⟩⟩
    clear h hA rb kA hx eg pg
    generalize (bytesOf z0 4096).toArray = A at *
    generalize (w.alloc (.cells A 5)).setRow w.heap.size (bytesOf (F x) 4096).toArray = w2 at *
    go_enter Try.func40, Try.ntmps40
    go_wp2_with (first | (go_at_call 68; with_reducible refine k1.mono ?_; rintro e w' ⟨rfl, rfl⟩) | (refine wpList_copy_of cpy _ _ rfl rfl rfl rfl ?_))
    go_ret2
    exact ⟨rfl, E.out⟩

/-! ### Same -/
section
variable {P : Program} {ops : Array Oper} {C : World → Prop} {Q : Act → Prop} {a : Act} {o : Oper} {rest : List Oper}
theorem wpQuiet_load_of {v va : Value} (t : TypeId) (hr : ∀ w, C w → (Instr.loadAt t va).run P w = .ok v w) (x : Operand) (hg : o.guard = none) (ho : o.op = .load t x) (hx : a.eval x = va) (h : wpQuiet P ops C Q rest (a.put o.dst v)) : wpQuiet P ops C Q (o :: rest) a := by
  refine wpQuiet_step fun K hK => ?_
  rw [if_pos (by simp [Region.wanted, hg])]
  refine ⟨v, fun w hw => ?_, hK _ h⟩
  unfold Oper.quietAt execOp
  simp only [ho, hx, Sem.run_bind, hr w hw, Result.andThen_ok, Sem.run_pure]
  exact ⟨rfl, rfl⟩
theorem wpQuiet_eql_of {v vx vy : Value} (t : TypeId) (hr : ∀ w, (binOp .eql t vx vy).run P w = .ok v w) (x y : Operand) (ty : TypeId) (hg : o.guard = none) (ho : o.op = .binOp .eql t x y ty) (hx : a.eval x = vx) (hy : a.eval y = vy) (hq : ∀ w, (eqGuard .eql t x y vx vy).run P w = .ok () w)
    (h : wpQuiet P ops C Q rest (a.put o.dst v)) : wpQuiet P ops C Q (o :: rest) a := by
  refine wpQuiet_step fun K hK => ?_
  rw [if_pos (by simp [Region.wanted, hg])]
  refine ⟨v, fun w _ => ?_, hK _ h⟩
  unfold Oper.quietAt execOp
  simp only [ho, hx, hy, Sem.run_bind, hq w, hr w, Result.andThen_ok, Sem.run_pure]
  exact ⟨rfl, rfl⟩
end

/-- Both frames are there, and alike. -/
def sameF (N : Nat) (F : Nat → Nat → Nat) (x y : Int) : Bool := hasF N x && hasF N y && alike (F x.toNat) (F y.toNat) 4096

end Go.Proofs.Ytclcickhgoiooaa
