/- Joined: P2, P3. -/
import Derived.Test.YtpjlmmiceiionaaDoorP1
/- A machine's memory, as it lies: phys.Mem. -/
namespace Go.Proofs.YtpjlmmiceiionaaDoor
open Go.RowKit Go.Maps
set_option maxRecDepth 10000

/-- Block b is a page with the bytes f. -/
def PG (w : World) (b : Nat) (f : Nat → Nat) : Prop := w.heap[b]? = some (.cells (bytesOf f 4096).toArray 88 (0, 0))
theorem PG.lt {w : World} {b : Nat} {f : Nat → Nat} (h : PG w b f) : b < w.heap.size := (Array.getElem?_eq_some_iff.1 h).1
theorem PG.bs {w : World} {b : Nat} {f : Nat → Nat} (h : PG w b f) (hb : Bytes f) : BS w b 0 4096 f :=
  ⟨h.lt, fun i hi => by rw [Nat.zero_add, cell_of_row w b i _ _ _ h]; simpa using bytesOf_get f 4096 i hi, fun i _ => frozen_of_row w b _ _ _ h, hb⟩
theorem PG.fr {w w' : World} {b : Nat} {f : Nat → Nat} (h : PG w b f) {S : Nat → Prop} (k : Fr S w w') (hS : ¬ S b) : PG w' b f := (k.block b h.lt hS).trans h
theorem PG.made (w : World) : PG (w.alloc (.cells (bytesOf z0 4096).toArray 88)) w.heap.size z0 := heap_alloc_new w _

/-- The memory whose struct is block p: N frames, so many ops, the frames' bytes F; all that is its own lies in S. -/
structure PMat (w : World) (S : Nat → Prop) (p bm : Nat) (g : Int → Option Nat) (N ops : Nat) (F : Nat → Nat → Nat) : Prop where
  own : ∀ k, S k → k < w.heap.size
  sp : S p
  sm : S bm
  ne : bm ≠ p
  row : w.heap[p]? = some (.cells #[.int .i64 (N : Nat), .int .i64 (ops : Nat), .map (some bm)] 86 (0, 0))
  map : MP w bm N g
  page : ∀ x b, g x = some b → S b ∧ b ≠ p ∧ b ≠ bm ∧ PG w b (F x.toNat)
  inj : ∀ x y b, g x = some b → g y = some b → x = y
  none : ∀ x : Nat, g x = none → ∀ i, i < 4096 → F x i = 0
  some : ∀ x b, g x = some b → ∃ i, i < 4096 ∧ F x.toNat i ≠ 0
  n1 : 1 ≤ N
  n2 : N ≤ 1048576
  byte : ∀ x, Bytes (F x)
def PM (w : World) (S : Nat → Prop) (p N ops : Nat) (F : Nat → Nat → Nat) : Prop := ∃ bm g, PMat w S p bm g N ops F

theorem PMat.fr {w w' : World} {S T : Nat → Prop} {p bm : Nat} {g : Int → Option Nat} {N ops : Nat} {F : Nat → Nat → Nat} (h : PMat w S p bm g N ops F) (k : Fr T w w') (hT : ∀ i, S i → ¬ T i) : PMat w' S p bm g N ops F :=
  ⟨fun i hi => Nat.lt_of_lt_of_le (h.own i hi) k.size, h.sp, h.sm, h.ne, (k.block p (h.own p h.sp) (hT p h.sp)).trans h.row, h.map.fr k (hT bm h.sm),
   fun x b hx => by obtain ⟨h1, h2, h3, h4⟩ := h.page x b hx; exact ⟨h1, h2, h3, h4.fr k (hT b h1)⟩, h.inj, h.none, h.some, h.n1, h.n2, h.byte⟩
theorem PM.fr {w w' : World} {S T : Nat → Prop} {p : Nat} {N ops : Nat} {F : Nat → Nat → Nat} (h : PM w S p N ops F) (k : Fr T w w') (hT : ∀ i, S i → ¬ T i) : PM w' S p N ops F := by
  obtain ⟨bm, g, h⟩ := h
  exact ⟨bm, g, h.fr k hT⟩
theorem PM.kp {w w' : World} {S : Nat → Prop} {p : Nat} {N ops : Nat} {F : Nat → Nat → Nat} (h : PM w S p N ops F) (k : Kp w w') : PM w' S p N ops F := h.fr (k.fr (fun _ => False)) (fun _ _ => id)
theorem PM.own {w : World} {S : Nat → Prop} {p : Nat} {N ops : Nat} {F : Nat → Nat → Nat} (h : PM w S p N ops F) : ∀ i, S i → i < w.heap.size := by
  obtain ⟨bm, g, h⟩ := h
  exact h.own

section
variable {w : World} {S : Nat → Prop} {p bm : Nat} {g : Int → Option Nat} {N ops : Nat} {F : Nat → Nat → Nat}
theorem PMat.c0 (h : PMat w S p bm g N ops F) : w.cell? ⟨p, 0, .none⟩ = .some (.int .i64 (N : Nat)) := by rw [cell_of_row w p 0 _ _ _ h.row]; rfl
theorem PMat.c1 (h : PMat w S p bm g N ops F) : w.cell? ⟨p, 1, .none⟩ = .some (.int .i64 (ops : Nat)) := by rw [cell_of_row w p 1 _ _ _ h.row]; rfl
theorem PMat.c2 (h : PMat w S p bm g N ops F) : w.cell? ⟨p, 2, .none⟩ = .some (.map (.some bm)) := by rw [cell_of_row w p 2 _ _ _ h.row]; rfl
theorem PMat.f1 (h : PMat w S p bm g N ops F) : w.frozen? ⟨p, 1, .none⟩ = false := frozen_of_row w p 1 _ _ h.row
end

/-! ### New -/
set_option maxHeartbeats 1000000 in
theorem new_ok (n : Nat) (w : World) (h1 : 1 ≤ n) (h2 : n ≤ 1048576) :
    Calls Tryd.prog 24 #[.int .i64 (n : Int)] w fun e w' => ∃ p S, e = .returned (.tuple #[.pointer (some ⟨p, 0, none⟩), .int .i64 0]) ∧ PM w' S p n 0 (fun _ => z0) ∧ Kp w w' ∧ ∀ k, S k → w.heap.size ≤ k := by
  have z1 : (1 : Int) ≤ n := by omega
  have z2 : (n : Int) ≤ 1048576 := by omega
  have hmm := @run_makeMap Tryd.prog
  go_enter Tryd.func24, Tryd.ntmps24
  go_wp2
  go_ret2
  have k1 : Kp w (w.alloc (.map #[] 0)) := (Kp.refl w).alloc _
  have e1 : (w.alloc (.map #[] 0)).heap.size = w.heap.size + 1 := by simp
  have k2 : Kp (w.alloc (.map #[] 0)) ((w.alloc (.map #[] 0)).alloc (.cells #[.int .i64 (n : Int), .int .i64 0, .map (some w.heap.size)] 86)) := (Kp.refl _).alloc _
  have e2 := heap_alloc_new (w.alloc (.map #[] 0)) (.cells #[.int .i64 (n : Int), .int .i64 0, .map (some w.heap.size)] 86)
  rw [e1] at e2
  refine ⟨w.heap.size + 1, fun k => w.heap.size ≤ k ∧ k < w.heap.size + 2, rfl, ⟨w.heap.size, fun _ => none, ⟨fun k hk => ?_, ⟨by omega, by omega⟩, ⟨by omega, by omega⟩, by omega, e2, (MP.made w n).fr (k2.fr (fun _ => False)) id, fun _ _ h => (by cases h), fun _ _ _ h => (by cases h), fun _ _ _ _ => rfl, fun _ _ h => (by cases h), h1, h2, fun _ => z0_byte⟩⟩, k1.trans k2, fun k hk => hk.1⟩
  have : ((w.alloc (.map #[] 0)).alloc (.cells #[.int .i64 (n : Int), .int .i64 0, .map (some w.heap.size)] 86)).heap.size = w.heap.size + 2 := by simp
  omega

theorem new_no (n : Int) (w : World) (h : n < 1 ∨ 1048576 < n) :
    Calls Tryd.prog 24 #[.int .i64 n] w fun e w' => e = .returned (.tuple #[.pointer none, .int .i64 1]) ∧ w' = w := by
  rcases h with h | h
  · go_enter Tryd.func24, Tryd.ntmps24
    go_wp2
    go_ret2
    exact ⟨rfl, rfl⟩
  · have h' : ¬ n < 1 := by omega
    go_enter Tryd.func24, Tryd.ntmps24
    go_wp2
    go_ret2
    exact ⟨rfl, rfl⟩

/-! ### check, place -/
def chkP (N addr : Nat) (size : Int) : Int := if size ≠ 1 ∧ size ≠ 2 ∧ size ≠ 4 ∧ size ≠ 8 then 1 else if addr % size.toNat ≠ 0 then 3 else if N ≤ addr / 4096 then 2 else 0

set_option maxHeartbeats 1000000 in
set_option maxRecDepth 10000 in
theorem pcheck_1 (p N addr : Nat) (w : World) (c0 : w.cell? ⟨p, 0, none⟩ = some (.int .i64 (N : Nat))) (hN : N ≤ 1048576) (ha : addr < 18446744073709551616) :
    Calls Tryd.prog 33 #[.pointer (some ⟨p, 0, none⟩), .int .u64 (addr : Int), .int .i64 1] w fun e w' => e = .returned (.int .i64 (chkP N addr 1)) ∧ w' = w := by
  have z1 : (N : Int) ≤ 1048576 := by omega
  have z2 : (addr : Int) / 4096 < 4503599627370496 := by omega
  clear ha
  have e0 : chkP N addr 1 = if addr % 1 ≠ 0 then 3 else if N ≤ addr / 4096 then 2 else 0 := by unfold chkP; rw [if_neg (by omega)]; rfl
  by_cases c1 : addr % 1 = 0
  · have y1 : (addr : Int) % 1 = 0 := by omega
    by_cases c2 : N ≤ addr / 4096
    · have y2 : (N : Int) ≤ (addr : Int) / 4096 := by omega
      have hr : chkP N addr 1 = 2 := by rw [e0, if_neg (by omega), if_pos c2]
      clear e0 c1 c2
      go_enter Tryd.func33, Tryd.ntmps33
      go_wp2
      go_ret
      exact ⟨by first | (rw [hr]; rfl) | rfl, rfl⟩
    · have y2 : ¬ (N : Int) ≤ (addr : Int) / 4096 := by omega
      have hr : chkP N addr 1 = 0 := by rw [e0, if_neg (by omega), if_neg c2]
      clear e0 c1 c2
      go_enter Tryd.func33, Tryd.ntmps33
      go_wp2
      go_ret
      exact ⟨by first | (rw [hr]; rfl) | rfl, rfl⟩
  · exact absurd (Nat.mod_one addr) c1

set_option maxHeartbeats 1000000 in
set_option maxRecDepth 10000 in
theorem pcheck_2 (p N addr : Nat) (w : World) (c0 : w.cell? ⟨p, 0, none⟩ = some (.int .i64 (N : Nat))) (hN : N ≤ 1048576) (ha : addr < 18446744073709551616) :
    Calls Tryd.prog 33 #[.pointer (some ⟨p, 0, none⟩), .int .u64 (addr : Int), .int .i64 2] w fun e w' => e = .returned (.int .i64 (chkP N addr 2)) ∧ w' = w := by
  have z1 : (N : Int) ≤ 1048576 := by omega
  have z2 : (addr : Int) / 4096 < 4503599627370496 := by omega
  clear ha
  have e0 : chkP N addr 2 = if addr % 2 ≠ 0 then 3 else if N ≤ addr / 4096 then 2 else 0 := by unfold chkP; rw [if_neg (by omega)]; rfl
  by_cases c1 : addr % 2 = 0
  · have y1 : (addr : Int) % 2 = 0 := by omega
    by_cases c2 : N ≤ addr / 4096
    · have y2 : (N : Int) ≤ (addr : Int) / 4096 := by omega
      have hr : chkP N addr 2 = 2 := by rw [e0, if_neg (by omega), if_pos c2]
      clear e0 c1 c2
      go_enter Tryd.func33, Tryd.ntmps33
      go_wp2
      go_ret
      exact ⟨by first | (rw [hr]; rfl) | rfl, rfl⟩
    · have y2 : ¬ (N : Int) ≤ (addr : Int) / 4096 := by omega
      have hr : chkP N addr 2 = 0 := by rw [e0, if_neg (by omega), if_neg c2]
      clear e0 c1 c2
      go_enter Tryd.func33, Tryd.ntmps33
      go_wp2
      go_ret
      exact ⟨by first | (rw [hr]; rfl) | rfl, rfl⟩
  · have y1 : ¬ (addr : Int) % 2 = 0 := by omega
    have hr : chkP N addr 2 = 3 := by rw [e0, if_pos (by omega)]
    clear e0 c1 z2
    go_enter Tryd.func33, Tryd.ntmps33
    go_wp2
    go_ret
    exact ⟨by first | (rw [hr]; rfl) | rfl, rfl⟩

set_option maxHeartbeats 1000000 in
set_option maxRecDepth 10000 in
theorem pcheck_4 (p N addr : Nat) (w : World) (c0 : w.cell? ⟨p, 0, none⟩ = some (.int .i64 (N : Nat))) (hN : N ≤ 1048576) (ha : addr < 18446744073709551616) :
    Calls Tryd.prog 33 #[.pointer (some ⟨p, 0, none⟩), .int .u64 (addr : Int), .int .i64 4] w fun e w' => e = .returned (.int .i64 (chkP N addr 4)) ∧ w' = w := by
  have z1 : (N : Int) ≤ 1048576 := by omega
  have z2 : (addr : Int) / 4096 < 4503599627370496 := by omega
  clear ha
  have e0 : chkP N addr 4 = if addr % 4 ≠ 0 then 3 else if N ≤ addr / 4096 then 2 else 0 := by unfold chkP; rw [if_neg (by omega)]; rfl
  by_cases c1 : addr % 4 = 0
  · have y1 : (addr : Int) % 4 = 0 := by omega
    by_cases c2 : N ≤ addr / 4096
    · have y2 : (N : Int) ≤ (addr : Int) / 4096 := by omega
      have hr : chkP N addr 4 = 2 := by rw [e0, if_neg (by omega), if_pos c2]
      clear e0 c1 c2
      go_enter Tryd.func33, Tryd.ntmps33
      go_wp2
      go_ret
      exact ⟨by first | (rw [hr]; rfl) | rfl, rfl⟩
    · have y2 : ¬ (N : Int) ≤ (addr : Int) / 4096 := by omega
      have hr : chkP N addr 4 = 0 := by rw [e0, if_neg (by omega), if_neg c2]
      clear e0 c1 c2
      go_enter Tryd.func33, Tryd.ntmps33
      go_wp2
      go_ret
      exact ⟨by first | (rw [hr]; rfl) | rfl, rfl⟩
  · have y1 : ¬ (addr : Int) % 4 = 0 := by omega
    have hr : chkP N addr 4 = 3 := by rw [e0, if_pos (by omega)]
    clear e0 c1 z2
    go_enter Tryd.func33, Tryd.ntmps33
    go_wp2
    go_ret
    exact ⟨by first | (rw [hr]; rfl) | rfl, rfl⟩

set_option maxHeartbeats 1000000 in
set_option maxRecDepth 10000 in
theorem pcheck_8 (p N addr : Nat) (w : World) (c0 : w.cell? ⟨p, 0, none⟩ = some (.int .i64 (N : Nat))) (hN : N ≤ 1048576) (ha : addr < 18446744073709551616) :
    Calls Tryd.prog 33 #[.pointer (some ⟨p, 0, none⟩), .int .u64 (addr : Int), .int .i64 8] w fun e w' => e = .returned (.int .i64 (chkP N addr 8)) ∧ w' = w := by
  have z1 : (N : Int) ≤ 1048576 := by omega
  have z2 : (addr : Int) / 4096 < 4503599627370496 := by omega
  clear ha
  have e0 : chkP N addr 8 = if addr % 8 ≠ 0 then 3 else if N ≤ addr / 4096 then 2 else 0 := by unfold chkP; rw [if_neg (by omega)]; rfl
  by_cases c1 : addr % 8 = 0
  · have y1 : (addr : Int) % 8 = 0 := by omega
    by_cases c2 : N ≤ addr / 4096
    · have y2 : (N : Int) ≤ (addr : Int) / 4096 := by omega
      have hr : chkP N addr 8 = 2 := by rw [e0, if_neg (by omega), if_pos c2]
      clear e0 c1 c2
      go_enter Tryd.func33, Tryd.ntmps33
      go_wp2
      go_ret
      exact ⟨by first | (rw [hr]; rfl) | rfl, rfl⟩
    · have y2 : ¬ (N : Int) ≤ (addr : Int) / 4096 := by omega
      have hr : chkP N addr 8 = 0 := by rw [e0, if_neg (by omega), if_neg c2]
      clear e0 c1 c2
      go_enter Tryd.func33, Tryd.ntmps33
      go_wp2
      go_ret
      exact ⟨by first | (rw [hr]; rfl) | rfl, rfl⟩
  · have y1 : ¬ (addr : Int) % 8 = 0 := by omega
    have hr : chkP N addr 8 = 3 := by rw [e0, if_pos (by omega)]
    clear e0 c1 z2
    go_enter Tryd.func33, Tryd.ntmps33
    go_wp2
    go_ret
    exact ⟨by first | (rw [hr]; rfl) | rfl, rfl⟩

set_option maxHeartbeats 1000000 in
set_option maxRecDepth 10000 in
theorem pcheck_any (p N addr : Nat) (size : Int) (w : World) (c0 : w.cell? ⟨p, 0, none⟩ = some (.int .i64 (N : Nat))) (hN : N ≤ 1048576) (ha : addr < 18446744073709551616) :
    Calls Tryd.prog 33 #[.pointer (some ⟨p, 0, none⟩), .int .u64 (addr : Int), .int .i64 size] w fun e w' => e = .returned (.int .i64 (chkP N addr size)) ∧ w' = w := by
  by_cases c1 : size = 1
  · subst c1; exact pcheck_1 p N addr w c0 hN ha
  by_cases c2 : size = 2
  · subst c2; exact pcheck_2 p N addr w c0 hN ha
  by_cases c4 : size = 4
  · subst c4; exact pcheck_4 p N addr w c0 hN ha
  by_cases c8 : size = 8
  · subst c8; exact pcheck_8 p N addr w c0 hN ha
  rw [show chkP N addr size = 1 from if_pos ⟨c1, c2, c4, c8⟩]
  go_enter Tryd.func33, Tryd.ntmps33
  go_wp2
  go_ret
  exact ⟨rfl, rfl⟩

theorem place_any (addr : Nat) (w : World) (ha : addr < 18446744073709551616) :
    Calls Tryd.prog 34 #[.int .u64 (addr : Int)] w fun e w' => e = .returned (.tuple #[.int .i64 ((addr / 4096 : Nat) : Int), .int .i64 ((addr % 4096 : Nat) : Int)]) ∧ w' = w := by
  have z2 : (addr : Int) < 18446744073709551616 := by omega
  go_enter Tryd.func34, Tryd.ntmps34
  go_wp2
  go_ret2
  exact ⟨by simp, rfl⟩

end Go.Proofs.YtpjlmmiceiionaaDoor

/- phys.Mem: what only reads: Ops, Frames, has, Clear, Read. -/
namespace Go.Proofs.YtpjlmmiceiionaaDoor
open Go.RowKit Go.Maps
theorem pframes_any {w : World} {S : Nat → Prop} {p N ops : Nat} {F : Nat → Nat → Nat} (h : PM w S p N ops F) :
    Calls Tryd.prog 26 #[.pointer (some ⟨p, 0, none⟩)] w fun e w' => e = .returned (.int .i64 (N : Nat)) ∧ w' = w := by
  obtain ⟨bm, g, h⟩ := h
  have c0 := h.c0
  clear h
  go_enter Tryd.func26, Tryd.ntmps26
  go_wp2
  go_ret
  exact ⟨rfl, rfl⟩

/-- There is such a frame. -/
def hasF (N : Nat) (x : Int) : Bool := decide (0 ≤ x ∧ x < (N : Int))
theorem phas_cell (p N : Nat) (x : Int) (w : World) (c0 : w.cell? ⟨p, 0, none⟩ = some (.int .i64 (N : Nat))) :
    Calls Tryd.prog 37 #[.pointer (some ⟨p, 0, none⟩), .int .i64 x] w fun e w' => e = .returned (.bool (hasF N x)) ∧ w' = w := by
  unfold hasF
  by_cases e1 : 0 ≤ x
  · by_cases e2 : x < (N : Int)
    · rw [decide_eq_true ⟨e1, e2⟩]
      go_enter Tryd.func37, Tryd.ntmps37
      go_wp2
      go_ret
      exact ⟨rfl, rfl⟩
    · rw [decide_eq_false (by omega)]
      go_enter Tryd.func37, Tryd.ntmps37
      go_wp2
      go_ret
      exact ⟨rfl, rfl⟩
  · rw [decide_eq_false (by omega)]
    go_enter Tryd.func37, Tryd.ntmps37
    go_wp2
    go_ret
    exact ⟨rfl, rfl⟩
theorem hasF_iff (N : Nat) (x : Int) : hasF N x = true ↔ 0 ≤ x ∧ x < (N : Int) := by unfold hasF; simp

/-- All the frame's bytes are 0. -/
def clearF (N : Nat) (F : Nat → Nat → Nat) (x : Int) : Bool := hasF N x && alike (F x.toNat) z0 4096
theorem clearF_of {w : World} {S : Nat → Prop} {p bm : Nat} {g : Int → Option Nat} {N ops : Nat} {F : Nat → Nat → Nat} (h : PMat w S p bm g N ops F) (x : Int) : clearF N F x = (hasF N x && !(g x).isSome) := by
  unfold clearF
  cases e : hasF N x
  · rfl
  · have := (hasF_iff N x).1 e
    have ex : ((x.toNat : Nat) : Int) = x := by omega
    cases eg : g x with
    | none =>
      rw [alike_of (g := z0) (fun i hi => h.none x.toNat (by rw [ex]; exact eg) i hi)]; rfl
    | some b =>
      obtain ⟨i, hi, hn⟩ := h.some x b eg
      rw [alike_not hi (g := z0) hn]; rfl

/-! ### Read -/
theorem numb_like (f g : Nat → Nat) (p q : Nat) : ∀ k, (∀ i, i < k → f (p + i) = g (q + i)) → numb f p k = numb g q k
  | 0, _ => rfl
  | k + 1, h => by unfold numb; rw [numb_like f g p q k (fun i hi => h i (by omega)), h k (by omega)]
theorem numb_zero (p : Nat) : ∀ k, numb z0 p k = 0
  | 0 => rfl
  | k + 1 => by unfold numb; rw [numb_zero p k]; simp [z0]

def Size (s : Nat) : Prop := s = 1 ∨ s = 2 ∨ s = 4 ∨ s = 8
theorem chkP_zero {N addr : Nat} {s : Nat} (h : chkP N addr s = 0) : Size s ∧ addr % s = 0 ∧ addr / 4096 < N := by
  unfold chkP at h
  by_cases c1 : (s : Int) ≠ 1 ∧ (s : Int) ≠ 2 ∧ (s : Int) ≠ 4 ∧ (s : Int) ≠ 8
  · rw [if_pos c1] at h; omega
  · rw [if_neg c1] at h
    by_cases c2 : addr % (s : Int).toNat ≠ 0
    · rw [if_pos c2] at h; omega
    · rw [if_neg c2] at h
      by_cases c3 : N ≤ addr / 4096
      · rw [if_pos c3] at h; omega
      · have e : (s : Int).toNat = s := by omega
        rw [e] at c2
        refine ⟨?_, by omega, by omega⟩
        unfold Size
        omega
theorem place_fit {addr s : Nat} (hs : Size s) (h : addr % s = 0) : addr % 4096 % s = 0 ∧ addr % 4096 + s ≤ 4096 := by
  rcases hs with rfl | rfl | rfl | rfl <;> omega
theorem chk_page {q s : Nat} (hs : Size s) (h1 : q % s = 0) (h2 : q + s ≤ 4096) : chk ((4096 : Nat) : Int) q s = 0 := by
  rcases hs with rfl | rfl | rfl | rfl <;> (rw [chk_of (by omega), if_neg (by simp only [ne_eq, Decidable.not_not]; rw [Int.tmod_eq_emod_of_nonneg (by omega)]; omega), if_neg (by omega)])

theorem PMat.tick {w : World} {S : Nat → Prop} {p bm : Nat} {g : Int → Option Nat} {N ops : Nat} {F : Nat → Nat → Nat} (h : PMat w S p bm g N ops F) : PMat (w.setCell ⟨p, 1, .none⟩ (.int .i64 ((ops : Int) + 1))) S p bm g N (ops + 1) F ∧ Fr S w (w.setCell ⟨p, 1, .none⟩ (.int .i64 ((ops : Int) + 1))) := by
  have k : Fr (· = p) w (w.setCell ⟨p, 1, .none⟩ (.int .i64 ((ops : Int) + 1))) := (Fr.refl _ w).set _ _ rfl
  refine ⟨⟨fun i hi => by rw [World.size_setCell]; exact h.own i hi, h.sp, h.sm, h.ne, ?_, h.map.fr k h.ne, fun x b hx => ?_, h.inj, h.none, h.some, h.n1, h.n2, h.byte⟩, k.mono (fun i _ hi => by rw [hi]; exact h.sp)⟩
  · rw [heap_setCell_same w p 1 _ _ _ h.row]
    simp
  · obtain ⟨h1, h2, h3, h4⟩ := h.page x b hx
    exact ⟨h1, h2, h3, h4.fr k h2⟩

end Go.Proofs.YtpjlmmiceiionaaDoor
