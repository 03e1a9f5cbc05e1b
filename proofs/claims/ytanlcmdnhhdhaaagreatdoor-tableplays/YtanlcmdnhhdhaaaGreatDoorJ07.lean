/- Joined: P2, P3, P4. -/
import Derived.Test.YtanlcmdnhhdhaaaGreatDoorJ06
/- A machine's memory, as it lies: phys.Mem. -/
namespace Go.Proofs.YtanlcmdnhhdhaaaGreatDoor
open Go.RowKit Go.Maps
set_option maxRecDepth 10000

/-- Block b is a page with the bytes f. -/
def PG (w : World) (b : Nat) (f : Nat → Nat) : Prop := w.heap[b]? = some (.cells (bytesOf f 4096).toArray 183 (0, 0))
theorem PG.lt {w : World} {b : Nat} {f : Nat → Nat} (h : PG w b f) : b < w.heap.size := (Array.getElem?_eq_some_iff.1 h).1
theorem PG.bs {w : World} {b : Nat} {f : Nat → Nat} (h : PG w b f) (hb : Bytes f) : BS w b 0 4096 f :=
  ⟨h.lt, fun i hi => by rw [Nat.zero_add, cell_of_row w b i _ _ _ h]; simpa using bytesOf_get f 4096 i hi, fun i _ => frozen_of_row w b _ _ _ h, hb⟩
theorem PG.fr {w w' : World} {b : Nat} {f : Nat → Nat} (h : PG w b f) {S : Nat → Prop} (k : Fr S w w') (hS : ¬ S b) : PG w' b f := (k.block b h.lt hS).trans h
theorem PG.made (w : World) : PG (w.alloc (.cells (bytesOf z0 4096).toArray 183)) w.heap.size z0 := heap_alloc_new w _

/-- The memory whose struct is block p: N frames, so many ops, the frames' bytes F; all that is its own lies in S. -/
structure PMat (w : World) (S : Nat → Prop) (p bm : Nat) (g : Int → Option Nat) (N ops : Nat) (F : Nat → Nat → Nat) : Prop where
  own : ∀ k, S k → k < w.heap.size
  sp : S p
  sm : S bm
  ne : bm ≠ p
  row : w.heap[p]? = some (.cells #[.int .i64 (N : Nat), .int .i64 (ops : Nat), .map (some bm)] 110 (0, 0))
  map : MP w bm N g
  page : ∀ x b, g x = some b → S b ∧ b ≠ p ∧ b ≠ bm ∧ PG w b (F x.toNat)
  inj : ∀ x y b, g x = some b → g y = some b → x = y
  none : ∀ x : Nat, g x = none → ∀ i, i < 4096 → F x i = 0
  some : ∀ x b, g x = some b → ∃ i, i < 4096 ∧ F x.toNat i ≠ 0
  n1 : 1 ≤ N
  n2 : N ≤ 1048576
  byte : ∀ x, Bytes (F x)
def PM (w : World) (S : Nat → Prop) (p N ops : Nat) (F : Nat → Nat → Nat) : Prop := ∃ bm g, PMat w S p bm g N ops F

theorem PMat.fr {w w' : World} {S T : Nat → Prop} {p bm : Nat} {g : Int → Option Nat} {N ops : Nat} {F : Nat → Nat → Nat} (h : PMat w S p bm g N ops F) (k : Fr T w w') (hT : ∀ i, S i → ¬ T i) : PMat w' S p bm g N ops F :=
  ⟨fun i hi => Nat.lt_of_lt_of_le (h.own i hi) k.size, h.sp, h.sm, h.ne, (k.block p (h.own p h.sp) (hT p h.sp)).trans h.row, h.map.fr k (hT bm h.sm),
   fun x b hx => by obtain ⟨h1, h2, h3, h4⟩ := h.page x b hx; exact ⟨h1, h2, h3, h4.fr k (hT b h1)⟩, h.inj, h.none, h.some, h.n1, h.n2, h.byte⟩
theorem PM.fr {w w' : World} {S T : Nat → Prop} {p : Nat} {N ops : Nat} {F : Nat → Nat → Nat} (h : PM w S p N ops F) (k : Fr T w w') (hT : ∀ i, S i → ¬ T i) : PM w' S p N ops F := by
  obtain ⟨bm, g, h⟩ := h
  exact ⟨bm, g, h.fr k hT⟩
theorem PM.kp {w w' : World} {S : Nat → Prop} {p : Nat} {N ops : Nat} {F : Nat → Nat → Nat} (h : PM w S p N ops F) (k : Kp w w') : PM w' S p N ops F := h.fr (k.fr (fun _ => False)) (fun _ _ => id)
theorem PM.own {w : World} {S : Nat → Prop} {p : Nat} {N ops : Nat} {F : Nat → Nat → Nat} (h : PM w S p N ops F) : ∀ i, S i → i < w.heap.size := by
  obtain ⟨bm, g, h⟩ := h
  exact h.own

section
variable {w : World} {S : Nat → Prop} {p bm : Nat} {g : Int → Option Nat} {N ops : Nat} {F : Nat → Nat → Nat}
theorem PMat.c0 (h : PMat w S p bm g N ops F) : w.cell? ⟨p, 0, .none⟩ = .some (.int .i64 (N : Nat)) := by rw [cell_of_row w p 0 _ _ _ h.row]; rfl
theorem PMat.c1 (h : PMat w S p bm g N ops F) : w.cell? ⟨p, 1, .none⟩ = .some (.int .i64 (ops : Nat)) := by rw [cell_of_row w p 1 _ _ _ h.row]; rfl
theorem PMat.c2 (h : PMat w S p bm g N ops F) : w.cell? ⟨p, 2, .none⟩ = .some (.map (.some bm)) := by rw [cell_of_row w p 2 _ _ _ h.row]; rfl
theorem PMat.f1 (h : PMat w S p bm g N ops F) : w.frozen? ⟨p, 1, .none⟩ = false := frozen_of_row w p 1 _ _ h.row
end

/-! ### New -/
set_option maxHeartbeats 1000000 in
theorem new_ok (n : Nat) (w : World) (h1 : 1 ≤ n) (h2 : n ≤ 1048576) :
    Calls Tryz.prog 26 #[.int .i64 (n : Int)] w fun e w' => ∃ p S, e = .returned (.tuple #[.pointer (some ⟨p, 0, none⟩), .int .i64 0]) ∧ PM w' S p n 0 (fun _ => z0) ∧ Kp w w' ∧ ∀ k, S k → w.heap.size ≤ k := by
  have z1 : (1 : Int) ≤ n := by omega
  have z2 : (n : Int) ≤ 1048576 := by omega
  have hmm := @run_makeMap Tryz.prog
  go_enter Tryz.func26, Tryz.ntmps26
  go_wp2
  go_ret2
  have k1 : Kp w (w.alloc (.map #[] 0)) := (Kp.refl w).alloc _
  have e1 : (w.alloc (.map #[] 0)).heap.size = w.heap.size + 1 := by simp
  have k2 : Kp (w.alloc (.map #[] 0)) ((w.alloc (.map #[] 0)).alloc (.cells #[.int .i64 (n : Int), .int .i64 0, .map (some w.heap.size)] 110)) := (Kp.refl _).alloc _
  have e2 := heap_alloc_new (w.alloc (.map #[] 0)) (.cells #[.int .i64 (n : Int), .int .i64 0, .map (some w.heap.size)] 110)
  rw [e1] at e2
  refine ⟨w.heap.size + 1, fun k => w.heap.size ≤ k ∧ k < w.heap.size + 2, rfl, ⟨w.heap.size, fun _ => none, ⟨fun k hk => ?_, ⟨by omega, by omega⟩, ⟨by omega, by omega⟩, by omega, e2, (MP.made w n).fr (k2.fr (fun _ => False)) id, fun _ _ h => (by cases h), fun _ _ _ h => (by cases h), fun _ _ _ _ => rfl, fun _ _ h => (by cases h), h1, h2, fun _ => z0_byte⟩⟩, k1.trans k2, fun k hk => hk.1⟩
  have : ((w.alloc (.map #[] 0)).alloc (.cells #[.int .i64 (n : Int), .int .i64 0, .map (some w.heap.size)] 110)).heap.size = w.heap.size + 2 := by simp
  omega

theorem new_no (n : Int) (w : World) (h : n < 1 ∨ 1048576 < n) :
    Calls Tryz.prog 26 #[.int .i64 n] w fun e w' => e = .returned (.tuple #[.pointer none, .int .i64 1]) ∧ w' = w := by
  rcases h with h | h
  · go_enter Tryz.func26, Tryz.ntmps26
    go_wp2
    go_ret2
    exact ⟨rfl, rfl⟩
  · have h' : ¬ n < 1 := by omega
    go_enter Tryz.func26, Tryz.ntmps26
    go_wp2
    go_ret2
    exact ⟨rfl, rfl⟩

/-! ### check, place -/
def chkP (N addr : Nat) (size : Int) : Int := if size ≠ 1 ∧ size ≠ 2 ∧ size ≠ 4 ∧ size ≠ 8 then 1 else if addr % size.toNat ≠ 0 then 3 else if N ≤ addr / 4096 then 2 else 0

set_option maxHeartbeats 1000000 in
set_option maxRecDepth 10000 in
theorem pcheck_1 (p N addr : Nat) (w : World) (c0 : w.cell? ⟨p, 0, none⟩ = some (.int .i64 (N : Nat))) (hN : N ≤ 1048576) (ha : addr < 18446744073709551616) :
    Calls Tryz.prog 51 #[.pointer (some ⟨p, 0, none⟩), .int .u64 (addr : Int), .int .i64 1] w fun e w' => e = .returned (.int .i64 (chkP N addr 1)) ∧ w' = w := by
  have z1 : (N : Int) ≤ 1048576 := by omega
  have z2 : (addr : Int) / 4096 < 4503599627370496 := by omega
  clear ha
  have e0 : chkP N addr 1 = if addr % 1 ≠ 0 then 3 else if N ≤ addr / 4096 then 2 else 0 := by unfold chkP; rw [if_neg (by omega)]; rfl
  by_cases c1 : addr % 1 = 0
  · have y1 : (addr : Int) % 1 = 0 := by omega
    by_cases c2 : N ≤ addr / 4096
    · have y2 : (N : Int) ≤ (addr : Int) / 4096 := by omega
      have hr : chkP N addr 1 = 2 := by rw [e0, if_neg (by omega), if_pos c2]
      clear e0 c1 c2
      go_enter Tryz.func51, Tryz.ntmps51
      go_wp2
      go_ret
      exact ⟨by first | (rw [hr]; rfl) | rfl, rfl⟩
    · have y2 : ¬ (N : Int) ≤ (addr : Int) / 4096 := by omega
      have hr : chkP N addr 1 = 0 := by rw [e0, if_neg (by omega), if_neg c2]
      clear e0 c1 c2
      go_enter Tryz.func51, Tryz.ntmps51
      go_wp2
      go_ret
      exact ⟨by first | (rw [hr]; rfl) | rfl, rfl⟩
  · exact absurd (Nat.mod_one addr) c1

set_option maxHeartbeats 1000000 in
set_option maxRecDepth 10000 in
theorem pcheck_2 (p N addr : Nat) (w : World) (c0 : w.cell? ⟨p, 0, none⟩ = some (.int .i64 (N : Nat))) (hN : N ≤ 1048576) (ha : addr < 18446744073709551616) :
    Calls Tryz.prog 51 #[.pointer (some ⟨p, 0, none⟩), .int .u64 (addr : Int), .int .i64 2] w fun e w' => e = .returned (.int .i64 (chkP N addr 2)) ∧ w' = w := by
  have z1 : (N : Int) ≤ 1048576 := by omega
  have z2 : (addr : Int) / 4096 < 4503599627370496 := by omega
  clear ha
  have e0 : chkP N addr 2 = if addr % 2 ≠ 0 then 3 else if N ≤ addr / 4096 then 2 else 0 := by unfold chkP; rw [if_neg (by omega)]; rfl
  by_cases c1 : addr % 2 = 0
  · have y1 : (addr : Int) % 2 = 0 := by omega
    by_cases c2 : N ≤ addr / 4096
    · have y2 : (N : Int) ≤ (addr : Int) / 4096 := by omega
      have hr : chkP N addr 2 = 2 := by rw [e0, if_neg (by omega), if_pos c2]
      clear e0 c1 c2
      go_enter Tryz.func51, Tryz.ntmps51
      go_wp2
      go_ret
      exact ⟨by first | (rw [hr]; rfl) | rfl, rfl⟩
    · have y2 : ¬ (N : Int) ≤ (addr : Int) / 4096 := by omega
      have hr : chkP N addr 2 = 0 := by rw [e0, if_neg (by omega), if_neg c2]
      clear e0 c1 c2
      go_enter Tryz.func51, Tryz.ntmps51
      go_wp2
      go_ret
      exact ⟨by first | (rw [hr]; rfl) | rfl, rfl⟩
  · have y1 : ¬ (addr : Int) % 2 = 0 := by omega
    have hr : chkP N addr 2 = 3 := by rw [e0, if_pos (by omega)]
    clear e0 c1 z2
    go_enter Tryz.func51, Tryz.ntmps51
    go_wp2
    go_ret
    exact ⟨by first | (rw [hr]; rfl) | rfl, rfl⟩

set_option maxHeartbeats 1000000 in
set_option maxRecDepth 10000 in
theorem pcheck_4 (p N addr : Nat) (w : World) (c0 : w.cell? ⟨p, 0, none⟩ = some (.int .i64 (N : Nat))) (hN : N ≤ 1048576) (ha : addr < 18446744073709551616) :
    Calls Tryz.prog 51 #[.pointer (some ⟨p, 0, none⟩), .int .u64 (addr : Int), .int .i64 4] w fun e w' => e = .returned (.int .i64 (chkP N addr 4)) ∧ w' = w := by
  have z1 : (N : Int) ≤ 1048576 := by omega
  have z2 : (addr : Int) / 4096 < 4503599627370496 := by omega
  clear ha
  have e0 : chkP N addr 4 = if addr % 4 ≠ 0 then 3 else if N ≤ addr / 4096 then 2 else 0 := by unfold chkP; rw [if_neg (by omega)]; rfl
  by_cases c1 : addr % 4 = 0
  · have y1 : (addr : Int) % 4 = 0 := by omega
    by_cases c2 : N ≤ addr / 4096
    · have y2 : (N : Int) ≤ (addr : Int) / 4096 := by omega
      have hr : chkP N addr 4 = 2 := by rw [e0, if_neg (by omega), if_pos c2]
      clear e0 c1 c2
      go_enter Tryz.func51, Tryz.ntmps51
      go_wp2
      go_ret
      exact ⟨by first | (rw [hr]; rfl) | rfl, rfl⟩
    · have y2 : ¬ (N : Int) ≤ (addr : Int) / 4096 := by omega
      have hr : chkP N addr 4 = 0 := by rw [e0, if_neg (by omega), if_neg c2]
      clear e0 c1 c2
      go_enter Tryz.func51, Tryz.ntmps51
      go_wp2
      go_ret
      exact ⟨by first | (rw [hr]; rfl) | rfl, rfl⟩
  · have y1 : ¬ (addr : Int) % 4 = 0 := by omega
    have hr : chkP N addr 4 = 3 := by rw [e0, if_pos (by omega)]
    clear e0 c1 z2
    go_enter Tryz.func51, Tryz.ntmps51
    go_wp2
    go_ret
    exact ⟨by first | (rw [hr]; rfl) | rfl, rfl⟩

set_option maxHeartbeats 1000000 in
set_option maxRecDepth 10000 in
theorem pcheck_8 (p N addr : Nat) (w : World) (c0 : w.cell? ⟨p, 0, none⟩ = some (.int .i64 (N : Nat))) (hN : N ≤ 1048576) (ha : addr < 18446744073709551616) :
    Calls Tryz.prog 51 #[.pointer (some ⟨p, 0, none⟩), .int .u64 (addr : Int), .int .i64 8] w fun e w' => e = .returned (.int .i64 (chkP N addr 8)) ∧ w' = w := by
  have z1 : (N : Int) ≤ 1048576 := by omega
  have z2 : (addr : Int) / 4096 < 4503599627370496 := by omega
  clear ha
  have e0 : chkP N addr 8 = if addr % 8 ≠ 0 then 3 else if N ≤ addr / 4096 then 2 else 0 := by unfold chkP; rw [if_neg (by omega)]; rfl
  by_cases c1 : addr % 8 = 0
  · have y1 : (addr : Int) % 8 = 0 := by omega
    by_cases c2 : N ≤ addr / 4096
    · have y2 : (N : Int) ≤ (addr : Int) / 4096 := by omega
      have hr : chkP N addr 8 = 2 := by rw [e0, if_neg (by omega), if_pos c2]
      clear e0 c1 c2
      go_enter Tryz.func51, Tryz.ntmps51
      go_wp2
      go_ret
      exact ⟨by first | (rw [hr]; rfl) | rfl, rfl⟩
    · have y2 : ¬ (N : Int) ≤ (addr : Int) / 4096 := by omega
      have hr : chkP N addr 8 = 0 := by rw [e0, if_neg (by omega), if_neg c2]
      clear e0 c1 c2
      go_enter Tryz.func51, Tryz.ntmps51
      go_wp2
      go_ret
      exact ⟨by first | (rw [hr]; rfl) | rfl, rfl⟩
  · have y1 : ¬ (addr : Int) % 8 = 0 := by omega
    have hr : chkP N addr 8 = 3 := by rw [e0, if_pos (by omega)]
    clear e0 c1 z2
    go_enter Tryz.func51, Tryz.ntmps51
    go_wp2
    go_ret
    exact ⟨by first | (rw [hr]; rfl) | rfl, rfl⟩

set_option maxHeartbeats 1000000 in
set_option maxRecDepth 10000 in
theorem pcheck_any (p N addr : Nat) (size : Int) (w : World) (c0 : w.cell? ⟨p, 0, none⟩ = some (.int .i64 (N : Nat))) (hN : N ≤ 1048576) (ha : addr < 18446744073709551616) :
    Calls Tryz.prog 51 #[.pointer (some ⟨p, 0, none⟩), .int .u64 (addr : Int), .int .i64 size] w fun e w' => e = .returned (.int .i64 (chkP N addr size)) ∧ w' = w := by
  by_cases c1 : size = 1
  · subst c1; exact pcheck_1 p N addr w c0 hN ha
  by_cases c2 : size = 2
  · subst c2; exact pcheck_2 p N addr w c0 hN ha
  by_cases c4 : size = 4
  · subst c4; exact pcheck_4 p N addr w c0 hN ha
  by_cases c8 : size = 8
  · subst c8; exact pcheck_8 p N addr w c0 hN ha
  rw [show chkP N addr size = 1 from if_pos ⟨c1, c2, c4, c8⟩]
  go_enter Tryz.func51, Tryz.ntmps51
  go_wp2
  go_ret
  exact ⟨rfl, rfl⟩

theorem place_any (addr : Nat) (w : World) (ha : addr < 18446744073709551616) :
    Calls Tryz.prog 52 #[.int .u64 (addr : Int)] w fun e w' => e = .returned (.tuple #[.int .i64 ((addr / 4096 : Nat) : Int), .int .i64 ((addr % 4096 : Nat) : Int)]) ∧ w' = w := by
  have z2 : (addr : Int) < 18446744073709551616 := by omega
  go_enter Tryz.func52, Tryz.ntmps52
  go_wp2
  go_ret2
  exact ⟨by simp, rfl⟩

end Go.Proofs.YtanlcmdnhhdhaaaGreatDoor

/- phys.Mem: what only reads: Ops, Frames, has, Clear, Read. -/
namespace Go.Proofs.YtanlcmdnhhdhaaaGreatDoor
open Go.RowKit Go.Maps
theorem pframes_any {w : World} {S : Nat → Prop} {p N ops : Nat} {F : Nat → Nat → Nat} (h : PM w S p N ops F) :
    Calls Tryz.prog 68 #[.pointer (some ⟨p, 0, none⟩)] w fun e w' => e = .returned (.int .i64 (N : Nat)) ∧ w' = w := by
  obtain ⟨bm, g, h⟩ := h
  have c0 := h.c0
  clear h
  go_enter Tryz.func68, Tryz.ntmps68
  go_wp2
  go_ret
  exact ⟨rfl, rfl⟩

/-- There is such a frame. -/
def hasF (N : Nat) (x : Int) : Bool := decide (0 ≤ x ∧ x < (N : Int))
theorem phas_cell (p N : Nat) (x : Int) (w : World) (c0 : w.cell? ⟨p, 0, none⟩ = some (.int .i64 (N : Nat))) :
    Calls Tryz.prog 128 #[.pointer (some ⟨p, 0, none⟩), .int .i64 x] w fun e w' => e = .returned (.bool (hasF N x)) ∧ w' = w := by
  unfold hasF
  by_cases e1 : 0 ≤ x
  · by_cases e2 : x < (N : Int)
    · rw [decide_eq_true ⟨e1, e2⟩]
      go_enter Tryz.func128, Tryz.ntmps128
      go_wp2
      go_ret
      exact ⟨rfl, rfl⟩
    · rw [decide_eq_false (by omega)]
      go_enter Tryz.func128, Tryz.ntmps128
      go_wp2
      go_ret
      exact ⟨rfl, rfl⟩
  · rw [decide_eq_false (by omega)]
    go_enter Tryz.func128, Tryz.ntmps128
    go_wp2
    go_ret
    exact ⟨rfl, rfl⟩
theorem hasF_iff (N : Nat) (x : Int) : hasF N x = true ↔ 0 ≤ x ∧ x < (N : Int) := by unfold hasF; simp

/-- All the frame's bytes are 0. -/
def clearF (N : Nat) (F : Nat → Nat → Nat) (x : Int) : Bool := hasF N x && alike (F x.toNat) z0 4096
theorem clearF_of {w : World} {S : Nat → Prop} {p bm : Nat} {g : Int → Option Nat} {N ops : Nat} {F : Nat → Nat → Nat} (h : PMat w S p bm g N ops F) (x : Int) : clearF N F x = (hasF N x && !(g x).isSome) := by
  unfold clearF
  cases e : hasF N x
  · rfl
  · have := (hasF_iff N x).1 e
    have ex : ((x.toNat : Nat) : Int) = x := by omega
    cases eg : g x with
    | none =>
      rw [alike_of (g := z0) (fun i hi => h.none x.toNat (by rw [ex]; exact eg) i hi)]; rfl
    | some b =>
      obtain ⟨i, hi, hn⟩ := h.some x b eg
      rw [alike_not hi (g := z0) hn]; rfl

/-! ### Read -/
theorem numb_like (f g : Nat → Nat) (p q : Nat) : ∀ k, (∀ i, i < k → f (p + i) = g (q + i)) → numb f p k = numb g q k
  | 0, _ => rfl
  | k + 1, h => by unfold numb; rw [numb_like f g p q k (fun i hi => h i (by omega)), h k (by omega)]
theorem numb_zero (p : Nat) : ∀ k, numb z0 p k = 0
  | 0 => rfl
  | k + 1 => by unfold numb; rw [numb_zero p k]; simp [z0]

def Size (s : Nat) : Prop := s = 1 ∨ s = 2 ∨ s = 4 ∨ s = 8
theorem chkP_zero {N addr : Nat} {s : Nat} (h : chkP N addr s = 0) : Size s ∧ addr % s = 0 ∧ addr / 4096 < N := by
  unfold chkP at h
  by_cases c1 : (s : Int) ≠ 1 ∧ (s : Int) ≠ 2 ∧ (s : Int) ≠ 4 ∧ (s : Int) ≠ 8
  · rw [if_pos c1] at h; omega
  · rw [if_neg c1] at h
    by_cases c2 : addr % (s : Int).toNat ≠ 0
    · rw [if_pos c2] at h; omega
    · rw [if_neg c2] at h
      by_cases c3 : N ≤ addr / 4096
      · rw [if_pos c3] at h; omega
      · have e : (s : Int).toNat = s := by omega
        rw [e] at c2
        refine ⟨?_, by omega, by omega⟩
        unfold Size
        omega
theorem place_fit {addr s : Nat} (hs : Size s) (h : addr % s = 0) : addr % 4096 % s = 0 ∧ addr % 4096 + s ≤ 4096 := by
  rcases hs with rfl | rfl | rfl | rfl <;> omega
theorem chk_page {q s : Nat} (hs : Size s) (h1 : q % s = 0) (h2 : q + s ≤ 4096) : chk ((4096 : Nat) : Int) q s = 0 := by
  rcases hs with rfl | rfl | rfl | rfl <;> (rw [chk_of (by omega), if_neg (by simp only [ne_eq, Decidable.not_not]; rw [Int.tmod_eq_emod_of_nonneg (by omega)]; omega), if_neg (by omega)])

theorem PMat.tick {w : World} {S : Nat → Prop} {p bm : Nat} {g : Int → Option Nat} {N ops : Nat} {F : Nat → Nat → Nat} (h : PMat w S p bm g N ops F) : PMat (w.setCell ⟨p, 1, .none⟩ (.int .i64 ((ops : Int) + 1))) S p bm g N (ops + 1) F ∧ Fr S w (w.setCell ⟨p, 1, .none⟩ (.int .i64 ((ops : Int) + 1))) := by
  have k : Fr (· = p) w (w.setCell ⟨p, 1, .none⟩ (.int .i64 ((ops : Int) + 1))) := (Fr.refl _ w).set _ _ rfl
  refine ⟨⟨fun i hi => by rw [World.size_setCell]; exact h.own i hi, h.sp, h.sm, h.ne, ?_, h.map.fr k h.ne, fun x b hx => ?_, h.inj, h.none, h.some, h.n1, h.n2, h.byte⟩, k.mono (fun i _ hi => by rw [hi]; exact h.sp)⟩
  · rw [heap_setCell_same w p 1 _ _ _ h.row]
    simp
  · obtain ⟨h1, h2, h3, h4⟩ := h.page x b hx
    exact ⟨h1, h2, h3, h4.fr k h2⟩

set_option maxHeartbeats 1000000 in
theorem pread_no {w : World} {S : Nat → Prop} {p N ops : Nat} {F : Nat → Nat → Nat} (h : PM w S p N ops F) (addr : Nat) (s r : Int) (ha : addr < 18446744073709551616) (hc : chkP N addr s = r) (hr : r ≠ 0) :
    Calls Tryz.prog 17 #[.pointer (some ⟨p, 0, none⟩), .int .u64 (addr : Int), .int .i64 s] w fun e w' => e = .returned (.tuple #[.int .u64 0, .int .i64 r]) ∧ w' = w := by
  obtain ⟨bm, g, h⟩ := h
  have k1 := pcheck_any p N addr s w h.c0 h.n2 ha
  rw [hc] at k1
  have z : (r != 0) = true := by simp [hr]
  clear h hc ha
  go_enter Tryz.func17, Tryz.ntmps17
  go_wp2_with (go_at_call 51; with_reducible refine k1.mono ?_; rintro e w' ⟨rfl, rfl⟩)
  go_ret2
  exact ⟨rfl, rfl⟩

set_option maxHeartbeats 1000000 in
theorem pread_ok {w : World} {S : Nat → Prop} {p N ops : Nat} {F : Nat → Nat → Nat} (h : PM w S p N ops F) (addr s : Nat) (ha : addr < 18446744073709551616) (hc : chkP N addr s = 0) (ho : ops < 4611686018427387904) :
    Calls Tryz.prog 17 #[.pointer (some ⟨p, 0, none⟩), .int .u64 (addr : Int), .int .i64 (s : Int)] w fun e w' => e = .returned (.tuple #[.int .u64 (numb (F (addr / 4096)) (addr % 4096) s : Nat), .int .i64 0]) ∧ PM w' S p N (ops + 1) F ∧ Fr S w w' := by
  obtain ⟨bm, g, h⟩ := h
  have k1 := pcheck_any p N addr s w h.c0 h.n2 ha
  rw [hc] at k1
  have k2 := fun w => place_any addr w ha
  obtain ⟨hs, hm, hN⟩ := chkP_zero hc
  obtain ⟨q1, q2⟩ := place_fit hs hm
  have hn2 := h.n2
  have hk := chk_page hs q1 q2
  have c1 := h.c1
  have f1 := h.f1
  obtain ⟨h2, fr2⟩ := h.tick
  have c2 := h2.c2
  have hl := h2.map.look ((addr / 4096 : Nat) : Int) (WalkArith.wf_i64 (by omega))
  have z1 : (ops : Int) < 4611686018427387904 := by omega
  have H2 : Aside (PMat (w.setCell ⟨p, 1, none⟩ (.int .i64 ((ops : Int) + 1))) S p bm g N (ops + 1) F) := h2
  have FR : Aside (Fr S w (w.setCell ⟨p, 1, none⟩ (.int .i64 ((ops : Int) + 1)))) := fr2
  have hs8 : s ≤ 8 ∧ 1 ≤ s := by unfold Size at hs; omega
  clear h h2 fr2 hc ha hm hs
  cases eg : g ((addr / 4096 : Nat) : Int) with
  | none =>
    have hv : numb (F (addr / 4096)) (addr % 4096) s = 0 := by
      rw [numb_like (F (addr / 4096)) z0 (addr % 4096) (addr % 4096) s (fun i hi => H2.out.none (addr / 4096) eg _ (by omega)), numb_zero]
    rw [hv]
    simp only [at_, eg, Option.map_none, Option.isSome_none] at hl
    clear eg hv q1 q2 hk hN
    generalize addr / 4096 = fr at *
    generalize addr % 4096 = at0 at *
    go_enter Tryz.func17, Tryz.ntmps17
    go_wp2_with (first | (go_at_call 51; with_reducible refine k1.mono ?_; rintro e w' ⟨rfl, rfl⟩) | (go_at_call 52; with_reducible refine (k2 _).mono ?_; rintro e w' ⟨rfl, rfl⟩))
    go_ret2
    exact ⟨rfl, ⟨bm, g, H2.out⟩, FR.out⟩
  | some b =>
    have pg := (H2.out.page _ b eg).2.2.2
    have kg := fun w2 (e : w2 = (w.setCell ⟨p, 1, none⟩ (.int .i64 ((ops : Int) + 1)))) => get_some b 4096 4096 (addr % 4096) s (F (addr / 4096)) w2 (by rw [e]; exact pg.bs (H2.out.byte _)) (by omega) (by omega) hs8.1 hs8.2 q2 hk
    simp only [at_, eg, Option.map_some, Option.isSome_some] at hl
    clear eg q1 q2 hk hN pg
    generalize numb (F (addr / 4096)) (addr % 4096) s = v at *
    generalize addr / 4096 = fr at *
    generalize addr % 4096 = at0 at *
    go_enter Tryz.func17, Tryz.ntmps17
    go_wp2_with (first | (go_at_call 51; with_reducible refine k1.mono ?_; rintro e w' ⟨rfl, rfl⟩) | (go_at_call 52; with_reducible refine (k2 _).mono ?_; rintro e w' ⟨rfl, rfl⟩) | (go_at_call 53; with_reducible refine (kg _ rfl).mono ?_; rintro e w' ⟨rfl, rfl⟩))
    go_ret2
    exact ⟨rfl, ⟨bm, g, H2.out⟩, FR.out⟩

end Go.Proofs.YtanlcmdnhhdhaaaGreatDoor

/- phys.Mem: keep; Put of a piece of a page. -/
namespace Go.Proofs.YtanlcmdnhhdhaaaGreatDoor
open Go.RowKit Go.Maps
set_option maxRecDepth 10000

set_option maxHeartbeats 2000000 in
theorem clone_at (b o n cap : Nat) (f : Nat → Nat) (w : World) (H : BS w b o n f) (hn : n ≤ 1000000) :
    Calls Tryz.prog 146 #[.slice (some ⟨b, o, none⟩) n cap] w fun e w' => ∃ g cap', e = .returned (.slice (some ⟨g, 0, none⟩) n cap') ∧ OP w' w.heap.size g n cap' f ∧ Kp w w' := by
  obtain ⟨g, cap', W', h1, h2, h3⟩ := copy_any w b o n cap f H.lt H.cells H.byte hn
  have H2 : Hid _ := h2
  have H3 : Hid _ := h3
  clear H h2 h3
  have hq : (Tryz.prog.underlying 114) = some (.slice 5) := Tryz.underlying114
  have h0 : ∀ w, (binOp .eql 114 (.slice (some ⟨b, o, none⟩) n cap) (.slice none 0 0)).run Tryz.prog w = .ok (.bool false) w := fun w => by
    simp [binOp, run_equal_slice_nil w 114 5 _ n cap hq]
  go_enter Tryz.func146, Tryz.ntmps146
  repeat' (first | ((with_reducible refine wp_append_of h1 (.tmp 5) (.tmp 6) ?_ ?_ ?_ ?_ ?_); rfl; rfl; rfl; rfl) | go_values | go_skip | go_guarded | go_step | go_upon | go_back | (simp only []) | (go_values <;> (try go_simp)) | (go_ite <;> go_prune <;> (try go_simp)))
  go_ret
  exact ⟨g, cap', rfl, H2.out, H3.out⟩

set_option maxHeartbeats 2000000 in
set_option maxRecDepth 10000 in
theorem put_at (b o n cap p s v : Nat) (f : Nat → Nat) (w : World) (H : BS w b o n f) (hn : n ≤ 1000000) (hs : s ≤ 8) (hp : p + s ≤ n) (hv : v < 18446744073709551616) (hc : chk n p s = 0) :
    Calls Tryz.prog 131 #[.slice (some ⟨b, o, none⟩) n cap, .int .i64 (p : Int), .int .i64 (s : Int), .int .u64 (v : Int)] w fun e w' => ∃ g cap', e = .returned (.tuple #[.slice (some ⟨g, 0, none⟩) n cap', .int .i64 0]) ∧ OP w' w.heap.size g n cap' (putF f p s v) ∧ Kp w w' := by
  have c1 := fun w => check_any n p s w (by omega) (by omega) (by omega) (by omega)
  rw [hc] at c1
  have c2 := clone_at b o n cap f w H hn
  have z1 : (p : Int) + s ≤ n := by omega
  have z3 : (n : Int) ≤ 1000000 := by omega
  have z4 : (s : Int) ≤ 8 := by omega
  have z5 : (v : Int) < 18446744073709551616 := by omega
  clear H hc hv
  go_enter Tryz.func131, Tryz.ntmps131
  go_wp2_with (go_at_call 91; with_reducible refine (c1 _).mono ?_; rintro e w' ⟨rfl, rfl⟩)
  with_reducible refine c2.mono ?_
  rintro e w1 ⟨g, cap', rfl, O1, K1⟩
  have HO : Hid _ := O1
  have HK : Hid _ := K1
  clear O1 K1 c2
  go_wp2_with fail
  go_loopg [24] s (fun gg v24 wr => ∃ k : Nat, v24 = .int .i64 k ∧ k ≤ s ∧ s - k ≤ gg ∧ Aside (OP wr w'.heap.size g n cap' (putF f p k v)) ∧ Aside (Kp w' wr))
  case atStart => exact ⟨0, rfl, by omega, by omega, by rw [putF_zero]; exact HO.out, HK.out⟩
  case round =>
    clear HO HK
    obtain ⟨k, rfl, hk, hg, HO, HK⟩ := hrel
    by_cases hlt : k < s
    · have y1 : (k : Int) < s := by omega
      have c2 := HO.out.bs.cell (p + k) (by omega)
      have c3 := HO.out.bs.frz (p + k) (by omega)
      rw [Nat.zero_add] at c2 c3
      have q := shr_byte v k
      have O2 := HO.out.set (p + k) (v / 2 ^ (8 * k) % 256) (by omega)
      rw [putF_succ] at O2
      have K2 := HK.out.set ⟨g, p + k, none⟩ (.int .u8 ((v / 2 ^ (8 * k) % 256 : Nat) : Int)) HO.out.facts.1
      generalize v / 2 ^ (8 * k) % 256 = d at *
      have A2 : Aside _ := O2
      have B2 : Aside _ := K2
      clear O2 K2
      go_wp2
      go_roundg (s - (k + 1))
      case measure => omega
      case rel => exact ⟨k + 1, by go_num, by omega, by omega, A2, B2⟩
    · have e : k = s := by omega
      subst e
      go_wp2
      go_ret2
      exact ⟨g, cap', rfl, HO.out, HK.out⟩

theorem load_page {w : World} {b : Nat} {f : Nat → Nat} (h : PG w b f) : (Instr.loadAt 183 (.pointer (some ⟨b, 0, none⟩))).run Tryz.prog w = .ok (.agg (bytesOf f 4096).toArray) w := by
  have := run_loadVar_row (P := Tryz.prog) w b 183 183 _ _ _ h Tryz.underlying183 rfl (by rw [List.size_toArray, bytesOf_len]; kernel_rfl)
  simp only [Instr.loadAt, Instr.sureAddr, Sem.run_bind, Sem.run_pure, Result.andThen_ok, this]
theorem build_page (w : World) : (Instr.build 183 #[]).run Tryz.prog w = .ok (.agg (bytesOf z0 4096).toArray) w := by kernel_rfl
theorem alloc_page (w : World) (v : Value) : (Instr.alloc 183 true v).run Tryz.prog w = .ok (.pointer (some ⟨w.heap.size, 0, none⟩)) (w.alloc (.cells (bytesOf z0 4096).toArray 183)) := by
  unfold Instr.alloc
  rw [Sem.run_bind, zero_page]
  rfl

theorem eqGuard_page (x y : Operand) (A B : Array Value) (w : World) : (eqGuard .eql 183 x y (.agg A) (.agg B)).run Tryz.prog w = .ok () w := run_eqGuard_agg w .eql 183 x y A B (by kernel_rfl)

section
variable {P : Program} {w : World} {ops : Array Oper} {rest : List Oper} {o : Oper} {a : Act} {Q : Exit → Act → World → Prop}
theorem wpList_build_of {v : Value} (t : TypeId) (hr : (Instr.build t #[]).run P w = .ok v w) (hg : o.guard = none) (ho : o.op = .build t #[]) (h : wpList P ops Q rest (a.put o.dst v) w) : wpList P ops Q (o :: rest) a w := by
  refine wpList_plain hg fun K hK => ?_
  unfold Oper.wp execOp
  simp only [ho, List.map_toArray, List.map_nil, Sem.run_bind, hr, Result.andThen_ok, Sem.run_pure]
  exact hK _ _ h
theorem wpList_load_of {v va : Value} (t : TypeId) (hr : (Instr.loadAt t va).run P w = .ok v w) (x : Operand) (hg : o.guard = none) (ho : o.op = .load t x) (hx : a.eval x = va) (h : wpList P ops Q rest (a.put o.dst v) w) : wpList P ops Q (o :: rest) a w := by
  refine wpList_plain hg fun K hK => ?_
  unfold Oper.wp execOp
  simp only [ho, hx, Sem.run_bind, hr, Result.andThen_ok, Sem.run_pure]
  exact hK _ _ h
theorem wpList_eql_of {v vx vy : Value} (t : TypeId) (hr : (binOp .eql t vx vy).run P w = .ok v w) (x y : Operand) (ty : TypeId) (hg : o.guard = none) (ho : o.op = .binOp .eql t x y ty) (hx : a.eval x = vx) (hy : a.eval y = vy) (hq : (eqGuard .eql t x y vx vy).run P w = .ok () w)
    (h : wpList P ops Q rest (a.put o.dst v) w) : wpList P ops Q (o :: rest) a w := by
  refine wpList_plain hg fun K hK => ?_
  unfold Oper.wp execOp
  simp only [ho, hx, hy, Sem.run_bind, hq, hr, Result.andThen_ok, Sem.run_pure]
  exact hK _ _ h
theorem wpList_alloc_of {v : Value} {w' : World} (t : TypeId) (hr : (Instr.alloc t true (.tuple #[])).run P w = .ok v w') (hg : o.guard = none) (ho : o.op = .alloc t) (h : wpList P ops Q rest (a.put o.dst v) w') : wpList P ops Q (o :: rest) a w := by
  refine wpList_plain hg fun K hK => ?_
  unfold Oper.wp execOp
  simp only [ho, Sem.run_bind, hr, Result.andThen_ok, Sem.run_pure]
  exact hK _ _ h
theorem wpList_update_of {vm vk vx : Value} {w' : World} (t : TypeId) (hr : (Instr.mapUpdate t vm vk vx).run P w = .ok () w') (m k x : Operand) (hg : o.guard = none) (ho : o.op = .mapUpdate t m k x) (hm : a.eval m = vm) (hk : a.eval k = vk) (hx : a.eval x = vx) (h : wpList P ops Q rest (a.put o.dst undef) w') : wpList P ops Q (o :: rest) a w := by
  refine wpList_plain hg fun K hK => ?_
  unfold Oper.wp execOp
  simp only [ho, hm, hk, hx, Sem.run_bind, hr, Result.andThen_ok, Sem.run_pure]
  exact hK _ _ h
theorem wpList_copy_of {v v1 v2 : Value} {w' : World} {t1 t2 : TypeId} (hr : ∀ ty, (Builtin.copy_ #[t1, t2] ty #[v1, v2]).run P w = .ok v w') (x y : Operand)
    (hg : o.guard = none) (ho : o.op = .call { callee := .builtin .copy, args := #[x, y], argTypes := #[t1, t2] }) (hx : a.eval x = v1) (hy : a.eval y = v2) (h : wpList P ops Q rest (a.put o.dst v) w') : wpList P ops Q (o :: rest) a w := by
  refine wpList_plain hg fun K hK => ?_
  unfold Oper.wp
  simp [execOp, ho, resolve, invoke, builtin, hx, hy, hr, Result.andThen]
  exact hK _ _ h
end

set_option maxHeartbeats 1000000 in
theorem keep_low {w : World} {p bm b N : Nat} {g : Int → Option Nat} {f : Nat → Nat} (x : Nat) (c2 : w.cell? ⟨p, 2, none⟩ = some (.map (some bm))) (hm : MP w bm N g) (pg : PG w b f) (hx : x < N) (hN : N ≤ 1048576) :
    Calls Tryz.prog 132 #[.pointer (some ⟨p, 0, none⟩), .int .i64 (x : Int), .pointer (some ⟨b, 0, none⟩)] w fun e w' => e = .returned (.tuple #[]) ∧ MP w' bm N (if alike f z0 4096 then without g x else withp g x b) ∧ Fr (· = bm) w w' := by
  have l1 := load_page pg
  have l2 := build_page w
  have l3 := eql_pages f z0 w
  cases e : alike f z0 4096
  · rw [e] at l3
    obtain ⟨w2, r1, r2, r3⟩ := hm.store (x : Int) b (WalkArith.wf_i64 (by omega)) (by omega) (by omega) (by unfold maxLen; omega)
    have R2 : Hid (MP w2 bm N (withp g x b)) := r2
    have R3 : Hid (Fr (· = bm) w w2) := r3
    clear hm pg r2 r3
    generalize (bytesOf f 4096).toArray = A at *
    generalize (bytesOf z0 4096).toArray = B at *
    go_enter Tryz.func132, Tryz.ntmps132
    go_wp2_with (first | (refine wpList_load_of 183 l1 _ rfl rfl rfl ?_) | (refine wpList_build_of 183 l2 rfl rfl ?_) | (refine wpList_eql_of 183 l3 _ _ _ rfl rfl rfl rfl (eqGuard_page _ _ _ _ _) ?_) | (refine wpList_update_of 108 r1 _ _ _ rfl rfl rfl rfl rfl ?_))
    go_end0
    exact ⟨rfl, R2.out, R3.out⟩
  · rw [e] at l3
    obtain ⟨w2, r1, r2, r3⟩ := hm.drop (x : Int) (WalkArith.wf_i64 (by omega)) 0
    have R2 : Hid (MP w2 bm N (without g x)) := r2
    have R3 : Hid (Fr (· = bm) w w2) := r3
    clear hm pg r2 r3
    generalize (bytesOf f 4096).toArray = A at *
    generalize (bytesOf z0 4096).toArray = B at *
    go_enter Tryz.func132, Tryz.ntmps132
    go_wp2_with (first | (refine wpList_load_of 183 l1 _ rfl rfl rfl ?_) | (refine wpList_build_of 183 l2 rfl rfl ?_) | (refine wpList_eql_of 183 l3 _ _ _ rfl rfl rfl rfl (eqGuard_page _ _ _ _ _) ?_))
    refine bodyPost_ret (results_none rfl _ _ _) rfl ?_
    exact ⟨rfl, R2.out, R3.out⟩

/-- Frame x's bytes are f. -/
def putFr (F : Nat → Nat → Nat) (x : Nat) (f : Nat → Nat) : Nat → Nat → Nat := fun y => if y = x then f else F y
theorem putFr_same (F : Nat → Nat → Nat) (x : Nat) (f : Nat → Nat) : putFr F x f x = f := if_pos rfl
theorem putFr_other (F : Nat → Nat → Nat) (x y : Nat) (f : Nat → Nat) (h : y ≠ x) : putFr F x f y = F y := if_neg h

theorem PMat.renew {w w1 w2 : World} {S T : Nat → Prop} {p bm : Nat} {g : Int → Option Nat} {N ops : Nat} {F : Nat → Nat → Nat} (h : PMat w S p bm g N ops F) (x : Nat) (hx : x < N) (b : Nat) (f : Nat → Nat) (hf : Bytes f)
    (k1 : Fr T w w1) (hT : ∀ k, k < w.heap.size → T k → g x = .some k) (pg : PG w1 b f) (hb : g x = .some b ∨ w.heap.size ≤ b)
    (m2 : MP w2 bm N (if alike f z0 4096 then without g x else withp g x b)) (k2 : Fr (· = bm) w1 w2) :
    PMat w2 (fun k => S k ∨ k = b) p bm (if alike f z0 4096 then without g x else withp g x b) N ops (putFr F x f) ∧ Fr S w w2 := by
  have hbp : b ≠ p ∧ b ≠ bm := by
    rcases hb with hb | hb
    · exact ⟨(h.page _ _ hb).2.1, (h.page _ _ hb).2.2.1⟩
    · exact ⟨fun e => by have := h.own p h.sp; omega, fun e => by have := h.own bm h.sm; omega⟩
  have hTp : ¬ T p := fun t => (h.page _ _ (hT p (h.own p h.sp) t)).2.1 rfl
  have kp : ∀ k, k < w.heap.size → ¬ T k → k ≠ bm → w2.heap[k]? = w.heap[k]? := fun k hk ht hne => (k2.block k (Nat.lt_of_lt_of_le hk k1.size) hne).trans (k1.block k hk ht)
  have frS : Fr S w w2 := ⟨k2.os.trans k1.os, k2.tape.trans k1.tape, k2.output.trans k1.output, Nat.le_trans k1.size k2.size, fun k hk hS => kp k hk (fun t => hS (h.page _ _ (hT k hk t)).1) (fun e => hS (e ▸ h.sm))⟩
  have pg2 : PG w2 b f := pg.fr k2 hbp.2
  -- a page of another frame
  have other : ∀ y c, y ≠ (x : Int) → g y = .some c → (S c ∨ c = b) ∧ c ≠ p ∧ c ≠ bm ∧ PG w2 c (putFr F x f y.toNat) := fun y c hy hc => by
    obtain ⟨q1, q2, q3, q4⟩ := h.page y c hc
    refine ⟨.inl q1, q2, q3, ?_⟩
    have hd := h.map.dom y c hc
    rw [putFr_other _ _ _ _ (by omega)]
    exact (kp c (h.own c q1) (fun t => hy (h.inj y x c hc (hT c (h.own c q1) t))) q3).trans q4
  refine ⟨⟨fun k hk => ?_, .inl h.sp, .inl h.sm, h.ne, (kp p (h.own p h.sp) hTp (fun e => h.ne e.symm)).trans h.row, m2, fun y c hy => ?_, fun y z c hy hz => ?_, fun y hy i hi => ?_, fun y c hy => ?_, h.n1, h.n2, fun y => ?_⟩, frS⟩
  · rcases hk with hk | rfl
    · exact Nat.lt_of_lt_of_le (h.own k hk) frS.size
    · exact pg2.lt
  · by_cases e : y = (x : Int)
    · subst e
      by_cases ea : alike f z0 4096 = true
      · rw [if_pos ea] at hy; unfold without at hy; rw [if_pos rfl] at hy; cases hy
      · rw [if_neg ea] at hy; unfold withp at hy; rw [if_pos rfl] at hy; cases hy
        refine ⟨.inr rfl, hbp.1, hbp.2, ?_⟩
        rw [show ((x : Int)).toNat = x from rfl, putFr_same]
        exact pg2
    · refine other y c e ?_
      split at hy
      · unfold without at hy; rwa [if_neg e] at hy
      · unfold withp at hy; rwa [if_neg e] at hy
  · have q : ∀ y, (if alike f z0 4096 then without g x else withp g x b) y = .some c → (y = (x : Int) ∧ c = b) ∨ (y ≠ (x : Int) ∧ g y = .some c) := fun y hy => by
      by_cases e : y = (x : Int)
      · subst e
        split at hy
        · unfold without at hy; rw [if_pos rfl] at hy; cases hy
        · unfold withp at hy; rw [if_pos rfl] at hy; cases hy; exact .inl ⟨rfl, rfl⟩
      · split at hy
        · unfold without at hy; rw [if_neg e] at hy; exact .inr ⟨e, hy⟩
        · unfold withp at hy; rw [if_neg e] at hy; exact .inr ⟨e, hy⟩
    have no : ∀ y, y ≠ (x : Int) → g y = .some b → False := fun y hy hb' => by
      rcases hb with hb | hb
      · exact hy (h.inj y x b hb' hb)
      · have := h.own b (h.page y b hb').1; omega
    rcases q y hy with ⟨e1, e2⟩ | ⟨e1, e2⟩ <;> rcases q z hz with ⟨d1, d2⟩ | ⟨d1, d2⟩
    · rw [e1, d1]
    · exact absurd (e2 ▸ d2) (no z d1)
    · exact absurd (d2 ▸ e2) (no y e1)
    · exact h.inj y z c e2 d2
  · by_cases e : (y : Int) = (x : Int)
    · have e' : y = x := by omega
      subst e'
      rw [putFr_same]
      split at hy
      · rename_i ea; exact (alike_iff f z0 4096).1 ea i hi
      · unfold withp at hy; rw [if_pos rfl] at hy; cases hy
    · rw [putFr_other _ _ _ _ (by omega)]
      refine h.none y ?_ i hi
      split at hy
      · unfold without at hy; rwa [if_neg e] at hy
      · unfold withp at hy; rwa [if_neg e] at hy
  · by_cases e : y = (x : Int)
    · subst e
      rw [show ((x : Int)).toNat = x from rfl, putFr_same]
      split at hy
      · unfold without at hy; rw [if_pos rfl] at hy; cases hy
      · rename_i ea
        have : ¬ ∀ i, i < 4096 → f i = z0 i := fun hh => ea (alike_of hh)
        exact Classical.byContradiction fun hh => this fun i hi => Classical.byContradiction fun hn => hh ⟨i, hi, hn⟩
    · have hg : g y = .some c := by
        split at hy
        · unfold without at hy; rwa [if_neg e] at hy
        · unfold withp at hy; rwa [if_neg e] at hy
      have hd := h.map.dom y c hg
      rw [putFr_other _ _ _ _ (by omega)]
      exact h.some y c hg
  · unfold putFr
    split
    · exact hf
    · exact h.byte y

end Go.Proofs.YtanlcmdnhhdhaaaGreatDoor
