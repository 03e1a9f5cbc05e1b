/- Joined: V2, V3, V4, V5. -/
import Derived.Test.YtcankhnnikhblaaGreatDoorV1
import Derived.Test.YtcankhnnikhblaaGreatDoorJP
import Derived.Test.YtcankhnnikhblaaGreatDoorUA
import Derived.Deep.DeepCutAuto
/- frames.Frames, as it lies: the memory, the two buddies, the counts. -/
namespace Go.Proofs.YtcankhnnikhblaaGreatDoor
open Go.RowKit Go.Maps
set_option maxRecDepth 10000
set_option linter.unusedVariables false

/-- The frames at p: the memory at pm (its blocks: M), the buddies at bt and bp (U, V), the counts at bc; all that is their own lies in S. -/
structure FA (w : World) (S M U V : Nat → Prop) (p pm bt bp bc N pool ops : Nat) (B : Nat → Nat → Nat) (Ft Fp : Nat → Bool) (C : Nat → Nat) : Prop where
  own : ∀ k, S k → k < w.heap.size
  row : w.heap[p]? = some (.cells #[.pointer (some ⟨pm, 0, none⟩), .int .i64 (pool : Nat), .pointer (some ⟨bt, 0, none⟩), .pointer (some ⟨bp, 0, none⟩), .map (some bc)] 103 (0, 0))
  mem : PM w M pm N ops B
  tb : BF w U bt 0 pool Ft
  pg : BF w V bp pool N Fp
  cs : MC w bc N C
  p1 : 1 ≤ pool
  p2 : pool < N
  n2 : N ≤ 1048576
  sp : S p
  sc : S bc
  sM : ∀ k, M k → S k
  sU : ∀ k, U k → S k
  sV : ∀ k, V k → S k
  ne : p ≠ bc
  pM : ¬ M p
  pU : ¬ U p
  pV : ¬ V p
  cM : ¬ M bc
  cU : ¬ U bc
  cV : ¬ V bc
  MU : ∀ k, M k → ¬ U k
  MV : ∀ k, M k → ¬ V k
  UV : ∀ k, U k → ¬ V k
  s0 : ¬ S 1
section
variable {w w' : World} {S M U V : Nat → Prop} {p pm bt bp bc N pool ops ops' : Nat} {B B' : Nat → Nat → Nat} {Ft Fp Ft' Fp' : Nat → Bool} {C C' : Nat → Nat}
theorem FA.fr (h : FA w S M U V p pm bt bp bc N pool ops B Ft Fp C) {X : Nat → Prop} (k : Fr X w w') (hX : ∀ i, S i → ¬ X i) (h0 : ¬ X 1) : FA w' S M U V p pm bt bp bc N pool ops B Ft Fp C :=
  ⟨fun i hi => Nat.lt_of_lt_of_le (h.own i hi) k.size, (k.block p (h.own p h.sp) (hX p h.sp)).trans h.row, h.mem.fr k (fun i hi => hX i (h.sM i hi)), h.tb.fr k (fun i hi => hX i (h.sU i hi)) h0, h.pg.fr k (fun i hi => hX i (h.sV i hi)) h0, h.cs.fr k (hX bc h.sc), h.p1, h.p2, h.n2, h.sp, h.sc, h.sM, h.sU, h.sV, h.ne, h.pM, h.pU, h.pV, h.cM, h.cU, h.cV, h.MU, h.MV, h.UV, h.s0⟩
theorem FA.kp (h : FA w S M U V p pm bt bp bc N pool ops B Ft Fp C) (k : Kp w w') : FA w' S M U V p pm bt bp bc N pool ops B Ft Fp C := h.fr (k.fr (fun _ => False)) (fun _ _ => id) id
theorem FA.setM (h : FA w S M U V p pm bt bp bc N pool ops B Ft Fp C) (m : PM w' M pm N ops' B') (k : Fr M w w') : FA w' S M U V p pm bt bp bc N pool ops' B' Ft Fp C :=
  have h0 : ¬ M 1 := fun e => h.s0 (h.sM _ e)
  ⟨fun i hi => Nat.lt_of_lt_of_le (h.own i hi) k.size, (k.block p (h.own p h.sp) h.pM).trans h.row, m, h.tb.fr k (fun i hi e => h.MU i e hi) h0, h.pg.fr k (fun i hi e => h.MV i e hi) h0, h.cs.fr k h.cM, h.p1, h.p2, h.n2, h.sp, h.sc, h.sM, h.sU, h.sV, h.ne, h.pM, h.pU, h.pV, h.cM, h.cU, h.cV, h.MU, h.MV, h.UV, h.s0⟩
theorem FA.setM' {M' : Nat → Prop} (h : FA w S M U V p pm bt bp bc N pool ops B Ft Fp C) (m : PM w' M' pm N ops' B') (k : Fr M w w') (l : Less M M' w) : FA w' (fun i => S i ∨ M' i) M' U V p pm bt bp bc N pool ops' B' Ft Fp C :=
  have h0 : ¬ M 1 := fun e => h.s0 (h.sM _ e)
  have hl : ∀ i, M' i → i < w.heap.size → M i := fun i hi hl => (l i hi).resolve_right (Nat.not_le.2 hl)
  have ht : 1 < w.heap.size := h.tb.tab.lt
  ⟨fun i hi => hi.elim (fun hi => Nat.lt_of_lt_of_le (h.own i hi) k.size) (m.own i), (k.block p (h.own p h.sp) h.pM).trans h.row, m, h.tb.fr k (fun i hi e => h.MU i e hi) h0, h.pg.fr k (fun i hi e => h.MV i e hi) h0, h.cs.fr k h.cM, h.p1, h.p2, h.n2, .inl h.sp, .inl h.sc, fun i hi => .inr hi, fun i hi => .inl (h.sU i hi), fun i hi => .inl (h.sV i hi), h.ne,
   fun e => h.pM (hl _ e (h.own p h.sp)), h.pU, h.pV, fun e => h.cM (hl _ e (h.own bc h.sc)), h.cU, h.cV, fun i hi hu => h.MU i (hl i hi (h.own i (h.sU i hu))) hu, fun i hi hu => h.MV i (hl i hi (h.own i (h.sV i hu))) hu, h.UV, fun e => e.elim h.s0 (fun e => h0 (hl _ e ht))⟩
theorem FA.setU (h : FA w S M U V p pm bt bp bc N pool ops B Ft Fp C) (m : BF w' U bt 0 pool Ft') (k : Fr U w w') : FA w' S M U V p pm bt bp bc N pool ops B Ft' Fp C :=
  ⟨fun i hi => Nat.lt_of_lt_of_le (h.own i hi) k.size, (k.block p (h.own p h.sp) h.pU).trans h.row, h.mem.fr k h.MU, m, h.pg.fr k (fun i hi e => h.UV i e hi) h.tb.u0, h.cs.fr k h.cU, h.p1, h.p2, h.n2, h.sp, h.sc, h.sM, h.sU, h.sV, h.ne, h.pM, h.pU, h.pV, h.cM, h.cU, h.cV, h.MU, h.MV, h.UV, h.s0⟩
theorem FA.setV (h : FA w S M U V p pm bt bp bc N pool ops B Ft Fp C) (m : BF w' V bp pool N Fp') (k : Fr V w w') : FA w' S M U V p pm bt bp bc N pool ops B Ft Fp' C :=
  ⟨fun i hi => Nat.lt_of_lt_of_le (h.own i hi) k.size, (k.block p (h.own p h.sp) h.pV).trans h.row, h.mem.fr k h.MV, h.tb.fr k h.UV h.pg.u0, m, h.cs.fr k h.cV, h.p1, h.p2, h.n2, h.sp, h.sc, h.sM, h.sU, h.sV, h.ne, h.pM, h.pU, h.pV, h.cM, h.cU, h.cV, h.MU, h.MV, h.UV, h.s0⟩
theorem FA.setC (h : FA w S M U V p pm bt bp bc N pool ops B Ft Fp C) (m : MC w' bc N C') (k : Fr (· = bc) w w') : FA w' S M U V p pm bt bp bc N pool ops B Ft Fp C' :=
  have h0 : ¬ 1 = bc := fun e => h.s0 (e ▸ h.sc)
  ⟨fun i hi => Nat.lt_of_lt_of_le (h.own i hi) k.size, (k.block p (h.own p h.sp) h.ne).trans h.row, h.mem.fr k (fun i hi e => h.cM (e ▸ hi)), h.tb.fr k (fun i hi e => h.cU (e ▸ hi)) h0, h.pg.fr k (fun i hi e => h.cV (e ▸ hi)) h0, m, h.p1, h.p2, h.n2, h.sp, h.sc, h.sM, h.sU, h.sV, h.ne, h.pM, h.pU, h.pV, h.cM, h.cU, h.cV, h.MU, h.MV, h.UV, h.s0⟩
theorem FA.c0 (h : FA w S M U V p pm bt bp bc N pool ops B Ft Fp C) : w.cell? ⟨p, 0, none⟩ = some (.pointer (some ⟨pm, 0, none⟩)) := by rw [cell_of_row w p 0 _ _ _ h.row]; rfl
theorem FA.c1 (h : FA w S M U V p pm bt bp bc N pool ops B Ft Fp C) : w.cell? ⟨p, 1, none⟩ = some (.int .i64 (pool : Nat)) := by rw [cell_of_row w p 1 _ _ _ h.row]; rfl
theorem FA.c2 (h : FA w S M U V p pm bt bp bc N pool ops B Ft Fp C) : w.cell? ⟨p, 2, none⟩ = some (.pointer (some ⟨bt, 0, none⟩)) := by rw [cell_of_row w p 2 _ _ _ h.row]; rfl
theorem FA.c3 (h : FA w S M U V p pm bt bp bc N pool ops B Ft Fp C) : w.cell? ⟨p, 3, none⟩ = some (.pointer (some ⟨bp, 0, none⟩)) := by rw [cell_of_row w p 3 _ _ _ h.row]; rfl
theorem FA.c4 (h : FA w S M U V p pm bt bp bc N pool ops B Ft Fp C) : w.cell? ⟨p, 4, none⟩ = some (.map (some bc)) := by rw [cell_of_row w p 4 _ _ _ h.row]; rfl
theorem FA.frM (h : FA w S M U V p pm bt bp bc N pool ops B Ft Fp C) (k : Fr M w w') : Fr S w w' := k.mono (fun i _ hi => h.sM i hi)
theorem FA.frU (h : FA w S M U V p pm bt bp bc N pool ops B Ft Fp C) (k : Fr U w w') : Fr S w w' := k.mono (fun i _ hi => h.sU i hi)
theorem FA.frV (h : FA w S M U V p pm bt bp bc N pool ops B Ft Fp C) (k : Fr V w w') : Fr S w w' := k.mono (fun i _ hi => h.sV i hi)
theorem FA.frC (h : FA w S M U V p pm bt bp bc N pool ops B Ft Fp C) (k : Fr (· = bc) w w') : Fr S w w' := k.mono (fun i _ hi => by rw [hi]; exact h.sc)
end

/-! ### what only reads -/
section
variable {w : World} {S M U V : Nat → Prop} {p pm bt bp bc N pool ops : Nat} {B : Nat → Nat → Nat} {Ft Fp : Nat → Bool} {C : Nat → Nat}
theorem fmem_any (h : FA w S M U V p pm bt bp bc N pool ops B Ft Fp C) :
    Calls Tryz.prog 97 #[.pointer (some ⟨p, 0, none⟩)] w fun e w' => e = .returned (.pointer (some ⟨pm, 0, none⟩)) ∧ w' = w := by
  have c0 := h.c0
  clear h
  go_enter Tryz.func97, Tryz.ntmps97
  go_wp2
  go_ret
  exact ⟨rfl, rfl⟩
set_option maxHeartbeats 1000000 in
theorem ffree_any (h : FA w S M U V p pm bt bp bc N pool ops B Ft Fp C) :
    Calls Tryz.prog 13 #[.pointer (some ⟨p, 0, none⟩)] w fun e w' => e = .returned (.tuple #[.int .i64 (cnt Fp N : Nat), .int .i64 (cnt Ft pool : Nat)]) ∧ Dr w w' := by
  have c2 : ∀ n, (w.drewN n).cell? ⟨p, 2, none⟩ = some (.pointer (some ⟨bt, 0, none⟩)) := fun _ => h.c2
  have c3 : ∀ n, (w.drewN n).cell? ⟨p, 3, none⟩ = some (.pointer (some ⟨bp, 0, none⟩)) := fun _ => h.c3
  have k1 : Aside (∀ n, Calls Tryz.prog 47 #[.pointer (some ⟨bt, 0, none⟩)] (w.drewN n) fun e w' => e = .returned (.int .i64 (cnt Ft pool : Nat)) ∧ w' = w.drewN n) := fun n => free_any (h.tb.kp ((Kp.refl w).drewN n))
  have k2 : Aside (∀ n, Calls Tryz.prog 47 #[.pointer (some ⟨bp, 0, none⟩)] (w.drewN n) fun e w' => e = .returned (.int .i64 (cnt Fp N : Nat)) ∧ w' = w.drewN n) := fun n => free_any (h.pg.kp ((Kp.refl w).drewN n))
  clear h
  generalize cnt Ft pool = a at *
  generalize cnt Fp N = b at *
  go_enter Tryz.func13, Tryz.ntmps13
  go_wp2_with fail
  go_quiet (first | (go_at_call 47; go_must (first | exact (k1.out _).mono fun e w' h => ⟨h.1, _, h.2⟩ | exact (k2.out _).mono fun e w' h => ⟨h.1, _, h.2⟩)))
  go_wp2
  go_ret2
  exact ⟨rfl, _, rfl⟩
end
end Go.Proofs.YtcankhnnikhblaaGreatDoor

/- frames: New, take. -/
namespace Go.Proofs.YtcankhnnikhblaaGreatDoor
open Go.RowKit Go.Maps
set_option maxRecDepth 10000

/-- The frames from x on, j of them: all 0; counted once. -/
def zerR (B : Nat → Nat → Nat) (x j : Nat) : Nat → Nat → Nat := fun k => if x ≤ k ∧ k < x + j then z0 else B k
def onR (C : Nat → Nat) (x j : Nat) : Nat → Nat := fun k => if x ≤ k ∧ k < x + j then 1 else C k
theorem zerR_zero (B : Nat → Nat → Nat) (x : Nat) : zerR B x 0 = B := by funext k; unfold zerR; rw [if_neg (by omega)]
theorem onR_zero (C : Nat → Nat) (x : Nat) : onR C x 0 = C := by funext k; unfold onR; rw [if_neg (by omega)]
theorem zerR_succ (B : Nat → Nat → Nat) (x j : Nat) : putFr (zerR B x j) (x + j) z0 = zerR B x (j + 1) := by
  funext k
  unfold putFr zerR
  by_cases e : k = x + j
  · rw [if_pos e, if_pos (by omega)]
  · rw [if_neg e]
    by_cases c : x ≤ k ∧ k < x + j
    · rw [if_pos c, if_pos (by omega)]
    · rw [if_neg c, if_neg (by omega)]
theorem onR_succ (C : Nat → Nat) (x j : Nat) : putC (onR C x j) (x + j) 1 = onR C x (j + 1) := by
  funext k
  unfold putC onR
  by_cases e : k = x + j
  · rw [if_pos e, if_pos (by omega)]
  · rw [if_neg e]
    by_cases c : x ≤ k ∧ k < x + j
    · rw [if_pos c, if_pos (by omega)]
    · rw [if_neg c, if_neg (by omega)]

section
variable {w : World} {S M U V : Nat → Prop} {p pm bt bp bc N pool ops : Nat} {B : Nat → Nat → Nat} {Ft Fp : Nat → Bool} {C : Nat → Nat}
set_option maxHeartbeats 2000000 in
theorem ftake_walk (pb o x s : Nat) (lack : Int) (ho : o ≤ 9) (hs : (2 : Int) ^ o = (s : Int)) (hs2 : (s : Int) ≤ 1000) (hx : x + s ≤ N) (hN : N ≤ 1048576)
    (cT : Calls Tryz.prog 113 #[.pointer (some ⟨pb, 0, none⟩), .int .i64 (o : Int)] w fun e w' => e = .returned (.tuple #[.int .i64 (x : Int), .int .i64 0]) ∧ FA w' S M U V p pm bt bp bc N pool ops B Ft Fp C ∧ Fr S w w') :
    Calls Tryz.prog 77 #[.pointer (some ⟨p, 0, none⟩), .pointer (some ⟨pb, 0, none⟩), .int .i64 (o : Int), .int .i64 lack] w fun e w' => e = .returned (.tuple #[.int .i64 (x : Int), .int .i64 0]) ∧ FA w' S M U V p pm bt bp bc N pool ops (zerR B x s) Ft Fp (onR C x s) ∧ Fr S w w' := by
  have z1 : (o : Int) ≤ 9 := by omega
  have z2 : (x : Int) + s ≤ 1048576 := by omega
  have z3 : (x : Int) + s ≤ N := by omega
  go_enter Tryz.func77, Tryz.ntmps77
  go_wp2_with fail
  with_reducible refine cT.mono ?_
  rintro e w1 ⟨rfl, h1, k1⟩
  have I0 : Hid (FA w1 S M U V p pm bt bp bc N pool ops (zerR B x 0) Ft Fp (onR C x 0) ∧ Fr S w w1) := ⟨by rw [zerR_zero, onR_zero]; exact h1, k1⟩
  clear h1 k1 cT
  go_wp2_with fail
  go_loopg [12] (s + 1) (fun g v12 wr => ∃ j : Nat, v12 = .int .i64 ((x : Int) + j) ∧ j ≤ s ∧ s + 1 - j ≤ g ∧ Hid (FA wr S M U V p pm bt bp bc N pool ops (zerR B x j) Ft Fp (onR C x j) ∧ Fr S w wr))
  case atStart => exact ⟨0, by simp, by omega, by omega, I0⟩
  case round =>
    clear I0
    obtain ⟨j, rfl, hj, hg, HI⟩ := hrel
    by_cases e : j < s
    · have z4 : (j : Int) < s := by omega
      have c0 := HI.out.1.c0
      have kZ := pzero_ok HI.out.1.mem (x + j) (by omega)
      have HK : Hid (∀ w', PM w' M pm N ops (putFr (zerR B x j) (x + j) z0) → Fr M wr w' → w'.cell? ⟨p, 4, none⟩ = some (.map (some bc)) ∧ ∃ w2, (Instr.mapUpdate 101 (.map (some bc)) (.int .i64 ((x : Int) + j)) (.int .i64 1)).run Tryz.prog w' = .ok () w2 ∧ Hid (FA w2 S M U V p pm bt bp bc N pool ops (zerR B x (j + 1)) Ft Fp (onR C x (j + 1)) ∧ Fr S w w2)) := fun w' m k => by
        have h2 := HI.out.1.setM m k
        obtain ⟨w2, r1, r2, r3⟩ := h2.cs.store (x + j) 1 (by omega) (by decide) (by decide) hN
        refine ⟨h2.c4, w2, by rw [← Int.natCast_add]; exact r1, ?_⟩
        have h3 := h2.setC r2 r3
        rw [zerR_succ, onR_succ] at h3
        exact ⟨h3, (HI.out.2.trans (HI.out.1.frM k)).trans (h2.frC r3)⟩
      rw [Int.natCast_add] at kZ
      clear HI
      go_wp2_with fail
      with_reducible refine kZ.mono ?_
      rintro e w' ⟨rfl, m, k⟩
      obtain ⟨c4, w2, r1, HI2⟩ := HK.out w' m k
      clear HK m k kZ
      go_wp2_with fail
      go_roundg (s + 1 - (j + 1))
      case measure => omega
      case rel => exact ⟨j + 1, by go_num, by omega, by omega, HI2⟩
    · have ei : j = s := by omega
      subst ei
      go_wp2
      go_ret2
      exact ⟨rfl, HI.out⟩
set_option maxHeartbeats 1000000 in
theorem ftake_no (pb o : Nat) (lack : Int)
    (cT : Calls Tryz.prog 113 #[.pointer (some ⟨pb, 0, none⟩), .int .i64 (o : Int)] w fun e w' => e = .returned (.tuple #[.int .i64 0, .int .i64 10]) ∧ w' = w) :
    Calls Tryz.prog 77 #[.pointer (some ⟨p, 0, none⟩), .pointer (some ⟨pb, 0, none⟩), .int .i64 (o : Int), .int .i64 lack] w fun e w' => e = .returned (.tuple #[.int .i64 0, .int .i64 lack]) ∧ w' = w := by
  go_enter Tryz.func77, Tryz.ntmps77
  go_wp2_with (go_at_call 113; with_reducible refine cT.mono ?_; rintro e w' ⟨rfl, rfl⟩)
  go_ret2
  exact ⟨rfl, rfl⟩
end
end Go.Proofs.YtcankhnnikhblaaGreatDoor

/- frames: New, Table, Page, Block, Ref, Drop, over what is counted alone. -/
namespace Go.Proofs.YtcankhnnikhblaaGreatDoor
open Go.RowKit Go.Maps
set_option maxRecDepth 10000

/-- The free frames, for tables and for pages. -/
def fT (pool : Nat) (C : Nat → Nat) : Nat → Bool := fun k => decide (k < pool) && decide (C k = 0)
def fP (pool N : Nat) (C : Nat → Nat) : Nat → Bool := fun k => decide (pool ≤ k) && decide (k < N) && decide (C k = 0)
theorem fT_iff (pool : Nat) (C : Nat → Nat) (k : Nat) : fT pool C k = true ↔ k < pool ∧ C k = 0 := by unfold fT; simp
theorem fP_iff (pool N : Nat) (C : Nat → Nat) (k : Nat) : fP pool N C k = true ↔ pool ≤ k ∧ k < N ∧ C k = 0 := by unfold fP; simp [and_assoc]
theorem eq_of_iff {F G : Nat → Bool} (h : ∀ k, F k = true ↔ G k = true) : F = G := funext fun k => Bool.eq_iff_iff.2 (h k)

/-- What Take finds, or that there is none. -/
def TkR (F : Nat → Bool) (o : Nat) : Option Nat → Prop
  | some x => ∃ o' i, Tk F o o' i ∧ x = i * 2 ^ o'
  | none => ∀ a, o ≤ a → a ≤ 9 → ∀ j, ¬ Rn F a j
theorem tkr_ex (F : Nat → Bool) (o : Nat) : ∃ r, TkR F o r := by
  rcases tk_or F o with ⟨o', i, t⟩ | t
  · exact ⟨some (i * 2 ^ o'), o', i, t, rfl⟩
  · exact ⟨none, t⟩
theorem TkR.blk {F : Nat → Bool} {o x : Nat} (h : TkR F o (some x)) : x / 2 ^ o * 2 ^ o = x ∧ ∀ k, x ≤ k → k < x + 2 ^ o → F k = true := by
  obtain ⟨o', i, t, rfl⟩ := h
  have e : i * 2 ^ o' = i * 2 ^ (o' - o) * 2 ^ o := by rw [Nat.mul_assoc, ← Nat.pow_add, Nat.sub_add_cancel t.le]
  have e1 : i * 2 ^ o' / 2 ^ o * 2 ^ o = i * 2 ^ o' := by rw [e, Nat.mul_div_cancel _ (Nat.two_pow_pos o)]
  refine ⟨e1, fun k h1 h2 => t.run.1 k ?_⟩
  have hb : k / 2 ^ o = i * 2 ^ (o' - o) := (blk_iff ..).2 ⟨by rw [← e]; exact h1, by rw [← e]; exact h2⟩
  have : k / 2 ^ o' = k / 2 ^ o / 2 ^ (o' - o) := by rw [Nat.div_div_eq_div_mul, ← Nat.pow_add, show o + (o' - o) = o' by have := t.le; omega]
  rw [this, hb, Nat.mul_div_cancel _ (Nat.two_pow_pos _)]
theorem subF_at {F : Nat → Bool} {o x : Nat} (h : x / 2 ^ o * 2 ^ o = x) (k : Nat) : subF F o (x / 2 ^ o) k = true ↔ F k = true ∧ ¬ (x ≤ k ∧ k < x + 2 ^ o) := by
  rw [subF_iff, Ne, blk_iff, h]
def gotX (r : Option Nat) : Nat := match r with
  | some x => x
  | none => 0
def gotE (r : Option Nat) (lack : Int) : Int := match r with
  | some _ => 0
  | none => lack
def gotB (B : Nat → Nat → Nat) (r : Option Nat) (s : Nat) : Nat → Nat → Nat := match r with
  | some x => zerR B x s
  | none => B
def gotC (C : Nat → Nat) (r : Option Nat) (s : Nat) : Nat → Nat := match r with
  | some x => onR C x s
  | none => C
theorem fT_on {pool o x : Nat} {C : Nat → Nat} (h : x / 2 ^ o * 2 ^ o = x) : fT pool (onR C x (2 ^ o)) = subF (fT pool C) o (x / 2 ^ o) := eq_of_iff fun k => by
  rw [subF_at h, fT_iff, fT_iff]
  unfold onR
  by_cases c : x ≤ k ∧ k < x + 2 ^ o
  · rw [if_pos c]; omega
  · rw [if_neg c]; exact ⟨fun a => ⟨a, c⟩, fun a => a.1⟩
theorem fP_on {pool N o x : Nat} {C : Nat → Nat} (h : x / 2 ^ o * 2 ^ o = x) : fP pool N (onR C x (2 ^ o)) = subF (fP pool N C) o (x / 2 ^ o) := eq_of_iff fun k => by
  rw [subF_at h, fP_iff, fP_iff]
  unfold onR
  by_cases c : x ≤ k ∧ k < x + 2 ^ o
  · rw [if_pos c]; omega
  · rw [if_neg c]; exact ⟨fun a => ⟨a, c⟩, fun a => a.1⟩
theorem fT_out {pool x s : Nat} {C : Nat → Nat} (h : pool ≤ x) : fT pool (onR C x s) = fT pool C := eq_of_iff fun k => by
  rw [fT_iff, fT_iff]
  unfold onR
  by_cases c : x ≤ k ∧ k < x + s
  · rw [if_pos c]; omega
  · rw [if_neg c]
theorem fP_out {pool N x s : Nat} {C : Nat → Nat} (h : x + s ≤ pool) : fP pool N (onR C x s) = fP pool N C := eq_of_iff fun k => by
  rw [fP_iff, fP_iff]
  unfold onR
  by_cases c : x ≤ k ∧ k < x + s
  · rw [if_pos c]; omega
  · rw [if_neg c]
/-- A count that was not 0 and is not. -/
theorem fT_same {pool x v : Nat} {C : Nat → Nat} (h : C x ≠ 0) (hv : v ≠ 0) : fT pool (putC C x v) = fT pool C := eq_of_iff fun k => by
  rw [fT_iff, fT_iff]
  unfold putC
  by_cases c : k = x
  · rw [if_pos c, c]; omega
  · rw [if_neg c]
theorem fP_same {pool N x v : Nat} {C : Nat → Nat} (h : C x ≠ 0) (hv : v ≠ 0) : fP pool N (putC C x v) = fP pool N C := eq_of_iff fun k => by
  rw [fP_iff, fP_iff]
  unfold putC
  by_cases c : k = x
  · rw [if_pos c, c]; omega
  · rw [if_neg c]
theorem fT_zero {pool x : Nat} {C : Nat → Nat} (h : x < pool) : fT pool (putC C x 0) = addF (fT pool C) 0 x := eq_of_iff fun k => by
  rw [addF_iff, fT_iff, fT_iff, Nat.pow_zero, Nat.div_one]
  unfold putC
  by_cases c : k = x
  · rw [if_pos c]; exact ⟨fun _ => .inr c, fun _ => ⟨by omega, rfl⟩⟩
  · rw [if_neg c]; exact ⟨.inl, fun a => a.resolve_right c⟩
theorem fP_zero {pool N x : Nat} {C : Nat → Nat} (h : pool ≤ x) (h2 : x < N) : fP pool N (putC C x 0) = addF (fP pool N C) 0 x := eq_of_iff fun k => by
  rw [addF_iff, fP_iff, fP_iff, Nat.pow_zero, Nat.div_one]
  unfold putC
  by_cases c : k = x
  · rw [if_pos c]; exact ⟨fun _ => .inr c, fun _ => ⟨by omega, by omega, rfl⟩⟩
  · rw [if_neg c]; exact ⟨.inl, fun a => a.resolve_right c⟩
theorem fT_off {pool x v : Nat} {C : Nat → Nat} (h : pool ≤ x) : fT pool (putC C x v) = fT pool C := eq_of_iff fun k => by
  rw [fT_iff, fT_iff]
  unfold putC
  by_cases c : k = x
  · rw [if_pos c]; omega
  · rw [if_neg c]
theorem fP_off {pool N x v : Nat} {C : Nat → Nat} (h : x < pool) : fP pool N (putC C x v) = fP pool N C := eq_of_iff fun k => by
  rw [fP_iff, fP_iff]
  unfold putC
  by_cases c : k = x
  · rw [if_pos c]; omega
  · rw [if_neg c]

/-- The frames at p over the memory at pm: what is counted says what is free. -/
def FZ (w : World) (S : Nat → Prop) (p pm N pool ops : Nat) (B : Nat → Nat → Nat) (C : Nat → Nat) : Prop :=
  (∃ M U V bt bp bc, FA w S M U V p pm bt bp bc N pool ops B (fT pool C) (fP pool N C) C) ∧ ∀ k, C k ≤ 1073741824
section
variable {w w' : World} {S : Nat → Prop} {p pm N pool ops : Nat} {B : Nat → Nat → Nat} {C : Nat → Nat}
theorem FZ.fr (h : FZ w S p pm N pool ops B C) {X : Nat → Prop} (k : Fr X w w') (hX : ∀ i, S i → ¬ X i) (h0 : ¬ X 1) : FZ w' S p pm N pool ops B C := by
  obtain ⟨⟨M, U, V, bt, bp, bc, h⟩, b⟩ := h
  exact ⟨⟨M, U, V, bt, bp, bc, h.fr k hX h0⟩, b⟩
theorem FZ.kp (h : FZ w S p pm N pool ops B C) (k : Kp w w') : FZ w' S p pm N pool ops B C := h.fr (k.fr (fun _ => False)) (fun _ _ => id) id
theorem FZ.own (h : FZ w S p pm N pool ops B C) : ∀ k, S k → k < w.heap.size := by
  obtain ⟨⟨M, U, V, bt, bp, bc, h⟩, b⟩ := h
  exact h.own
theorem FZ.s0 (h : FZ w S p pm N pool ops B C) : ¬ S 1 := by
  obtain ⟨⟨M, U, V, bt, bp, bc, h⟩, b⟩ := h
  exact h.s0
theorem FZ.nums (h : FZ w S p pm N pool ops B C) : 1 ≤ pool ∧ pool < N ∧ N ≤ 1048576 := by
  obtain ⟨⟨M, U, V, bt, bp, bc, h⟩, b⟩ := h
  exact ⟨h.p1, h.p2, h.n2⟩
theorem FZ.dom (h : FZ w S p pm N pool ops B C) : ∀ x, C x ≠ 0 → x < N := by
  obtain ⟨⟨M, U, V, bt, bp, bc, h⟩, b⟩ := h
  exact h.cs.dom
theorem FZ.tab (h : FZ w S p pm N pool ops B C) : TAB w := by
  obtain ⟨⟨M, U, V, bt, bp, bc, h⟩, b⟩ := h
  exact h.tb.tab
theorem onR_le {C : Nat → Nat} (h : ∀ k, C k ≤ 1073741824) (x s : Nat) : ∀ k, onR C x s k ≤ 1073741824 := fun k => by unfold onR; split; omega; exact h k
theorem putC_le {C : Nat → Nat} (h : ∀ k, C k ≤ 1073741824) (x v : Nat) (hv : v ≤ 1073741824) : ∀ k, putC C x v k ≤ 1073741824 := fun k => by unfold putC; split; exact hv; exact h k

/-! ### Table, Page, Block -/
theorem two9 : (2 : Int) ^ 9 = ((512 : Nat) : Int) := by decide
theorem two0 : (2 : Int) ^ 0 = ((1 : Nat) : Int) := by decide
set_option maxHeartbeats 1000000 in
theorem ftable_any (h : FZ w S p pm N pool ops B C) (r : Option Nat) (hr : TkR (fT pool C) 0 r) :
    Calls Tryz.prog 36 #[.pointer (some ⟨p, 0, none⟩)] w fun e w' => e = .returned (.tuple #[.int .i64 (gotX r : Nat), .int .i64 (gotE r 11)]) ∧ FZ w' S p pm N pool ops (gotB B r 1) (gotC C r 1) ∧ Fr S w w' := by
  obtain ⟨⟨M, U, V, bt, bp, bc, h⟩, b⟩ := h
  have c2 := h.c2
  have kT : Aside (Calls Tryz.prog 77 #[.pointer (some ⟨p, 0, none⟩), .pointer (some ⟨bt, 0, none⟩), .int .i64 0, .int .i64 11] w fun e w' => e = .returned (.tuple #[.int .i64 (gotX r : Nat), .int .i64 (gotE r 11)]) ∧ FZ w' S p pm N pool ops (gotB B r 1) (gotC C r 1) ∧ Fr S w w') := by
    match r, hr with
    | none, hr => exact (ftake_no bt 0 11 (take_no h.tb 0 (by omega) hr)).mono fun e w' ⟨e1, e2⟩ => ⟨e1, by rw [e2]; exact ⟨⟨M, U, V, bt, bp, bc, h⟩, b⟩, by rw [e2]; exact Fr.refl _ _⟩
    | some x, hr =>
      obtain ⟨b1, b2⟩ := hr.blk
      have b3 := ((fT_iff ..).1 (b2 x (Nat.le_refl _) (by omega))).1
      obtain ⟨o', i, t, rfl⟩ := hr
      have cT := (take_ok h.tb 0 o' i t).mono fun e w' (q : _ ∧ _ ∧ _) => (⟨q.1, h.setU q.2.1 q.2.2, h.frU q.2.2⟩ : e = .returned (.tuple #[.int .i64 ((i * 2 ^ o' : Nat) : Int), .int .i64 0]) ∧ FA w' S M U V p pm bt bp bc N pool ops B (subF (fT pool C) 0 (i * 2 ^ o' / 2 ^ 0)) (fP pool N C) C ∧ Fr S w w')
      refine (ftake_walk bt 0 (i * 2 ^ o') 1 11 (by omega) two0 (by omega) (by have := h.p2; omega) h.n2 cT).mono fun e w' ⟨e1, e2, e3⟩ => ⟨e1, ⟨⟨M, U, V, bt, bp, bc, ?_⟩, onR_le b _ _⟩, e3⟩
      show FA w' S M U V p pm bt bp bc N pool ops (zerR B (i * 2 ^ o') 1) (fT pool (onR C (i * 2 ^ o') 1)) (fP pool N (onR C (i * 2 ^ o') 1)) _
      rw [fP_out (by omega), show fT pool (onR C (i * 2 ^ o') 1) = _ from fT_on (o := 0) b1]
      exact e2
  clear h
  go_enter Tryz.func36, Tryz.ntmps36
  go_wp2_with fail
  with_reducible refine kT.out.mono ?_
  rintro e w' ⟨rfl, h1, k1⟩
  have H1 : Hid (FZ w' S p pm N pool ops (gotB B r 1) (gotC C r 1) ∧ Fr S w w') := ⟨h1, k1⟩
  clear h1 k1 kT
  go_wp2
  go_ret2
  exact ⟨rfl, H1.out⟩
theorem fpages_low {M U V : Nat → Prop} {bt bp bc : Nat} (h : FA w S M U V p pm bt bp bc N pool ops B (fT pool C) (fP pool N C) C) (b : ∀ k, C k ≤ 1073741824) (o s : Nat) (ho : o ≤ 9) (hs : 2 ^ o = s) (hi : (2 : Int) ^ o = (s : Int)) (h5 : s ≤ 512) (r : Option Nat) (hr : TkR (fP pool N C) o r) :
    Calls Tryz.prog 77 #[.pointer (some ⟨p, 0, none⟩), .pointer (some ⟨bp, 0, none⟩), .int .i64 (o : Int), .int .i64 10] w fun e w' => e = .returned (.tuple #[.int .i64 (gotX r : Nat), .int .i64 (gotE r 10)]) ∧ FZ w' S p pm N pool ops (gotB B r s) (gotC C r s) ∧ Fr S w w' := by
  subst hs
  match r, hr with
  | none, hr => exact (ftake_no bp o 10 (take_no h.pg o ho hr)).mono fun e w' ⟨e1, e2⟩ => ⟨e1, by rw [e2]; exact ⟨⟨M, U, V, bt, bp, bc, h⟩, b⟩, by rw [e2]; exact Fr.refl _ _⟩
  | some x, hr =>
    obtain ⟨b1, b2⟩ := hr.blk
    have hp := Nat.two_pow_pos o
    have b3 := ((fP_iff ..).1 (b2 x (Nat.le_refl _) (by omega)))
    have b4 := ((fP_iff ..).1 (b2 (x + (2 ^ o - 1)) (by omega) (by omega)))
    obtain ⟨o', i, t, rfl⟩ := hr
    have cT := (take_ok h.pg o o' i t).mono fun e w' (q : _ ∧ _ ∧ _) => (⟨q.1, h.setV q.2.1 q.2.2, h.frV q.2.2⟩ : e = .returned (.tuple #[.int .i64 ((i * 2 ^ o' : Nat) : Int), .int .i64 0]) ∧ FA w' S M U V p pm bt bp bc N pool ops B (fT pool C) (subF (fP pool N C) o (i * 2 ^ o' / 2 ^ o)) C ∧ Fr S w w')
    refine (ftake_walk bp o (i * 2 ^ o') (2 ^ o) 10 ho hi (by omega) (by omega) h.n2 cT).mono fun e w' ⟨e1, e2, e3⟩ => ⟨e1, ⟨⟨M, U, V, bt, bp, bc, ?_⟩, onR_le b _ _⟩, e3⟩
    show FA w' S M U V p pm bt bp bc N pool ops (zerR B (i * 2 ^ o') (2 ^ o)) (fT pool (onR C (i * 2 ^ o') (2 ^ o))) (fP pool N (onR C (i * 2 ^ o') (2 ^ o))) _
    rw [fT_out b3.1, fP_on b1]
    exact e2
end
end Go.Proofs.YtcankhnnikhblaaGreatDoor

/- frames: New, Ref, Drop, Count, Free, Mem; the memory's Write and Clear beside them. -/
namespace Go.Proofs.YtcankhnnikhblaaGreatDoor
open Go.RowKit Go.Maps
set_option maxRecDepth 10000

section
variable {w w' : World} {S : Nat → Prop} {p pm N pool ops : Nat} {B : Nat → Nat → Nat} {C : Nat → Nat}
theorem smem_any (h : FZ w S p pm N pool ops B C) :
    Calls Tryz.prog 97 #[.pointer (some ⟨p, 0, none⟩)] w fun e w' => e = .returned (.pointer (some ⟨pm, 0, none⟩)) ∧ w' = w := by
  obtain ⟨⟨M, U, V, bt, bp, bc, h⟩, b⟩ := h
  exact fmem_any h
theorem sfree_any (h : FZ w S p pm N pool ops B C) :
    Calls Tryz.prog 13 #[.pointer (some ⟨p, 0, none⟩)] w fun e w' => e = .returned (.tuple #[.int .i64 (cnt (fP pool N C) N : Nat), .int .i64 (cnt (fT pool C) pool : Nat)]) ∧ Dr w w' := by
  obtain ⟨⟨M, U, V, bt, bp, bc, h⟩, b⟩ := h
  exact ffree_any h
theorem swrite_ok (h : FZ w S p pm N pool ops B C) (addr s v : Nat) (ha : addr < 18446744073709551616) (hc : chkP N addr s = 0) (hv : v < 18446744073709551616) (ho : ops < 4611686018427387904) :
    Calls Tryz.prog 102 #[.pointer (some ⟨pm, 0, none⟩), .int .u64 (addr : Int), .int .i64 (s : Int), .int .u64 (v : Int)] w fun e w' => e = .returned (.int .i64 0) ∧ ∃ S', FZ w' S' p pm N pool (ops + 1) (putFr B (addr / 4096) (putF (B (addr / 4096)) (addr % 4096) s v)) C ∧ Fr S w w' ∧ Less S S' w := by
  obtain ⟨⟨M, U, V, bt, bp, bc, h⟩, b⟩ := h
  refine (pwrite_ok h.mem addr s v ha hc hv ho).mono fun e w' ⟨e1, M', e2, e3, e4⟩ => ⟨e1, fun i => S i ∨ M' i, ⟨⟨M', U, V, bt, bp, bc, h.setM' e2 e3 e4⟩, b⟩, h.frM e3, fun k hk => hk.elim .inl (fun hk => (e4 k hk).elim (fun x => .inl (h.sM k x)) .inr)⟩
theorem swrite_no (h : FZ w S p pm N pool ops B C) (addr : Nat) (s r v : Int) (ha : addr < 18446744073709551616) (hc : chkP N addr s = r) (hr : r ≠ 0) :
    Calls Tryz.prog 102 #[.pointer (some ⟨pm, 0, none⟩), .int .u64 (addr : Int), .int .i64 s, .int .u64 v] w fun e w' => e = .returned (.int .i64 r) ∧ w' = w := by
  obtain ⟨⟨M, U, V, bt, bp, bc, h⟩, b⟩ := h
  exact pwrite_no h.mem addr s r v ha hc hr

/-! ### Ref -/
def refO (C : Nat → Nat) (x : Int) : Bool := decide (cI C x ≠ 0 ∧ cI C x ≠ 1073741824)
def refN (C : Nat → Nat) (x : Int) : Nat := if refO C x then cI C x + 1 else 0
def refE (C : Nat → Nat) (x : Int) : Int := if refO C x then 0 else 20
def refC (C : Nat → Nat) (x : Int) : Nat → Nat := if refO C x then putC C x.toNat (cI C x + 1) else C
theorem cI_some {C : Nat → Nat} {x : Int} (h : cI C x ≠ 0) : ((x.toNat : Nat) : Int) = x ∧ C x.toNat = cI C x := by
  unfold cI at *
  by_cases h0 : 0 ≤ x
  · rw [if_pos h0]; exact ⟨by omega, rfl⟩
  · rw [if_neg h0] at h; exact absurd rfl h
theorem cI_le {C : Nat → Nat} (b : ∀ k, C k ≤ 1073741824) (x : Int) : cI C x ≤ 1073741824 := by
  unfold cI; split; exact b _; omega
/-! ### Drop -/
def dropN (C : Nat → Nat) (x : Int) : Nat := cI C x - 1
def dropE (C : Nat → Nat) (x : Int) : Int := if cI C x = 0 then 20 else 0
def dropC (C : Nat → Nat) (x : Int) : Nat → Nat := if cI C x = 0 then C else putC C x.toNat (cI C x - 1)
def dropB (B : Nat → Nat → Nat) (C : Nat → Nat) (x : Int) : Nat → Nat → Nat := if cI C x = 1 then putFr B x.toNat z0 else B
theorem anyF_one {F : Nat → Bool} {x : Nat} (h : F x = false) : anyF F x 0 = false := by
  cases e : anyF F x 0
  · rfl
  · obtain ⟨i, hi, hF⟩ := anyF_true e
    have : i = 0 := by omega
    subst this
    rw [Nat.add_zero, h] at hF; cases hF
theorem owns_one {lo hi x : Nat} (h1 : lo ≤ x) (h2 : x < hi) : owns lo hi (x : Int) 0 = true := by
  unfold owns
  refine decide_eq_true ⟨by omega, by omega, ?_, by omega, ?_⟩
  · show (x : Int).tmod (2 ^ 0) = 0
    simp
  · show (x : Int) ≤ (hi : Int) - 2 ^ 0
    simp; omega
theorem give_one {U : Nat → Prop} {b lo hi x : Nat} {F : Nat → Bool} (h : BF w U b lo hi F) (h1 : lo ≤ x) (h2 : x < hi) (hF : F x = false) :
    Calls Tryz.prog 128 #[.pointer (some ⟨b, 0, none⟩), .int .i64 (x : Int), .int .i64 0] w fun e w' => e = .returned (.int .i64 0) ∧ BF w' U b lo hi (addF F 0 x) ∧ Fr U w w' := by
  have := give_any h (x : Int) 0
  unfold gvR gvF at this
  rw [owns_one h1 h2, Int.toNat_natCast, show (0 : Int).toNat = 0 from rfl, anyF_one hF] at this
  simpa using this
set_option maxHeartbeats 1000000 in
theorem sfree_one {M U V : Nat → Prop} {bt bp bc : Nat} (h : FA w S M U V p pm bt bp bc N pool ops B (fT pool C) (fP pool N C) C) (b : ∀ k, C k ≤ 1073741824) (x : Nat) (hC : C x ≠ 0) :
    Calls Tryz.prog 109 #[.pointer (some ⟨p, 0, none⟩), .int .i64 (x : Int)] w fun e w' => e = .returned (.int .i64 0) ∧ FZ w' S p pm N pool ops (putFr B x z0) (putC C x 0) ∧ Fr S w w' := by
  have hd := h.cs.dom x hC
  have c4 := h.c4
  have hn := h.n2
  obtain ⟨w1, r1, r2, r3⟩ := h.cs.drop x (wf_nat (by omega)) 0
  have h1 := h.setC r2 r3
  have f1 := h.frC r3
  have c0 := h1.c0
  have kZ : Aside (Calls Tryz.prog 114 #[.pointer (some ⟨pm, 0, none⟩), .int .i64 (x : Int)] w1 fun e w' => e = .returned (.int .i64 0) ∧ FA w' S M U V p pm bt bp bc N pool ops (putFr B x z0) (fT pool C) (fP pool N C) (putC C x 0) ∧ Fr S w w') := (pzero_ok h1.mem x hd).mono fun e w' ⟨e1, e2, e3⟩ => ⟨e1, h1.setM e2 e3, f1.trans (h1.frM e3)⟩
  have hFt : fT pool C x = false := by unfold fT; rw [decide_eq_false hC, Bool.and_false]
  have hFp : fP pool N C x = false := by unfold fP; rw [decide_eq_false hC, Bool.and_false]
  have zz : (x : Int) ≤ 1048576 := by omega
  by_cases hl : x < pool
  · have kG : Aside (∀ w', FA w' S M U V p pm bt bp bc N pool ops (putFr B x z0) (fT pool C) (fP pool N C) (putC C x 0) → Fr S w w' → Calls Tryz.prog 128 #[.pointer (some ⟨bt, 0, none⟩), .int .i64 (x : Int), .int .i64 0] w' fun e w'' => e = .returned (.int .i64 0) ∧ Hid (FZ w'' S p pm N pool ops (putFr B x z0) (putC C x 0) ∧ Fr S w w'')) := fun w' h2 k2 => (give_one h2.tb (Nat.zero_le _) hl hFt).mono fun e w'' ⟨e1, e2, e3⟩ => ⟨e1, ⟨⟨M, U, V, bt, bp, bc, by rw [fT_zero hl, fP_off hl]; exact h2.setU e2 e3⟩, putC_le b _ _ (by omega)⟩, k2.trans (h2.frU e3)⟩
    have y1 : (x : Int) < pool := by omega
    clear h h1 r2 r3 f1 hFt hFp hd hn b hC
    go_enter Tryz.func109, Tryz.ntmps109
    go_wp2_with fail
    with_reducible refine kZ.out.mono ?_
    rintro e w2 ⟨rfl, h2, k2⟩
    have kG2 := kG.out w2 h2 k2
    have c1 := h2.c1
    have c2 := h2.c2
    clear kG kZ h2 k2
    go_wp2_with fail
    with_reducible refine kG2.mono ?_
    rintro e w3 ⟨rfl, H3⟩
    clear kG2
    go_wp2
    go_ret
    exact ⟨rfl, H3.out⟩
  · have kG : Aside (∀ w', FA w' S M U V p pm bt bp bc N pool ops (putFr B x z0) (fT pool C) (fP pool N C) (putC C x 0) → Fr S w w' → Calls Tryz.prog 128 #[.pointer (some ⟨bp, 0, none⟩), .int .i64 (x : Int), .int .i64 0] w' fun e w'' => e = .returned (.int .i64 0) ∧ Hid (FZ w'' S p pm N pool ops (putFr B x z0) (putC C x 0) ∧ Fr S w w'')) := fun w' h2 k2 => (give_one h2.pg (by omega) hd hFp).mono fun e w'' ⟨e1, e2, e3⟩ => ⟨e1, ⟨⟨M, U, V, bt, bp, bc, by rw [fP_zero (by omega) hd, fT_off (by omega)]; exact h2.setV e2 e3⟩, putC_le b _ _ (by omega)⟩, k2.trans (h2.frV e3)⟩
    have y1 : ¬ (x : Int) < pool := by omega
    clear h h1 r2 r3 f1 hFt hFp hd hn b hC
    go_enter Tryz.func109, Tryz.ntmps109
    go_wp2_with fail
    with_reducible refine kZ.out.mono ?_
    rintro e w2 ⟨rfl, h2, k2⟩
    have kG2 := kG.out w2 h2 k2
    have c1 := h2.c1
    have c3 := h2.c3
    clear kG kZ h2 k2
    go_wp2_with fail
    with_reducible refine kG2.mono ?_
    rintro e w3 ⟨rfl, H3⟩
    clear kG2
    go_wp2
    go_ret
    exact ⟨rfl, H3.out⟩
set_option maxHeartbeats 1000000 in
theorem sdrop_any (h : FZ w S p pm N pool ops B C) (x : Int) (hx : (Lit.int .i64 x).wf = true) :
    Calls Tryz.prog 74 #[.pointer (some ⟨p, 0, none⟩), .int .i64 x] w fun e w' => e = .returned (.tuple #[.int .i64 (dropN C x : Nat), .int .i64 (dropE C x)]) ∧ FZ w' S p pm N pool ops (dropB B C x) (dropC C x) ∧ Fr S w w' := by
  unfold dropN dropE dropC dropB
  have h0 := h
  obtain ⟨⟨M, U, V, bt, bp, bc, h⟩, b⟩ := h
  have c4 := h.c4
  have l := h.cs.look x hx
  have hle := cI_le b x
  by_cases e0 : cI C x = 0
  · have H0 : Hid (FZ w S p pm N pool ops B C) := h0
    rw [if_pos e0, if_neg (show ¬ cI C x = 1 by omega), if_pos e0, show cI C x - 1 = 0 by omega]
    rw [e0] at l
    rw [show ((0 : Nat) : Int) = 0 from rfl] at l
    clear h h0 b hx hle e0
    go_enter Tryz.func74, Tryz.ntmps74
    go_wp2
    go_ret2
    exact ⟨rfl, H0.out, Fr.refl _ _⟩
  · obtain ⟨ex, ec⟩ := cI_some e0
    have hC : C x.toNat ≠ 0 := by rw [ec]; exact e0
    by_cases e1 : cI C x = 1
    · have kF := sfree_one h b x.toNat hC
      rw [ex] at kF
      rw [if_neg e0, if_pos e1, if_neg e0, show cI C x - 1 = 0 by omega]
      rw [e1] at l
      rw [show ((1 : Nat) : Int) = 1 from rfl] at l
      have kF' : Aside (Calls Tryz.prog 109 #[.pointer (some ⟨p, 0, none⟩), .int .i64 x] w fun e w' => e = .returned (.int .i64 0) ∧ FZ w' S p pm N pool ops (putFr B x.toNat z0) (putC C x.toNat 0) ∧ Fr S w w') := kF
      clear kF h h0 b hx hle e0 e1 ex ec hC
      generalize putC C x.toNat 0 = C2 at *
      generalize putFr B x.toNat z0 = B2 at *
      go_enter Tryz.func74, Tryz.ntmps74
      go_wp2_with fail
      with_reducible refine kF'.out.mono ?_
      rintro e w' ⟨rfl, h1, k1⟩
      have H1 : Hid (FZ w' S p pm N pool ops B2 C2 ∧ Fr S w w') := ⟨h1, k1⟩
      clear h1 k1 kF'
      go_wp2
      go_ret2
      exact ⟨rfl, H1.out⟩
    · have hd := h.cs.dom x.toNat hC
      obtain ⟨w2, r1, r2, r3⟩ := h.cs.store x.toNat (cI C x - 1) hd (by omega) (by omega) h.n2
      rw [ex] at r1
      have h2 := h.setC r2 r3
      have H2 : Hid (FZ w2 S p pm N pool ops B (putC C x.toNat (cI C x - 1)) ∧ Fr S w w2) := ⟨⟨⟨M, U, V, bt, bp, bc, by rw [fT_same hC (by omega), fP_same hC (by omega)]; exact h2⟩, putC_le b _ _ (by omega)⟩, h.frC r3⟩
      rw [if_neg e0, if_neg e1, if_neg e0]
      have z1 : ¬ ((cI C x : Nat) : Int) = 0 := by omega
      have z2 : ¬ ((cI C x : Nat) : Int) = 1 := by omega
      have z3 : ((cI C x : Nat) : Int) ≤ 1073741824 := by omega
      have z4 : ((cI C x - 1 : Nat) : Int) = (cI C x : Nat) - 1 := by omega
      rw [z4] at r1
      rw [z4]
      clear h h0 b hx h2 r2 r3 hd ex ec e0 e1 hle z4 hC
      generalize hc : putC C x.toNat (cI C x - 1) = C2 at *
      clear hc
      generalize cI C x = c at *
      go_enter Tryz.func74, Tryz.ntmps74
      go_wp2
      go_ret2
      exact ⟨rfl, H2.out⟩
end

/-! ### New -/
theorem ivl_fT (pool : Nat) : ivl 0 (0 + pool) = fT pool (fun _ => 0) := eq_of_iff fun k => by rw [ivl_iff, fT_iff]; omega
theorem ivl_fP {pool N : Nat} : ivl pool N = fP pool N (fun _ => 0) := eq_of_iff fun k => by rw [ivl_iff, fP_iff]; omega
set_option maxHeartbeats 2000000 in
theorem fnew_ok {w : World} {M : Nat → Prop} {pm N ops : Nat} {B : Nat → Nat → Nat} (h : PM w M pm N ops B) (T : TAB w) (h0 : ¬ M 1) (pool : Nat) (h1 : 1 ≤ pool) (h2 : pool ≤ 4096) (h3 : pool < N) :
    Calls Tryz.prog 35 #[.pointer (some ⟨pm, 0, none⟩), .int .i64 (pool : Int)] w fun e w' => (∃ p S, e = .returned (.tuple #[.pointer (some ⟨p, 0, none⟩), .int .i64 0]) ∧ FZ w' S p pm N pool ops B (fun _ => 0) ∧ ∀ k, S k → M k ∨ w.heap.size ≤ k) ∧ Kp w w' := by
  have hn : N ≤ 1048576 := by obtain ⟨bm, g, h⟩ := h; exact h.n2
  have kF := fun w' (k : Kp w w') => pframes_any (h.kp k)
  have KF : Aside (∀ w', Kp w w' → Calls Tryz.prog 75 #[.pointer (some ⟨pm, 0, none⟩)] w' fun e w'' => e = .returned (.int .i64 (N : Nat)) ∧ w'' = w') := kF
  have k0 := KF.out w (Kp.refl w)
  have kB := bnew_ok 0 pool w T (by omega) (by omega)
  have KP : Aside (∀ w', Kp w w' → Calls Tryz.prog 76 #[.int .i64 (pool : Int), .int .i64 ((N : Int) - pool)] w' fun e w'' => (∃ p U, e = .returned (.tuple #[.pointer (some ⟨p, 0, none⟩), .int .i64 0]) ∧ BF w'' U p pool N (fP pool N (fun _ => 0)) ∧ ∀ k, U k → w'.heap.size ≤ k) ∧ Kp w' w'') := fun w' k => by
    have := bnew_ok pool (N - pool) w' (T.kp k) (by omega) (by omega)
    rw [show pool + (N - pool) = N by omega, ivl_fP, show ((N - pool : Nat) : Int) = (N : Int) - pool by omega] at this
    exact this
  have HH : Hid (PM w M pm N ops B ∧ ¬ M 1 ∧ TAB w ∧ 1 ≤ pool ∧ pool < N ∧ N ≤ 1048576) := ⟨h, h0, T, h1, h3, hn⟩
  have z1 : (1 : Int) ≤ pool := by omega
  have z2 : (pool : Int) ≤ 4096 := by omega
  have z3 : (pool : Int) < N := by omega
  have z4 : (N : Int) ≤ 1048576 := by omega
  have hmm := @run_makeMap Tryz.prog
  rw [show ((0 : Nat) : Int) = 0 from rfl] at kB
  clear h T h0 h1 h2 h3 hn kF
  go_enter Tryz.func35, Tryz.ntmps35
  go_wp2_with (go_at_call 75; with_reducible refine k0.mono ?_; rintro e w' ⟨rfl, rfl⟩)
  with_reducible refine kB.mono ?_
  rintro e w1 ⟨⟨bt, U, rfl, t1, t2⟩, t3⟩
  have H1 : Hid (BF w1 U bt 0 pool (fT pool (fun _ => 0)) ∧ (∀ k, U k → w'.heap.size ≤ k) ∧ Kp w' w1) := ⟨by rw [← ivl_fT]; simpa using t1, t2, t3⟩
  have k1 := KF.out w1 t3
  have kP := KP.out w1 t3
  clear t1 t2 t3 kB k0 KP
  go_wp2_with (go_at_call 75; with_reducible refine k1.mono ?_; rintro e w'' ⟨rfl, rfl⟩)
  with_reducible refine kP.mono ?_
  rintro e w2 ⟨⟨bp, V, rfl, t1, t2⟩, t3⟩
  have H2 : Hid (BF w2 V bp pool N (fP pool N (fun _ => 0)) ∧ (∀ k, V k → w''.heap.size ≤ k) ∧ Kp w'' w2) := ⟨t1, t2, t3⟩
  clear t1 t2 t3 kP k1 KF
  go_wp2
  go_ret2
  have HE := HH.out
  have A1 := H1.out
  have A2 := H2.out
  obtain ⟨m, m0, T, q1, q2, q3⟩ := HE
  obtain ⟨t1, t2, t3⟩ := A1
  obtain ⟨v1, v2, v3⟩ := A2
  have k23 := t3.trans v3
  have ka : Kp w2 (w2.alloc (.map #[] 0)) := (Kp.refl w2).alloc _
  have kb : Kp (w2.alloc (.map #[] 0)) ((w2.alloc (.map #[] 0)).alloc (.cells #[.pointer (some ⟨pm, 0, none⟩), .int .i64 (pool : Nat), .pointer (some ⟨bt, 0, none⟩), .pointer (some ⟨bp, 0, none⟩), .map (some w2.heap.size)] 103)) := (Kp.refl _).alloc _
  have e1 : (w2.alloc (.map #[] 0)).heap.size = w2.heap.size + 1 := by simp
  have e2 := heap_alloc_new (w2.alloc (.map #[] 0)) (.cells #[.pointer (some ⟨pm, 0, none⟩), .int .i64 (pool : Nat), .pointer (some ⟨bt, 0, none⟩), .pointer (some ⟨bp, 0, none⟩), .map (some w2.heap.size)] 103)
  rw [e1] at e2
  have e3 : ((w2.alloc (.map #[] 0)).alloc (.cells #[.pointer (some ⟨pm, 0, none⟩), .int .i64 (pool : Nat), .pointer (some ⟨bt, 0, none⟩), .pointer (some ⟨bp, 0, none⟩), .map (some w2.heap.size)] 103)).heap.size = w2.heap.size + 2 := by simp
  have hT := T.lt
  have mo := m.own
  have uo := t1.own
  have vo := v1.own
  have s1 := t3.size
  have s2 := v3.size
  have kab := ka.trans kb
  refine ⟨⟨w2.heap.size + 1, fun k => M k ∨ U k ∨ V k ∨ k = w2.heap.size + 1 ∨ k = w2.heap.size, rfl, ⟨⟨M, U, V, bt, bp, w2.heap.size, ⟨fun k hk => ?_, e2, (m.kp k23).kp kab, (t1.kp v3).kp kab, v1.kp kab, (MC.made w2 N).fr (kb.fr (fun _ => False)) id, q1, q2, q3, .inr (.inr (.inr (.inl rfl))), .inr (.inr (.inr (.inr rfl))), fun _ => .inl, fun _ x => .inr (.inl x), fun _ x => .inr (.inr (.inl x)), by omega, fun x => ?_, fun x => ?_, fun x => ?_, fun x => ?_, fun x => ?_, fun x => ?_, fun k x y => ?_, fun k x y => ?_, fun k x y => ?_, fun x => ?_⟩⟩, fun _ => Nat.zero_le _⟩, fun k hk => ?_⟩, k23.trans kab⟩
  · rcases hk with x | x | x | x | x
    · have := mo k x; omega
    · have := uo k x; omega
    · have := vo k x; omega
    · omega
    · omega
  · have := mo _ x; omega
  · have := uo _ x; omega
  · have := vo _ x; omega
  · have := mo _ x; omega
  · have := uo _ x; omega
  · have := vo _ x; omega
  · have := mo _ x; have := t2 _ y; omega
  · have := mo _ x; have := v2 _ y; omega
  · have := uo _ x; have := v2 _ y; omega
  · rcases x with x | x | x | x | x
    · exact m0 x
    · exact t1.u0 x
    · exact v1.u0 x
    · omega
    · omega
  · rcases hk with x | x | x | x | x
    · exact .inl x
    · exact .inr (t2 _ x)
    · exact .inr (by have := v2 _ x; omega)
    · exact .inr (by omega)
    · exact .inr (by omega)
theorem fnew_nil (pool : Int) (w : World) :
    Calls Tryz.prog 35 #[.pointer none, .int .i64 pool] w fun e w' => e = .returned (.tuple #[.pointer none, .int .i64 1]) ∧ w' = w := by
  go_enter Tryz.func35, Tryz.ntmps35
  go_wp2
  go_ret2
  exact ⟨rfl, rfl⟩
set_option maxHeartbeats 1000000 in
theorem fnew_no {w : World} {M : Nat → Prop} {pm N ops : Nat} {B : Nat → Nat → Nat} (h : PM w M pm N ops B) (pool : Int) (hp : ¬ (1 ≤ pool ∧ pool ≤ 4096 ∧ pool < (N : Int))) :
    Calls Tryz.prog 35 #[.pointer (some ⟨pm, 0, none⟩), .int .i64 pool] w fun e w' => e = .returned (.tuple #[.pointer none, .int .i64 1]) ∧ w' = w := by
  have k0 := pframes_any h
  clear h
  by_cases d1 : pool < 1
  · clear hp k0
    go_enter Tryz.func35, Tryz.ntmps35
    go_wp2
    go_ret2
    exact ⟨rfl, rfl⟩
  · by_cases d2 : (4096 : Int) < pool
    · clear hp k0
      go_enter Tryz.func35, Tryz.ntmps35
      go_wp2
      go_ret2
      exact ⟨rfl, rfl⟩
    · have d3 : (N : Int) ≤ pool := by omega
      clear hp
      go_enter Tryz.func35, Tryz.ntmps35
      go_wp2_with (go_at_call 75; with_reducible refine k0.mono ?_; rintro e w' ⟨rfl, rfl⟩)
      go_ret2
      exact ⟨rfl, rfl⟩
end Go.Proofs.YtcankhnnikhblaaGreatDoor
