/- Joined: V2, V3, V4. -/
import Derived.Test.YtanlcmdnhhdhaaaGreatDoorJ06
import Derived.Test.YtanlcmdnhhdhaaaGreatDoorJ08
import Derived.Test.YtanlcmdnhhdhaaaGreatDoorUA
import Derived.Deep.DeepCutAuto
/- frames.Frames, as it lies: the memory, the two buddies, the counts. -/
namespace Go.Proofs.YtanlcmdnhhdhaaaGreatDoor
open Go.RowKit Go.Maps
set_option maxRecDepth 10000
set_option linter.unusedVariables false

/-- The frames at p: the memory at pm (its blocks: M), the buddies at bt and bp (U, V), the counts at bc; all that is their own lies in S. -/
structure FA (w : World) (S M U V : Nat → Prop) (p pm bt bp bc N pool ops : Nat) (B : Nat → Nat → Nat) (Ft Fp : Nat → Bool) (C : Nat → Nat) : Prop where
  own : ∀ k, S k → k < w.heap.size
  row : w.heap[p]? = some (.cells #[.pointer (some ⟨pm, 0, none⟩), .int .i64 (pool : Nat), .pointer (some ⟨bt, 0, none⟩), .pointer (some ⟨bp, 0, none⟩), .map (some bc)] 99 (0, 0))
  mem : PM w M pm N ops B
  tb : BF w U bt 0 pool Ft
  pg : BF w V bp pool N Fp
  cs : MC w bc N C
  p1 : 1 ≤ pool
  p2 : pool < N
  n2 : N ≤ 1048576
  sp : S p
  sc : S bc
  sM : ∀ k, M k → S k
  sU : ∀ k, U k → S k
  sV : ∀ k, V k → S k
  ne : p ≠ bc
  pM : ¬ M p
  pU : ¬ U p
  pV : ¬ V p
  cM : ¬ M bc
  cU : ¬ U bc
  cV : ¬ V bc
  MU : ∀ k, M k → ¬ U k
  MV : ∀ k, M k → ¬ V k
  UV : ∀ k, U k → ¬ V k
  s0 : ¬ S 1
section
variable {w w' : World} {S M U V : Nat → Prop} {p pm bt bp bc N pool ops ops' : Nat} {B B' : Nat → Nat → Nat} {Ft Fp Ft' Fp' : Nat → Bool} {C C' : Nat → Nat}
theorem FA.fr (h : FA w S M U V p pm bt bp bc N pool ops B Ft Fp C) {X : Nat → Prop} (k : Fr X w w') (hX : ∀ i, S i → ¬ X i) (h0 : ¬ X 1) : FA w' S M U V p pm bt bp bc N pool ops B Ft Fp C :=
  ⟨fun i hi => Nat.lt_of_lt_of_le (h.own i hi) k.size, (k.block p (h.own p h.sp) (hX p h.sp)).trans h.row, h.mem.fr k (fun i hi => hX i (h.sM i hi)), h.tb.fr k (fun i hi => hX i (h.sU i hi)) h0, h.pg.fr k (fun i hi => hX i (h.sV i hi)) h0, h.cs.fr k (hX bc h.sc), h.p1, h.p2, h.n2, h.sp, h.sc, h.sM, h.sU, h.sV, h.ne, h.pM, h.pU, h.pV, h.cM, h.cU, h.cV, h.MU, h.MV, h.UV, h.s0⟩
theorem FA.kp (h : FA w S M U V p pm bt bp bc N pool ops B Ft Fp C) (k : Kp w w') : FA w' S M U V p pm bt bp bc N pool ops B Ft Fp C := h.fr (k.fr (fun _ => False)) (fun _ _ => id) id
theorem FA.setM (h : FA w S M U V p pm bt bp bc N pool ops B Ft Fp C) (m : PM w' M pm N ops' B') (k : Fr M w w') : FA w' S M U V p pm bt bp bc N pool ops' B' Ft Fp C :=
  have h0 : ¬ M 1 := fun e => h.s0 (h.sM _ e)
  ⟨fun i hi => Nat.lt_of_lt_of_le (h.own i hi) k.size, (k.block p (h.own p h.sp) h.pM).trans h.row, m, h.tb.fr k (fun i hi e => h.MU i e hi) h0, h.pg.fr k (fun i hi e => h.MV i e hi) h0, h.cs.fr k h.cM, h.p1, h.p2, h.n2, h.sp, h.sc, h.sM, h.sU, h.sV, h.ne, h.pM, h.pU, h.pV, h.cM, h.cU, h.cV, h.MU, h.MV, h.UV, h.s0⟩
theorem FA.setM' {M' : Nat → Prop} (h : FA w S M U V p pm bt bp bc N pool ops B Ft Fp C) (m : PM w' M' pm N ops' B') (k : Fr M w w') (l : Less M M' w) : FA w' (fun i => S i ∨ M' i) M' U V p pm bt bp bc N pool ops' B' Ft Fp C :=
  have h0 : ¬ M 1 := fun e => h.s0 (h.sM _ e)
  have hl : ∀ i, M' i → i < w.heap.size → M i := fun i hi hl => (l i hi).resolve_right (Nat.not_le.2 hl)
  have ht : 1 < w.heap.size := h.tb.tab.lt
  ⟨fun i hi => hi.elim (fun hi => Nat.lt_of_lt_of_le (h.own i hi) k.size) (m.own i), (k.block p (h.own p h.sp) h.pM).trans h.row, m, h.tb.fr k (fun i hi e => h.MU i e hi) h0, h.pg.fr k (fun i hi e => h.MV i e hi) h0, h.cs.fr k h.cM, h.p1, h.p2, h.n2, .inl h.sp, .inl h.sc, fun i hi => .inr hi, fun i hi => .inl (h.sU i hi), fun i hi => .inl (h.sV i hi), h.ne,
   fun e => h.pM (hl _ e (h.own p h.sp)), h.pU, h.pV, fun e => h.cM (hl _ e (h.own bc h.sc)), h.cU, h.cV, fun i hi hu => h.MU i (hl i hi (h.own i (h.sU i hu))) hu, fun i hi hu => h.MV i (hl i hi (h.own i (h.sV i hu))) hu, h.UV, fun e => e.elim h.s0 (fun e => h0 (hl _ e ht))⟩
theorem FA.setU (h : FA w S M U V p pm bt bp bc N pool ops B Ft Fp C) (m : BF w' U bt 0 pool Ft') (k : Fr U w w') : FA w' S M U V p pm bt bp bc N pool ops B Ft' Fp C :=
  ⟨fun i hi => Nat.lt_of_lt_of_le (h.own i hi) k.size, (k.block p (h.own p h.sp) h.pU).trans h.row, h.mem.fr k h.MU, m, h.pg.fr k (fun i hi e => h.UV i e hi) h.tb.u0, h.cs.fr k h.cU, h.p1, h.p2, h.n2, h.sp, h.sc, h.sM, h.sU, h.sV, h.ne, h.pM, h.pU, h.pV, h.cM, h.cU, h.cV, h.MU, h.MV, h.UV, h.s0⟩
theorem FA.setV (h : FA w S M U V p pm bt bp bc N pool ops B Ft Fp C) (m : BF w' V bp pool N Fp') (k : Fr V w w') : FA w' S M U V p pm bt bp bc N pool ops B Ft Fp' C :=
  ⟨fun i hi => Nat.lt_of_lt_of_le (h.own i hi) k.size, (k.block p (h.own p h.sp) h.pV).trans h.row, h.mem.fr k h.MV, h.tb.fr k h.UV h.pg.u0, m, h.cs.fr k h.cV, h.p1, h.p2, h.n2, h.sp, h.sc, h.sM, h.sU, h.sV, h.ne, h.pM, h.pU, h.pV, h.cM, h.cU, h.cV, h.MU, h.MV, h.UV, h.s0⟩
theorem FA.setC (h : FA w S M U V p pm bt bp bc N pool ops B Ft Fp C) (m : MC w' bc N C') (k : Fr (· = bc) w w') : FA w' S M U V p pm bt bp bc N pool ops B Ft Fp C' :=
  have h0 : ¬ 1 = bc := fun e => h.s0 (e ▸ h.sc)
  ⟨fun i hi => Nat.lt_of_lt_of_le (h.own i hi) k.size, (k.block p (h.own p h.sp) h.ne).trans h.row, h.mem.fr k (fun i hi e => h.cM (e ▸ hi)), h.tb.fr k (fun i hi e => h.cU (e ▸ hi)) h0, h.pg.fr k (fun i hi e => h.cV (e ▸ hi)) h0, m, h.p1, h.p2, h.n2, h.sp, h.sc, h.sM, h.sU, h.sV, h.ne, h.pM, h.pU, h.pV, h.cM, h.cU, h.cV, h.MU, h.MV, h.UV, h.s0⟩
theorem FA.c0 (h : FA w S M U V p pm bt bp bc N pool ops B Ft Fp C) : w.cell? ⟨p, 0, none⟩ = some (.pointer (some ⟨pm, 0, none⟩)) := by rw [cell_of_row w p 0 _ _ _ h.row]; rfl
theorem FA.c1 (h : FA w S M U V p pm bt bp bc N pool ops B Ft Fp C) : w.cell? ⟨p, 1, none⟩ = some (.int .i64 (pool : Nat)) := by rw [cell_of_row w p 1 _ _ _ h.row]; rfl
theorem FA.c2 (h : FA w S M U V p pm bt bp bc N pool ops B Ft Fp C) : w.cell? ⟨p, 2, none⟩ = some (.pointer (some ⟨bt, 0, none⟩)) := by rw [cell_of_row w p 2 _ _ _ h.row]; rfl
theorem FA.c3 (h : FA w S M U V p pm bt bp bc N pool ops B Ft Fp C) : w.cell? ⟨p, 3, none⟩ = some (.pointer (some ⟨bp, 0, none⟩)) := by rw [cell_of_row w p 3 _ _ _ h.row]; rfl
theorem FA.c4 (h : FA w S M U V p pm bt bp bc N pool ops B Ft Fp C) : w.cell? ⟨p, 4, none⟩ = some (.map (some bc)) := by rw [cell_of_row w p 4 _ _ _ h.row]; rfl
theorem FA.frM (h : FA w S M U V p pm bt bp bc N pool ops B Ft Fp C) (k : Fr M w w') : Fr S w w' := k.mono (fun i _ hi => h.sM i hi)
theorem FA.frU (h : FA w S M U V p pm bt bp bc N pool ops B Ft Fp C) (k : Fr U w w') : Fr S w w' := k.mono (fun i _ hi => h.sU i hi)
theorem FA.frV (h : FA w S M U V p pm bt bp bc N pool ops B Ft Fp C) (k : Fr V w w') : Fr S w w' := k.mono (fun i _ hi => h.sV i hi)
theorem FA.frC (h : FA w S M U V p pm bt bp bc N pool ops B Ft Fp C) (k : Fr (· = bc) w w') : Fr S w w' := k.mono (fun i _ hi => by rw [hi]; exact h.sc)
end

/-! ### what only reads -/
section
variable {w : World} {S M U V : Nat → Prop} {p pm bt bp bc N pool ops : Nat} {B : Nat → Nat → Nat} {Ft Fp : Nat → Bool} {C : Nat → Nat}
theorem fmem_any (h : FA w S M U V p pm bt bp bc N pool ops B Ft Fp C) :
    Calls Tryz.prog 95 #[.pointer (some ⟨p, 0, none⟩)] w fun e w' => e = .returned (.pointer (some ⟨pm, 0, none⟩)) ∧ w' = w := by
  have c0 := h.c0
  clear h
  go_enter Tryz.func95, Tryz.ntmps95
  go_wp2
  go_ret
  exact ⟨rfl, rfl⟩
set_option maxHeartbeats 1000000 in
theorem ffree_any (h : FA w S M U V p pm bt bp bc N pool ops B Ft Fp C) :
    Calls Tryz.prog 10 #[.pointer (some ⟨p, 0, none⟩)] w fun e w' => e = .returned (.tuple #[.int .i64 (cnt Fp N : Nat), .int .i64 (cnt Ft pool : Nat)]) ∧ Dr w w' := by
  have c2 : ∀ n, (w.drewN n).cell? ⟨p, 2, none⟩ = some (.pointer (some ⟨bt, 0, none⟩)) := fun _ => h.c2
  have c3 : ∀ n, (w.drewN n).cell? ⟨p, 3, none⟩ = some (.pointer (some ⟨bp, 0, none⟩)) := fun _ => h.c3
  have k1 : Aside (∀ n, Calls Tryz.prog 44 #[.pointer (some ⟨bt, 0, none⟩)] (w.drewN n) fun e w' => e = .returned (.int .i64 (cnt Ft pool : Nat)) ∧ w' = w.drewN n) := fun n => free_any (h.tb.kp ((Kp.refl w).drewN n))
  have k2 : Aside (∀ n, Calls Tryz.prog 44 #[.pointer (some ⟨bp, 0, none⟩)] (w.drewN n) fun e w' => e = .returned (.int .i64 (cnt Fp N : Nat)) ∧ w' = w.drewN n) := fun n => free_any (h.pg.kp ((Kp.refl w).drewN n))
  clear h
  generalize cnt Ft pool = a at *
  generalize cnt Fp N = b at *
  go_enter Tryz.func10, Tryz.ntmps10
  go_wp2_with fail
  go_quiet (first | (go_at_call 44; go_must (first | exact (k1.out _).mono fun e w' h => ⟨h.1, _, h.2⟩ | exact (k2.out _).mono fun e w' h => ⟨h.1, _, h.2⟩)))
  go_wp2
  go_ret2
  exact ⟨rfl, _, rfl⟩
end
end Go.Proofs.YtanlcmdnhhdhaaaGreatDoor

/- frames: New, take. -/
namespace Go.Proofs.YtanlcmdnhhdhaaaGreatDoor
open Go.RowKit Go.Maps
set_option maxRecDepth 10000

/-- The frames from x on, j of them: all 0; counted once. -/
def zerR (B : Nat → Nat → Nat) (x j : Nat) : Nat → Nat → Nat := fun k => if x ≤ k ∧ k < x + j then z0 else B k
def onR (C : Nat → Nat) (x j : Nat) : Nat → Nat := fun k => if x ≤ k ∧ k < x + j then 1 else C k
theorem zerR_zero (B : Nat → Nat → Nat) (x : Nat) : zerR B x 0 = B := by funext k; unfold zerR; rw [if_neg (by omega)]
theorem onR_zero (C : Nat → Nat) (x : Nat) : onR C x 0 = C := by funext k; unfold onR; rw [if_neg (by omega)]
theorem zerR_succ (B : Nat → Nat → Nat) (x j : Nat) : putFr (zerR B x j) (x + j) z0 = zerR B x (j + 1) := by
  funext k
  unfold putFr zerR
  by_cases e : k = x + j
  · rw [if_pos e, if_pos (by omega)]
  · rw [if_neg e]
    by_cases c : x ≤ k ∧ k < x + j
    · rw [if_pos c, if_pos (by omega)]
    · rw [if_neg c, if_neg (by omega)]
theorem onR_succ (C : Nat → Nat) (x j : Nat) : putC (onR C x j) (x + j) 1 = onR C x (j + 1) := by
  funext k
  unfold putC onR
  by_cases e : k = x + j
  · rw [if_pos e, if_pos (by omega)]
  · rw [if_neg e]
    by_cases c : x ≤ k ∧ k < x + j
    · rw [if_pos c, if_pos (by omega)]
    · rw [if_neg c, if_neg (by omega)]

section
variable {w : World} {S M U V : Nat → Prop} {p pm bt bp bc N pool ops : Nat} {B : Nat → Nat → Nat} {Ft Fp : Nat → Bool} {C : Nat → Nat}
set_option maxHeartbeats 2000000 in
theorem ftake_walk (pb o x s : Nat) (lack : Int) (ho : o ≤ 9) (hs : (2 : Int) ^ o = (s : Int)) (hs2 : (s : Int) ≤ 1000) (hx : x + s ≤ N) (hN : N ≤ 1048576)
    (cT : Calls Tryz.prog 104 #[.pointer (some ⟨pb, 0, none⟩), .int .i64 (o : Int)] w fun e w' => e = .returned (.tuple #[.int .i64 (x : Int), .int .i64 0]) ∧ FA w' S M U V p pm bt bp bc N pool ops B Ft Fp C ∧ Fr S w w') :
    Calls Tryz.prog 70 #[.pointer (some ⟨p, 0, none⟩), .pointer (some ⟨pb, 0, none⟩), .int .i64 (o : Int), .int .i64 lack] w fun e w' => e = .returned (.tuple #[.int .i64 (x : Int), .int .i64 0]) ∧ FA w' S M U V p pm bt bp bc N pool ops (zerR B x s) Ft Fp (onR C x s) ∧ Fr S w w' := by
  have z1 : (o : Int) ≤ 9 := by omega
  have z2 : (x : Int) + s ≤ 1048576 := by omega
  have z3 : (x : Int) + s ≤ N := by omega
  go_enter Tryz.func70, Tryz.ntmps70
  go_wp2_with fail
  with_reducible refine cT.mono ?_
  rintro e w1 ⟨rfl, h1, k1⟩
  have I0 : Hid (FA w1 S M U V p pm bt bp bc N pool ops (zerR B x 0) Ft Fp (onR C x 0) ∧ Fr S w w1) := ⟨by rw [zerR_zero, onR_zero]; exact h1, k1⟩
  clear h1 k1 cT
  go_wp2_with fail
  go_loopg [12] (s + 1) (fun g v12 wr => ∃ j : Nat, v12 = .int .i64 ((x : Int) + j) ∧ j ≤ s ∧ s + 1 - j ≤ g ∧ Hid (FA wr S M U V p pm bt bp bc N pool ops (zerR B x j) Ft Fp (onR C x j) ∧ Fr S w wr))
  case atStart => exact ⟨0, by simp, by omega, by omega, I0⟩
  case round =>
    clear I0
    obtain ⟨j, rfl, hj, hg, HI⟩ := hrel
    by_cases e : j < s
    · have z4 : (j : Int) < s := by omega
      have c0 := HI.out.1.c0
      have kZ := pzero_ok HI.out.1.mem (x + j) (by omega)
      have HK : Hid (∀ w', PM w' M pm N ops (putFr (zerR B x j) (x + j) z0) → Fr M wr w' → w'.cell? ⟨p, 4, none⟩ = some (.map (some bc)) ∧ ∃ w2, (Instr.mapUpdate 97 (.map (some bc)) (.int .i64 ((x : Int) + j)) (.int .i64 1)).run Tryz.prog w' = .ok () w2 ∧ Hid (FA w2 S M U V p pm bt bp bc N pool ops (zerR B x (j + 1)) Ft Fp (onR C x (j + 1)) ∧ Fr S w w2)) := fun w' m k => by
        have h2 := HI.out.1.setM m k
        obtain ⟨w2, r1, r2, r3⟩ := h2.cs.store (x + j) 1 (by omega) (by decide) (by decide) hN
        refine ⟨h2.c4, w2, by rw [← Int.natCast_add]; exact r1, ?_⟩
        have h3 := h2.setC r2 r3
        rw [zerR_succ, onR_succ] at h3
        exact ⟨h3, (HI.out.2.trans (HI.out.1.frM k)).trans (h2.frC r3)⟩
      rw [Int.natCast_add] at kZ
      clear HI
      go_wp2_with fail
      with_reducible refine kZ.mono ?_
      rintro e w' ⟨rfl, m, k⟩
      obtain ⟨c4, w2, r1, HI2⟩ := HK.out w' m k
      clear HK m k kZ
      go_wp2_with fail
      go_roundg (s + 1 - (j + 1))
      case measure => omega
      case rel => exact ⟨j + 1, by go_num, by omega, by omega, HI2⟩
    · have ei : j = s := by omega
      subst ei
      go_wp2
      go_ret2
      exact ⟨rfl, HI.out⟩
set_option maxHeartbeats 1000000 in
theorem ftake_no (pb o : Nat) (lack : Int)
    (cT : Calls Tryz.prog 104 #[.pointer (some ⟨pb, 0, none⟩), .int .i64 (o : Int)] w fun e w' => e = .returned (.tuple #[.int .i64 0, .int .i64 10]) ∧ w' = w) :
    Calls Tryz.prog 70 #[.pointer (some ⟨p, 0, none⟩), .pointer (some ⟨pb, 0, none⟩), .int .i64 (o : Int), .int .i64 lack] w fun e w' => e = .returned (.tuple #[.int .i64 0, .int .i64 lack]) ∧ w' = w := by
  go_enter Tryz.func70, Tryz.ntmps70
  go_wp2_with (go_at_call 104; with_reducible refine cT.mono ?_; rintro e w' ⟨rfl, rfl⟩)
  go_ret2
  exact ⟨rfl, rfl⟩
end
end Go.Proofs.YtanlcmdnhhdhaaaGreatDoor

/- frames: New, Table, Page, Block, Ref, Drop, over what is counted alone. -/
namespace Go.Proofs.YtanlcmdnhhdhaaaGreatDoor
open Go.RowKit Go.Maps
set_option maxRecDepth 10000

/-- The free frames, for tables and for pages. -/
def fT (pool : Nat) (C : Nat → Nat) : Nat → Bool := fun k => decide (k < pool) && decide (C k = 0)
def fP (pool N : Nat) (C : Nat → Nat) : Nat → Bool := fun k => decide (pool ≤ k) && decide (k < N) && decide (C k = 0)
theorem fT_iff (pool : Nat) (C : Nat → Nat) (k : Nat) : fT pool C k = true ↔ k < pool ∧ C k = 0 := by unfold fT; simp
theorem fP_iff (pool N : Nat) (C : Nat → Nat) (k : Nat) : fP pool N C k = true ↔ pool ≤ k ∧ k < N ∧ C k = 0 := by unfold fP; simp [and_assoc]
theorem eq_of_iff {F G : Nat → Bool} (h : ∀ k, F k = true ↔ G k = true) : F = G := funext fun k => Bool.eq_iff_iff.2 (h k)

/-- What Take finds, or that there is none. -/
def TkR (F : Nat → Bool) (o : Nat) : Option Nat → Prop
  | some x => ∃ o' i, Tk F o o' i ∧ x = i * 2 ^ o'
  | none => ∀ a, o ≤ a → a ≤ 9 → ∀ j, ¬ Rn F a j
theorem tkr_ex (F : Nat → Bool) (o : Nat) : ∃ r, TkR F o r := by
  rcases tk_or F o with ⟨o', i, t⟩ | t
  · exact ⟨some (i * 2 ^ o'), o', i, t, rfl⟩
  · exact ⟨none, t⟩
theorem TkR.blk {F : Nat → Bool} {o x : Nat} (h : TkR F o (some x)) : x / 2 ^ o * 2 ^ o = x ∧ ∀ k, x ≤ k → k < x + 2 ^ o → F k = true := by
  obtain ⟨o', i, t, rfl⟩ := h
  have e : i * 2 ^ o' = i * 2 ^ (o' - o) * 2 ^ o := by rw [Nat.mul_assoc, ← Nat.pow_add, Nat.sub_add_cancel t.le]
  have e1 : i * 2 ^ o' / 2 ^ o * 2 ^ o = i * 2 ^ o' := by rw [e, Nat.mul_div_cancel _ (Nat.two_pow_pos o)]
  refine ⟨e1, fun k h1 h2 => t.run.1 k ?_⟩
  have hb : k / 2 ^ o = i * 2 ^ (o' - o) := (blk_iff ..).2 ⟨by rw [← e]; exact h1, by rw [← e]; exact h2⟩
  have : k / 2 ^ o' = k / 2 ^ o / 2 ^ (o' - o) := by rw [Nat.div_div_eq_div_mul, ← Nat.pow_add, show o + (o' - o) = o' by have := t.le; omega]
  rw [this, hb, Nat.mul_div_cancel _ (Nat.two_pow_pos _)]
theorem subF_at {F : Nat → Bool} {o x : Nat} (h : x / 2 ^ o * 2 ^ o = x) (k : Nat) : subF F o (x / 2 ^ o) k = true ↔ F k = true ∧ ¬ (x ≤ k ∧ k < x + 2 ^ o) := by
  rw [subF_iff, Ne, blk_iff, h]
def gotX (r : Option Nat) : Nat := match r with
  | some x => x
  | none => 0
def gotE (r : Option Nat) (lack : Int) : Int := match r with
  | some _ => 0
  | none => lack
def gotB (B : Nat → Nat → Nat) (r : Option Nat) (s : Nat) : Nat → Nat → Nat := match r with
  | some x => zerR B x s
  | none => B
def gotC (C : Nat → Nat) (r : Option Nat) (s : Nat) : Nat → Nat := match r with
  | some x => onR C x s
  | none => C
theorem fT_on {pool o x : Nat} {C : Nat → Nat} (h : x / 2 ^ o * 2 ^ o = x) : fT pool (onR C x (2 ^ o)) = subF (fT pool C) o (x / 2 ^ o) := eq_of_iff fun k => by
  rw [subF_at h, fT_iff, fT_iff]
  unfold onR
  by_cases c : x ≤ k ∧ k < x + 2 ^ o
  · rw [if_pos c]; omega
  · rw [if_neg c]; exact ⟨fun a => ⟨a, c⟩, fun a => a.1⟩
theorem fP_on {pool N o x : Nat} {C : Nat → Nat} (h : x / 2 ^ o * 2 ^ o = x) : fP pool N (onR C x (2 ^ o)) = subF (fP pool N C) o (x / 2 ^ o) := eq_of_iff fun k => by
  rw [subF_at h, fP_iff, fP_iff]
  unfold onR
  by_cases c : x ≤ k ∧ k < x + 2 ^ o
  · rw [if_pos c]; omega
  · rw [if_neg c]; exact ⟨fun a => ⟨a, c⟩, fun a => a.1⟩
theorem fT_out {pool x s : Nat} {C : Nat → Nat} (h : pool ≤ x) : fT pool (onR C x s) = fT pool C := eq_of_iff fun k => by
  rw [fT_iff, fT_iff]
  unfold onR
  by_cases c : x ≤ k ∧ k < x + s
  · rw [if_pos c]; omega
  · rw [if_neg c]
theorem fP_out {pool N x s : Nat} {C : Nat → Nat} (h : x + s ≤ pool) : fP pool N (onR C x s) = fP pool N C := eq_of_iff fun k => by
  rw [fP_iff, fP_iff]
  unfold onR
  by_cases c : x ≤ k ∧ k < x + s
  · rw [if_pos c]; omega
  · rw [if_neg c]
/-- A count that was not 0 and is not. -/
theorem fT_same {pool x v : Nat} {C : Nat → Nat} (h : C x ≠ 0) (hv : v ≠ 0) : fT pool (putC C x v) = fT pool C := eq_of_iff fun k => by
  rw [fT_iff, fT_iff]
  unfold putC
  by_cases c : k = x
  · rw [if_pos c, c]; omega
  · rw [if_neg c]
theorem fP_same {pool N x v : Nat} {C : Nat → Nat} (h : C x ≠ 0) (hv : v ≠ 0) : fP pool N (putC C x v) = fP pool N C := eq_of_iff fun k => by
  rw [fP_iff, fP_iff]
  unfold putC
  by_cases c : k = x
  · rw [if_pos c, c]; omega
  · rw [if_neg c]
theorem fT_zero {pool x : Nat} {C : Nat → Nat} (h : x < pool) : fT pool (putC C x 0) = addF (fT pool C) 0 x := eq_of_iff fun k => by
  rw [addF_iff, fT_iff, fT_iff, Nat.pow_zero, Nat.div_one]
  unfold putC
  by_cases c : k = x
  · rw [if_pos c]; exact ⟨fun _ => .inr c, fun _ => ⟨by omega, rfl⟩⟩
  · rw [if_neg c]; exact ⟨.inl, fun a => a.resolve_right c⟩
theorem fP_zero {pool N x : Nat} {C : Nat → Nat} (h : pool ≤ x) (h2 : x < N) : fP pool N (putC C x 0) = addF (fP pool N C) 0 x := eq_of_iff fun k => by
  rw [addF_iff, fP_iff, fP_iff, Nat.pow_zero, Nat.div_one]
  unfold putC
  by_cases c : k = x
  · rw [if_pos c]; exact ⟨fun _ => .inr c, fun _ => ⟨by omega, by omega, rfl⟩⟩
  · rw [if_neg c]; exact ⟨.inl, fun a => a.resolve_right c⟩
theorem fT_off {pool x v : Nat} {C : Nat → Nat} (h : pool ≤ x) : fT pool (putC C x v) = fT pool C := eq_of_iff fun k => by
  rw [fT_iff, fT_iff]
  unfold putC
  by_cases c : k = x
  · rw [if_pos c]; omega
  · rw [if_neg c]
theorem fP_off {pool N x v : Nat} {C : Nat → Nat} (h : x < pool) : fP pool N (putC C x v) = fP pool N C := eq_of_iff fun k => by
  rw [fP_iff, fP_iff]
  unfold putC
  by_cases c : k = x
  · rw [if_pos c]; omega
  · rw [if_neg c]

/-- The frames at p over the memory at pm: what is counted says what is free. -/
def FZ (w : World) (S : Nat → Prop) (p pm N pool ops : Nat) (B : Nat → Nat → Nat) (C : Nat → Nat) : Prop :=
  (∃ M U V bt bp bc, FA w S M U V p pm bt bp bc N pool ops B (fT pool C) (fP pool N C) C) ∧ ∀ k, C k ≤ 1073741824
section
variable {w w' : World} {S : Nat → Prop} {p pm N pool ops : Nat} {B : Nat → Nat → Nat} {C : Nat → Nat}
theorem FZ.fr (h : FZ w S p pm N pool ops B C) {X : Nat → Prop} (k : Fr X w w') (hX : ∀ i, S i → ¬ X i) (h0 : ¬ X 1) : FZ w' S p pm N pool ops B C := by
  obtain ⟨⟨M, U, V, bt, bp, bc, h⟩, b⟩ := h
  exact ⟨⟨M, U, V, bt, bp, bc, h.fr k hX h0⟩, b⟩
theorem FZ.kp (h : FZ w S p pm N pool ops B C) (k : Kp w w') : FZ w' S p pm N pool ops B C := h.fr (k.fr (fun _ => False)) (fun _ _ => id) id
theorem FZ.own (h : FZ w S p pm N pool ops B C) : ∀ k, S k → k < w.heap.size := by
  obtain ⟨⟨M, U, V, bt, bp, bc, h⟩, b⟩ := h
  exact h.own
theorem FZ.s0 (h : FZ w S p pm N pool ops B C) : ¬ S 1 := by
  obtain ⟨⟨M, U, V, bt, bp, bc, h⟩, b⟩ := h
  exact h.s0
theorem FZ.nums (h : FZ w S p pm N pool ops B C) : 1 ≤ pool ∧ pool < N ∧ N ≤ 1048576 := by
  obtain ⟨⟨M, U, V, bt, bp, bc, h⟩, b⟩ := h
  exact ⟨h.p1, h.p2, h.n2⟩
theorem FZ.dom (h : FZ w S p pm N pool ops B C) : ∀ x, C x ≠ 0 → x < N := by
  obtain ⟨⟨M, U, V, bt, bp, bc, h⟩, b⟩ := h
  exact h.cs.dom
theorem FZ.tab (h : FZ w S p pm N pool ops B C) : TAB w := by
  obtain ⟨⟨M, U, V, bt, bp, bc, h⟩, b⟩ := h
  exact h.tb.tab
theorem onR_le {C : Nat → Nat} (h : ∀ k, C k ≤ 1073741824) (x s : Nat) : ∀ k, onR C x s k ≤ 1073741824 := fun k => by unfold onR; split; omega; exact h k
theorem putC_le {C : Nat → Nat} (h : ∀ k, C k ≤ 1073741824) (x v : Nat) (hv : v ≤ 1073741824) : ∀ k, putC C x v k ≤ 1073741824 := fun k => by unfold putC; split; exact hv; exact h k

/-! ### Table, Page, Block -/
theorem two9 : (2 : Int) ^ 9 = ((512 : Nat) : Int) := by decide
theorem two0 : (2 : Int) ^ 0 = ((1 : Nat) : Int) := by decide
set_option maxHeartbeats 1000000 in
theorem ftable_any (h : FZ w S p pm N pool ops B C) (r : Option Nat) (hr : TkR (fT pool C) 0 r) :
    Calls Tryz.prog 28 #[.pointer (some ⟨p, 0, none⟩)] w fun e w' => e = .returned (.tuple #[.int .i64 (gotX r : Nat), .int .i64 (gotE r 11)]) ∧ FZ w' S p pm N pool ops (gotB B r 1) (gotC C r 1) ∧ Fr S w w' := by
  obtain ⟨⟨M, U, V, bt, bp, bc, h⟩, b⟩ := h
  have c2 := h.c2
  have kT : Aside (Calls Tryz.prog 70 #[.pointer (some ⟨p, 0, none⟩), .pointer (some ⟨bt, 0, none⟩), .int .i64 0, .int .i64 11] w fun e w' => e = .returned (.tuple #[.int .i64 (gotX r : Nat), .int .i64 (gotE r 11)]) ∧ FZ w' S p pm N pool ops (gotB B r 1) (gotC C r 1) ∧ Fr S w w') := by
    match r, hr with
    | none, hr => exact (ftake_no bt 0 11 (take_no h.tb 0 (by omega) hr)).mono fun e w' ⟨e1, e2⟩ => ⟨e1, by rw [e2]; exact ⟨⟨M, U, V, bt, bp, bc, h⟩, b⟩, by rw [e2]; exact Fr.refl _ _⟩
    | some x, hr =>
      obtain ⟨b1, b2⟩ := hr.blk
      have b3 := ((fT_iff ..).1 (b2 x (Nat.le_refl _) (by omega))).1
      obtain ⟨o', i, t, rfl⟩ := hr
      have cT := (take_ok h.tb 0 o' i t).mono fun e w' (q : _ ∧ _ ∧ _) => (⟨q.1, h.setU q.2.1 q.2.2, h.frU q.2.2⟩ : e = .returned (.tuple #[.int .i64 ((i * 2 ^ o' : Nat) : Int), .int .i64 0]) ∧ FA w' S M U V p pm bt bp bc N pool ops B (subF (fT pool C) 0 (i * 2 ^ o' / 2 ^ 0)) (fP pool N C) C ∧ Fr S w w')
      refine (ftake_walk bt 0 (i * 2 ^ o') 1 11 (by omega) two0 (by omega) (by have := h.p2; omega) h.n2 cT).mono fun e w' ⟨e1, e2, e3⟩ => ⟨e1, ⟨⟨M, U, V, bt, bp, bc, ?_⟩, onR_le b _ _⟩, e3⟩
      show FA w' S M U V p pm bt bp bc N pool ops (zerR B (i * 2 ^ o') 1) (fT pool (onR C (i * 2 ^ o') 1)) (fP pool N (onR C (i * 2 ^ o') 1)) _
      rw [fP_out (by omega), show fT pool (onR C (i * 2 ^ o') 1) = _ from fT_on (o := 0) b1]
      exact e2
  clear h
  go_enter Tryz.func28, Tryz.ntmps28
  go_wp2_with fail
  with_reducible refine kT.out.mono ?_
  rintro e w' ⟨rfl, h1, k1⟩
  have H1 : Hid (FZ w' S p pm N pool ops (gotB B r 1) (gotC C r 1) ∧ Fr S w w') := ⟨h1, k1⟩
  clear h1 k1 kT
  go_wp2
  go_ret2
  exact ⟨rfl, H1.out⟩
theorem fpages_low {M U V : Nat → Prop} {bt bp bc : Nat} (h : FA w S M U V p pm bt bp bc N pool ops B (fT pool C) (fP pool N C) C) (b : ∀ k, C k ≤ 1073741824) (o s : Nat) (ho : o ≤ 9) (hs : 2 ^ o = s) (hi : (2 : Int) ^ o = (s : Int)) (h5 : s ≤ 512) (r : Option Nat) (hr : TkR (fP pool N C) o r) :
    Calls Tryz.prog 70 #[.pointer (some ⟨p, 0, none⟩), .pointer (some ⟨bp, 0, none⟩), .int .i64 (o : Int), .int .i64 10] w fun e w' => e = .returned (.tuple #[.int .i64 (gotX r : Nat), .int .i64 (gotE r 10)]) ∧ FZ w' S p pm N pool ops (gotB B r s) (gotC C r s) ∧ Fr S w w' := by
  subst hs
  match r, hr with
  | none, hr => exact (ftake_no bp o 10 (take_no h.pg o ho hr)).mono fun e w' ⟨e1, e2⟩ => ⟨e1, by rw [e2]; exact ⟨⟨M, U, V, bt, bp, bc, h⟩, b⟩, by rw [e2]; exact Fr.refl _ _⟩
  | some x, hr =>
    obtain ⟨b1, b2⟩ := hr.blk
    have hp := Nat.two_pow_pos o
    have b3 := ((fP_iff ..).1 (b2 x (Nat.le_refl _) (by omega)))
    have b4 := ((fP_iff ..).1 (b2 (x + (2 ^ o - 1)) (by omega) (by omega)))
    obtain ⟨o', i, t, rfl⟩ := hr
    have cT := (take_ok h.pg o o' i t).mono fun e w' (q : _ ∧ _ ∧ _) => (⟨q.1, h.setV q.2.1 q.2.2, h.frV q.2.2⟩ : e = .returned (.tuple #[.int .i64 ((i * 2 ^ o' : Nat) : Int), .int .i64 0]) ∧ FA w' S M U V p pm bt bp bc N pool ops B (fT pool C) (subF (fP pool N C) o (i * 2 ^ o' / 2 ^ o)) C ∧ Fr S w w')
    refine (ftake_walk bp o (i * 2 ^ o') (2 ^ o) 10 ho hi (by omega) (by omega) h.n2 cT).mono fun e w' ⟨e1, e2, e3⟩ => ⟨e1, ⟨⟨M, U, V, bt, bp, bc, ?_⟩, onR_le b _ _⟩, e3⟩
    show FA w' S M U V p pm bt bp bc N pool ops (zerR B (i * 2 ^ o') (2 ^ o)) (fT pool (onR C (i * 2 ^ o') (2 ^ o))) (fP pool N (onR C (i * 2 ^ o') (2 ^ o))) _
    rw [fT_out b3.1, fP_on b1]
    exact e2
end
end Go.Proofs.YtanlcmdnhhdhaaaGreatDoor
