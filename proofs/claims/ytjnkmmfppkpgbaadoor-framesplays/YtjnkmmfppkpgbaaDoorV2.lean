/- frames.Frames, as it lies: the memory, the two buddies, the counts. -/
import Derived.Test.YtjnkmmfppkpgbaaDoorV1
import Derived.Test.YtjnkmmfppkpgbaaDoorJP
import Derived.Test.YtjnkmmfppkpgbaaDoorUA
namespace Go.Proofs.YtjnkmmfppkpgbaaDoor
open Go.RowKit Go.Maps
set_option maxRecDepth 10000
set_option linter.unusedVariables false

/-- The frames at p: the memory at pm (its blocks: M), the buddies at bt and bp (U, V), the counts at bc; all that is their own lies in S. -/
structure FA (w : World) (S M U V : Nat → Prop) (p pm bt bp bc N pool ops : Nat) (B : Nat → Nat → Nat) (Ft Fp : Nat → Bool) (C : Nat → Nat) : Prop where
  own : ∀ k, S k → k < w.heap.size
  row : w.heap[p]? = some (.cells #[.pointer (some ⟨pm, 0, none⟩), .int .i64 (pool : Nat), .pointer (some ⟨bt, 0, none⟩), .pointer (some ⟨bp, 0, none⟩), .map (some bc)] 69 (0, 0))
  mem : PM w M pm N ops B
  tb : BF w U bt 0 pool Ft
  pg : BF w V bp pool N Fp
  cs : MC w bc N C
  p1 : 1 ≤ pool
  p2 : pool < N
  n2 : N ≤ 1048576
  sp : S p
  sc : S bc
  sM : ∀ k, M k → S k
  sU : ∀ k, U k → S k
  sV : ∀ k, V k → S k
  ne : p ≠ bc
  pM : ¬ M p
  pU : ¬ U p
  pV : ¬ V p
  cM : ¬ M bc
  cU : ¬ U bc
  cV : ¬ V bc
  MU : ∀ k, M k → ¬ U k
  MV : ∀ k, M k → ¬ V k
  UV : ∀ k, U k → ¬ V k
  s0 : ¬ S 1
section
variable {w w' : World} {S M U V : Nat → Prop} {p pm bt bp bc N pool ops ops' : Nat} {B B' : Nat → Nat → Nat} {Ft Fp Ft' Fp' : Nat → Bool} {C C' : Nat → Nat}
theorem FA.fr (h : FA w S M U V p pm bt bp bc N pool ops B Ft Fp C) {X : Nat → Prop} (k : Fr X w w') (hX : ∀ i, S i → ¬ X i) (h0 : ¬ X 1) : FA w' S M U V p pm bt bp bc N pool ops B Ft Fp C :=
  ⟨fun i hi => Nat.lt_of_lt_of_le (h.own i hi) k.size, (k.block p (h.own p h.sp) (hX p h.sp)).trans h.row, h.mem.fr k (fun i hi => hX i (h.sM i hi)), h.tb.fr k (fun i hi => hX i (h.sU i hi)) h0, h.pg.fr k (fun i hi => hX i (h.sV i hi)) h0, h.cs.fr k (hX bc h.sc), h.p1, h.p2, h.n2, h.sp, h.sc, h.sM, h.sU, h.sV, h.ne, h.pM, h.pU, h.pV, h.cM, h.cU, h.cV, h.MU, h.MV, h.UV, h.s0⟩
theorem FA.kp (h : FA w S M U V p pm bt bp bc N pool ops B Ft Fp C) (k : Kp w w') : FA w' S M U V p pm bt bp bc N pool ops B Ft Fp C := h.fr (k.fr (fun _ => False)) (fun _ _ => id) id
theorem FA.setM (h : FA w S M U V p pm bt bp bc N pool ops B Ft Fp C) (m : PM w' M pm N ops' B') (k : Fr M w w') : FA w' S M U V p pm bt bp bc N pool ops' B' Ft Fp C :=
  have h0 : ¬ M 1 := fun e => h.s0 (h.sM _ e)
  ⟨fun i hi => Nat.lt_of_lt_of_le (h.own i hi) k.size, (k.block p (h.own p h.sp) h.pM).trans h.row, m, h.tb.fr k (fun i hi e => h.MU i e hi) h0, h.pg.fr k (fun i hi e => h.MV i e hi) h0, h.cs.fr k h.cM, h.p1, h.p2, h.n2, h.sp, h.sc, h.sM, h.sU, h.sV, h.ne, h.pM, h.pU, h.pV, h.cM, h.cU, h.cV, h.MU, h.MV, h.UV, h.s0⟩
theorem FA.setM' {M' : Nat → Prop} (h : FA w S M U V p pm bt bp bc N pool ops B Ft Fp C) (m : PM w' M' pm N ops' B') (k : Fr M w w') (l : Less M M' w) : FA w' (fun i => S i ∨ M' i) M' U V p pm bt bp bc N pool ops' B' Ft Fp C :=
  have h0 : ¬ M 1 := fun e => h.s0 (h.sM _ e)
  have hl : ∀ i, M' i → i < w.heap.size → M i := fun i hi hl => (l i hi).resolve_right (Nat.not_le.2 hl)
  have ht : 1 < w.heap.size := h.tb.tab.lt
  ⟨fun i hi => hi.elim (fun hi => Nat.lt_of_lt_of_le (h.own i hi) k.size) (m.own i), (k.block p (h.own p h.sp) h.pM).trans h.row, m, h.tb.fr k (fun i hi e => h.MU i e hi) h0, h.pg.fr k (fun i hi e => h.MV i e hi) h0, h.cs.fr k h.cM, h.p1, h.p2, h.n2, .inl h.sp, .inl h.sc, fun i hi => .inr hi, fun i hi => .inl (h.sU i hi), fun i hi => .inl (h.sV i hi), h.ne,
   fun e => h.pM (hl _ e (h.own p h.sp)), h.pU, h.pV, fun e => h.cM (hl _ e (h.own bc h.sc)), h.cU, h.cV, fun i hi hu => h.MU i (hl i hi (h.own i (h.sU i hu))) hu, fun i hi hu => h.MV i (hl i hi (h.own i (h.sV i hu))) hu, h.UV, fun e => e.elim h.s0 (fun e => h0 (hl _ e ht))⟩
theorem FA.setU (h : FA w S M U V p pm bt bp bc N pool ops B Ft Fp C) (m : BF w' U bt 0 pool Ft') (k : Fr U w w') : FA w' S M U V p pm bt bp bc N pool ops B Ft' Fp C :=
  ⟨fun i hi => Nat.lt_of_lt_of_le (h.own i hi) k.size, (k.block p (h.own p h.sp) h.pU).trans h.row, h.mem.fr k h.MU, m, h.pg.fr k (fun i hi e => h.UV i e hi) h.tb.u0, h.cs.fr k h.cU, h.p1, h.p2, h.n2, h.sp, h.sc, h.sM, h.sU, h.sV, h.ne, h.pM, h.pU, h.pV, h.cM, h.cU, h.cV, h.MU, h.MV, h.UV, h.s0⟩
theorem FA.setV (h : FA w S M U V p pm bt bp bc N pool ops B Ft Fp C) (m : BF w' V bp pool N Fp') (k : Fr V w w') : FA w' S M U V p pm bt bp bc N pool ops B Ft Fp' C :=
  ⟨fun i hi => Nat.lt_of_lt_of_le (h.own i hi) k.size, (k.block p (h.own p h.sp) h.pV).trans h.row, h.mem.fr k h.MV, h.tb.fr k h.UV h.pg.u0, m, h.cs.fr k h.cV, h.p1, h.p2, h.n2, h.sp, h.sc, h.sM, h.sU, h.sV, h.ne, h.pM, h.pU, h.pV, h.cM, h.cU, h.cV, h.MU, h.MV, h.UV, h.s0⟩
theorem FA.setC (h : FA w S M U V p pm bt bp bc N pool ops B Ft Fp C) (m : MC w' bc N C') (k : Fr (· = bc) w w') : FA w' S M U V p pm bt bp bc N pool ops B Ft Fp C' :=
  have h0 : ¬ 1 = bc := fun e => h.s0 (e ▸ h.sc)
  ⟨fun i hi => Nat.lt_of_lt_of_le (h.own i hi) k.size, (k.block p (h.own p h.sp) h.ne).trans h.row, h.mem.fr k (fun i hi e => h.cM (e ▸ hi)), h.tb.fr k (fun i hi e => h.cU (e ▸ hi)) h0, h.pg.fr k (fun i hi e => h.cV (e ▸ hi)) h0, m, h.p1, h.p2, h.n2, h.sp, h.sc, h.sM, h.sU, h.sV, h.ne, h.pM, h.pU, h.pV, h.cM, h.cU, h.cV, h.MU, h.MV, h.UV, h.s0⟩
theorem FA.c0 (h : FA w S M U V p pm bt bp bc N pool ops B Ft Fp C) : w.cell? ⟨p, 0, none⟩ = some (.pointer (some ⟨pm, 0, none⟩)) := by rw [cell_of_row w p 0 _ _ _ h.row]; rfl
theorem FA.c1 (h : FA w S M U V p pm bt bp bc N pool ops B Ft Fp C) : w.cell? ⟨p, 1, none⟩ = some (.int .i64 (pool : Nat)) := by rw [cell_of_row w p 1 _ _ _ h.row]; rfl
theorem FA.c2 (h : FA w S M U V p pm bt bp bc N pool ops B Ft Fp C) : w.cell? ⟨p, 2, none⟩ = some (.pointer (some ⟨bt, 0, none⟩)) := by rw [cell_of_row w p 2 _ _ _ h.row]; rfl
theorem FA.c3 (h : FA w S M U V p pm bt bp bc N pool ops B Ft Fp C) : w.cell? ⟨p, 3, none⟩ = some (.pointer (some ⟨bp, 0, none⟩)) := by rw [cell_of_row w p 3 _ _ _ h.row]; rfl
theorem FA.c4 (h : FA w S M U V p pm bt bp bc N pool ops B Ft Fp C) : w.cell? ⟨p, 4, none⟩ = some (.map (some bc)) := by rw [cell_of_row w p 4 _ _ _ h.row]; rfl
theorem FA.frM (h : FA w S M U V p pm bt bp bc N pool ops B Ft Fp C) (k : Fr M w w') : Fr S w w' := k.mono (fun i _ hi => h.sM i hi)
theorem FA.frU (h : FA w S M U V p pm bt bp bc N pool ops B Ft Fp C) (k : Fr U w w') : Fr S w w' := k.mono (fun i _ hi => h.sU i hi)
theorem FA.frV (h : FA w S M U V p pm bt bp bc N pool ops B Ft Fp C) (k : Fr V w w') : Fr S w w' := k.mono (fun i _ hi => h.sV i hi)
theorem FA.frC (h : FA w S M U V p pm bt bp bc N pool ops B Ft Fp C) (k : Fr (· = bc) w w') : Fr S w w' := k.mono (fun i _ hi => by rw [hi]; exact h.sc)
end

/-! ### what only reads -/
section
variable {w : World} {S M U V : Nat → Prop} {p pm bt bp bc N pool ops : Nat} {B : Nat → Nat → Nat} {Ft Fp : Nat → Bool} {C : Nat → Nat}
theorem fmem_any (h : FA w S M U V p pm bt bp bc N pool ops B Ft Fp C) :
    Calls Tryd.prog 30 #[.pointer (some ⟨p, 0, none⟩)] w fun e w' => e = .returned (.pointer (some ⟨pm, 0, none⟩)) ∧ w' = w := by
  have c0 := h.c0
  clear h
  go_enter Tryd.func30, Tryd.ntmps30
  go_wp2
  go_ret
  exact ⟨rfl, rfl⟩
theorem fcount_any (h : FA w S M U V p pm bt bp bc N pool ops B Ft Fp C) (x : Int) (hx : (Lit.int .i64 x).wf = true) :
    Calls Tryd.prog 26 #[.pointer (some ⟨p, 0, none⟩), .int .i64 x] w fun e w' => e = .returned (.int .i64 (cI C x : Nat)) ∧ w' = w := by
  have c4 := h.c4
  have l := h.cs.look x hx
  clear h hx
  generalize cI C x = c at *
  go_enter Tryd.func26, Tryd.ntmps26
  go_wp2
  go_ret
  exact ⟨rfl, rfl⟩
set_option maxHeartbeats 1000000 in
theorem ffree_any (h : FA w S M U V p pm bt bp bc N pool ops B Ft Fp C) :
    Calls Tryd.prog 24 #[.pointer (some ⟨p, 0, none⟩)] w fun e w' => e = .returned (.tuple #[.int .i64 (cnt Fp N : Nat), .int .i64 (cnt Ft pool : Nat)]) ∧ Dr w w' := by
  have c2 : ∀ n, (w.drewN n).cell? ⟨p, 2, none⟩ = some (.pointer (some ⟨bt, 0, none⟩)) := fun _ => h.c2
  have c3 : ∀ n, (w.drewN n).cell? ⟨p, 3, none⟩ = some (.pointer (some ⟨bp, 0, none⟩)) := fun _ => h.c3
  have k1 : Aside (∀ n, Calls Tryd.prog 45 #[.pointer (some ⟨bt, 0, none⟩)] (w.drewN n) fun e w' => e = .returned (.int .i64 (cnt Ft pool : Nat)) ∧ w' = w.drewN n) := fun n => free_any (h.tb.kp ((Kp.refl w).drewN n))
  have k2 : Aside (∀ n, Calls Tryd.prog 45 #[.pointer (some ⟨bp, 0, none⟩)] (w.drewN n) fun e w' => e = .returned (.int .i64 (cnt Fp N : Nat)) ∧ w' = w.drewN n) := fun n => free_any (h.pg.kp ((Kp.refl w).drewN n))
  clear h
  generalize cnt Ft pool = a at *
  generalize cnt Fp N = b at *
  go_enter Tryd.func24, Tryd.ntmps24
  go_wp2_with fail
  go_quiet (first | (go_at_call 45; go_must (first | exact (k1.out _).mono fun e w' h => ⟨h.1, _, h.2⟩ | exact (k2.out _).mono fun e w' h => ⟨h.1, _, h.2⟩)))
  go_wp2
  go_ret2
  exact ⟨rfl, _, rfl⟩
end
end Go.Proofs.YtjnkmmfppkpgbaaDoor
