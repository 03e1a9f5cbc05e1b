/- The document's frames, as they lie. -/
import Derived.Test.YtjnkmmfppkpgbaaDoorV6
import Derived.Test.YtjnkmmfppkpgbaaDoorOI8
import Derived.Test.YtjnkmmfppkpgbaaDoorP20
import Derived.Test.YtjnkmmfppkpgbaaDoorUR
namespace Go.Proofs.YtjnkmmfppkpgbaaDoor
open Go.RowKit Go.Maps
set_option maxRecDepth 10000
set_option linter.unusedVariables false

theorem RM.like {w : World} {T : Nat → Prop} {q N ops : Nat} {F F' : Nat → Nat → Nat} (h : RM w T q N ops F) (hF : ∀ x i, i < 4096 → F' x i = F x i) : RM w T q N ops F' := by
  obtain ⟨na, cap, L, h1, h2⟩ := h
  exact ⟨na, cap, L, h1, h2.tidy, fun x i hi => (h2.like x i hi).trans (hF x i hi).symm⟩
/-- The document's frames at f: the memory at qm (its blocks: T), the buddies at bt and bp (marks: ot, op), the counts' row bn; all that is their own lies in S. -/
structure DA (w : World) (S T : Nat → Prop) (f qm bt ot bp op bn N pool ops : Nat) (B : Nat → Nat → Nat) (Ft Fp : Nat → Bool) (C : Nat → Nat) : Prop where
  own : ∀ k, S k → k < w.heap.size
  row : w.heap[f]? = some (.cells #[.pointer (some ⟨qm, 0, none⟩), .pointer (some ⟨bt, 0, none⟩), .pointer (some ⟨bp, 0, none⟩), .slice (some ⟨bn, 0, none⟩) N N] 74 (0, 0))
  mem : RM w T qm N ops B
  tb : RBU w bt ot 0 pool Ft
  pg : RBU w bp op pool (N - pool) Fp
  cs : OI w bn N C
  p1 : 1 ≤ pool
  p2 : pool < N
  n2 : N ≤ 1048576
  s6 : S f ∧ S bt ∧ S ot ∧ S bp ∧ S op ∧ S bn
  sT : ∀ k, T k → S k ∧ k ≠ f ∧ k ≠ bt ∧ k ≠ ot ∧ k ≠ bp ∧ k ≠ op ∧ k ≠ bn
  ap : f ≠ ot ∧ f ≠ op ∧ f ≠ bn ∧ bt ≠ ot ∧ bt ≠ op ∧ bt ≠ bn ∧ bp ≠ ot ∧ bp ≠ op ∧ bp ≠ bn ∧ ot ≠ op ∧ ot ≠ bn ∧ op ≠ bn
section
variable {w w' : World} {S T : Nat → Prop} {f qm bt ot bp op bn N pool ops ops' : Nat} {B B' : Nat → Nat → Nat} {Ft Fp Ft' Fp' : Nat → Bool} {C C' : Nat → Nat}
theorem DA.fr (h : DA w S T f qm bt ot bp op bn N pool ops B Ft Fp C) {X : Nat → Prop} (k : Fr X w w') (hX : ∀ i, S i → ¬ X i) : DA w' S T f qm bt ot bp op bn N pool ops B Ft Fp C :=
  ⟨fun i hi => Nat.lt_of_lt_of_le (h.own i hi) k.size, (k.block f (h.own f h.s6.1) (hX f h.s6.1)).trans h.row, h.mem.fr k (fun i hi => hX i (h.sT i hi).1), h.tb.fr k (hX _ h.s6.2.1) (hX _ h.s6.2.2.1), h.pg.fr k (hX _ h.s6.2.2.2.1) (hX _ h.s6.2.2.2.2.1), h.cs.fr k (hX _ h.s6.2.2.2.2.2), h.p1, h.p2, h.n2, h.s6, h.sT, h.ap⟩
theorem DA.kp (h : DA w S T f qm bt ot bp op bn N pool ops B Ft Fp C) (k : Kp w w') : DA w' S T f qm bt ot bp op bn N pool ops B Ft Fp C := h.fr (k.fr (fun _ => False)) (fun _ _ => id)
theorem DA.setT {T' : Nat → Prop} (h : DA w S T f qm bt ot bp op bn N pool ops B Ft Fp C) (m : RM w' T' qm N ops' B') (k : Fr T w w') (l : Less T T' w) : DA w' (fun i => S i ∨ T' i) T' f qm bt ot bp op bn N pool ops' B' Ft Fp C :=
  have nT : ∀ i, i = f ∨ i = bt ∨ i = ot ∨ i = bp ∨ i = op ∨ i = bn → ¬ T i := fun i hi ht => by have := h.sT i ht; omega
  have sl : ∀ i, i = f ∨ i = bt ∨ i = ot ∨ i = bp ∨ i = op ∨ i = bn → i < w.heap.size := fun i hi => by
    have h6 := h.s6
    have a1 := h.own _ h6.1
    have a2 := h.own _ h6.2.1
    have a3 := h.own _ h6.2.2.1
    have a4 := h.own _ h6.2.2.2.1
    have a5 := h.own _ h6.2.2.2.2.1
    have a6 := h.own _ h6.2.2.2.2.2
    omega
  ⟨fun i hi => hi.elim (fun hi => Nat.lt_of_lt_of_le (h.own i hi) k.size) (m.own i), (k.block f (h.own f h.s6.1) (nT f (by simp))).trans h.row, m, h.tb.fr k (nT _ (by simp)) (nT _ (by simp)), h.pg.fr k (nT _ (by simp)) (nT _ (by simp)), h.cs.fr k (nT _ (by simp)), h.p1, h.p2, h.n2,
   ⟨.inl h.s6.1, .inl h.s6.2.1, .inl h.s6.2.2.1, .inl h.s6.2.2.2.1, .inl h.s6.2.2.2.2.1, .inl h.s6.2.2.2.2.2⟩, fun i hi => ⟨.inr hi, by
    have nn : ¬ (i = f ∨ i = bt ∨ i = ot ∨ i = bp ∨ i = op ∨ i = bn) := fun e => by
      have := sl i e
      rcases l i hi with q | q
      · exact nT i e q
      · omega
    omega⟩, h.ap⟩
theorem DA.setU (h : DA w S T f qm bt ot bp op bn N pool ops B Ft Fp C) (m : RBU w' bt ot 0 pool Ft') (k : Fr (fun k => k = ot) w w') : DA w' S T f qm bt ot bp op bn N pool ops B Ft' Fp C :=
  have ap := h.ap
  ⟨fun i hi => Nat.lt_of_lt_of_le (h.own i hi) k.size, (k.block f (h.own f h.s6.1) (by omega)).trans h.row, h.mem.fr k (fun i hi e => by have := h.sT i hi; omega), m, h.pg.fr k (by omega) (by omega), h.cs.fr k (by omega), h.p1, h.p2, h.n2, h.s6, h.sT, h.ap⟩
theorem DA.setV (h : DA w S T f qm bt ot bp op bn N pool ops B Ft Fp C) (m : RBU w' bp op pool (N - pool) Fp') (k : Fr (fun k => k = op) w w') : DA w' S T f qm bt ot bp op bn N pool ops B Ft Fp' C :=
  have ap := h.ap
  ⟨fun i hi => Nat.lt_of_lt_of_le (h.own i hi) k.size, (k.block f (h.own f h.s6.1) (by omega)).trans h.row, h.mem.fr k (fun i hi e => by have := h.sT i hi; omega), h.tb.fr k (by omega) (by omega), m, h.cs.fr k (by omega), h.p1, h.p2, h.n2, h.s6, h.sT, h.ap⟩
theorem DA.setC (h : DA w S T f qm bt ot bp op bn N pool ops B Ft Fp C) (m : OI w' bn N C') (k : Fr (fun k => k = bn) w w') : DA w' S T f qm bt ot bp op bn N pool ops B Ft Fp C' :=
  have ap := h.ap
  ⟨fun i hi => Nat.lt_of_lt_of_le (h.own i hi) k.size, (k.block f (h.own f h.s6.1) (by omega)).trans h.row, h.mem.fr k (fun i hi e => by have := h.sT i hi; omega), h.tb.fr k (by omega) (by omega), h.pg.fr k (by omega) (by omega), m, h.p1, h.p2, h.n2, h.s6, h.sT, h.ap⟩
theorem DA.c0 (h : DA w S T f qm bt ot bp op bn N pool ops B Ft Fp C) : w.cell? ⟨f, 0, none⟩ = some (.pointer (some ⟨qm, 0, none⟩)) := by rw [cell_of_row w f 0 _ _ _ h.row]; rfl
theorem DA.c1 (h : DA w S T f qm bt ot bp op bn N pool ops B Ft Fp C) : w.cell? ⟨f, 1, none⟩ = some (.pointer (some ⟨bt, 0, none⟩)) := by rw [cell_of_row w f 1 _ _ _ h.row]; rfl
theorem DA.c2 (h : DA w S T f qm bt ot bp op bn N pool ops B Ft Fp C) : w.cell? ⟨f, 2, none⟩ = some (.pointer (some ⟨bp, 0, none⟩)) := by rw [cell_of_row w f 2 _ _ _ h.row]; rfl
theorem DA.c3 (h : DA w S T f qm bt ot bp op bn N pool ops B Ft Fp C) : w.cell? ⟨f, 3, none⟩ = some (.slice (some ⟨bn, 0, none⟩) N N) := by rw [cell_of_row w f 3 _ _ _ h.row]; rfl
theorem DA.frT (h : DA w S T f qm bt ot bp op bn N pool ops B Ft Fp C) (k : Fr T w w') : Fr S w w' := k.mono (fun i _ hi => (h.sT i hi).1)
theorem DA.frU (h : DA w S T f qm bt ot bp op bn N pool ops B Ft Fp C) (k : Fr (fun k => k = ot) w w') : Fr S w w' := k.mono (fun i _ hi => by rw [hi]; exact h.s6.2.2.1)
theorem DA.frV (h : DA w S T f qm bt ot bp op bn N pool ops B Ft Fp C) (k : Fr (fun k => k = op) w w') : Fr S w w' := k.mono (fun i _ hi => by rw [hi]; exact h.s6.2.2.2.2.1)
theorem DA.frC (h : DA w S T f qm bt ot bp op bn N pool ops B Ft Fp C) (k : Fr (fun k => k = bn) w w') : Fr S w w' := k.mono (fun i _ hi => by rw [hi]; exact h.s6.2.2.2.2.2)
/-- A count is put. -/
theorem DA.put (h : DA w S T f qm bt ot bp op bn N pool ops B Ft Fp C) (x v : Nat) : DA (w.setCell ⟨bn, x, none⟩ (.int .i64 (v : Nat))) S T f qm bt ot bp op bn N pool ops B Ft Fp (putC C x v) ∧ Fr S w (w.setCell ⟨bn, x, none⟩ (.int .i64 (v : Nat))) :=
  have k : Fr (fun k => k = bn) w (w.setCell ⟨bn, x, none⟩ (.int .i64 (v : Nat))) := (Fr.refl _ w).set _ _ rfl
  ⟨h.setC (h.cs.set x v) k, h.frC k⟩
end

/-! ### what only reads -/
section
variable {w : World} {S T : Nat → Prop} {f qm bt ot bp op bn N pool ops : Nat} {B : Nat → Nat → Nat} {Ft Fp : Nat → Bool} {C : Nat → Nat}
set_option maxHeartbeats 1000000 in
theorem dcount_low (h : DA w S T f qm bt ot bp op bn N pool ops B Ft Fp C) (hd : ∀ k, C k ≠ 0 → k < N) (x : Int) (hx : (Lit.int .i64 x).wf = true) :
    Calls Tryd.prog 27 #[.pointer (some ⟨f, 0, none⟩), .int .i64 x] w fun e w' => e = .returned (.int .i64 (cI C x : Nat)) ∧ w' = w := by
  have c3 := h.c3
  have hn := h.n2
  have z1 : (N : Int) ≤ 1048576 := by omega
  by_cases x0 : x < 0
  · rw [cI_neg C x x0]
    clear h hd hx
    go_enter Tryd.func27, Tryd.ntmps27
    go_wp2
    go_ret
    exact ⟨rfl, rfl⟩
  · obtain ⟨k, rfl⟩ : ∃ k : Nat, x = (k : Int) := ⟨x.toNat, by omega⟩
    rw [cI_nat]
    by_cases x1 : k < N
    · have ck := h.cs.cell k x1
      have y1 : (k : Int) < N := by omega
      clear h hd hx
      generalize C k = c at *
      go_enter Tryd.func27, Tryd.ntmps27
      go_wp2
      go_ret
      exact ⟨rfl, rfl⟩
    · have e : C k = 0 := by
        by_cases e : C k = 0
        · exact e
        · exact absurd (hd k e) x1
      rw [e]
      have y1 : ¬ (k : Int) < N := by omega
      have y2 : (N : Int) ≤ (k : Int) := by omega
      clear h hd hx e
      go_enter Tryd.func27, Tryd.ntmps27
      go_wp2
      go_ret
      exact ⟨rfl, rfl⟩
set_option maxHeartbeats 1000000 in
theorem dfree_low (h : DA w S T f qm bt ot bp op bn N pool ops B Ft Fp C) :
    Calls Tryd.prog 25 #[.pointer (some ⟨f, 0, none⟩)] w fun e w' => e = .returned (.tuple #[.int .i64 (cnt Fp N : Nat), .int .i64 (cnt Ft pool : Nat)]) ∧ Dr w w' := by
  have c2 : ∀ n, (w.drewN n).cell? ⟨f, 1, none⟩ = some (.pointer (some ⟨bt, 0, none⟩)) := fun _ => h.c1
  have c3 : ∀ n, (w.drewN n).cell? ⟨f, 2, none⟩ = some (.pointer (some ⟨bp, 0, none⟩)) := fun _ => h.c2
  have k1 : Aside (∀ n, Calls Tryd.prog 46 #[.pointer (some ⟨bt, 0, none⟩)] (w.drewN n) fun e w' => e = .returned (.int .i64 (cnt Ft pool : Nat)) ∧ w' = w.drewN n) := fun n => by
    have := rfree_any (h.tb.kp ((Kp.refl w).drewN n))
    rwa [Nat.zero_add] at this
  have k2 : Aside (∀ n, Calls Tryd.prog 46 #[.pointer (some ⟨bp, 0, none⟩)] (w.drewN n) fun e w' => e = .returned (.int .i64 (cnt Fp N : Nat)) ∧ w' = w.drewN n) := fun n => by
    have := rfree_any (h.pg.kp ((Kp.refl w).drewN n))
    rwa [show pool + (N - pool) = N by have := h.p2; omega] at this
  clear h
  generalize cnt Ft pool = a at *
  generalize cnt Fp N = b at *
  go_enter Tryd.func25, Tryd.ntmps25
  go_wp2_with fail
  go_quiet (first | (go_at_call 46; go_must (first | (with_reducible refine (k1.out _).mono ?_; exact fun e w' h => ⟨h.1, _, h.2⟩) | (with_reducible refine (k2.out _).mono ?_; exact fun e w' h => ⟨h.1, _, h.2⟩))))
  go_wp2
  go_ret2
  exact ⟨rfl, _, rfl⟩
end

/-! ### take -/
section
variable {w : World} {S T : Nat → Prop} {f qm bt ot bp op bn N pool ops : Nat} {B : Nat → Nat → Nat} {Ft Fp : Nat → Bool} {C : Nat → Nat}
/-- .. and what has been grown. -/
def DG (S0 : Nat → Prop) (w0 w : World) (f qm bt ot bp op bn N pool ops : Nat) (B : Nat → Nat → Nat) (Ft Fp : Nat → Bool) (C : Nat → Nat) : Prop :=
  ∃ S T, DA w S T f qm bt ot bp op bn N pool ops B Ft Fp C ∧ Fr S0 w0 w ∧ Less S0 S w0
theorem Less.trans' {S S' S'' : Nat → Prop} {w w' : World} (h : Less S S' w) (k : Less S' S'' w') (hs : w.heap.size ≤ w'.heap.size) : Less S S'' w := h.trans k hs
theorem DG.zero {S0 : Nat → Prop} {w0 : World} (h : DG S0 w0 w f qm bt ot bp op bn N pool ops B Ft Fp C) (x : Nat) (hx : x < N) :
    Calls Tryd.prog 37 #[.pointer (some ⟨qm, 0, none⟩), .int .i64 (x : Int)] w fun e w' => e = .returned (.int .i64 0) ∧ DG S0 w0 w' f qm bt ot bp op bn N pool ops (putFr B x z0) Ft Fp C := by
  obtain ⟨S, T, h1, h2, h3⟩ := h
  refine (rzero_ok h1.mem x hx).mono fun e w' ⟨e1, T', e2, e3, e4⟩ => ⟨e1, fun i => S i ∨ T' i, T', h1.setT e2 e3 e4, h2.trans2 (h1.frT e3) (fun i hi hs => h3.in_ i hi hs), ?_⟩
  intro k hk
  rcases hk with hk | hk
  · exact h3 k hk
  · rcases e4 k hk with q | q
    · exact h3 k (h1.sT k q).1
    · exact .inr (Nat.le_trans h2.size q)
theorem DG.put {S0 : Nat → Prop} {w0 : World} (h : DG S0 w0 w f qm bt ot bp op bn N pool ops B Ft Fp C) (x v : Nat) : DG S0 w0 (w.setCell ⟨bn, x, none⟩ (.int .i64 (v : Nat))) f qm bt ot bp op bn N pool ops B Ft Fp (putC C x v) := by
  obtain ⟨S, T, h1, h2, h3⟩ := h
  obtain ⟨p1, p2⟩ := h1.put x v
  exact ⟨S, T, p1, h2.trans2 p2 (fun i hi hs => h3.in_ i hi hs), h3⟩
theorem DG.like {S0 : Nat → Prop} {w0 : World} {B' : Nat → Nat → Nat} (h : DG S0 w0 w f qm bt ot bp op bn N pool ops B Ft Fp C) (hF : ∀ x i, i < 4096 → B' x i = B x i) : DG S0 w0 w f qm bt ot bp op bn N pool ops B' Ft Fp C := by
  obtain ⟨S, T, h1, h2, h3⟩ := h
  exact ⟨S, T, ⟨h1.own, h1.row, h1.mem.like hF, h1.tb, h1.pg, h1.cs, h1.p1, h1.p2, h1.n2, h1.s6, h1.sT, h1.ap⟩, h2, h3⟩
theorem DG.clear {S0 : Nat → Prop} {w0 : World} (h : DG S0 w0 w f qm bt ot bp op bn N pool ops B Ft Fp C) (x : Int) (hx : (Lit.int .i64 x).wf = true) :
    Calls Tryd.prog 29 #[.pointer (some ⟨qm, 0, none⟩), .int .i64 x] w fun e w' => e = .returned (.bool (clearF N B x)) ∧ w' = w := by
  obtain ⟨S, T, h1, h2, h3⟩ := h
  exact rclear_any h1.mem x hx
theorem clear_put {N : Nat} {B : Nat → Nat → Nat} {x : Nat} (h : clearF N B (x : Int) = true) : ∀ y i, i < 4096 → putFr B x z0 y i = B y i := fun y i hi => by
  unfold clearF at h
  rw [Bool.and_eq_true, Int.toNat_natCast] at h
  unfold putFr
  by_cases e : y = x
  · rw [if_pos e, e, (alike_iff _ _ _).1 h.2 i hi]
  · rw [if_neg e]
set_option maxHeartbeats 2000000 in
theorem dtake_walk (S0 : Nat → Prop) (w0 : World) (pb o x s : Nat) (lack : Int) (ho : o ≤ 9) (hs : (2 : Int) ^ o = (s : Int)) (hs2 : (s : Int) ≤ 1000) (hx : x + s ≤ N) (hN : N ≤ 1048576)
    (cT : Calls Tryd.prog 54 #[.pointer (some ⟨pb, 0, none⟩), .int .i64 (o : Int)] w fun e w' => e = .returned (.tuple #[.int .i64 (x : Int), .int .i64 0]) ∧ DG S0 w0 w' f qm bt ot bp op bn N pool ops B Ft Fp C) :
    Calls Tryd.prog 35 #[.pointer (some ⟨f, 0, none⟩), .pointer (some ⟨pb, 0, none⟩), .int .i64 (o : Int), .int .i64 lack] w fun e w' => e = .returned (.tuple #[.int .i64 (x : Int), .int .i64 0]) ∧ DG S0 w0 w' f qm bt ot bp op bn N pool ops (zerR B x s) Ft Fp (onR C x s) := by
  have z1 : (o : Int) ≤ 9 := by omega
  have z2 : (x : Int) + s ≤ 1048576 := by omega
  have z3 : (x : Int) + s ≤ N := by omega
  have z5 : (N : Int) ≤ 1048576 := by omega
  go_enter Tryd.func35, Tryd.ntmps35
  go_wp2_with fail
  with_reducible refine cT.mono ?_
  rintro e w1 ⟨rfl, h1⟩
  have I0 : Hid (DG S0 w0 w1 f qm bt ot bp op bn N pool ops (zerR B x 0) Ft Fp (onR C x 0)) := by rw [zerR_zero, onR_zero]; exact h1
  clear h1 cT
  go_wp2_with fail
  go_loopg [12] (s + 1) (fun g v12 wr => ∃ j : Nat, v12 = .int .i64 (j : Int) ∧ j ≤ s ∧ s + 1 - j ≤ g ∧ Hid (DG S0 w0 wr f qm bt ot bp op bn N pool ops (zerR B x j) Ft Fp (onR C x j)))
  case atStart => exact ⟨0, rfl, by omega, by omega, I0⟩
  case round =>
    clear I0
    obtain ⟨j, rfl, hj, hg, HI⟩ := hrel
    by_cases e : j < s
    · have z4 : (j : Int) < s := by omega
      obtain ⟨y, hy⟩ : ∃ y, y = x + j := ⟨_, rfl⟩
      have x1 : (x : Int) + (j : Int) = (y : Int) := by omega
      have x2 : (y : Int) < N := by omega
      have HI1 := HI.out.put y 1
      rw [show putC (onR C x j) y 1 = onR C x (j + 1) by rw [hy]; exact onR_succ C x j] at HI1
      have kC := HI1.clear (y : Int) (wf_nat (by omega))
      have eB : putFr (zerR B x j) y z0 = zerR B x (j + 1) := by rw [hy]; exact zerR_succ B x j
      obtain ⟨S, T, h1, _⟩ := HI.out
      have c3 := h1.c3
      have cy := h1.cs.cell y (by omega)
      have fy := h1.cs.frz y
      obtain ⟨S2, T2, h2, _⟩ := HI1
      have d0 := h2.c0
      rw [show ((1 : Nat) : Int) = 1 from rfl] at kC d0
      generalize onR C x j y = c0 at cy
      cases hc : clearF N (zerR B x j) (y : Int)
      · rw [hc] at kC
        have kZ := (HI.out.put y 1).zero y (by omega)
        rw [eB, show putC (onR C x j) y 1 = onR C x (j + 1) by rw [hy]; exact onR_succ C x j, show ((1 : Nat) : Int) = 1 from rfl] at kZ
        clear h1 h2 HI eB hc hy
        go_wp2_with (go_at_call 29; with_reducible refine kC.mono ?_; rintro e w' ⟨rfl, rfl⟩)
        with_reducible refine kZ.mono ?_
        rintro e w' ⟨rfl, h3⟩
        have HI2 : Hid (DG S0 w0 w' f qm bt ot bp op bn N pool ops (zerR B x (j + 1)) Ft Fp (onR C x (j + 1))) := h3
        clear h3 kZ
        go_wp2_with fail
        go_roundg (s + 1 - (j + 1))
        case measure => omega
        case rel => exact ⟨j + 1, by go_num, by omega, by omega, HI2⟩
      · rw [hc] at kC
        have h3 := (HI.out.put y 1).like (clear_put hc)
        rw [eB, show putC (onR C x j) y 1 = onR C x (j + 1) by rw [hy]; exact onR_succ C x j, show ((1 : Nat) : Int) = 1 from rfl] at h3
        have HI2 : Hid (DG S0 w0 (wr.setCell ⟨bn, y, none⟩ (.int .i64 1)) f qm bt ot bp op bn N pool ops (zerR B x (j + 1)) Ft Fp (onR C x (j + 1))) := h3
        clear h1 h2 h3 HI eB hc hy
        go_wp2_with (go_at_call 29; with_reducible refine kC.mono ?_; rintro e w' ⟨rfl, rfl⟩)
        go_roundg (s + 1 - (j + 1))
        case measure => omega
        case rel => exact ⟨j + 1, by go_num, by omega, by omega, HI2⟩
    · have ei : j = s := by omega
      subst ei
      go_wp2
      go_ret2
      exact ⟨rfl, HI.out⟩
set_option maxHeartbeats 1000000 in
theorem dtake_no (S0 : Nat → Prop) (w0 : World) (pb o : Nat) (lack : Int)
    (cT : Calls Tryd.prog 54 #[.pointer (some ⟨pb, 0, none⟩), .int .i64 (o : Int)] w fun e w' => e = .returned (.tuple #[.int .i64 0, .int .i64 10]) ∧ DG S0 w0 w' f qm bt ot bp op bn N pool ops B Ft Fp C) :
    Calls Tryd.prog 35 #[.pointer (some ⟨f, 0, none⟩), .pointer (some ⟨pb, 0, none⟩), .int .i64 (o : Int), .int .i64 lack] w fun e w' => e = .returned (.tuple #[.int .i64 0, .int .i64 lack]) ∧ DG S0 w0 w' f qm bt ot bp op bn N pool ops B Ft Fp C := by
  go_enter Tryd.func35, Tryd.ntmps35
  go_wp2_with fail
  with_reducible refine cT.mono ?_
  rintro e w1 ⟨rfl, h1⟩
  have HI : Hid (DG S0 w0 w1 f qm bt ot bp op bn N pool ops B Ft Fp C) := h1
  clear h1 cT
  go_wp2
  go_ret2
  exact ⟨rfl, HI.out⟩
end
end Go.Proofs.YtjnkmmfppkpgbaaDoor
