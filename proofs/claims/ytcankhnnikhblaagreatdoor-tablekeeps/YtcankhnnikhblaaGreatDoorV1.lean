/- A map of counts: map[int]int; a count of 0 has no entry. -/
import Derived.Test.YtcankhnnikhblaaGreatDoorP1
namespace Go.Proofs.YtcankhnnikhblaaGreatDoor
open Go.RowKit Go.Maps

/-- The count of x. -/
def cI (C : Nat → Nat) (x : Int) : Nat := if 0 ≤ x then C x.toNat else 0
theorem cI_nat (C : Nat → Nat) (x : Nat) : cI C (x : Int) = C x := by unfold cI; rw [if_pos (by omega), Int.toNat_natCast]
theorem cI_neg (C : Nat → Nat) (x : Int) (h : x < 0) : cI C x = 0 := by unfold cI; rw [if_neg (by omega)]
def putC (C : Nat → Nat) (x v : Nat) : Nat → Nat := fun k => if k = x then v else C k
theorem putC_same (C : Nat → Nat) (x v : Nat) : putC C x v x = v := if_pos rfl
theorem putC_other (C : Nat → Nat) {x k : Nat} (v : Nat) (h : k ≠ x) : putC C x v k = C k := if_neg h
theorem cI_put (C : Nat → Nat) (x v : Nat) (y : Int) : cI (putC C x v) y = if y = (x : Int) then v else cI C y := by
  unfold cI putC
  by_cases h0 : 0 ≤ y
  · rw [if_pos h0, if_pos h0]
    by_cases e : y = (x : Int)
    · rw [if_pos e, if_pos (by omega)]
    · rw [if_neg e, if_neg (by omega)]
  · rw [if_neg h0, if_neg h0, if_neg (by omega)]

structure MC (w : World) (bm N : Nat) (C : Nat → Nat) : Prop where
  ex : ∃ D, w.ownsMap Tryz.prog 3 (plainElem (H := Unit) Tryz.prog 3) bm N D ∧ (∀ x : Int, D.atKey (.int .i64 x) (.lit (.int .i64 0)) = .lit (.int .i64 (cI C x : Nat))) ∧ ∀ x : Int, Maps.has D (.int .i64 x) = true → cI C x ≠ 0
  dom : ∀ x, C x ≠ 0 → x < N
theorem MC.lt {w : World} {bm N : Nat} {C : Nat → Nat} (h : MC w bm N C) : bm < w.heap.size := by
  obtain ⟨D, h1, _⟩ := h.ex
  exact h1.lt
theorem cI_zero (x : Int) : cI (fun _ => 0) x = 0 := by unfold cI; split <;> rfl
theorem MC.made (w : World) (N : Nat) : MC (w.alloc (.map #[] 0)) w.heap.size N (fun _ => 0) :=
  ⟨⟨.map [], (World.ownsMap_made w _ _ _).mono (Nat.zero_le _), fun x => by rw [cI_zero]; rfl, fun _ h => by cases h⟩, fun _ h => absurd rfl h⟩
theorem MC.fr {w w' : World} {bm N : Nat} {C : Nat → Nat} (h : MC w bm N C) {S : Nat → Prop} (k : Fr S w w') (hS : ¬ S bm) : MC w' bm N C := by
  have hlt := h.lt
  obtain ⟨⟨D, ⟨es, clock, hb, r⟩, h2⟩, h3⟩ := h
  exact ⟨⟨D, ⟨es, clock, (k.block bm hlt hS).trans hb, r⟩, h2⟩, h3⟩
theorem zero_int (w : World) : (zeroValue 3).run Tryz.prog w = .ok (.int .i64 0) w := by kernel_rfl
theorem MC.look {w : World} {bm N : Nat} {C : Nat → Nat} (h : MC w bm N C) (x : Int) (hx : (Lit.int .i64 x).wf = true) :
    (Instr.lookup 101 (.map (some bm)) (.int .i64 x) false).run Tryz.prog w = .ok (.int .i64 (cI C x : Nat)) w := by
  obtain ⟨D, h1, h2, _⟩ := h.ex
  obtain ⟨c, hr, hc, _⟩ := h1.lookup_int keyed_int Tryz.underlying101 Tryz.underlying3 (zero_int w) (keyOf_int_mk Tryz.underlying3 hx)
  rw [h2 x] at hc
  rw [hr]
  cases hc
  rfl
theorem MC.drop {w : World} {bm N : Nat} {C : Nat → Nat} (h : MC w bm N C) (x : Nat) (hx : (Lit.int .i64 (x : Int)).wf = true) (ty : TypeId) :
    ∃ w', (Builtin.delete_ #[101, 3] ty #[.map (some bm), .int .i64 (x : Int)]).run Tryz.prog w = .ok (.tuple #[]) w' ∧ MC w' bm N (putC C x 0) ∧ Fr (· = bm) w w' := by
  obtain ⟨⟨D, h1, h2, h3⟩, h4⟩ := h
  obtain ⟨w', r1, r2, r3⟩ := h1.drop keyed_int Tryz.underlying101 (keyOf_int_mk Tryz.underlying3 hx) ty
  refine ⟨w', r1, ⟨⟨_, r2, fun y => ?_, fun y hy => ?_⟩, fun y hy => ?_⟩, Fr.grown r3.grown (fun g hg => by cases hg; rfl)⟩
  · rw [cI_put]
    by_cases e : y = (x : Int)
    · subst e; rw [if_pos rfl, atKey_del_same]; rfl
    · rw [if_neg e, atKey_del_other (lit_ne e), h2]
  · rw [cI_put]
    by_cases e : y = (x : Int)
    · subst e; rw [has_del_same] at hy; cases hy
    · rw [if_neg e]
      rw [has_del_other (lit_ne e)] at hy
      exact h3 y hy
  · unfold putC at hy
    by_cases e : y = x
    · rw [if_pos e] at hy; exact absurd rfl hy
    · rw [if_neg e] at hy; exact h4 y hy
theorem MC.store {w : World} {bm N : Nat} {C : Nat → Nat} (h : MC w bm N C) (x v : Nat) (hx : x < N) (hv : v ≠ 0) (hv2 : v ≤ 4611686018427387904) (hN : N ≤ 1048576) :
    ∃ w', (Instr.mapUpdate 101 (.map (some bm)) (.int .i64 (x : Int)) (.int .i64 (v : Int))).run Tryz.prog w = .ok () w' ∧ MC w' bm N (putC C x v) ∧ Fr (· = bm) w w' := by
  obtain ⟨⟨D, h1, h2, h3⟩, h4⟩ := h
  have hw : (Lit.int .i64 (x : Int)).wf = true := WalkArith.wf_i64 (by omega)
  obtain ⟨w', r1, r2, r3⟩ := h1.store keyed_int Tryz.underlying101 (by unfold maxLen; omega) (keyOf_int_mk Tryz.underlying3 hw) (plainElem_int (H := Unit) Tryz.underlying3 (WalkArith.wf_i64 (by omega) : (Lit.int .i64 (v : Int)).wf = true))
  have hc : ∀ y : Int, Maps.has (D.put (.int .i64 (x : Int)) (.lit (.int .i64 (v : Int)))) (.int .i64 y) = true → cI (putC C x v) y ≠ 0 := fun y hy => by
    rw [cI_put]
    by_cases e : y = (x : Int)
    · rw [if_pos e]; exact hv
    · rw [if_neg e]
      rw [has_put_other (lit_ne e)] at hy
      exact h3 y hy
  have dom : ∀ y, putC C x v y ≠ 0 → y < N := fun y hy => by
    unfold putC at hy
    by_cases e : y = x
    · rw [e]; exact hx
    · rw [if_neg e] at hy; exact h4 y hy
  refine ⟨w', r1, ⟨⟨_, map_sized r2 (fun y hy => ?_), fun y => ?_, hc⟩, dom⟩, Fr.grown r3.grown (fun g hg => by cases hg; rfl)⟩
  · have := hc y hy
    unfold cI at this
    by_cases h0 : 0 ≤ y
    · rw [if_pos h0] at this
      have := dom _ this
      omega
    · rw [if_neg h0] at this; exact absurd rfl this
  · rw [cI_put]
    by_cases e : y = (x : Int)
    · subst e; rw [if_pos rfl, atKey_put_same h1.isMap (isKey_int _ hw)]
    · rw [if_neg e, atKey_put_other (lit_ne e), h2]

end Go.Proofs.YtcankhnnikhblaaGreatDoor
