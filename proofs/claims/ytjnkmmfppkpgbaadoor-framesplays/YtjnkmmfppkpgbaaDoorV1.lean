/- A map of counts: map[int]int; a count of 0 has no entry. -/
import Derived.Test.YtjnkmmfppkpgbaaDoorP1
namespace Go.Proofs.YtjnkmmfppkpgbaaDoor
open Go.RowKit Go.Maps

/-- As many entries as keys from 0 to N - 1, whatever the elements are. -/
theorem map_sized {R : Value → Option (DataW Unit × List MemPlace)} {w : World} {bm n N : Nat} {D : DataW Unit} (h : w.ownsMap Tryd.prog 3 R bm n D) (hh : ∀ x, Maps.has D (.int .i64 x) = true → 0 ≤ x ∧ x < (N : Int)) :
    w.ownsMap Tryd.prog 3 R bm N D := by
  obtain ⟨es, clock, hb, F, hs, rfl⟩ := h
  refine ⟨es, clock, hb, F, ?_, rfl⟩
  have hk := fit_keys F
  have ha := fit_apart keyed_int F
  have ei : ∀ p ∈ es.toList.map (WideElems.rg Tryd.prog 3 R), ∃ y, p.1 = .int .i64 y := fun p hp => by
    obtain ⟨v, hv⟩ := hk p hp
    rw [keyOf_int Tryd.underlying3] at hv
    cases v <;> simp [mapKey, Tryd.underlying3] at hv
    exact ⟨_, hv.2.symm⟩
  have hl : (es.toList.map (WideElems.rg Tryd.prog 3 R)).length = es.size := by simp
  generalize es.toList.map (WideElems.rg Tryd.prog 3 R) = L at ha ei hh hl
  rw [← hl]
  have t := tally N (L.map fun p => match p.1 with | .int _ y => y | _ => 0) (by
    rw [List.pairwise_map]
    have : L.Pairwise (fun x y => x ∈ L ∧ y ∈ L ∧ x.1 ≠ y.1) := List.Pairwise.imp_of_mem (fun {a b} h1 h2 h3 => ⟨h1, h2, h3⟩) ha
    refine this.imp (fun {a b} h => ?_)
    obtain ⟨h1, h2, h3⟩ := h
    obtain ⟨y, hy⟩ := ei a h1
    obtain ⟨z, hz⟩ := ei b h2
    rw [hy, hz] at h3 ⊢
    exact fun e => h3 (by simpa using e)) (fun x hx => by
    obtain ⟨p, hp, rfl⟩ := List.mem_map.1 hx
    obtain ⟨y, hy⟩ := ei p hp
    have e1 : Maps.has (DataW.map (L.foldr DataW.insert [])) (.int .i64 y) = true := by
      rw [has_eq, List.any_eq_true]
      exact ⟨p, (WideShapes.sorted_perm L).mem_iff.2 hp, by rw [hy]; simp [Lit.sameKey]⟩
    simp only [hy]
    exact hh y e1)
  simpa using t

/-- The count of x. -/
def cI (C : Nat → Nat) (x : Int) : Nat := if 0 ≤ x then C x.toNat else 0
theorem cI_nat (C : Nat → Nat) (x : Nat) : cI C (x : Int) = C x := by unfold cI; rw [if_pos (by omega), Int.toNat_natCast]
theorem cI_neg (C : Nat → Nat) (x : Int) (h : x < 0) : cI C x = 0 := by unfold cI; rw [if_neg (by omega)]
def putC (C : Nat → Nat) (x v : Nat) : Nat → Nat := fun k => if k = x then v else C k
theorem putC_same (C : Nat → Nat) (x v : Nat) : putC C x v x = v := if_pos rfl
theorem putC_other (C : Nat → Nat) {x k : Nat} (v : Nat) (h : k ≠ x) : putC C x v k = C k := if_neg h
theorem cI_put (C : Nat → Nat) (x v : Nat) (y : Int) : cI (putC C x v) y = if y = (x : Int) then v else cI C y := by
  unfold cI putC
  by_cases h0 : 0 ≤ y
  · rw [if_pos h0, if_pos h0]
    by_cases e : y = (x : Int)
    · rw [if_pos e, if_pos (by omega)]
    · rw [if_neg e, if_neg (by omega)]
  · rw [if_neg h0, if_neg h0, if_neg (by omega)]

structure MC (w : World) (bm N : Nat) (C : Nat → Nat) : Prop where
  ex : ∃ D, w.ownsMap Tryd.prog 3 (plainElem (H := Unit) Tryd.prog 3) bm N D ∧ (∀ x : Int, D.atKey (.int .i64 x) (.lit (.int .i64 0)) = .lit (.int .i64 (cI C x : Nat))) ∧ ∀ x : Int, Maps.has D (.int .i64 x) = true → cI C x ≠ 0
  dom : ∀ x, C x ≠ 0 → x < N
theorem MC.lt {w : World} {bm N : Nat} {C : Nat → Nat} (h : MC w bm N C) : bm < w.heap.size := by
  obtain ⟨D, h1, _⟩ := h.ex
  exact h1.lt
theorem cI_zero (x : Int) : cI (fun _ => 0) x = 0 := by unfold cI; split <;> rfl
theorem MC.made (w : World) (N : Nat) : MC (w.alloc (.map #[] 0)) w.heap.size N (fun _ => 0) :=
  ⟨⟨.map [], (World.ownsMap_made w _ _ _).mono (Nat.zero_le _), fun x => by rw [cI_zero]; rfl, fun _ h => by cases h⟩, fun _ h => absurd rfl h⟩
theorem MC.fr {w w' : World} {bm N : Nat} {C : Nat → Nat} (h : MC w bm N C) {S : Nat → Prop} (k : Fr S w w') (hS : ¬ S bm) : MC w' bm N C := by
  have hlt := h.lt
  obtain ⟨⟨D, ⟨es, clock, hb, r⟩, h2⟩, h3⟩ := h
  exact ⟨⟨D, ⟨es, clock, (k.block bm hlt hS).trans hb, r⟩, h2⟩, h3⟩
theorem zero_int (w : World) : (zeroValue 3).run Tryd.prog w = .ok (.int .i64 0) w := by kernel_rfl
theorem MC.look {w : World} {bm N : Nat} {C : Nat → Nat} (h : MC w bm N C) (x : Int) (hx : (Lit.int .i64 x).wf = true) :
    (Instr.lookup 67 (.map (some bm)) (.int .i64 x) false).run Tryd.prog w = .ok (.int .i64 (cI C x : Nat)) w := by
  obtain ⟨D, h1, h2, _⟩ := h.ex
  obtain ⟨c, hr, hc, _⟩ := h1.lookup_int keyed_int Tryd.underlying67 Tryd.underlying3 (zero_int w) (keyOf_int_mk Tryd.underlying3 hx)
  rw [h2 x] at hc
  rw [hr]
  cases hc
  rfl
theorem MC.drop {w : World} {bm N : Nat} {C : Nat → Nat} (h : MC w bm N C) (x : Nat) (hx : (Lit.int .i64 (x : Int)).wf = true) (ty : TypeId) :
    ∃ w', (Builtin.delete_ #[67, 3] ty #[.map (some bm), .int .i64 (x : Int)]).run Tryd.prog w = .ok (.tuple #[]) w' ∧ MC w' bm N (putC C x 0) ∧ Fr (· = bm) w w' := by
  obtain ⟨⟨D, h1, h2, h3⟩, h4⟩ := h
  obtain ⟨w', r1, r2, r3⟩ := h1.drop keyed_int Tryd.underlying67 (keyOf_int_mk Tryd.underlying3 hx) ty
  refine ⟨w', r1, ⟨⟨_, r2, fun y => ?_, fun y hy => ?_⟩, fun y hy => ?_⟩, Fr.grown r3.grown (fun g hg => by cases hg; rfl)⟩
  · rw [cI_put]
    by_cases e : y = (x : Int)
    · subst e; rw [if_pos rfl, atKey_del_same]; rfl
    · rw [if_neg e, atKey_del_other (lit_ne e), h2]
  · rw [cI_put]
    by_cases e : y = (x : Int)
    · subst e; rw [has_del_same] at hy; cases hy
    · rw [if_neg e]
      rw [has_del_other (lit_ne e)] at hy
      exact h3 y hy
  · unfold putC at hy
    by_cases e : y = x
    · rw [if_pos e] at hy; exact absurd rfl hy
    · rw [if_neg e] at hy; exact h4 y hy
theorem MC.store {w : World} {bm N : Nat} {C : Nat → Nat} (h : MC w bm N C) (x v : Nat) (hx : x < N) (hv : v ≠ 0) (hv2 : v ≤ 4611686018427387904) (hN : N ≤ 1048576) :
    ∃ w', (Instr.mapUpdate 67 (.map (some bm)) (.int .i64 (x : Int)) (.int .i64 (v : Int))).run Tryd.prog w = .ok () w' ∧ MC w' bm N (putC C x v) ∧ Fr (· = bm) w w' := by
  obtain ⟨⟨D, h1, h2, h3⟩, h4⟩ := h
  have hw : (Lit.int .i64 (x : Int)).wf = true := WalkArith.wf_i64 (by omega)
  obtain ⟨w', r1, r2, r3⟩ := h1.store keyed_int Tryd.underlying67 (by unfold maxLen; omega) (keyOf_int_mk Tryd.underlying3 hw) (plainElem_int (H := Unit) Tryd.underlying3 (WalkArith.wf_i64 (by omega) : (Lit.int .i64 (v : Int)).wf = true))
  have hc : ∀ y : Int, Maps.has (D.put (.int .i64 (x : Int)) (.lit (.int .i64 (v : Int)))) (.int .i64 y) = true → cI (putC C x v) y ≠ 0 := fun y hy => by
    rw [cI_put]
    by_cases e : y = (x : Int)
    · rw [if_pos e]; exact hv
    · rw [if_neg e]
      rw [has_put_other (lit_ne e)] at hy
      exact h3 y hy
  have dom : ∀ y, putC C x v y ≠ 0 → y < N := fun y hy => by
    unfold putC at hy
    by_cases e : y = x
    · rw [e]; exact hx
    · rw [if_neg e] at hy; exact h4 y hy
  refine ⟨w', r1, ⟨⟨_, map_sized r2 (fun y hy => ?_), fun y => ?_, hc⟩, dom⟩, Fr.grown r3.grown (fun g hg => by cases hg; rfl)⟩
  · have := hc y hy
    unfold cI at this
    by_cases h0 : 0 ≤ y
    · rw [if_pos h0] at this
      have := dom _ this
      omega
    · rw [if_neg h0] at this; exact absurd rfl this
  · rw [cI_put]
    by_cases e : y = (x : Int)
    · subst e; rw [if_pos rfl, atKey_put_same h1.isMap (isKey_int _ hw)]
    · rw [if_neg e, atKey_put_other (lit_ne e), h2]

end Go.Proofs.YtjnkmmfppkpgbaaDoor
