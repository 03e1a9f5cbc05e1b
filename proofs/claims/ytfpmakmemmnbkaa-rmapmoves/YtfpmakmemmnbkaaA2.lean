/- A map of sets: map[int]places. -/
import Derived.Test.YtfpmakmemmnbkaaA1
import Derived.Test.YtfpmakmemmnbkaaMG
import Derived.Lib.SlKeysI
namespace Go.Proofs.Ytfpmakmemmnbkaa
open Go.RowKit Go.Maps

/-- How a set's place reads. -/
def mapElem : Value → Option (DataW Unit × List MemPlace)
  | .map none => some (.nil, [])
  | .map (some b) => some (.lit (.int .i64 b), [])
  | _ => none
theorem mapElem_some {v : Value} {b : Nat} {ps : List MemPlace} (h : mapElem v = some (.lit (.int .i64 b), ps)) : v = .map (some b) := by
  unfold mapElem at h
  split at h
  · cases h
  · simp only [Option.some.injEq, Prod.mk.injEq, DataW.lit.injEq, Lit.int.injEq, true_and] at h
    rw [show _ = b from Int.ofNat_inj.1 h.1]
  · cases h
theorem mapElem_nil {v : Value} {ps : List MemPlace} (h : mapElem v = some (.nil, ps)) : v = .map none := by
  unfold mapElem at h
  split at h
  · rfl
  · cases h
  · cases h

/-- Block bm is a map of sets: at each key x of K, g x is the set's block. -/
structure MU (w : World) (bm : Nat) (g : Int → Option Nat) (K : List Int) : Prop where
  ex : ∃ D, w.ownsMap Try.prog 3 mapElem bm K.length D ∧ (∀ x, Maps.has D (.int .i64 x) = (g x).isSome) ∧ (∀ x b, g x = some b → D.atKey (.int .i64 x) .nil = .lit (.int .i64 b)) ∧ Maps.size D = K.length
  nd : K.Nodup
  mem : ∀ x, x ∈ K ↔ (g x).isSome = true
variable {w w' : World} {bm : Nat} {g : Int → Option Nat} {K : List Int}
theorem MU.lt (h : MU w bm g K) : bm < w.heap.size := by
  obtain ⟨D, h1, _⟩ := h.ex
  exact h1.lt
theorem MU.made (w : World) : MU (w.alloc (.map #[] 0)) w.heap.size (fun _ => none) [] :=
  ⟨⟨.map [], World.ownsMap_made w _ _ _, fun _ => rfl, (fun _ _ h => by cases h), rfl⟩, List.nodup_nil, fun x => by simp⟩
theorem MU.fr (h : MU w bm g K) {S : Nat → Prop} (k : Fr S w w') (hS : ¬ S bm) : MU w' bm g K := by
  have hlt := h.lt
  obtain ⟨⟨D, ⟨es, clock, hb, r⟩, h2⟩, h3, h4⟩ := h
  exact ⟨⟨D, ⟨es, clock, (k.block bm hlt hS).trans hb, r⟩, h2⟩, h3, h4⟩
theorem MU.kp (h : MU w bm g K) (k : Kp w w') : MU w' bm g K := h.fr (k.fr (fun _ => False)) id
theorem zero_set (w : World) : (zeroValue 53).run Try.prog w = .ok (.map none) w := by kernel_rfl
/-- m[x]. -/
theorem MU.look (h : MU w bm g K) (x : Int) (hx : (Lit.int .i64 x).wf = true) :
    (Instr.lookup 49 (.map (some bm)) (.int .i64 x) false).run Try.prog w = .ok (.map (g x)) w := by
  obtain ⟨D, h1, h2, h3, _⟩ := h.ex
  obtain ⟨v, ps, hr, hv⟩ := h1.lookup keyed_int Try.underlying49 (zero_set w) (zd := .nil) (zp := []) rfl (keyOf_int_mk Try.underlying3 hx)
  rw [hr]
  cases e : g x with
  | none =>
    rw [atKey_of_not_has (by rw [h2, e]; rfl)] at hv
    rw [mapElem_nil hv]
  | some b =>
    rw [h3 x b e] at hv
    rw [mapElem_some hv]
def noG (g : Int → Option Nat) (x : Int) : Int → Option Nat := fun y => if y = x then none else g y
def onG (g : Int → Option Nat) (x : Int) (b : Nat) : Int → Option Nat := fun y => if y = x then some b else g y
theorem noG_same (g : Int → Option Nat) (x : Int) : noG g x x = none := if_pos rfl
theorem noG_other (g : Int → Option Nat) {x y : Int} (h : y ≠ x) : noG g x y = g y := if_neg h
theorem onG_same (g : Int → Option Nat) (x : Int) (b : Nat) : onG g x b x = some b := if_pos rfl
theorem onG_other (g : Int → Option Nat) {x y : Int} (b : Nat) (h : y ≠ x) : onG g x b y = g y := if_neg h
theorem MU.drop (h : MU w bm g K) (x : Int) (hx : (Lit.int .i64 x).wf = true) (hm : (g x).isSome = true) (ty : TypeId) :
    ∃ w', (Builtin.delete_ #[49, 3] ty #[.map (some bm), .int .i64 x]).run Try.prog w = .ok (.tuple #[]) w' ∧ MU w' bm (noG g x) (K.erase x) ∧ Fr (· = bm) w w' := by
  obtain ⟨⟨D, h1, h2, h3, h4⟩, h5, h6⟩ := h
  obtain ⟨w', r1, r2, r3⟩ := h1.drop keyed_int Try.underlying49 (keyOf_int_mk Try.underlying3 hx) ty
  have sz := size_del (k := .int .i64 x) (h1.tidy keyed_int)
  rw [h2, hm, h4] at sz
  have hx6 := (h6 x).2 hm
  have sz2 : Maps.size (D.del (.int .i64 x)) = (K.erase x).length := by
    rw [List.length_erase_of_mem hx6]
    simp at sz
    have := List.length_pos_of_mem hx6
    omega
  refine ⟨w', r1, ⟨⟨_, own_size r2 sz2, fun y => ?_, fun y b hy => ?_, sz2⟩, h5.erase x, fun y => ?_⟩, Fr.grown r3.grown (fun g hg => by cases hg; rfl)⟩
  · by_cases e : y = x
    · subst e; rw [noG_same, has_del_same]; rfl
    · rw [noG_other _ e, has_del_other (lit_ne e), h2]
  · by_cases e : y = x
    · subst e; rw [noG_same] at hy; cases hy
    · rw [noG_other _ e] at hy
      rw [atKey_del_other (lit_ne e), h3 y b hy]
  · by_cases e : y = x
    · subst e
      rw [noG_same]
      simp [h5.not_mem_erase]
    · rw [noG_other _ e, List.mem_erase_of_ne e, h6]
theorem MU.store (h : MU w bm g K) (x : Int) (b : Nat) (hx : (Lit.int .i64 x).wf = true) (hm : g x = none) (hN : K.length < maxLen) :
    ∃ w', (Instr.mapUpdate 49 (.map (some bm)) (.int .i64 x) (.map (some b))).run Try.prog w = .ok () w' ∧ MU w' bm (onG g x b) (K ++ [x]) ∧ Fr (· = bm) w w' := by
  obtain ⟨⟨D, h1, h2, h3, h4⟩, h5, h6⟩ := h
  obtain ⟨w', r1, r2, r3⟩ := h1.store keyed_int Try.underlying49 hN (keyOf_int_mk Try.underlying3 hx) (show mapElem (.map (some b)) = some (.lit (.int .i64 b), []) from rfl)
  have sz := size_put (k := .int .i64 x) (h1.tidy keyed_int) (DataW.lit (.int .i64 (b : Int)))
  have hx6 : ¬ x ∈ K := fun e => by have := (h6 x).1 e; rw [hm] at this; cases this
  rw [h2, hm, h4] at sz
  have sz2 : Maps.size (D.put (.int .i64 x) (.lit (.int .i64 (b : Int)))) = (K ++ [x]).length := by rw [sz]; simp
  refine ⟨w', r1, ⟨⟨_, own_size r2 sz2, fun y => ?_, fun y c hy => ?_, sz2⟩, ?_, fun y => ?_⟩, Fr.grown r3.grown (fun g hg => by cases hg; rfl)⟩
  · by_cases e : y = x
    · subst e; rw [onG_same, has_put_same h1.isMap (isKey_int _ hx)]; rfl
    · rw [onG_other _ _ e, has_put_other (lit_ne e), h2]
  · by_cases e : y = x
    · subst e
      rw [onG_same] at hy
      cases hy
      rw [atKey_put_same h1.isMap (isKey_int _ hx)]
    · rw [onG_other _ _ e] at hy
      rw [atKey_put_other (lit_ne e), h3 y c hy]
  · exact List.nodup_append.2 ⟨h5, by simp, fun a ha c hc => by simp at hc; subst hc; exact fun e => hx6 (e ▸ ha)⟩
  · by_cases e : y = x
    · subst e; rw [onG_same]; simp
    · rw [onG_other _ _ e, ← h6]; simp [e]
/-- Its keys are those of K. -/
theorem keys_of {D : DataW Unit} {n : Nat} (h1 : w.ownsMap Try.prog 3 mapElem bm n D) (h2 : ∀ x, Maps.has D (.int .i64 x) = (g x).isSome) (nd : K.Nodup) (mem : ∀ x, x ∈ K ↔ (g x).isSome = true) : K.Perm (intKeys D) :=
  CollectedI.perm (left := fun _ => false) ⟨nd, fun x => by rw [mem, h2]; simp⟩ h1 keyed_int Try.underlying3 (fun _ => rfl)

end Go.Proofs.Ytfpmakmemmnbkaa
