/- A map of words by words: map[uint64]uint64; a word of 0 has no entry. -/
import Derived.Test.YthkkcnnlfjchaaaDoorU0
import Derived.Maps.OwnSet
namespace Go.Proofs.YthkkcnnlfjchaaaDoor
open Go.RowKit Go.Maps

theorem keyed_w64 : Keyed Tryd.prog 29 := int_keyed Tryd.underlying29
theorem wf_nat64 {x : Nat} (h : x < 18446744073709551616) : (Lit.int .u64 (x : Int)).wf = true := by
  simp [Lit.wf, IntKind.min, IntKind.max, IntKind.bits, IntKind.signed]
  omega
theorem key_w64 {x : Nat} (h : x < 18446744073709551616) : keyOf Tryd.prog 29 (.int .u64 (x : Int)) = some (.int .u64 (x : Int)) := keyOf_int_mk Tryd.underlying29 (wf_nat64 h)
theorem key_w64_inv {v : Value} {l : Lit} (h : keyOf Tryd.prog 29 v = some l) : ∃ x : Nat, v = .int .u64 (x : Int) ∧ l = .int .u64 (x : Int) ∧ x < 18446744073709551616 := by
  rw [keyOf_int Tryd.underlying29] at h
  cases v <;> simp [mapKey, Tryd.underlying29] at h
  obtain ⟨⟨rfl, hw⟩, rfl⟩ := h
  rename_i a
  obtain ⟨h1, h2⟩ := wf_word hw
  refine ⟨a.toNat, ?_, ?_, by omega⟩ <;> rw [Int.toNat_of_nonneg h1]
theorem isKey_w64 {x : Nat} (h : x < 18446744073709551616) : WideAt.IsKeyLit (.int .u64 (x : Int)) := keyed_w64.key (key_w64 h)
theorem wlit_ne {x y : Nat} (h : y ≠ x) : (Lit.int .u64 (y : Int)) ≠ .int .u64 (x : Int) := fun e => h (by
  injection e with _ e
  exact Int.ofNat_inj.1 e)
theorem zero_w64 (w : World) : (zeroValue 29).run Tryd.prog w = .ok (.int .u64 0) w := by kernel_rfl
def setW (W : Nat → Nat) (x v : Nat) : Nat → Nat := fun k => if k = x then v else W k
theorem setW_same (W : Nat → Nat) (x v : Nat) : setW W x v x = v := if_pos rfl
theorem setW_other (W : Nat → Nat) {x k : Nat} (v : Nat) (h : k ≠ x) : setW W x v k = W k := if_neg h

/-- The map at bm: the words of W, by the keys of K. -/
structure MWd (w : World) (bm : Nat) (W : Nat → Nat) (K : List Nat) : Prop where
  ex : ∃ D, w.ownsMap Tryd.prog 29 (plainElem (H := Unit) Tryd.prog 29) bm K.length D ∧ (∀ x : Nat, x < 18446744073709551616 → Maps.has D (.int .u64 (x : Int)) = decide (x ∈ K)) ∧ (∀ x : Nat, x < 18446744073709551616 → D.atKey (.int .u64 (x : Int)) (.lit (.int .u64 0)) = .lit (.int .u64 (W x : Nat))) ∧ Maps.size D = K.length
  nd : K.Nodup
  sub : ∀ x ∈ K, x < 18446744073709551616
  out : ∀ x, x ∉ K → W x = 0
section
variable {w w' : World} {bm : Nat} {W : Nat → Nat} {K : List Nat}
theorem wsize_own {n : Nat} {D : DataW Unit} {R : Value → Option (DataW Unit × List MemPlace)} (h : w.ownsMap Tryd.prog 29 R bm n D) {m : Nat} (e : Maps.size D = m) : w.ownsMap Tryd.prog 29 R bm m D := by
  obtain ⟨es, clock, hb, F, hs, rfl⟩ := h
  refine ⟨es, clock, hb, F, ?_, rfl⟩
  rw [← e]
  show es.size ≤ ((es.toList.map (WideElems.rg Tryd.prog 29 R)).foldr DataW.insert []).length
  rw [length_sorted]
  simp
theorem MWd.lt (h : MWd w bm W K) : bm < w.heap.size := by
  obtain ⟨D, h1, _⟩ := h.ex
  exact h1.lt
theorem MWd.made (w : World) : MWd (w.alloc (.map #[] 0)) w.heap.size (fun _ => 0) [] :=
  ⟨⟨.map [], World.ownsMap_made w _ _ _, fun _ _ => rfl, fun _ _ => rfl, rfl⟩, List.nodup_nil, (fun _ h => by cases h), fun _ _ => rfl⟩
theorem MWd.fr (h : MWd w bm W K) {S : Nat → Prop} (k : Fr S w w') (hS : ¬ S bm) : MWd w' bm W K := by
  have hlt := h.lt
  obtain ⟨⟨D, ⟨es, clock, hb, r⟩, h2⟩, h3, h4, h5⟩ := h
  exact ⟨⟨D, ⟨es, clock, (k.block bm hlt hS).trans hb, r⟩, h2⟩, h3, h4, h5⟩
theorem MWd.kp (h : MWd w bm W K) (k : Kp w w') : MWd w' bm W K := h.fr (k.fr (fun _ => False)) id
/-- m[x]. -/
theorem MWd.look (h : MWd w bm W K) (x : Nat) (hx : x < 18446744073709551616) :
    (Instr.lookup 46 (.map (some bm)) (.int .u64 (x : Int)) false).run Tryd.prog w = .ok (.int .u64 (W x : Nat)) w := by
  obtain ⟨D, h1, _, h2, _⟩ := h.ex
  obtain ⟨c, hr, hc, _⟩ := h1.lookup_int keyed_w64 Tryd.underlying46 Tryd.underlying29 (zero_w64 w) (key_w64 hx)
  rw [h2 x hx] at hc
  rw [hr]
  cases hc
  rfl
theorem MWd.drop (h : MWd w bm W K) (x : Nat) (hm : x ∈ K) (ty : TypeId) :
    ∃ w', (Builtin.delete_ #[46, 29] ty #[.map (some bm), .int .u64 (x : Int)]).run Tryd.prog w = .ok (.tuple #[]) w' ∧ MWd w' bm (setW W x 0) (K.erase x) ∧ Fr (· = bm) w w' := by
  obtain ⟨⟨D, h1, h2, h3, h4⟩, h5, h6, h7⟩ := h
  have hx := h6 x hm
  obtain ⟨w', r1, r2, r3⟩ := h1.drop keyed_w64 Tryd.underlying46 (key_w64 hx) ty
  have sz := size_del (k := .int .u64 (x : Int)) (h1.tidy keyed_w64)
  rw [h2 x hx, decide_eq_true hm, h4] at sz
  have sz2 : Maps.size (D.del (.int .u64 (x : Int))) = (K.erase x).length := by
    rw [List.length_erase_of_mem hm]
    simp at sz
    have := List.length_pos_of_mem hm
    omega
  refine ⟨w', r1, ⟨⟨_, wsize_own r2 sz2, fun y hy => ?_, fun y hy => ?_, sz2⟩, h5.erase x, fun y hy => h6 y (List.mem_of_mem_erase hy), fun y hy => ?_⟩, Fr.grown r3.grown (fun g hg => by cases hg; rfl)⟩
  · by_cases e : y = x
    · subst e; rw [has_del_same]; exact (decide_eq_false h5.not_mem_erase).symm
    · rw [has_del_other (wlit_ne e), h2 y hy]; exact decide_eq_decide.2 (List.mem_erase_of_ne e).symm
  · by_cases e : y = x
    · subst e; rw [setW_same, atKey_del_same]; rfl
    · rw [setW_other _ _ e, atKey_del_other (wlit_ne e), h3 y hy]
  · by_cases e : y = x
    · subst e; rw [setW_same]
    · rw [setW_other _ _ e]; exact h7 y (fun c => hy ((List.mem_erase_of_ne e).2 c))
def addK (K : List Nat) (x : Nat) : List Nat := if x ∈ K then K else K ++ [x]
theorem addK_len (K : List Nat) (x : Nat) : (addK K x).length ≤ K.length + 1 := by
  unfold addK
  split <;> simp
theorem addK_mem (K : List Nat) (x y : Nat) : y ∈ addK K x ↔ y = x ∨ y ∈ K := by
  unfold addK
  split
  · rename_i c
    exact ⟨.inr, fun h => h.elim (fun e => e ▸ c) id⟩
  · simp [or_comm]
/-- m[x] = v. -/
theorem MWd.store (h : MWd w bm W K) (x v : Nat) (hx : x < 18446744073709551616) (hv2 : v < 18446744073709551616) (hN : K.length < maxLen) :
    ∃ w', (Instr.mapUpdate 46 (.map (some bm)) (.int .u64 (x : Int)) (.int .u64 (v : Int))).run Tryd.prog w = .ok () w' ∧ MWd w' bm (setW W x v) (addK K x) ∧ Fr (· = bm) w w' := by
  obtain ⟨⟨D, h1, h2, h3, h4⟩, h5, h6, h7⟩ := h
  obtain ⟨w', r1, r2, r3⟩ := h1.store keyed_w64 Tryd.underlying46 hN (key_w64 hx) (plainElem_int (H := Unit) Tryd.underlying29 (wf_nat64 hv2))
  have sz := size_put (k := .int .u64 (x : Int)) (h1.tidy keyed_w64) (DataW.lit (.int .u64 (v : Int)))
  rw [h2 x hx, h4] at sz
  have sz2 : Maps.size (D.put (.int .u64 (x : Int)) (.lit (.int .u64 (v : Int)))) = (addK K x).length := by
    rw [sz]
    unfold addK
    by_cases c : x ∈ K
    · rw [decide_eq_true c, if_pos c]; rfl
    · rw [decide_eq_false c, if_neg c]; simp
  refine ⟨w', r1, ⟨⟨_, wsize_own r2 sz2, fun y hy => ?_, fun y hy => ?_, sz2⟩, ?_, fun y hy => ?_, fun y hy => ?_⟩, Fr.grown r3.grown (fun g hg => by cases hg; rfl)⟩
  · by_cases e : y = x
    · subst e; rw [has_put_same h1.isMap (isKey_w64 hx)]; exact (decide_eq_true ((addK_mem K y y).2 (.inl rfl))).symm
    · rw [has_put_other (wlit_ne e), h2 y hy]; exact decide_eq_decide.2 (by rw [addK_mem]; simp [e])
  · by_cases e : y = x
    · subst e; rw [setW_same, atKey_put_same h1.isMap (isKey_w64 hx)]
    · rw [setW_other _ _ e, atKey_put_other (wlit_ne e), h3 y hy]
  · unfold addK
    by_cases c : x ∈ K
    · rw [if_pos c]; exact h5
    · rw [if_neg c]
      exact List.nodup_append.2 ⟨h5, by simp, fun a ha d hd => by simp at hd; subst hd; exact fun e => c (e ▸ ha)⟩
  · rcases (addK_mem K x y).1 hy with e | e
    · rw [e]; exact hx
    · exact h6 y e
  · have hn := fun c => hy ((addK_mem K x y).2 c)
    rw [setW_other _ _ (fun e => hn (.inl e))]
    exact h7 y (fun c => hn (.inr c))
end

end Go.Proofs.YthkkcnnlfjchaaaDoor
