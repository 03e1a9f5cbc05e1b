/- Sets of places: map[Place]struct{}. -/
import Derived.Test.YtfpmakmemmnbkaaU0
import Derived.Maps.OwnSet
import Derived.Maps.RangeWalk
import Derived.DeepKeys4
namespace Go.Proofs.Ytfpmakmemmnbkaa
open Go.RowKit Go.Maps

/-- A place: its guest, its page. -/
abbrev PLc : Type := Int × Int
def plV (x : PLc) : Value := .agg #[.int .i64 x.1, .int .u64 x.2]
/-- The two are numbers of their kinds. -/
def okP (x : PLc) : Prop := (Lit.int .i64 x.1).wf = true ∧ (Lit.int .u64 x.2).wf = true
theorem plV_inj {x y : PLc} (h : plV x = plV y) : x = y := by
  unfold plV at h
  simp only [Value.agg.injEq, Array.mk.injEq, List.cons.injEq, Value.int.injEq, true_and, and_true] at h
  exact Prod.ext h.1 h.2

theorem law_place : WideMaps.KeyLaw Try.prog 31 :=
  deep_law_laid (by kernel_rfl) (m := 3) (by omega) (of_decide_eq_true (by kernel_rfl)) (by kernel_rfl) (by rw [Try.underlying31])
theorem keyed_place : Keyed Try.prog 31 := Keyed.of_law law_place
/-- What a place reads as, as a key. -/
def kP (x : PLc) : Lit := .string (keyBytes [.int .i64 x.1, .int .u64 x.2])
theorem lits_int (d : Nat) {g : Int} (h : (Lit.int .i64 g).wf = true) : Try.prog.keyLits (d + 1) 3 [.int .i64 g] = some [.int .i64 g] := by
  unfold Program.keyLits
  rw [Try.underlying3]
  exact if_pos ⟨rfl, h⟩
theorem lits_word (d : Nat) {g : Int} (h : (Lit.int .u64 g).wf = true) : Try.prog.keyLits (d + 1) 29 [.int .u64 g] = some [.int .u64 g] := by
  unfold Program.keyLits
  rw [Try.underlying29]
  exact if_pos ⟨rfl, h⟩
theorem cells_place : Try.prog.cellsOf 31 = 2 := by kernel_rfl
theorem cells_int : Try.prog.cellsOf 3 = 1 := by kernel_rfl
theorem cells_word : Try.prog.cellsOf 29 = 1 := by kernel_rfl
theorem lits_place (d : Nat) {x : PLc} (h : okP x) : Try.prog.keyLits (d + 2) 31 [.int .i64 x.1, .int .u64 x.2] = some [.int .i64 x.1, .int .u64 x.2] := by
  unfold Program.keyLits
  rw [Try.underlying31]
  have h1 := lits_int d h.1
  have h2 := lits_word d h.2
  refine (if_pos ⟨by rw [cells_place]; rfl, by simp⟩).trans ?_
  simp only [List.mapM_cons, List.mapM_nil, cells_int, cells_word, List.drop_zero, List.drop_succ_cons, List.take_succ_cons, List.take_zero, h1, h2]
  rfl
theorem size_types : ∃ d, Try.prog.types.size + 1 = d + 2 := ⟨Try.prog.types.size - 1, by
  have : 1 ≤ Try.prog.types.size := of_decide_eq_true (by kernel_rfl)
  omega⟩
theorem keyOf_place {x : PLc} (h : okP x) : keyOf Try.prog 31 (plV x) = some (kP x) := by
  have hk : Try.prog.keyType 31 = true := by kernel_rfl
  have hf : (plV x).formed Try.prog 31 = true := by
    simp [plV, Value.formed, Try.underlying31, cells_place]
  obtain ⟨d, hd⟩ := size_types
  have hl := lits_place d h
  rw [← hd] at hl
  unfold keyOf
  rw [Try.underlying31]
  show (if (Try.prog.keyType 31 && (plV x).formed Try.prog 31) = true then (Try.prog.keyLits (Try.prog.types.size + 1) 31 [.int .i64 x.1, .int .u64 x.2]).map (fun ls => Lit.string (keyBytes ls)) else none) = _
  rw [hk, hf, hl]
  rfl
set_option maxRecDepth 100000 in
theorem lits_int_inv (d : Nat) {c : Value} {ls : List Lit} (h : Try.prog.keyLits (d + 1) 3 [c] = some ls) : ∃ g, c = .int .i64 g ∧ (Lit.int .i64 g).wf = true := by
  unfold Program.keyLits at h
  rw [Try.underlying3] at h
  cases c <;> simp at h
  obtain ⟨⟨rfl, h1⟩, rfl⟩ := h
  exact ⟨_, rfl, h1⟩
set_option maxRecDepth 100000 in
theorem lits_word_inv (d : Nat) {c : Value} {ls : List Lit} (h : Try.prog.keyLits (d + 1) 29 [c] = some ls) : ∃ g, c = .int .u64 g ∧ (Lit.int .u64 g).wf = true := by
  unfold Program.keyLits at h
  rw [Try.underlying29] at h
  cases c <;> simp at h
  obtain ⟨⟨rfl, h1⟩, rfl⟩ := h
  exact ⟨_, rfl, h1⟩
set_option maxRecDepth 100000 in
theorem formed_place {v : Value} (h : v.formed Try.prog 31 = true) : ∃ c0 c1, v = .agg #[c0, c1] := by
  unfold Value.formed at h
  rw [Try.underlying31, cells_place] at h
  cases v with
  | agg cs =>
    have h2 : cs.size = 2 := by simpa using h
    obtain ⟨l⟩ := cs
    match l with
    | [c0, c1] => exact ⟨c0, c1, rfl⟩
  | _ => simp at h
set_option maxRecDepth 100000 in
theorem lits_place_inv (d : Nat) {c0 c1 : Value} {ls : List Lit} (h : Try.prog.keyLits (d + 2) 31 [c0, c1] = some ls) : ∃ x, .agg #[c0, c1] = plV x ∧ okP x := by
  unfold Program.keyLits at h
  rw [Try.underlying31] at h
  replace h := (if_pos (⟨by rw [cells_place]; rfl, by simp⟩ : ([c0, c1] : List Value).length = Try.prog.cellsOf 31 ∧ _)).symm.trans h
  simp only [List.mapM_cons, List.mapM_nil, cells_int, cells_word, List.drop_zero, List.drop_succ_cons, List.take_succ_cons, List.take_zero] at h
  cases e1 : Try.prog.keyLits (d + 1) 3 [c0] with
  | none => rw [e1] at h; cases h
  | some l1 =>
    cases e2 : Try.prog.keyLits (d + 1) 29 [c1] with
    | none => rw [e1, e2] at h; cases h
    | some l2 =>
      obtain ⟨g, rfl, hg⟩ := lits_int_inv d e1
      obtain ⟨q, rfl, hq⟩ := lits_word_inv d e2
      exact ⟨(g, q), rfl, hg, hq⟩
set_option maxRecDepth 100000 in
/-- What reads as a key is a place. -/
theorem keyOf_place_inv {v : Value} {l : Lit} (h : keyOf Try.prog 31 v = some l) : ∃ x, v = plV x ∧ okP x ∧ l = kP x := by
  have hk : ∃ x, v = plV x ∧ okP x := by
    unfold keyOf at h
    rw [Try.underlying31] at h
    obtain ⟨d, hd⟩ := size_types
    simp only [] at h
    split at h
    · rename_i hc
      rw [hd] at h
      obtain ⟨c0, c1, rfl⟩ := formed_place (Bool.and_eq_true_iff.1 hc).2
      cases e : Try.prog.keyLits (d + 2) 31 [c0, c1] with
      | none => simp only [Value.cells, e] at h; cases h
      | some ls => exact lits_place_inv d e
    · cases h
  obtain ⟨x, rfl, hx⟩ := hk
  rw [keyOf_place hx] at h
  exact ⟨x, rfl, hx, (Option.some.inj h).symm⟩
theorem kP_inj {x y : PLc} (hx : okP x) (hy : okP y) (h : kP x = kP y) : x = y := by
  have a := keyOf_place hx
  have b := keyOf_place hy
  rw [h] at a
  exact plV_inj (keyed_place.inj a b)
theorem kP_ne {x y : PLc} (hx : okP x) (hy : okP y) (h : y ≠ x) : kP y ≠ kP x := fun e => h (kP_inj hy hx e)
theorem isKey_place {x : PLc} (h : okP x) : WideAt.IsKeyLit (kP x) := keyed_place.key (keyOf_place h)


/-- Block b is the set of the places of L. -/
structure PS (w : World) (b : Nat) (L : List PLc) : Prop where
  ex : ∃ D, w.ownsMap Try.prog 31 (unitElem (H := Unit)) b L.length D ∧ (∀ x, okP x → Maps.has D (kP x) = decide (x ∈ L)) ∧ Maps.size D = L.length
  nd : L.Nodup
  ok : ∀ x ∈ L, okP x
variable {w w' : World} {b : Nat} {L : List PLc}
theorem own_size {k : TypeId} {R : Value → Option (DataW Unit × List MemPlace)} {n : Nat} {D : DataW Unit} (h : w.ownsMap Try.prog k R b n D) {m : Nat} (e : Maps.size D = m) : w.ownsMap Try.prog k R b m D := by
  obtain ⟨es, clock, hb, F, hs, rfl⟩ := h
  refine ⟨es, clock, hb, F, ?_, rfl⟩
  rw [← e]
  show es.size ≤ ((es.toList.map (WideElems.rg Try.prog k R)).foldr DataW.insert []).length
  rw [length_sorted]
  simp
theorem PS.lt (h : PS w b L) : b < w.heap.size := by
  obtain ⟨D, h1, _⟩ := h.ex
  exact h1.lt
theorem PS.made (w : World) : PS (w.alloc (.map #[] 0)) w.heap.size [] :=
  ⟨⟨.map [], World.ownsMap_made w _ _ _, fun x _ => rfl, rfl⟩, List.nodup_nil, fun _ h => by cases h⟩
theorem PS.fr (h : PS w b L) {S : Nat → Prop} (k : Fr S w w') (hS : ¬ S b) : PS w' b L := by
  have hlt := h.lt
  obtain ⟨⟨D, ⟨es, clock, hb, r⟩, h2⟩, h3, h4⟩ := h
  exact ⟨⟨D, ⟨es, clock, (k.block b hlt hS).trans hb, r⟩, h2⟩, h3, h4⟩
theorem PS.kp (h : PS w b L) (k : Kp w w') : PS w' b L := h.fr (k.fr (fun _ => False)) id
theorem PS.perm (h : PS w b L) {M : List PLc} (p : L.Perm M) : PS w b M := by
  obtain ⟨⟨D, h1, h2, h3⟩, h4, h5⟩ := h
  exact ⟨⟨D, by rw [← p.length_eq]; exact h1, fun x hx => by rw [h2 x hx]; exact decide_eq_decide.2 p.mem_iff, by rw [← p.length_eq]; exact h3⟩, p.nodup_iff.1 h4, fun x hx => h5 x (p.mem_iff.2 hx)⟩
theorem zero_unit (w : World) : (zeroValue 54).run Try.prog w = .ok (.agg #[]) w := by kernel_rfl
/-- v, there := m[x]. -/
theorem PS.look (h : PS w b L) (x : PLc) (hx : okP x) :
    (Instr.lookup 53 (.map (some b)) (plV x) true).run Try.prog w = .ok (.tuple #[.agg #[], .bool (decide (x ∈ L))]) w := by
  obtain ⟨D, h1, h2, _⟩ := h.ex
  obtain ⟨v, ps, hr, hv⟩ := h1.look_ok keyed_place Try.underlying53 (zero_unit w) (zd := .agg []) (zp := []) unitElem_mk (keyOf_place hx)
  rw [hr, h2 x hx]
  rw [(unitElem_inv hv).1]
theorem look_nilset (x : PLc) (hx : okP x) (w : World) : (Instr.lookup 53 (.map none) (plV x) true).run Try.prog w = .ok (.tuple #[.agg #[], .bool false]) w :=
  by simpa using Maps.look_nil (w := w) true keyed_place Try.underlying53 (zero_unit w) (keyOf_place hx)
theorem PS.len (h : PS w b L) (ty : TypeId) : (Builtin.len_ #[53] ty #[.map (some b)]).run Try.prog w = .ok (.int .i64 (L.length : Nat)) w := by
  obtain ⟨D, h1, _, h3⟩ := h.ex
  rw [h1.len Try.underlying53 ty, h3]
theorem PS.drop (h : PS w b L) (x : PLc) (hx : okP x) (hm : x ∈ L) (ty : TypeId) :
    ∃ w', (Builtin.delete_ #[53, 31] ty #[.map (some b), plV x]).run Try.prog w = .ok (.tuple #[]) w' ∧ PS w' b (L.erase x) ∧ Fr (· = b) w w' := by
  obtain ⟨⟨D, h1, h2, h3⟩, h4, h5⟩ := h
  obtain ⟨w', r1, r2, r3⟩ := h1.drop keyed_place Try.underlying53 (keyOf_place hx) ty
  have sz := size_del (k := kP x) (h1.tidy keyed_place)
  rw [h2 x hx, decide_eq_true hm, h3] at sz
  have sz2 : Maps.size (D.del (kP x)) = (L.erase x).length := by
    rw [List.length_erase_of_mem hm]
    simp at sz
    have := List.length_pos_of_mem hm
    omega
  refine ⟨w', r1, ⟨⟨_, own_size r2 sz2, fun y hy => ?_, sz2⟩, h4.erase x, fun y hy => h5 y (List.mem_of_mem_erase hy)⟩, Fr.grown r3.grown (fun g hg => by cases hg; rfl)⟩
  by_cases e : y = x
  · subst e
    rw [has_del_same]
    exact (decide_eq_false (h4.not_mem_erase)).symm
  · rw [has_del_other (kP_ne hx hy e), h2 y hy]
    exact decide_eq_decide.2 (List.mem_erase_of_ne e).symm
theorem PS.store (h : PS w b L) (x : PLc) (hx : okP x) (hm : ¬ x ∈ L) (hN : L.length < maxLen) :
    ∃ w', (Instr.mapUpdate 53 (.map (some b)) (plV x) (.agg #[])).run Try.prog w = .ok () w' ∧ PS w' b (L ++ [x]) ∧ Fr (· = b) w w' := by
  obtain ⟨⟨D, h1, h2, h3⟩, h4, h5⟩ := h
  obtain ⟨w', r1, r2, r3⟩ := h1.store keyed_place Try.underlying53 hN (keyOf_place hx) unitElem_mk
  have sz := size_put (k := kP x) (h1.tidy keyed_place) (DataW.agg [])
  rw [h2 x hx, decide_eq_false hm, h3] at sz
  have sz2 : Maps.size (D.put (kP x) (.agg [])) = (L ++ [x]).length := by rw [sz]; simp
  refine ⟨w', r1, ⟨⟨_, own_size r2 sz2, fun y hy => ?_, sz2⟩, ?_, fun y hy => ?_⟩, Fr.grown r3.grown (fun g hg => by cases hg; rfl)⟩
  · by_cases e : y = x
    · subst e
      rw [has_put_same h1.isMap (isKey_place hx)]
      exact (decide_eq_true (by simp)).symm
    · rw [has_put_other (kP_ne hx hy e), h2 y hy]
      exact decide_eq_decide.2 (by simp [e])
  · exact List.nodup_append.2 ⟨h4, by simp, fun a ha c hc => by simp at hc; subst hc; exact fun e => hm (e ▸ ha)⟩
  · rcases List.mem_append.1 hy with h | h
    · exact h5 y h
    · simp at h; subst h; exact hx

end Go.Proofs.Ytfpmakmemmnbkaa
