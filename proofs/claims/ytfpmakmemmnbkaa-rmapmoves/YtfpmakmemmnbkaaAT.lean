/- RmapMoves' own map: where a place is: map[Place]int; the list of uses says it. -/
import Derived.Test.YtfpmakmemmnbkaaAN
import Derived.Test.YtfpmakmemmnbkaaAM
namespace Go.Proofs.Ytfpmakmemmnbkaa
open Go.RowKit Go.Maps

/-- Of a place there is one frame alone. -/
theorem uni_snd {T : List UC} (h : (T.map (·.2)).Nodup) {f g : Int} {x : PLc} (h1 : (f, x) ∈ T) (h2 : (g, x) ∈ T) : f = g := by
  induction T with
  | nil => cases h1
  | cons t r ih =>
    rw [List.map_cons, List.nodup_cons] at h
    rcases List.mem_cons.1 h1 with e1 | e1 <;> rcases List.mem_cons.1 h2 with e2 | e2
    · rw [← e1] at e2; cases e2; rfl
    · exact absurd (List.mem_map.2 ⟨_, e2, by rw [← e1]⟩) h.1
    · exact absurd (List.mem_map.2 ⟨_, e1, by rw [← e2]⟩) h.1
    · exact ih h.2 e1 e2
theorem nodup_of_snd {T : List UC} (h : (T.map (·.2)).Nodup) : T.Nodup := by
  induction T with
  | nil => exact List.nodup_nil
  | cons t r ih =>
    rw [List.map_cons, List.nodup_cons] at h
    exact List.nodup_cons.2 ⟨fun c => h.1 (List.mem_map.2 ⟨_, c, rfl⟩), ih h.2⟩
/-- Block b tells of each place of T its frame. -/
structure MT (w : World) (b : Nat) (T : List UC) : Prop where
  ex : ∃ D, w.ownsMap Try.prog 31 (plainElem (H := Unit) Try.prog 3) b T.length D ∧ (∀ x, okP x → Maps.has D (kP x) = decide (x ∈ T.map (·.2))) ∧ (∀ f x, (f, x) ∈ T → D.atKey (kP x) (.lit (.int .i64 0)) = .lit (.int .i64 f)) ∧ Maps.size D = T.length
  nd : (T.map (·.2)).Nodup
  ok : ∀ t ∈ T, okU t
section
variable {w w' : World} {b : Nat} {T : List UC}
theorem ownN_size {R : Value → Option (DataW Unit × List MemPlace)} {k : TypeId} {n : Nat} {D : DataW Unit} (h : w.ownsMap Try.prog k R b n D) {m : Nat} (e : Maps.size D = m) : w.ownsMap Try.prog k R b m D := own_size h e
theorem MT.lt (h : MT w b T) : b < w.heap.size := by
  obtain ⟨D, h1, _⟩ := h.ex
  exact h1.lt
theorem MT.made (w : World) : MT (w.alloc (.map #[] 0)) w.heap.size [] :=
  ⟨⟨.map [], World.ownsMap_made w _ _ _, fun x _ => rfl, (fun _ _ h => by cases h), rfl⟩, List.nodup_nil, fun _ h => by cases h⟩
theorem MT.fr (h : MT w b T) {S : Nat → Prop} (k : Fr S w w') (hS : ¬ S b) : MT w' b T := by
  have hlt := h.lt
  obtain ⟨⟨D, ⟨es, clock, hb, r⟩, h2⟩, h3, h4⟩ := h
  exact ⟨⟨D, ⟨es, clock, (k.block b hlt hS).trans hb, r⟩, h2⟩, h3, h4⟩
theorem MT.kp (h : MT w b T) (k : Kp w w') : MT w' b T := h.fr (k.fr (fun _ => False)) id
theorem zero_num (w : World) : (zeroValue 3).run Try.prog w = .ok (.int .i64 0) w := by kernel_rfl
/-- v, ok := m[x]: it is there. -/
theorem MT.look (h : MT w b T) {f : Int} {x : PLc} (hm : (f, x) ∈ T) :
    (Instr.lookup 47 (.map (some b)) (plV x) true).run Try.prog w = .ok (.tuple #[.int .i64 f, .bool true]) w := by
  obtain ⟨D, h1, h2, h3, _⟩ := h.ex
  have hx : okP x := (h.ok _ hm).2
  obtain ⟨v, ps, hr, hv⟩ := h1.look_ok keyed_place Try.underlying47 (zero_num w) (zd := .lit (.int .i64 0)) (zp := []) (plainElem_int Try.underlying3 (by decide)) (keyOf_place hx)
  obtain ⟨c, rfl, hc, _⟩ := plainElem_int_inv Try.underlying3 hv
  rw [hr, h2 x hx]
  rw [h3 f x hm] at hc
  simp only [Prod.mk.injEq, DataW.lit.injEq, Lit.int.injEq, true_and] at hc
  rw [← hc.1, decide_eq_true (List.mem_map.2 ⟨_, hm, rfl⟩)]
/-- .. it is not. -/
theorem MT.look_no (h : MT w b T) {x : PLc} (hx : okP x) (hm : ¬ x ∈ T.map (·.2)) :
    ∃ c, (Instr.lookup 47 (.map (some b)) (plV x) true).run Try.prog w = .ok (.tuple #[.int .i64 c, .bool false]) w := by
  obtain ⟨D, h1, h2, h3, _⟩ := h.ex
  obtain ⟨v, ps, hr, hv⟩ := h1.look_ok keyed_place Try.underlying47 (zero_num w) (zd := .lit (.int .i64 0)) (zp := []) (plainElem_int Try.underlying3 (by decide)) (keyOf_place hx)
  obtain ⟨c, rfl, _, _⟩ := plainElem_int_inv Try.underlying3 hv
  rw [hr, h2 x hx, decide_eq_false hm]
  exact ⟨c, rfl⟩
/-- m[x]. -/
theorem MT.get (h : MT w b T) {f : Int} {x : PLc} (hm : (f, x) ∈ T) :
    (Instr.lookup 47 (.map (some b)) (plV x) false).run Try.prog w = .ok (.int .i64 f) w := by
  obtain ⟨D, h1, h2, h3, _⟩ := h.ex
  have hx : okP x := (h.ok _ hm).2
  obtain ⟨c, hr, hc, _⟩ := h1.lookup_int keyed_place Try.underlying47 Try.underlying3 (zero_num w) (keyOf_place hx)
  rw [h3 f x hm] at hc
  cases hc
  exact hr
theorem MT.len (h : MT w b T) (ty : TypeId) : (Builtin.len_ #[47] ty #[.map (some b)]).run Try.prog w = .ok (.int .i64 (T.length : Nat)) w := by
  obtain ⟨D, h1, _, _, h3⟩ := h.ex
  rw [h1.len Try.underlying47 ty, h3]
/-- m[x] = f: T0 is T without x. -/
theorem MT.store (h : MT w b T) {T0 : List UC} {f : Int} {x : PLc} (hu : okU (f, x)) (hT : (¬ x ∈ T.map (·.2) ∧ T0 = T) ∨ ∃ f0, (f0, x) ∈ T ∧ T0 = T.erase (f0, x)) (hN : T.length < maxLen) :
    ∃ w', (Instr.mapUpdate 47 (.map (some b)) (plV x) (.int .i64 f)).run Try.prog w = .ok () w' ∧ MT w' b (T0 ++ [(f, x)]) ∧ Fr (· = b) w w' := by
  obtain ⟨⟨D, h1, h2, h3, h6⟩, h4, h5⟩ := h
  obtain ⟨w', r1, r2, r3⟩ := h1.store keyed_place Try.underlying47 hN (keyOf_place hu.2) (plainElem_int (H := Unit) Try.underlying3 hu.1)
  have sz := size_put (k := kP x) (h1.tidy keyed_place) (DataW.lit (.int .i64 f))
  rw [h2 x hu.2, h6] at sz
  have n0 : (T0.map (·.2)).Nodup := by
    rcases hT with ⟨_, rfl⟩ | ⟨f0, _, rfl⟩
    · exact h4
    · exact h4.sublist (List.Sublist.map _ List.erase_sublist)
  have m0 : ∀ g y, (g, y) ∈ T0 ↔ ((g, y) ∈ T ∧ y ≠ x) := fun g y => by
    rcases hT with ⟨hn, rfl⟩ | ⟨f0, hf, rfl⟩
    · exact ⟨fun c => ⟨c, fun e => hn (List.mem_map.2 ⟨_, c, e⟩)⟩, fun c => c.1⟩
    · have ndT : T.Nodup := nodup_of_snd h4
      rw [ndT.mem_erase_iff]
      constructor
      · rintro ⟨c1, c2⟩
        refine ⟨c2, fun e => c1 ?_⟩
        subst e
        have := uni_snd h4 c2 hf
        rw [this]
      · rintro ⟨c1, c2⟩
        exact ⟨fun e => c2 (by cases e; rfl), c1⟩
  have hx0 : ¬ x ∈ T0.map (·.2) := fun c => by
    obtain ⟨⟨g, y⟩, hg, e⟩ := List.mem_map.1 c
    exact ((m0 g y).1 hg).2 e
  have s0 : ∀ y, y ≠ x → (y ∈ T0.map (·.2) ↔ y ∈ T.map (·.2)) := fun y hy => by
    constructor
    · intro c
      obtain ⟨⟨g, z⟩, hg, e⟩ := List.mem_map.1 c
      exact List.mem_map.2 ⟨_, ((m0 g z).1 hg).1, e⟩
    · intro c
      obtain ⟨⟨g, z⟩, hg, e⟩ := List.mem_map.1 c
      exact List.mem_map.2 ⟨_, (m0 g z).2 ⟨hg, fun e' => hy (by rw [← e]; exact e')⟩, e⟩
  have sz2 : Maps.size (D.put (kP x) (.lit (.int .i64 f))) = (T0 ++ [(f, x)]).length := by
    rw [sz]
    rcases hT with ⟨hn, rfl⟩ | ⟨f0, hf, rfl⟩
    · rw [decide_eq_false hn]; simp
    · rw [decide_eq_true (List.mem_map.2 ⟨_, hf, rfl⟩)]
      have := List.length_pos_of_mem hf
      simp [List.length_erase_of_mem hf]
      omega
  refine ⟨w', r1, ⟨⟨_, ownN_size r2 sz2, fun y hy => ?_, fun g y hg => ?_, sz2⟩, ?_, fun t ht => ?_⟩, Fr.grown r3.grown (fun g hg => by cases hg; rfl)⟩
  · by_cases e : y = x
    · subst e
      rw [has_put_same h1.isMap (isKey_place hu.2)]
      exact (decide_eq_true (by simp)).symm
    · rw [has_put_other (kP_ne hu.2 hy e), h2 y hy]
      refine decide_eq_decide.2 ?_
      rw [List.map_append, List.mem_append, s0 y e]
      simp [e]
  · rcases List.mem_append.1 hg with c | c
    · obtain ⟨c1, c2⟩ := (m0 g y).1 c
      rw [atKey_put_other (kP_ne hu.2 (h5 _ c1).2 c2), h3 g y c1]
    · simp at c
      obtain ⟨rfl, rfl⟩ := c
      rw [atKey_put_same h1.isMap (isKey_place hu.2)]
  · rw [List.map_append]
    exact List.nodup_append.2 ⟨n0, by simp, fun a ha c hc => by simp at hc; subst hc; exact fun e => hx0 (e ▸ ha)⟩
  · rcases List.mem_append.1 ht with c | c
    · exact h5 _ ((m0 t.1 t.2).1 c).1
    · simp at c; subst c; exact hu
end

end Go.Proofs.Ytfpmakmemmnbkaa
