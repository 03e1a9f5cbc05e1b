/- RmapMoves: the map beside the law's own, beside a box; how many uses there are in all. -/
import Derived.Test.YtfpmakmemmnbkaaAQ
import Derived.Test.YtfpmakmemmnbkaaAT
namespace Go.Proofs.Ytfpmakmemmnbkaa
open Go.RowKit
set_option maxRecDepth 10000

/-- The map at p, the law's own in b, both of T, behind W. -/
structure PMv (W w : World) (p b : Nat) (T : List UC) : Prop where
  ex : ∃ U bm g K, RMp w p U bm g K T ∧ (∀ i, U i → W.heap.size ≤ i) ∧ ¬ U b
  mt : MT w b T
  hb : W.heap.size ≤ b
  k : Kp W w
/-- .. and a place in the box bo. -/
structure PMX (W w : World) (p b bo : Nat) (x : PLc) (T T' : List UC) : Prop where
  ex : ∃ U bm g K, RMp w p U bm g K T ∧ (∀ i, U i → W.heap.size ≤ i) ∧ ¬ U b ∧ ¬ U bo
  mt : MT w b T'
  hb : W.heap.size ≤ b
  k : Kp W w
  r : w.heap[bo]? = some (.cells #[.int .i64 x.1, .int .u64 x.2] 31 (0, 0))
  nb : bo ≠ b
section
variable {W w w' : World} {p b bo : Nat} {x : PLc} {T T' : List UC}
theorem PMv.kp (h : PMv W w p b T) (k : Kp w w') : PMv W w' p b T := by
  obtain ⟨⟨U, bm, g, K, h1, h2⟩, h3, h4, h5⟩ := h
  exact ⟨⟨U, bm, g, K, h1.kp k, h2⟩, h3.kp k, h4, h5.trans k⟩
theorem PMX.kp (h : PMX W w p b bo x T T') (k : Kp w w') : PMX W w' p b bo x T T' := by
  obtain ⟨⟨U, bm, g, K, h1, h2⟩, h3, h4, h5, h6, h7⟩ := h
  exact ⟨⟨U, bm, g, K, h1.kp k, h2⟩, h3.kp k, h4, h5.trans k, (k.block bo (Array.getElem?_eq_some_iff.1 h6).1).trans h6, h7⟩
theorem PMv.box (h : PMv W w p b T) (k : Kp w w') (hw : w.heap.size ≤ bo) (r : w'.heap[bo]? = some (.cells #[.int .i64 x.1, .int .u64 x.2] 31 (0, 0))) : PMX W w' p b bo x T T := by
  obtain ⟨⟨U, bm, g, K, h1, h2, h3⟩, h4, h5, h6⟩ := h
  exact ⟨⟨U, bm, g, K, h1.kp k, h2, h3, fun c => by have := h1.lim _ c; omega⟩, h4.kp k, h5, h6.trans k, r, fun c => by have := h4.lt; omega⟩
theorem PMX.cells (h : PMX W w p b bo x T T') : w.cell? ⟨bo, 0, none⟩ = some (.int .i64 x.1) ∧ w.cell? ⟨bo, 1, none⟩ = some (.int .u64 x.2) :=
  ⟨by rw [cell_of_row _ _ 0 _ _ _ h.r]; rfl, by rw [cell_of_row _ _ 1 _ _ _ h.r]; rfl⟩
theorem PMX.um {U : Nat → Prop} {bm : Nat} {g : Int → Option Nat} {K : List Int} {T2 : List UC} (_h1 : RMp w p U bm g K T) (h2 : ∀ i, U i → W.heap.size ≤ i) (h3 : ¬ U b) (h4 : ¬ U bo) (m : MT w b T') (hb : W.heap.size ≤ b) (k : Kp W w) (r : w.heap[bo]? = some (.cells #[.int .i64 x.1, .int .u64 x.2] 31 (0, 0))) (nb : bo ≠ b) (u : UM w w' p U T2) : PMX W w' p b bo x T2 T' := by
  obtain ⟨U', bm', g', K', mm, f, s⟩ := u
  have l1 := m.lt
  have l2 := (Array.getElem?_eq_some_iff.1 r).1
  refine ⟨⟨U', bm', g', K', mm, fun i a => ?_, fun a => ?_, fun a => ?_⟩, m.fr f h3, hb, f.kp k h2, (f.block bo l2 h4).trans r, nb⟩
  · rcases s i a with c | c
    · exact h2 i c
    · exact Nat.le_trans k.size c
  · rcases s _ a with c | c
    · exact h3 c
    · omega
  · rcases s _ a with c | c
    · exact h4 c
    · omega
theorem PMX.add (h : PMX W w p b bo x T T') (f : Int) (hu : okU (f, x)) (hl : T.length ≤ 100) {r : Int} {T2 : List UC} (e1 : addN T (f, x) = r) (e2 : addT T (f, x) = T2) : Calls Try.prog 7 #[.pointer (some ⟨p, 0, none⟩), .int .i64 f, .agg #[.int .i64 x.1, .int .u64 x.2]] w fun e w' => e = .returned (.int .i64 r) ∧ PMX W w' p b bo x T2 T' := by
  obtain ⟨⟨U, bm, g, K, h1, h2, h3, h4⟩, h5, h6, h7, h8, h9⟩ := h
  subst e1; subst e2
  exact (madd_any h1 f x hu (by omega)).mono fun _ _ ⟨q1, q2⟩ => ⟨q1, PMX.um h1 h2 h3 h4 h5 h6 h7 h8 h9 q2⟩
theorem PMX.drop (h : PMX W w p b bo x T T') (f : Int) (hm : (f, x) ∈ T) (hl : T.length ≤ 100) : Calls Try.prog 9 #[.pointer (some ⟨p, 0, none⟩), .int .i64 f, .agg #[.int .i64 x.1, .int .u64 x.2]] w fun e w' => e = .returned (.int .i64 0) ∧ PMX W w' p b bo x (T.erase (f, x)) T' := by
  obtain ⟨⟨U, bm, g, K, h1, h2, h3, h4⟩, h5, h6, h7, h8, h9⟩ := h
  have := mdrop_any h1 f x (h1.ok _ hm) (by omega)
  rw [show drpN T (f, x) = 0 from if_pos hm] at this
  exact this.mono fun _ _ ⟨q1, q2⟩ => ⟨q1, PMX.um h1 h2 h3 h4 h5 h6 h7 h8 h9 q2⟩
/-- at[p] = f. -/
theorem PMX.store {f : Int} (h : PMX W w p b bo x (T ++ [(f, x)]) T') (hu : okU (f, x)) (hT : (¬ x ∈ T'.map (·.2) ∧ T = T') ∨ ∃ f0, (f0, x) ∈ T' ∧ T = T'.erase (f0, x)) (hN : T'.length ≤ 100) :
    ∃ w', (Instr.mapUpdate 47 (.map (some b)) (.agg #[.int .i64 x.1, .int .u64 x.2]) (.int .i64 f)).run Try.prog w = .ok () w' ∧ PMv W w' p b (T ++ [(f, x)]) := by
  obtain ⟨⟨U, bm, g, K, h1, h2, h3, h4⟩, h5, h6, h7, h8, h9⟩ := h
  obtain ⟨w', r1, m, k⟩ := h5.store hu hT (by unfold maxLen; omega)
  exact ⟨w', r1, ⟨U, bm, g, K, h1.fr k (fun i hi e => h3 (by have e : i = b := e; exact e ▸ hi)), h2, h3⟩, m, h6, k.kp h7 (fun i e => by have e : i = b := e; omega)⟩
theorem PMv.list (h : PMv W w p b T) (f : Int) (hf : (Lit.int .i64 f).wf = true) (hl : T.length ≤ 100) : Calls Try.prog 11 #[.pointer (some ⟨p, 0, none⟩), .int .i64 f] w fun e w' => (∃ v, e = .returned v ∧ SVw LTp w' v (srtP (usT T f))) ∧ PMv W w' p b T ∧ Kp w w' := by
  obtain ⟨U, bm, g, K, h1, _⟩ := h.ex
  exact (mlist_any h1 f hf (by omega)).mono fun _ _ ⟨v, q1, q2, q3⟩ => ⟨⟨v, q1, q2.sv okT_place⟩, h.kp q3, q3⟩
theorem PMv.frames (h : PMv W w p b T) (hl : T.length ≤ 100) : Calls Try.prog 12 #[.pointer (some ⟨p, 0, none⟩)] w fun e w' => (∃ v, e = .returned v ∧ SVw LTi w' v (frT T)) ∧ PMv W w' p b T ∧ Kp w w' := by
  obtain ⟨U, bm, g, K, h1, _⟩ := h.ex
  exact (mframes_any h1 (by omega)).mono fun _ _ ⟨v, q1, q2, q3⟩ => ⟨⟨v, q1, q2.sv okT_num⟩, h.kp q3, q3⟩
theorem PMv.made {w1 w2 : World} (h : ∃ U bm g K, RMp w1 p U bm g K [] ∧ Kp w w1 ∧ ∀ i, U i → w.heap.size ≤ i) (e : w2 = w1.alloc (.map #[] 0)) : PMv w w2 p w1.heap.size [] := by
  obtain ⟨U, bm, g, K, m, k, u⟩ := h
  subst e
  have ka : Kp w1 (w1.alloc (.map #[] 0)) := (Kp.refl w1).alloc _
  exact ⟨⟨U, bm, g, K, m.kp ka, u, fun c => by have := m.lim _ c; omega⟩, MT.made w1, k.size, k.trans ka⟩
end
/-! How many uses there are, frame by frame. -/
def sumU (T : List UC) (F : List Int) (i : Nat) : Nat := ((F.take i).map fun f => (usT T f).length).sum
theorem sumU_zero (T : List UC) (F : List Int) : sumU T F 0 = 0 := rfl
theorem sumU_succ (T : List UC) {F : List Int} {i : Nat} {f : Int} (h : F[i]? = some f) : sumU T F (i + 1) = sumU T F i + (usT T f).length := by
  unfold sumU
  rw [List.take_add_one, h]
  simp
theorem sum_ind (h : Int → Nat) (a : Int) : ∀ F : List Int, F.Nodup → a ∈ F → (F.map fun f => (if a = f then 1 else 0) + h f).sum = 1 + (F.map h).sum
  | [], _, hm => by cases hm
  | b :: r, hn, hm => by
    rw [List.nodup_cons] at hn
    rw [List.map_cons, List.sum_cons, List.map_cons, List.sum_cons]
    by_cases e : a = b
    · subst e
      have : (r.map fun f => (if a = f then 1 else 0) + h f) = r.map h := List.map_congr_left fun x hx => by
        have : ¬ a = x := fun c => hn.1 (by rw [c]; exact hx)
        rw [if_neg this]; omega
      rw [this, if_pos rfl]; omega
    · rw [if_neg e, sum_ind h a r hn.2 ((List.mem_cons.1 hm).resolve_left e)]; omega
theorem sum_all : ∀ (T : List UC) (F : List Int), F.Nodup → (∀ t ∈ T, t.1 ∈ F) → (F.map fun f => (usT T f).length).sum = T.length
  | [], F, _, _ => by
    have : (F.map fun f => (usT [] f).length) = F.map fun _ => 0 := rfl
    rw [this, List.map_const', List.sum_replicate_nat]; rfl
  | t :: r, F, hn, hm => by
    have := sum_ind (fun f => (usT r f).length) t.1 F hn (hm t (List.mem_cons_self ..))
    rw [sum_all r F hn fun x hx => hm x (List.mem_cons_of_mem _ hx)] at this
    rw [List.length_cons, ← Nat.add_comm 1, ← this]
    congr 1
    refine List.map_congr_left fun f _ => ?_
    show (usT (t :: r) f).length = _
    rw [usT_cons]
    split
    · rw [List.length_cons]; omega
    · omega
theorem frT_nodup (T : List UC) : (frT T).Nodup := (srtI_perm _).nodup_iff.2 (ddI_nodup _)
theorem frT_mem (T : List UC) (x : Int) : x ∈ frT T ↔ x ∈ T.map (·.1) := by
  unfold frT
  rw [(srtI_perm _).mem_iff, ddI_mem]
theorem sumU_all (T : List UC) : sumU T (frT T) (frT T).length = T.length := by
  unfold sumU
  rw [List.take_length]
  exact sum_all T (frT T) (frT_nodup T) fun t ht => (frT_mem T _).2 (List.mem_map.2 ⟨t, ht, rfl⟩)
theorem sumU_mono (T : List UC) (F : List Int) (i : Nat) : sumU T F i ≤ sumU T F F.length := by
  unfold sumU
  rw [List.take_length]
  conv => rhs; rw [← List.take_append_drop i F]
  rw [List.map_append, List.sum_append]
  omega
/-- The place that a step names, its frame. -/
def plM (o : Int × UC) : PLc := (1 + o.2.2.1 % 4, o.2.2.2 % 4)
/-- Frames are below 8. -/
def Low8 (T : List UC) : Prop := ∀ t ∈ T, 0 ≤ t.1 ∧ t.1 < 8
theorem Low8.nine {T : List UC} (h : Low8 T) : usT T 9 = [] := by
  cases e : usT T 9 with
  | nil => rfl
  | cons a r =>
    have : a ∈ usT T 9 := by rw [e]; exact List.mem_cons_self ..
    have := h _ (usT_mem.1 this)
    simp at this
theorem low_add {T0 : List UC} {f : Int} {x : PLc} (h : Low8 T0) (h0 : 0 ≤ f) (h1 : f < 8) : Low8 (T0 ++ [(f, x)]) := fun t ht => by
  rcases List.mem_append.1 ht with c | c
  · exact h t c
  · simp at c; subst c; exact ⟨h0, h1⟩
theorem not_erased {T : List UC} (nd : (T.map (·.2)).Nodup) {f f0 : Int} {x : PLc} (hm : (f0, x) ∈ T) : ¬ (f, x) ∈ T.erase (f0, x) := fun c => by
  have e := uni_snd nd (List.mem_of_mem_erase c) hm
  subst e
  exact (nodup_of_snd nd).not_mem_erase c
theorem addT_new {T0 : List UC} {f : Int} {x : PLc} (h0 : 0 ≤ f) (hn : ¬ (f, x) ∈ T0) : addN T0 (f, x) = 0 ∧ addT T0 (f, x) = T0 ++ [(f, x)] := by
  have h1 : ¬ f < 0 := by omega
  unfold addN addT
  exact ⟨by rw [if_neg h1, if_neg hn], by rw [if_neg h1, if_neg hn]⟩

end Go.Proofs.Ytfpmakmemmnbkaa
