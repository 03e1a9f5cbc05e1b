/- rmap: the map; New, Has. -/
import Derived.Test.YtfpmakmemmnbkaaA5
import Derived.Test.YtfpmakmemmnbkaaA2
namespace Go.Proofs.Ytfpmakmemmnbkaa
open Go.RowKit Go.Maps
set_option maxRecDepth 10000

/-! ### uses by frame -/
def usT (T : List UC) (f : Int) : List PLc := (T.filter fun t => decide (t.1 = f)).map (·.2)
def okU (u : UC) : Prop := (Lit.int .i64 u.1).wf = true ∧ okP u.2
theorem usT_mem {T : List UC} {f : Int} {x : PLc} : x ∈ usT T f ↔ (f, x) ∈ T := by
  unfold usT
  rw [List.mem_map]
  constructor
  · rintro ⟨⟨a, b⟩, h, rfl⟩
    rw [List.mem_filter] at h
    have e : a = f := of_decide_eq_true h.2
    rw [← e]; exact h.1
  · intro h
    exact ⟨(f, x), List.mem_filter.2 ⟨h, decide_eq_true rfl⟩, rfl⟩
theorem usT_cons (t : UC) (T : List UC) (f : Int) : usT (t :: T) f = if t.1 = f then t.2 :: usT T f else usT T f := by
  unfold usT
  rw [List.filter_cons]
  by_cases c : t.1 = f
  · rw [if_pos (decide_eq_true c), if_pos c]; rfl
  · rw [if_neg (by simpa using c), if_neg c]
theorem usT_nodup {T : List UC} (h : T.Nodup) (f : Int) : (usT T f).Nodup := by
  induction T with
  | nil => exact List.nodup_nil
  | cons t r ih =>
    obtain ⟨h1, h2⟩ := List.nodup_cons.1 h
    rw [usT_cons]
    by_cases c : t.1 = f
    · rw [if_pos c]
      refine List.nodup_cons.2 ⟨fun hm => h1 ?_, ih h2⟩
      have := usT_mem.1 hm
      rw [← c] at this
      exact this
    · rw [if_neg c]; exact ih h2
theorem usT_add (T : List UC) (f : Int) (x : PLc) (g : Int) : usT (T ++ [(f, x)]) g = if g = f then usT T f ++ [x] else usT T g := by
  by_cases c : g = f
  · subst c; rw [if_pos rfl]; unfold usT; rw [List.filter_append]; simp
  · rw [if_neg c]; unfold usT; rw [List.filter_append]; simp [show ¬ f = g from fun e => c e.symm]
theorem usT_erase : ∀ (T : List UC) (f : Int) (x : PLc) (g : Int), usT (T.erase (f, x)) g = if g = f then (usT T f).erase x else usT T g
  | [], f, x, g => by simp [usT]
  | t :: r, f, x, g => by
    obtain ⟨a, b⟩ := t
    by_cases c : ((a, b) : UC) = (f, x)
    · cases c
      rw [List.erase_cons_head]
      by_cases e : g = f
      · rw [if_pos e, usT_cons, if_pos rfl, List.erase_cons_head, e]
      · rw [if_neg e, usT_cons, if_neg (fun h => e h.symm)]
    · rw [List.erase_cons_tail (by simpa using c), usT_cons, usT_erase r f x g]
      by_cases e : g = f
      · rw [if_pos e, if_pos e, usT_cons]
        by_cases d : a = g
        · have d2 : a = f := d.trans e
          rw [if_pos d, if_pos d2, List.erase_cons_tail (by
            have : b ≠ x := fun h => c (by rw [h, d2])
            simpa using this)]
        · rw [if_neg d, if_neg (fun h => d (h.trans e.symm))]
      · rw [if_neg e, if_neg e, usT_cons]
theorem usT_len (T : List UC) (f : Int) : (usT T f).length ≤ T.length := by unfold usT; rw [List.length_map]; exact List.length_filter_le _ _
theorem nodup_le : ∀ {K M : List Int}, K.Nodup → (∀ x ∈ K, x ∈ M) → K.length ≤ M.length
  | [], M, _, _ => Nat.zero_le _
  | x :: r, M, h, hs => by
    obtain ⟨h1, h2⟩ := List.nodup_cons.1 h
    have := nodup_le (K := r) (M := M.erase x) h2 (fun y hy => by
      have hne : y ≠ x := fun e => h1 (e ▸ hy)
      rw [List.mem_erase_of_ne hne]
      exact hs y (by simp [hy]))
    have hm := hs x (by simp)
    rw [List.length_erase_of_mem hm] at this
    have := List.length_pos_of_mem hm
    simp only [List.length_cons]
    omega

/-- The program's map at p: its uses T; its blocks are U. -/
structure RMp (w : World) (p : Nat) (U : Nat → Prop) (bm : Nat) (g : Int → Option Nat) (K : List Int) (T : List UC) : Prop where
  c : w.heap[p]? = some (.cells #[.map (some bm)] 51 (0, 0))
  mu : MU w bm g K
  up : U p
  ub : U bm
  nb : bm ≠ p
  set : ∀ x b, g x = some b → PS w b (usT T x) ∧ U b ∧ b ≠ p ∧ b ≠ bm ∧ usT T x ≠ []
  non : ∀ x, g x = none → usT T x = []
  inj : ∀ x y b, g x = some b → g y = some b → x = y
  lim : ∀ i, U i → i < w.heap.size
  nd : T.Nodup
  ok : ∀ t ∈ T, okU t
section
variable {w w' : World} {p : Nat} {U : Nat → Prop} {bm : Nat} {g : Int → Option Nat} {K : List Int} {T : List UC}
theorem RMp.fr (h : RMp w p U bm g K T) {S : Nat → Prop} (k : Fr S w w') (hS : ∀ i, U i → ¬ S i) : RMp w' p U bm g K T :=
  ⟨(k.block p (h.lim p h.up) (hS p h.up)).trans h.c, h.mu.fr k (hS bm h.ub), h.up, h.ub, h.nb, fun x b hx => by obtain ⟨h1, h2, h3⟩ := h.set x b hx; exact ⟨h1.fr k (hS b h2), h2, h3⟩, h.non, h.inj, fun i hi => Nat.lt_of_lt_of_le (h.lim i hi) k.size, h.nd, h.ok⟩
theorem RMp.kp (h : RMp w p U bm g K T) (k : Kp w w') : RMp w' p U bm g K T := h.fr (k.fr (fun _ => False)) (fun _ _ => id)
theorem RMp.c0 (h : RMp w p U bm g K T) : w.cell? ⟨p, 0, none⟩ = some (.map (some bm)) := by rw [cell_of_row _ _ 0 _ _ _ h.c]; rfl
theorem RMp.psn (h : RMp w p U bm g K T) (f : Int) : PSn w (g f) (usT T f) := by
  cases e : g f with
  | none => exact .inl ⟨rfl, h.non f e⟩
  | some b => exact .inr ⟨b, rfl, (h.set f b e).1⟩
theorem RMp.klen (h : RMp w p U bm g K T) : K.length ≤ T.length := by
  have := nodup_le (M := T.map (·.1)) h.mu.nd (fun x hx => by
    obtain ⟨b, hb⟩ := Option.isSome_iff_exists.1 ((h.mu.mem x).1 hx)
    obtain ⟨_, _, _, _, hne⟩ := h.set x b hb
    obtain ⟨y, hy⟩ := List.exists_mem_of_ne_nil _ hne
    exact List.mem_map.2 ⟨(x, y), usT_mem.1 hy, rfl⟩)
  simpa using this
/-- A look into a set that may be nil. -/
theorem PSn.look {m : Option Nat} {L : List PLc} (h : PSn w m L) (x : PLc) (hx : okP x) : (Instr.lookup 53 (.map m) (plV x) true).run Try.prog w = .ok (.tuple #[.agg #[], .bool (decide (x ∈ L))]) w := by
  rcases h with ⟨rfl, rfl⟩ | ⟨b, rfl, h⟩
  · rw [look_nilset x hx]; rfl
  · exact h.look x hx
theorem PSn.kp {m : Option Nat} {L : List PLc} (h : PSn w m L) (k : Kp w w') : PSn w' m L := h.imp id (fun ⟨b, e, h⟩ => ⟨b, e, h.kp k⟩)

/-- What a step of the program's map leaves. -/
def UM (w w' : World) (p : Nat) (U : Nat → Prop) (T : List UC) : Prop := ∃ U' bm g K, RMp w' p U' bm g K T ∧ Fr U w w' ∧ ∀ i, U' i → U i ∨ w.heap.size ≤ i
theorem UM.same (h : RMp w p U bm g K T) (k : Kp w w') : UM w w' p U T := ⟨U, bm, g, K, h.kp k, k.fr _, fun _ hi => .inl hi⟩

set_option maxHeartbeats 2000000 in
theorem rnew_any (w : World) : Calls Try.prog 6 #[] w fun e w' => ∃ p U bm g K, e = .returned (.pointer (some ⟨p, 0, none⟩)) ∧ RMp w' p U bm g K [] ∧ Kp w w' ∧ ∀ i, U i → w.heap.size ≤ i := by
  obtain ⟨w1, hw1⟩ : ∃ w1, w1 = w.alloc (.map #[] 0) := ⟨_, rfl⟩
  have k1 : Kp w w1 := by rw [hw1]; exact (Kp.refl w).alloc _
  have es : w1.heap.size = w.heap.size + 1 := by rw [hw1]; simp
  have m1 : MU w1 w.heap.size (fun _ => none) [] := by rw [hw1]; exact MU.made w
  have H : Hid (∃ p U bm g K, (.returned (.pointer (some ⟨w.heap.size + 1, 0, none⟩)) : Ending) = .returned (.pointer (some ⟨p, 0, none⟩)) ∧ RMp (w1.alloc (.cells #[.map (some w.heap.size)] 51)) p U bm g K [] ∧ Kp w (w1.alloc (.cells #[.map (some w.heap.size)] 51)) ∧ ∀ i, U i → w.heap.size ≤ i) := by
    refine ⟨w.heap.size + 1, fun i => i = w.heap.size ∨ i = w.heap.size + 1, w.heap.size, fun _ => none, [], rfl, ⟨?_, m1.kp ((Kp.refl _).alloc _), .inr rfl, .inl rfl, by omega, (fun x b hx => by cases hx), fun _ _ => rfl, (fun x y b hx => by cases hx), fun i hi => ?_, List.nodup_nil, (fun t ht => by cases ht)⟩, k1.alloc _, fun i hi => by omega⟩
    · rw [← es]; exact heap_alloc_new w1 _
    · simp only [World.size_alloc]; omega
  have hr : ∀ w, (Instr.makeMap 49 none).run Try.prog w = .ok (.map (some w.heap.size)) (w.alloc (.map #[] 0)) := fun w => run_makeMap 49 w
  rw [hw1] at H
  clear k1 m1 es hw1
  go_enter Try.func6, Try.ntmps6
  go_wp2_with fail
  go_ret
  exact H.out
end

end Go.Proofs.Ytfpmakmemmnbkaa
