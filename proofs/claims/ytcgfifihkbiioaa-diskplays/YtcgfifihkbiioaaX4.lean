/- Rows of marks; disk.Disk: Fail, Write, Read. -/
import Derived.Test.YtcgfifihkbiioaaX3
import Derived.Test.YtcgfifihkbiioaaXY
namespace Go.Proofs.Ytcgfifihkbiioaa
open Go.RowKit Go.Maps Go.ChangeShapes Go.WideShapes Go.ChangeAt

/-! ### rows of marks -/
/-- m marks lie in w at na. -/
def NS (w : World) (na : Option Addr) (m : Nat) (nb : Nat → Bool) : Prop := ∀ i, i < m → ∃ b o, na = some ⟨b, o, none⟩ ∧ b < w.heap.size ∧ w.cell? ⟨b, o + i, none⟩ = some (.bool (nb i))
theorem NS.kp {w w' : World} {na : Option Addr} {m : Nat} {nb : Nat → Bool} (H : NS w na m nb) (g : Kp w w') : NS w' na m nb := fun i hi => by
  obtain ⟨b, o, h1, h2, h3⟩ := H i hi
  exact ⟨b, o, h1, Nat.lt_of_lt_of_le h2 g.size, by rw [g.cell (p := ⟨b, o + i, none⟩) h2]; exact h3⟩
theorem NS.less {w : World} {na : Option Addr} {m n : Nat} {nb : Nat → Bool} (H : NS w na m nb) (h : n ≤ m) : NS w na n nb := fun i hi => H i (by omega)
theorem open_marks {H : Type} {enc : TypeId × Value → H} {P : Program} {w : World} {base : Nat} {spare : Nat → Bool} {held : Bool} {t e : TypeId} {fuel : Nat} {cs : List Value} {x : DataW H × List MemPlace}
    (ht : P.underlying t = some (.slice e)) (he : P.underlying e = some .bool) (hc : P.cellsOf e = 1) (h : DataW.trod enc P w base spare held fuel t cs = some x) :
    ∃ (na : Option Addr) (m mcap : Nat) (nb : Nat → Bool), cs = [.slice na m mcap] ∧ m ≤ maxLen ∧ NS w na m nb := by
  obtain ⟨na, m, mcap, vs, h1, h2, _, h3⟩ := open_row ht hc (fun n cs' y hy => by obtain ⟨b, hb, _⟩ := DataW.trod_bool he hy; exact ⟨_, hb⟩) h
  refine ⟨na, m, mcap, fun i => match vs i with | .bool b => b | _ => false, h1, h2, fun i hi => ?_⟩
  obtain ⟨⟨b, o, k1, k2, k3⟩, n, y, hy⟩ := h3 i hi
  obtain ⟨v, hv, _⟩ := DataW.trod_bool he hy
  simp only [List.cons.injEq, and_true] at hv
  refine ⟨b, o, k1, k2, ?_⟩
  simp only [k3, hv]

theorem info_bool : ∃ i, Try.prog.info? 4 = some i ∧ i.zero = some (.bool false) ∧ i.size = 1 ∧ i.bytes = 1 := by
  have h : (Try.prog.info? 4).map (fun i => (i.zero, i.size, i.bytes)) = some (some (.bool false), 1, 1) := by kernel_rfl
  obtain ⟨i, hi, e⟩ := Option.map_eq_some_iff.1 h
  simp only [Prod.mk.injEq] at e
  exact ⟨i, hi, e.1, e.2.1, e.2.2⟩
/-- The first m marks. -/
def bl (nb : Nat → Bool) (m : Nat) : List Bool := (List.range m).map nb
theorem bl_len (nb : Nat → Bool) (m : Nat) : (bl nb m).length = m := by simp [bl]
theorem bl_get (nb : Nat → Bool) (m i : Nat) (h : i < m) : (bl nb m)[i]? = some (nb i) := by simp [bl, h]
theorem bl_zero (nb : Nat → Bool) : bl nb 0 = [] := rfl
def marksOf (l : List Bool) : List Value := l.map Value.bool
theorem marksOf_one (l : List Bool) : ∀ u ∈ marksOf l, u.oneCell' = true := by
  intro u hu
  simp only [marksOf, List.mem_map] at hu
  obtain ⟨i, _, rfl⟩ := hu
  rfl
/-- A row of marks in a block of one's own, at or above base. -/
def OB (W : World) (base g cap : Nat) (l : List Bool) : Prop := W.ownsRow base 4 1 (.slice (some ⟨g, 0, none⟩) l.length cap) l.length (marksOf l)
theorem OB.facts {W : World} {base g cap : Nat} {l : List Bool} (h : OB W base g cap l) : base ≤ g ∧ g < W.heap.size ∧ l.length ≤ cap := by
  obtain ⟨_, h | ⟨g0, cap0, cur, e, h1, h2, h3, _⟩⟩ := h
  · cases h.1
  · cases e
    refine ⟨h1, ?_, h3⟩
    by_cases hh : g < W.heap.size
    · exact hh
    · rw [show W.heap[g]? = none from by simp; omega] at h2
      cases h2
theorem OB.cell {W : World} {base g cap : Nat} {l : List Bool} (h : OB W base g cap l) (i : Nat) (x : Bool) (hi : l[i]? = some x) : W.cell? ⟨g, i, none⟩ = some (.bool x) := by
  have hl := (List.getElem?_eq_some_iff.1 hi).1
  rw [World.ownsRow.cellAt h i (by omega)]
  simp [marksOf, hi]
theorem OB.frz {W : World} {base g cap : Nat} {l : List Bool} (h : OB W base g cap l) (i : Nat) : W.frozen? ⟨g, i, none⟩ = false := World.ownsRow.frozenAt h i
theorem OB.set {W : World} {base g cap : Nat} {l : List Bool} (h : OB W base g cap l) (i : Nat) (x : Bool) : OB (W.setCell ⟨g, i, none⟩ (.bool x)) base g cap (l.set i x) := by
  have := (World.ownsRow.stored h i (.bool x)).1
  unfold OB marksOf at *
  rw [List.length_set, List.map_set]
  exact this
theorem OB.fr {W W' : World} {base g cap : Nat} {l : List Bool} (h : OB W base g cap l) {S : Nat → Prop} (k : Fr S W W') (hS : ¬ S g) : OB W' base g cap l := by
  have hl := h.facts.2.1
  obtain ⟨h0, h | ⟨g0, cap0, cur, e, h1, h2, h3⟩⟩ := h
  · cases h.1
  · cases e
    exact ⟨h0, .inr ⟨g, cap, cur, rfl, h1, by rw [k.block g hl hS]; exact h2, h3⟩⟩
theorem OB.ns {W : World} {base g cap n : Nat} {nb : Nat → Bool} (h : OB W base g cap (bl nb n)) : NS W (some ⟨g, 0, none⟩) n nb := fun i hi => ⟨g, 0, rfl, h.facts.2.1, by rw [Nat.zero_add]; exact h.cell i _ (bl_get nb n i hi)⟩

theorem own_emptyB (W : World) : (W.alloc (.cells #[] 4)).ownsRow W.heap.size 4 1 (.slice (some ⟨W.heap.size, 0, none⟩) 0 0) 0 [] :=
  ⟨rfl, .inr ⟨W.heap.size, 0, #[], rfl, Nat.le_refl _, by show (W.heap.push _)[W.heap.size]? = _; exact Array.getElem?_push_size, Nat.le_refl _, Nat.zero_le _, rfl, rfl⟩⟩
theorem own_ob {W : World} {base n : Nat} {v : Value} {l : List Bool} (h : W.ownsRow base 4 1 v n (marksOf l)) (hn : n = l.length) (hv : v ≠ .slice none 0 0) : ∃ g cap, v = .slice (some ⟨g, 0, none⟩) l.length cap ∧ OB W base g cap l := by
  subst hn
  have h' := h
  obtain ⟨_, h | ⟨g, cap, cur, rfl, _⟩⟩ := h
  · exact absurd h.1 hv
  · exact ⟨g, cap, rfl, h'⟩
/-- append([]bool{}, l...). -/
theorem copyB (w : World) (na : Option Addr) (n cap : Nat) (nb : Nat → Bool) (N : NS w na n nb) (hc : na = none → n = 0 ∧ cap = 0) (h1 : n ≤ 4000000000) :
    ∃ g cap' W', (Builtin.append_ #[32, 32] 32 #[.slice (some ⟨w.heap.size, 0, none⟩) 0 0, .slice na n cap]).run Try.prog (w.alloc (.cells #[] 4)) = .ok (.slice (some ⟨g, 0, none⟩) n cap') W' ∧ OB W' w.heap.size g cap' (bl nb n) ∧ Kp w W' := by
  obtain ⟨i0, hi, hz0, hz1, hz2⟩ := info_bool
  have hk : Kp w (w.alloc (.cells #[] 4)) := (Kp.refl w).alloc _
  match na, hc, N with
  | none, hc, _ =>
    obtain ⟨rfl, rfl⟩ := hc rfl
    exact ⟨w.heap.size, 0, _, run_append_owned_none (P := Try.prog) (w := w.alloc (.cells #[] 4)) w.heap.size 32 32 4 i0 1 Try.underlying32 hi _ 0 [] (own_emptyB w), own_emptyB w, hk⟩
  | some a, _, N =>
    obtain ⟨v', W', r1, r2, r3, r4⟩ := run_append_own (P := Try.prog) (w.alloc (.cells #[] 4)) w.heap.size 32 32 4 i0 (.bool false) 1 1 Try.underlying32 hi hz0 hz1 hz2 rfl (by decide) _ 0 [] (own_emptyB w) a n cap (marksOf (bl nb n)) (by simp [marksOf, bl]) (fun j u hu => by
        have hj : j < n := by have := (List.getElem?_eq_some_iff.1 hu).1; simpa [marksOf, bl] using this
        obtain ⟨b, o, e1, e2, e3⟩ := N j hj
        cases e1
        simp [marksOf, bl, hj] at hu
        rw [add_at, hk.cell (p := ⟨b, o + j, none⟩) e2, e3, hu]) (marksOf_one _) (by unfold maxLen; omega) (by omega) (by simp)
    rw [List.nil_append, Nat.zero_add] at r2
    obtain ⟨g, cap', rfl, k1⟩ := own_ob r2 (bl_len nb n).symm (fun e => by have := (r4.1 e).1; cases this)
    rw [bl_len] at r1
    exact ⟨g, cap', W', r1, k1, kp_grown hk (fun g hg => by cases hg; exact Nat.le_refl _) r3⟩

set_option maxHeartbeats 2000000 in
/-- slices.Clone of marks. -/
theorem cloneB (w : World) (na : Option Addr) (n cap : Nat) (nb : Nat → Bool) (N : NS w na n nb) (hc : na = none → n = 0 ∧ cap = 0) (h1 : n ≤ 4000000000) :
    Calls Try.prog 30 #[.slice na n cap] w fun e w' => (∃ v, e = .returned v ∧ AH w' v (bl nb n) (fun b => w.heap.size ≤ b)) ∧ Kp w w' := by
  have hq : (Try.prog.underlying 32) = some (.slice 4) := Try.underlying32
  have h0 : ∀ w, (binOp .eql 32 (.slice na n cap) (.slice none 0 0)).run Try.prog w = .ok (.bool na.isNone) w := fun w => by
    simp [binOp, run_equal_slice_nil w 32 4 _ n cap hq]
  obtain ⟨g, cap', W', r1, r2, r3⟩ := copyB w na n cap nb N hc h1
  cases na with
  | none =>
    obtain ⟨rfl, rfl⟩ := hc rfl
    have E : Hid (AH w (.slice none 0 0) [] (fun b => w.heap.size ≤ b)) := AH.nil _ _
    rw [bl_zero]
    clear r1 r2 r3 hc
    rw [Option.isNone_none] at h0
    go_enter Try.func30, Try.ntmps30
    go_wp2
    go_ret
    exact ⟨⟨_, rfl, E.out⟩, Kp.refl _⟩
  | some a =>
    have E : Hid (AH W' (.slice (some ⟨g, 0, none⟩) n cap') (bl nb n) (fun b => w.heap.size ≤ b) ∧ Kp w W') := ⟨⟨_, _, by rw [bl_len], r2.facts.2.2, by rw [bl_len]; omega, fun _ => ⟨g, 0, rfl, r2.facts.2.1, r2.facts.1, fun i x hx => by rw [Nat.zero_add]; exact r2.cell i x hx⟩⟩, r3⟩
    rw [Option.isNone_some] at h0
    clear r2 r3 hc N
    go_enter Try.func30, Try.ntmps30
    repeat' (first | ((with_reducible refine wp_append_of r1 (.tmp 5) (.tmp 6) ?_ ?_ ?_ ?_ ?_); rfl; rfl; rfl; rfl) | go_values | go_skip | go_guarded | go_step | go_upon | go_back | (simp only []) | (go_values <;> (try go_simp)) | (go_ite <;> go_prune <;> (try go_simp)))
    go_ret
    exact ⟨⟨_, rfl, E.out.1⟩, E.out.2⟩

/-! ### Fail -/
set_option maxHeartbeats 2000000 in
theorem dfail_any {w : World} {S : Nat → Prop} {p N : Nat} {T : Slots} {A : List Bool} (h : DK w S p N T A) (na : Option Addr) (n cap : Nat) (nb : Nat → Bool) (H : NS w na n nb) (hc : na = none → n = 0 ∧ cap = 0) (h1 : n ≤ 4000000000) :
    Calls Try.prog 18 #[.pointer (some ⟨p, 0, none⟩), .slice na n cap] w fun e w' => e = .returned (.tuple #[]) ∧ ∃ S', DK w' S' p N T (bl nb n) ∧ Fr S w w' ∧ Less S S' w := by
  have k1 := cloneB w na n cap nb H hc h1
  have HH : Hid (DK w S p N T A) := h
  clear h H hc h1
  go_enter Try.func18, Try.ntmps18
  go_wp2_with fail
  with_reducible refine k1.mono ?_
  rintro e w1 ⟨⟨u, rfl, Hu⟩, K1⟩
  clear k1
  obtain ⟨bm, g, v, h⟩ := HH.out
  have h1 := h.fr (K1.fr (fun _ => False)) (fun _ _ => id)
  have c2 := h1.c2
  have f2 := h1.f2
  have q := h.told (S' := fun k => S k ∨ (w.heap.size ≤ k ∧ k < w1.heap.size)) K1 (fun _ hi => .inl hi) (fun i hi => hi.elim (fun hi => Nat.lt_of_lt_of_le (h.own i hi) K1.size) (fun hi => hi.2)) (Hu.fr (Fr.refl (fun _ => False) w1) (fun _ _ _ => id) (fun b hb hok => ⟨.inr ⟨hok, hb⟩, (by have := h.own p h.sp; omega), (by have := h.own bm h.sm; omega), fun x hx => by have := h.own b (h.page x b hx).1; omega⟩))
  have E : Hid (∃ S', DK (w1.setCell ⟨p, 2, none⟩ u) S' p N T (bl nb n) ∧ Fr S w (w1.setCell ⟨p, 2, none⟩ u) ∧ Less S S' w) := ⟨_, ⟨bm, g, u, q.1⟩, q.2, fun k hk => hk.elim .inl (fun h => .inr h.1)⟩
  obtain ⟨nu, cu, rfl, _⟩ := Hu
  clear h h1 q K1 HH
  go_wp2
  go_end0
  exact ⟨rfl, E.out⟩

end Go.Proofs.Ytcgfifihkbiioaa
