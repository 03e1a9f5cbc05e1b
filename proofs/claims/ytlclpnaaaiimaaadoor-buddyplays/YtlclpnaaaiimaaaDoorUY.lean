/- Steps that came in: lists of structs of three ints. -/
import Derived.Test.YtlclpnaaaiimaaaDoorUD
import Derived.Deep.Fields
namespace Go.Proofs.YtlclpnaaaiimaaaDoor
open Go.RowKit Go.ChangeShapes Go.WideShapes Go.ChangeAt

/-- A slice of structs of one-cell fields that was read: each field's cell holds what its reading takes. -/
theorem open_structs {H : Type} {enc : TypeId × Value → H} {P : Program} {w : World} {base : Nat} {spare : Nat → Bool} {held : Bool} {t e : TypeId} {fs : Array Field} {fuel : Nat} {cs : List Value} {x : DataW H × List MemPlace}
    (ht : P.underlying t = some (.slice e)) (hs : P.underlying e = some (.struct fs)) (hone : ∀ (i : Nat) (f : Field), fs[i]? = some f → f.offset = i ∧ P.cellsOf f.type = 1) (hC : P.cellsOf e = fs.size) (hpos : 0 < fs.size)
    (h : DataW.trod enc P w base spare held fuel t cs = some x) :
    ∃ (na : Option Addr) (m mcap : Nat), cs = [.slice na m mcap] ∧ m ≤ maxLen ∧ m ≤ mcap ∧ (na = none → mcap = 0) ∧
      ∀ i, i < m → ∃ (b o : Nat) (V : Nat → Value), na = some ⟨b, o, none⟩ ∧ b < w.heap.size ∧ ∀ (j : Nat) (f : Field), fs[j]? = some f → w.cell? ⟨b, o + (i * fs.size + j), none⟩ = some (V j) ∧ ∃ n y, DataW.trod enc P w base spare held n f.type [V j] = some y := by
  rcases DataW.trod_slice ht h with ⟨h0, _⟩ | ⟨a, len, cap, elems, rest, n, _, rfl, rfl, hb, hl, hm, hlen, hel, hsp, hns⟩
  · exact ⟨none, 0, 0, h0, Nat.zero_le _, Nat.le_refl _, fun _ => rfl, fun i hi => by omega⟩
  · have each : ∀ i, i < len → ∃ cs' : List Value, (∀ j, j < fs.size → w.cell? ((a.add (i * fs.size)).add j) = cs'[j]?) ∧ cs'.length = fs.size ∧ ∃ (k : Nat) (xs : List (DataW H × List MemPlace)), xs.length = fs.size ∧ ∀ (j : Nat) (f : Field), fs[j]? = some f → DataW.trod enc P w base spare held k f.type ((cs'.drop f.offset).take (P.cellsOf f.type)) = xs[j]? := fun i hi => by
      have h2 := hel i hi
      rw [List.getElem?_eq_getElem (by omega : i < elems.length), hC, Option.bind_eq_some_iff] at h2
      obtain ⟨cs', hcells, hy⟩ := h2
      obtain ⟨_, hclen, hcell⟩ := World.cells?_some hcells
      obtain ⟨xs, k, _, _, _, hxl, hf⟩ := DataW.trod_struct hs hy
      exact ⟨cs', hcell, hclen, k, xs, hxl, hf⟩
    refine ⟨some a, len, cap, rfl, by omega, hl, (fun h => by cases h), fun i hi => ?_⟩
    obtain ⟨b, o, sp⟩ := a
    have hspot : sp = none := by
      obtain ⟨cs0, hc0, hl0, _⟩ := each 0 (by omega)
      have c0 := hc0 0 hpos
      rw [List.getElem?_eq_getElem (by omega), Nat.zero_mul] at c0
      exact World.cell?_spot c0
    subst hspot
    obtain ⟨cs', hcell, hclen, k, xs, hxl, hf⟩ := each i hi
    have c0 := hcell 0 hpos
    rw [List.getElem?_eq_getElem (by omega)] at c0
    have hlt : b < w.heap.size := by
      have := block_lt_of_cell c0
      simpa [add_at] using this
    refine ⟨b, o, fun j => cs'.getD j undef, rfl, hlt, fun j f hj => ?_⟩
    have hjl : j < fs.size := (Array.getElem?_eq_some_iff.1 hj).1
    obtain ⟨ho, hc1⟩ := hone j f hj
    have g := hf j f hj
    rw [ho, hc1, Go.Deep.take1_drop cs' j undef (by omega), List.getElem?_eq_getElem (by omega)] at g
    refine ⟨?_, _, _, g⟩
    have := hcell j hjl
    rw [List.getElem?_eq_getElem (by omega), add_at, add_at] at this
    rw [← Nat.add_assoc, this]
    simp [List.getD, List.getElem?_eq_getElem (show j < cs'.length by omega)]

/-- m steps lie in w at na: kinds, frames, orders. -/
def Steps (w : World) (na : Option Addr) (m : Nat) (V : Nat → Int × Int × Int) : Prop := ∀ i, i < m → (∃ b o, na = some ⟨b, o, none⟩ ∧ b < w.heap.size ∧ w.cell? ⟨b, o + i * 3, none⟩ = some (.int .i64 (V i).1) ∧ w.cell? ⟨b, o + i * 3 + 1, none⟩ = some (.int .i64 (V i).2.1) ∧ w.cell? ⟨b, o + i * 3 + 2, none⟩ = some (.int .i64 (V i).2.2)) ∧ (Lit.int .i64 (V i).1).wf = true ∧ (Lit.int .i64 (V i).2.1).wf = true ∧ (Lit.int .i64 (V i).2.2).wf = true
theorem open_steps {H : Type} {enc : TypeId × Value → H} {w : World} {base : Nat} {spare : Nat → Bool} {held : Bool} {fuel : Nat} {cs : List Value} {x : DataW H × List MemPlace}
    (h : DataW.trod enc Tryd.prog w base spare held fuel 22 cs = some x) :
    ∃ (na : Option Addr) (m mcap : Nat) (V : Nat → Int × Int × Int), cs = [.slice na m mcap] ∧ m ≤ maxLen ∧ Steps w na m V := by
  obtain ⟨na, m, mcap, h1, h2, _, _, h3⟩ := open_structs Tryd.underlying22 Tryd.underlying33 (Go.Deep.hone_of (by kernel_rfl)) (by kernel_rfl) (by decide) h
  have each : ∀ i, i < m → ∃ v : Int × Int × Int, (∃ b o, na = some ⟨b, o, none⟩ ∧ b < w.heap.size ∧ w.cell? ⟨b, o + i * 3, none⟩ = some (.int .i64 v.1) ∧ w.cell? ⟨b, o + i * 3 + 1, none⟩ = some (.int .i64 v.2.1) ∧ w.cell? ⟨b, o + i * 3 + 2, none⟩ = some (.int .i64 v.2.2)) ∧ (Lit.int .i64 v.1).wf = true ∧ (Lit.int .i64 v.2.1).wf = true ∧ (Lit.int .i64 v.2.2).wf = true := fun i hi => by
    obtain ⟨b, of, V, e1, e2, e3⟩ := h3 i hi
    obtain ⟨c0, n0, y0, t0⟩ := e3 0 _ rfl
    obtain ⟨c1, n1, y1, t1⟩ := e3 1 _ rfl
    obtain ⟨c2, n2, y2, t2⟩ := e3 2 _ rfl
    obtain ⟨a0, v0, _, w0⟩ := DataW.trod_int Tryd.underlying3 t0
    obtain ⟨a1, v1, _, w1⟩ := DataW.trod_int Tryd.underlying3 t1
    obtain ⟨a2, v2, _, w2⟩ := DataW.trod_int Tryd.underlying3 t2
    simp only [List.cons.injEq, and_true] at v0 v1 v2
    rw [v0] at c0
    rw [v1] at c1
    rw [v2] at c2
    exact ⟨(a0, a1, a2), ⟨b, of, e1, e2, c0, c1, c2⟩, w0, w1, w2⟩
  refine ⟨na, m, mcap, fun i => if h : i < m then (each i h).choose else (0, 0, 0), h1, h2, fun i hi => ?_⟩
  have := (each i hi).choose_spec
  simp only [dif_pos hi]
  exact this
/-- A Take of any order: what it tells is left open. -/
theorem take_some {w : World} {U : Nat → Prop} {p lo hi : Nat} {F : Nat → Bool} (h : BF w U p lo hi F) (o : Nat) (ho : o ≤ 9) :
    Calls Tryd.prog 11 #[.pointer (some ⟨p, 0, none⟩), .int .i64 (o : Int)] w fun e w' => (∃ a b, e = .returned (.tuple #[.int .i64 a, .int .i64 b])) ∧ ∃ F', BF w' U p lo hi F' ∧ Fr U w w' := by
  rcases tk_or F o with ⟨o', i, t⟩ | t
  · exact (take_ok h o o' i t).mono fun e w' ⟨e1, e2, e3⟩ => ⟨⟨_, _, e1⟩, _, e2, e3⟩
  · exact (take_no h o ho t).mono fun e w' ⟨e1, e2⟩ => ⟨⟨_, _, e1⟩, F, by rw [e2]; exact h, by rw [e2]; exact Fr.refl _ _⟩
/-- Where the run ahead of the k-th ends. -/
def endR (L : List (Nat × Nat)) : Nat → Nat
  | 0 => 0
  | k + 1 => match L[k]? with
    | some x => x.1 + 2 ^ x.2
    | none => 0
def sumK (L : List (Nat × Nat)) : Nat → Nat
  | 0 => 0
  | k + 1 => match L[k]? with
    | some x => sumK L k + 2 ^ x.2
    | none => sumK L k
theorem endR_succ {L : List (Nat × Nat)} {k : Nat} {x : Nat × Nat} (h : L[k]? = some x) : endR L (k + 1) = x.1 + 2 ^ x.2 := by
  show (match L[k]? with | some x => x.1 + 2 ^ x.2 | none => 0) = _
  rw [h]
theorem sumK_succ {L : List (Nat × Nat)} {k : Nat} {x : Nat × Nat} (h : L[k]? = some x) : sumK L (k + 1) = sumK L k + 2 ^ x.2 := by
  show (match L[k]? with | some x => sumK L k + 2 ^ x.2 | none => sumK L k) = _
  rw [h]
theorem sumK_none {L : List (Nat × Nat)} {k : Nat} (h : L[k]? = none) : sumK L (k + 1) = sumK L k := by
  show (match L[k]? with | some x => sumK L k + 2 ^ x.2 | none => sumK L k) = _
  rw [h]
theorem sumK_cons (x : Nat × Nat) (L : List (Nat × Nat)) : ∀ k, sumK (x :: L) (k + 1) = 2 ^ x.2 + sumK L k
  | 0 => by simp [sumK]
  | k + 1 => by
    have ih := sumK_cons x L k
    unfold sumK
    rw [List.getElem?_cons_succ]
    split
    · rw [ih]; omega
    · exact ih
theorem sumK_all : ∀ L : List (Nat × Nat), sumK L L.length = sumR L
  | [] => rfl
  | x :: L => by rw [List.length_cons, sumK_cons, sumK_all L]; rfl
theorem sumK_mono (L : List (Nat × Nat)) : ∀ k d, sumK L k ≤ sumK L (k + d)
  | k, 0 => Nat.le_refl _
  | k, d + 1 => by
    have ih := sumK_mono L k d
    rw [show k + (d + 1) = (k + d) + 1 by omega]
    cases hx : L[k + d]? with
    | none => rw [sumK_none hx]; exact ih
    | some x => rw [sumK_succ hx]; exact Nat.le_trans ih (Nat.le_add_right _ _)
/-- What the list of runs is like, place by place. -/
theorem BF.at {w : World} {U : Nat → Prop} {p lo hi : Nat} {F : Nat → Bool} (h : BF w U p lo hi F) {k f o : Nat} (hx : (rl F hi lo)[k]? = some (f, o)) :
    o ≤ 9 ∧ f % 2 ^ o = 0 ∧ lo ≤ f ∧ f + 2 ^ o ≤ hi ∧ endR (rl F hi lo) k ≤ f ∧ (∀ j f', k = j + 1 → (rl F hi lo)[j]? = some (f', o) → o < 9 → f = f' + 2 ^ o → ¬ f' % (2 * 2 ^ o) = 0) := by
  obtain ⟨h1, h2, h3⟩ := (h.mem f o).1 (List.mem_of_getElem? hx)
  have hr := h3.1.range h.dom
  rw [Nat.div_mul_cancel (Nat.dvd_of_mod_eq_zero h2)] at hr
  refine ⟨h1, h2, hr.1, hr.2, ?_, fun j f' hj hf ho9 he hm => ?_⟩
  · cases k with
    | zero => exact Nat.zero_le _
    | succ k =>
      have hlt := (List.getElem?_eq_some_iff.1 hx).1
      have hp := (rl_rise (F := F) (hi := hi) (hi - lo) lo (Nat.le_refl _)).2
      have hk : (rl F hi lo)[k]? = some ((rl F hi lo)[k]'(by omega)) := List.getElem?_eq_getElem (by omega)
      have := List.pairwise_iff_getElem.1 hp k (k + 1) (by omega) hlt (by omega)
      rw [(List.getElem?_eq_some_iff.1 hx).2] at this
      rw [endR_succ hk]
      exact this
  · obtain ⟨_, g2, g3⟩ := (h.mem f' o).1 (List.mem_of_getElem? hf)
    have hp := Nat.two_pow_pos o
    have e1 : f' / 2 ^ o * 2 ^ o = f' := Nat.div_mul_cancel (Nat.dvd_of_mod_eq_zero g2)
    have e2 : f / 2 ^ o = f' / 2 ^ o + 1 := by rw [he, Nat.add_div_right _ hp]
    have e3 : f' / 2 ^ o % 2 = 0 := by
      have hd : 2 * 2 ^ o ∣ f' := Nat.dvd_of_mod_eq_zero hm
      obtain ⟨c, hc⟩ := hd
      rw [hc, Nat.mul_comm 2 (2 ^ o), Nat.mul_assoc, Nat.mul_div_cancel_left _ hp]
      omega
    rcases g3.2 with c | c
    · omega
    · refine c (fun q hq => ?_)
      rw [div_par] at hq
      rcases (by omega : q / 2 ^ o = f' / 2 ^ o ∨ q / 2 ^ o = f' / 2 ^ o + 1) with d | d
      · exact g3.1 q d
      · exact h3.1 q (by rw [e2]; exact d)
theorem BF.sum {w : World} {U : Nat → Prop} {p lo hi : Nat} {F : Nat → Bool} (h : BF w U p lo hi F) : sumR (rl F hi lo) = cnt F hi := by
  have := rl_sum (fun k hk => (h.dom k hk).2) (hi - lo) lo (Nat.le_refl _) h.le (cut_lo h.dom)
  rw [(cnt_zero lo).2 (fun k hk => by
    cases hv : F k
    · rfl
    · have := (h.dom k hv).1; omega)] at this
  omega

end Go.Proofs.YtlclpnaaaiimaaaDoor
