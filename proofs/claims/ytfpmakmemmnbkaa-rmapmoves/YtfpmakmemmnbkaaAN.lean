/- rmap: the program's map and the document's, both beside one another, beside a step's box. -/
import Derived.Test.YtfpmakmemmnbkaaA8
import Derived.Test.YtfpmakmemmnbkaaAH
import Derived.Test.YtfpmakmemmnbkaaAI
import Derived.Test.YtfpmakmemmnbkaaAK
import Derived.Test.YtfpmakmemmnbkaaS4
namespace Go.Proofs.Ytfpmakmemmnbkaa
open Go.RowKit
set_option maxRecDepth 10000

/-- Both, behind W. -/
structure PQ (W w : World) (p q : Nat) (T1 T2 : List UC) : Prop where
  ex : ∃ U bm g K v, RMp w p U bm g K T1 ∧ RDU w q W.heap.size v T2 ∧ ¬ U q ∧ (∀ b, v.ownBlock = some b → ¬ U b) ∧ ∀ i, U i → W.heap.size ≤ i
  hq : W.heap.size ≤ q
  k : Kp W w
/-- .. and a step in the block bo. -/
structure PQX (W w : World) (p q bo : Nat) (o : Int × UC) (T1 T2 : List UC) : Prop where
  ex : ∃ U bm g K v, RMp w p U bm g K T1 ∧ RDU w q W.heap.size v T2 ∧ ¬ U q ∧ (∀ b, v.ownBlock = some b → ¬ U b ∧ b ≠ bo) ∧ (∀ i, U i → W.heap.size ≤ i) ∧ ¬ U bo
  hq : W.heap.size ≤ q
  k : Kp W w
  bq : bo ≠ q
  r : w.heap[bo]? = some (.cells (encO4 o).toArray 33 (0, 0))
section
variable {W w w' : World} {p q bo : Nat} {o : Int × UC} {T1 T2 : List UC}
theorem PQ.kp (h : PQ W w p q T1 T2) (k : Kp w w') : PQ W w' p q T1 T2 := by
  obtain ⟨⟨U, bm, g, K, v, h1, h2, h3⟩, h4, h5⟩ := h
  exact ⟨⟨U, bm, g, K, v, h1.kp k, h2.kp k, h3⟩, h4, h5.trans k⟩
theorem PQX.kp (h : PQX W w p q bo o T1 T2) (k : Kp w w') : PQX W w' p q bo o T1 T2 := by
  obtain ⟨⟨U, bm, g, K, v, h1, h2, h3⟩, h4, h5, h6, h7⟩ := h
  exact ⟨⟨U, bm, g, K, v, h1.kp k, h2.kp k, h3⟩, h4, h5.trans k, h6, (k.block bo (Array.getElem?_eq_some_iff.1 h7).1).trans h7⟩
theorem PQX.pq (h : PQX W w p q bo o T1 T2) : PQ W w p q T1 T2 := by
  obtain ⟨⟨U, bm, g, K, v, h1, h2, h3, h4, h5, _⟩, h6, h7, _⟩ := h
  exact ⟨⟨U, bm, g, K, v, h1, h2, h3, fun b e => (h4 b e).1, h5⟩, h6, h7⟩
theorem PQ.box (h : PQ W w p q T1 T2) (o : Int × UC) : PQX W (w.alloc (.cells (encO4 o).toArray 33)) p q w.heap.size o T1 T2 := by
  obtain ⟨⟨U, bm, g, K, v, h1, h2, h3, h4, h5⟩, h6, h7⟩ := h
  have k : Kp w (w.alloc (.cells (encO4 o).toArray 33)) := (Kp.refl w).alloc _
  refine ⟨⟨U, bm, g, K, v, h1.kp k, h2.kp k, h3, fun b e => ⟨h4 b e, fun c => ?_⟩, h5, fun c => ?_⟩, h6, h7.trans k, fun c => ?_, heap_alloc_new w _⟩
  · have := (h2.ax.up b e).2; omega
  · have := h1.lim _ c; omega
  · have := h2.lt; omega
theorem PQX.cells (h : PQX W w p q bo o T1 T2) : w.cell? ⟨bo, 0, none⟩ = some (.int .i64 o.1) ∧ w.cell? ⟨bo, 1, none⟩ = some (.int .i64 o.2.1) ∧ w.cell? ⟨bo, 2, none⟩ = some (.int .i64 o.2.2.1) ∧ w.cell? ⟨bo, 3, none⟩ = some (.int .u64 o.2.2.2) :=
  ⟨by rw [cell_of_row _ _ 0 _ _ _ h.r]; rfl, by rw [cell_of_row _ _ 1 _ _ _ h.r]; rfl, by rw [cell_of_row _ _ 2 _ _ _ h.r]; rfl, by rw [cell_of_row _ _ 3 _ _ _ h.r]; rfl⟩
theorem PQX.c3 (h : PQX W w p q bo o T1 T2) : w.cell? ⟨bo, 1, none⟩ = some (.int .i64 o.2.1) ∧ w.cell? ⟨bo, 2, none⟩ = some (.int .i64 o.2.2.1) ∧ w.cell? ⟨bo, 3, none⟩ = some (.int .u64 o.2.2.2) := h.cells.2
theorem PQX.um (h : PQX W w p q bo o T1 T2) {U : Nat → Prop} {bm : Nat} {g : Int → Option Nat} {K : List Int} {v : Value} {T' : List UC} (_h1 : RMp w p U bm g K T1) (h2 : RDU w q W.heap.size v T2) (h3 : ¬ U q) (h4 : ∀ b, v.ownBlock = some b → ¬ U b ∧ b ≠ bo) (h5 : ∀ i, U i → W.heap.size ≤ i) (h6 : ¬ U bo) (u : UM w w' p U T') : PQX W w' p q bo o T' T2 := by
  obtain ⟨U', bm', g', K', m, f, s⟩ := u
  have lo := (Array.getElem?_eq_some_iff.1 h.r).1
  refine ⟨⟨U', bm', g', K', v, m, h2.fr f h3 (fun b e => (h4 b e).1), fun c => ?_, fun b e => ⟨fun c => ?_, (h4 b e).2⟩, fun i hi => ?_, fun c => ?_⟩, h.hq, f.kp h.k h5, h.bq, (f.block bo lo h6).trans h.r⟩
  · rcases s _ c with c | c
    · exact h3 c
    · have := h2.lt; omega
  · rcases s _ c with c | c
    · exact (h4 b e).1 c
    · have := (h2.ax.up b e).2; omega
  · rcases s i hi with c | c
    · exact h5 i c
    · exact Nat.le_trans h.k.size c
  · rcases s _ c with c | c
    · exact h6 c
    · omega
theorem PQX.uo (h : PQX W w p q bo o T1 T2) {U : Nat → Prop} {bm : Nat} {g : Int → Option Nat} {K : List Int} {v : Value} {T' : List UC} (h1 : RMp w p U bm g K T1) (h2 : RDU w q W.heap.size v T2) (h3 : ¬ U q) (h4 : ∀ b, v.ownBlock = some b → ¬ U b ∧ b ≠ bo) (h5 : ∀ i, U i → W.heap.size ≤ i) (h6 : ¬ U bo) (u : UO w w' q W.heap.size v T') : PQX W w' p q bo o T1 T' := by
  obtain ⟨v', m, f, s⟩ := u
  have lo := (Array.getElem?_eq_some_iff.1 h.r).1
  refine ⟨⟨U, bm, g, K, v', h1.fr f (fun i hi c => ?_), m, h3, fun b e => ?_, h5, h6⟩, h.hq, f.kp h.k (fun i c => ?_), h.bq, (f.block bo lo (fun c => ?_)).trans h.r⟩
  · rcases c with c | c
    · rw [c] at hi; exact h3 hi
    · exact (h4 i c).1 hi
  · rcases s with c | ⟨x, c, d⟩
    · exact h4 b (by rw [← c]; exact e)
    · rw [e] at c; cases c
      exact ⟨fun c => by have := h1.lim _ c; omega, fun c => by omega⟩
  · rcases c with c | c
    · rw [c]; exact h.hq
    · exact (h2.ax.up i c).1
  · rcases c with c | c
    · exact h.bq c
    · exact (h4 bo c).2 rfl
theorem PQX.madd (h : PQX W w p q bo o T1 T2) (hl : T1.length ≤ 100) (ho : okU o.2) : Calls Try.prog 7 #[.pointer (some ⟨p, 0, none⟩), .int .i64 o.2.1, plV o.2.2] w fun e w' => e = .returned (.int .i64 (addN T1 o.2)) ∧ PQX W w' p q bo o (addT T1 o.2) T2 := by
  obtain ⟨U, bm, g, K, v, h1, h2, h3, h4, h5, h6⟩ := h.ex
  exact (madd_any h1 o.2.1 o.2.2 ho (by omega)).mono fun e w' ⟨q1, q2⟩ => ⟨q1, h.um h1 h2 h3 h4 h5 h6 q2⟩
theorem PQX.mdrop (h : PQX W w p q bo o T1 T2) (hl : T1.length ≤ 100) (ho : okU o.2) : Calls Try.prog 9 #[.pointer (some ⟨p, 0, none⟩), .int .i64 o.2.1, plV o.2.2] w fun e w' => e = .returned (.int .i64 (drpN T1 o.2)) ∧ PQX W w' p q bo o (T1.erase o.2) T2 := by
  obtain ⟨U, bm, g, K, v, h1, h2, h3, h4, h5, h6⟩ := h.ex
  exact (mdrop_any h1 o.2.1 o.2.2 ho (by omega)).mono fun e w' ⟨q1, q2⟩ => ⟨q1, h.um h1 h2 h3 h4 h5 h6 q2⟩
theorem PQX.uadd (h : PQX W w p q bo o T1 T2) (hl : T2.length ≤ 100) : Calls Try.prog 8 #[.pointer (some ⟨q, 0, none⟩), .int .i64 o.2.1, plV o.2.2] w fun e w' => e = .returned (.int .i64 (addN T2 o.2)) ∧ PQX W w' p q bo o T1 (addT T2 o.2) := by
  obtain ⟨U, bm, g, K, v, h1, h2, h3, h4, h5, h6⟩ := h.ex
  exact (uadd_any h2 h.k.size (by omega) o.2.1 o.2.2).mono fun e w' ⟨q1, q2⟩ => ⟨q1, h.uo h1 h2 h3 h4 h5 h6 q2⟩
theorem PQX.udrop (h : PQX W w p q bo o T1 T2) (hl : T2.length ≤ 100) : Calls Try.prog 10 #[.pointer (some ⟨q, 0, none⟩), .int .i64 o.2.1, plV o.2.2] w fun e w' => e = .returned (.int .i64 (drpN T2 o.2)) ∧ PQX W w' p q bo o T1 (T2.erase o.2) := by
  obtain ⟨U, bm, g, K, v, h1, h2, h3, h4, h5, h6⟩ := h.ex
  exact (udrop_any h2 h.k.size (by omega) o.2.1 o.2.2).mono fun e w' ⟨q1, q2⟩ => ⟨q1, h.uo h1 h2 h3 h4 h5 h6 q2⟩
theorem PQX.mhas (h : PQX W w p q bo o T1 T2) (ho : okU o.2) : Calls Try.prog 13 #[.pointer (some ⟨p, 0, none⟩), .int .i64 o.2.1, plV o.2.2] w fun e w' => e = .returned (.bool (decide (o.2 ∈ T1))) ∧ PQX W w' p q bo o T1 T2 ∧ Kp w w' := by
  obtain ⟨U, bm, g, K, v, h1, _⟩ := h.ex
  exact (mhas_any h1 o.2.1 o.2.2 ho).mono fun e w' ⟨q1, q2⟩ => ⟨q1, h.kp q2, q2⟩
theorem PQX.uhas (h : PQX W w p q bo o T1 T2) (hl : T2.length ≤ 100) : Calls Try.prog 14 #[.pointer (some ⟨q, 0, none⟩), .int .i64 o.2.1, plV o.2.2] w fun e w' => e = .returned (.bool (decide (o.2 ∈ T2))) ∧ PQX W w' p q bo o T1 T2 ∧ Kp w w' := by
  obtain ⟨U, bm, g, K, v, h1, h2, _⟩ := h.ex
  exact (uhas_any h2 (by omega) o.2.1 o.2.2).mono fun e w' ⟨q1, q2⟩ => ⟨q1, h.kp q2, q2⟩
theorem PQX.mlist (h : PQX W w p q bo o T1 T2) (hl : T1.length ≤ 100) (ho : okU o.2) : Calls Try.prog 11 #[.pointer (some ⟨p, 0, none⟩), .int .i64 o.2.1] w fun e w' => (∃ v, e = .returned v ∧ AX LTp w' w.heap.size v (srtP (usT T1 o.2.1))) ∧ PQX W w' p q bo o T1 T2 ∧ Kp w w' := by
  obtain ⟨U, bm, g, K, v, h1, _⟩ := h.ex
  exact (mlist_any h1 o.2.1 ho.1 (by omega)).mono fun e w' ⟨v, q1, q2, q3⟩ => ⟨⟨v, q1, q2⟩, h.kp q3, q3⟩
theorem PQX.mframes (h : PQX W w p q bo o T1 T2) (hl : T1.length ≤ 100) : Calls Try.prog 12 #[.pointer (some ⟨p, 0, none⟩)] w fun e w' => (∃ v, e = .returned v ∧ AX LTi w' w.heap.size v (frT T1)) ∧ PQX W w' p q bo o T1 T2 ∧ Kp w w' := by
  obtain ⟨U, bm, g, K, v, h1, _⟩ := h.ex
  exact (mframes_any h1 (by omega)).mono fun e w' ⟨v, q1, q2, q3⟩ => ⟨⟨v, q1, q2⟩, h.kp q3, q3⟩
theorem PQX.ulist (h : PQX W w p q bo o T1 T2) (hl : T2.length ≤ 100) : Calls Try.prog 16 #[.pointer (some ⟨q, 0, none⟩), .int .i64 o.2.1] w fun e w' => (∃ v, e = .returned v ∧ SVw LTp w' v (srtP (usT T2 o.2.1))) ∧ PQX W w' p q bo o T1 T2 ∧ Kp w w' := by
  obtain ⟨U, bm, g, K, v, h1, h2, _⟩ := h.ex
  exact (ulist_any h2 (by omega) o.2.1).mono fun e w' ⟨v, q1, q2, q3⟩ => ⟨⟨v, q1, q2.sv okT_place⟩, h.kp q3, q3⟩
theorem PQX.uframes (h : PQX W w p q bo o T1 T2) (hl : T2.length ≤ 100) : Calls Try.prog 18 #[.pointer (some ⟨q, 0, none⟩)] w fun e w' => (∃ v, e = .returned v ∧ SVw LTi w' v (frT T2)) ∧ PQX W w' p q bo o T1 T2 ∧ Kp w w' := by
  obtain ⟨U, bm, g, K, v, h1, h2, _⟩ := h.ex
  exact (uframes_any h2 (by omega)).mono fun e w' ⟨v, q1, q2, q3⟩ => ⟨⟨v, q1, q2.sv okT_num⟩, h.kp q3, q3⟩
end
theorem addT_len (T : List UC) (u : UC) : (addT T u).length ≤ T.length + 1 := by
  unfold addT
  split
  · omega
  · split
    · omega
    · simp
theorem erase_len (T : List UC) (u : UC) : (T.erase u).length ≤ T.length := List.length_erase_le

end Go.Proofs.Ytfpmakmemmnbkaa
