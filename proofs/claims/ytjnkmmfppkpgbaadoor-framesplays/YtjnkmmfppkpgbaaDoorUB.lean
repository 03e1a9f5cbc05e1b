/- buddy.Buddy: Runs. -/
import Derived.Test.YtjnkmmfppkpgbaaDoorUA
import Derived.Test.YtjnkmmfppkpgbaaDoorUS
namespace Go.Proofs.YtjnkmmfppkpgbaaDoor
open Go.RowKit

/-- A run as cells. -/
def encR (x : Nat × Nat) : List Value := [.int .i64 (x.1 : Int), .int .i64 (x.2 : Int)]
theorem encR_ok : Enc encR 2 := ⟨fun _ => rfl, fun x u hu => by
  rcases List.mem_cons.1 hu with e | e
  · subst e; rfl
  · rcases List.mem_cons.1 e with e | e
    · subst e; rfl
    · exact absurd e (by simp), by omega⟩
theorem info_run : ∃ i, Tryd.prog.info? 112 = some i ∧ i.zero = some (.agg #[.int .i64 0, .int .i64 0]) ∧ i.size = 2 ∧ i.bytes = 16 := by
  have h : (Tryd.prog.info? 112).map (fun i => (i.zero, i.size, i.bytes)) = some (some (.agg #[.int .i64 0, .int .i64 0]), 2, 16) := by kernel_rfl
  obtain ⟨i, hi, e⟩ := Option.map_eq_some_iff.1 h
  simp only [Prod.mk.injEq] at e
  exact ⟨i, hi, e.1, e.2.1, e.2.2⟩
/-- v is a list of runs in a block at or above b. -/
structure RL (w : World) (b : Nat) (v : Value) (L : List (Nat × Nat)) : Prop where
  ol : OL encR 112 2 w v L
  up : ∀ g, v.ownBlock = some g → b ≤ g ∧ g < w.heap.size
theorem RL.nil (w : World) (b : Nat) : RL w b (.slice none 0 0) [] := ⟨OL.nil _ w, fun g h => by cases h⟩
theorem RL.fr {w w' : World} {b : Nat} {v : Value} {L : List (Nat × Nat)} (h : RL w b v L) {S : Nat → Prop} (k : Fr S w w') (hS : ∀ g, b ≤ g → g < w.heap.size → S g → False) : RL w' b v L :=
  ⟨h.ol.fr k (fun g hg s => by have := h.up g hg; exact hS g this.1 this.2 s), fun g hg => ⟨(h.up g hg).1, Nat.lt_of_lt_of_le (h.up g hg).2 k.size⟩⟩
theorem RL.kp {w w' : World} {b : Nat} {v : Value} {L : List (Nat × Nat)} (h : RL w b v L) (k : Kp w w') : RL w' b v L := h.fr (k.fr (fun _ => False)) (fun _ _ _ => id)
theorem RL.form {w : World} {b : Nat} {v : Value} {L : List (Nat × Nat)} (h : RL w b v L) : ∃ na cap, v = .slice na L.length cap ∧ L.length ≤ cap ∧ ∀ i x, L[i]? = some x → ∃ g, na = some ⟨g, 0, none⟩ ∧ g < w.heap.size ∧ b ≤ g ∧ w.cell? ⟨g, i * 2, none⟩ = some (.int .i64 (x.1 : Int)) ∧ w.cell? ⟨g, i * 2 + 1, none⟩ = some (.int .i64 (x.2 : Int)) := by
  obtain ⟨na, cap, e, l, hc⟩ := h.ol.form
  refine ⟨na, cap, e, l, fun i x hx => ?_⟩
  rcases hc with ⟨_, _, rfl⟩ | ⟨g, rfl, hg⟩
  · simp at hx
  · have h1 := h.ol
    rw [e] at h1
    have h0 := OL.cell encR_ok h1 (i := i) (j := 0) (x := x) (u := .int .i64 (x.1 : Int)) hx rfl
    have h2 := OL.cell encR_ok h1 (i := i) (j := 1) (x := x) (u := .int .i64 (x.2 : Int)) hx rfl
    exact ⟨g, rfl, hg, (h.up g (by rw [e]; rfl)).1, h0, h2⟩
/-- append(v, {x, o}). -/
theorem RL.snoc {w : World} {b : Nat} {v : Value} {L : List (Nat × Nat)} (h : RL w b v L) (hb : b ≤ w.heap.size) (x o : Nat) (hl : L.length ≤ 2000000) :
    ∃ v' w', (Builtin.append_ #[110, 110] 110 #[v, .slice (some ⟨w.heap.size, 0, none⟩) 1 1]).run Tryd.prog (w.alloc (.cells #[.int .i64 (x : Int), .int .i64 (o : Int)] 112)) = .ok v' w' ∧ RL w' b v' (L ++ [(x, o)]) ∧ (∀ W : World, W.heap.size ≤ b → Kp W w → Kp W w') ∧ Fr (fun g => v.ownBlock = some g) w w' := by
  obtain ⟨i0, hi, hz0, hz1, hz2⟩ := info_run
  obtain ⟨w1, h1⟩ : ∃ w1, w1 = w.alloc (.cells #[.int .i64 (x : Int), .int .i64 (o : Int)] 112) := ⟨_, rfl⟩
  have k1 : Kp w w1 := by rw [h1]; exact (Kp.refl w).alloc _
  have hr : w1.heap[w.heap.size]? = some (.cells #[.int .i64 (x : Int), .int .i64 (o : Int)] 112 (0, 0)) := by rw [h1]; exact heap_alloc_new w _
  have es : w1.heap.size = w.heap.size + 1 := by rw [h1]; simp
  obtain ⟨v', w', r1, r2, r3, r4⟩ := OL.append encR_ok (P := Tryd.prog) (t := 110) Tryd.underlying110 hi hz0 hz1 hz2 rfl (h.kp k1).ol [(x, o)] (some ⟨w.heap.size, 0, none⟩) 1 1 rfl (.inr ⟨w.heap.size, 0, rfl, fun j u hu => by
    rw [Nat.zero_add, cell_of_row w1 w.heap.size j _ _ _ hr]
    rw [← List.getElem?_toArray] at hu
    exact hu⟩) (by simp; omega) (by omega) 110
  have fr1 : Fr (fun g => v.ownBlock = some g) w w' := (k1.fr _).trans (Fr.grown r3 (fun g hg => hg))
  refine ⟨v', w', by rw [← h1]; exact r1, ⟨r2, fun g hg => ?_⟩, fun W hW kW => fr1.kp kW (fun g hg => Nat.le_trans hW (h.up g hg).1), fr1⟩
  have hlt : g < w'.heap.size := by
    obtain ⟨na, cap, e, _, hc⟩ := r2.form
    rcases hc with ⟨rfl, rfl, _⟩ | ⟨g', rfl, hg'⟩
    · rw [e] at hg; cases hg
    · rw [e] at hg; cases hg; exact hg'
  refine ⟨?_, hlt⟩
  rcases r4 with e | e
  · exact (h.up g (by rw [← e]; exact hg)).1
  · rw [hg] at e; cases e; omega

end Go.Proofs.YtjnkmmfppkpgbaaDoor
