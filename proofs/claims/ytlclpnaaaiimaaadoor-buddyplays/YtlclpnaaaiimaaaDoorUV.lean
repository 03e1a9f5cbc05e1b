/- BuddyPlays: the program's buddy beside the document's. -/
import Derived.Test.YtlclpnaaaiimaaaDoorUR
namespace Go.Proofs.YtlclpnaaaiimaaaDoor
open Go.RowKit

/-- Between the steps: both have the same frames free; what was taken is listed. -/
structure PI (W : World) (B b1 : Nat) (U : Nat → Prop) (w : World) (p q ob lo n : Nat) (vt : Value) (Q : List (Nat × Nat)) (F : Nat → Bool) : Prop where
  bu : BU W B U w p lo (lo + n) F
  rb : RB w q ob lo n F
  q1 : B ≤ q ∧ q < b1
  o1 : B ≤ ob ∧ ob < b1
  tk : RL w b1 vt Q
  tv : ∀ x ∈ Q, x.1 ≤ 1048576 ∧ x.2 ≤ 9
  hb : b1 ≤ w.heap.size
/-- Within a step: its copy lies in the block Bo. -/
structure PJ (W : World) (B b1 : Nat) (U : Nat → Prop) (w : World) (p q ob lo n : Nat) (vt : Value) (Q : List (Nat × Nat)) (F : Nat → Bool) (Bo : Nat) (a b c : Int) : Prop where
  pi : PI W B b1 U w p q ob lo n vt Q F
  c0 : w.cell? ⟨Bo, 0, none⟩ = some (.int .i64 a)
  c1 : w.cell? ⟨Bo, 1, none⟩ = some (.int .i64 b)
  c2 : w.cell? ⟨Bo, 2, none⟩ = some (.int .i64 c)
  bl : Bo < w.heap.size
  bb : b1 ≤ Bo
section
variable {W w w' w1 w2 : World} {B b1 : Nat} {U : Nat → Prop} {p q ob lo n : Nat} {vt : Value} {Q : List (Nat × Nat)} {F F1 : Nat → Bool} {Bo : Nat} {a b c : Int}
theorem PI.kps (h : PI W B b1 U w p q ob lo n vt Q F) (k : Kp w w') : PI W B b1 U w' p q ob lo n vt Q F := ⟨h.bu.kps k, h.rb.kp k, h.q1, h.o1, h.tk.kp k, h.tv, Nat.le_trans h.hb k.size⟩
theorem PJ.kps (h : PJ W B b1 U w p q ob lo n vt Q F Bo a b c) (k : Kp w w') : PJ W B b1 U w' p q ob lo n vt Q F Bo a b c :=
  ⟨h.pi.kps k, (k.cell (p := ⟨Bo, 0, none⟩) h.bl).trans h.c0, (k.cell (p := ⟨Bo, 1, none⟩) h.bl).trans h.c1, (k.cell (p := ⟨Bo, 2, none⟩) h.bl).trans h.c2, Nat.lt_of_lt_of_le h.bl k.size, h.bb⟩
theorem PI.notU (h : PI W B b1 U w p q ob lo n vt Q F) {k : Nat} (hk : B ≤ k) : ¬ U k := fun u => by have := (h.bu.new k u).2; omega
theorem PI.bb1 (h : PI W B b1 U w p q ob lo n vt Q F) : B ≤ b1 := by have := h.q1; omega
/-- Behind a change of the program's buddy alone. -/
theorem PJ.mid (h : PJ W B b1 U w p q ob lo n vt Q F Bo a b c) (k : Fr U w w1) : RB w1 q ob lo n F ∧ w1.cell? ⟨Bo, 2, none⟩ = some (.int .i64 c) :=
  ⟨h.pi.rb.fr k (h.pi.notU h.pi.q1.1) (h.pi.notU h.pi.o1.1), (k.cell (a := ⟨Bo, 2, none⟩) h.bl (h.pi.notU (Nat.le_trans h.pi.bb1 h.bb))).trans h.c2⟩
/-- Behind both. -/
theorem PJ.step (h : PJ W B b1 U w p q ob lo n vt Q F Bo a b c) (m : BF w1 U p lo (lo + n) F1) (k1 : Fr U w w1) (r : RB w2 q ob lo n F1) (k2 : Fr (fun k => k = ob) w1 w2) : PJ W B b1 U w2 p q ob lo n vt Q F1 Bo a b c := by
  have hB := h.pi.bu.b1
  have nU := h.pi.notU (Nat.le_trans h.pi.bb1 h.bb)
  have no : ¬ Bo = ob := by have := h.pi.o1.2; have := h.bb; omega
  have l1 := Nat.lt_of_lt_of_le h.bl k1.size
  have cc : ∀ {j v}, w.cell? ⟨Bo, j, none⟩ = some v → w2.cell? ⟨Bo, j, none⟩ = some v := fun {j v} hc => (k2.cell (a := ⟨Bo, j, none⟩) l1 no).trans ((k1.cell (a := ⟨Bo, j, none⟩) h.bl nU).trans hc)
  refine ⟨⟨(h.pi.bu.next m k1).frs k2 (fun i hi => by have := h.pi.o1.1; omega) (by omega), r, h.pi.q1, h.pi.o1, ?_, h.pi.tv, Nat.le_trans h.pi.hb (Nat.le_trans k1.size k2.size)⟩, cc h.c0, cc h.c1, cc h.c2, Nat.lt_of_lt_of_le l1 k2.size, h.bb⟩
  exact (h.pi.tk.away k1 (fun i hi => Nat.lt_of_lt_of_le (h.pi.bu.new i hi).2 h.pi.bb1)).fr k2 (fun g hg _ e => by have := h.pi.o1.2; omega)
/-- A run more was taken. -/
theorem PJ.snoc (h : PJ W B b1 U w p q ob lo n vt Q F Bo a b c) (bn : ∀ g, vt.ownBlock = some g → g ≠ Bo) (f o : Nat) (hf : f ≤ 1048576) (ho : o ≤ 9) (hl : Q.length ≤ 2000000) :
    ∃ v' w', (Builtin.append_ #[31, 31] 31 #[vt, .slice (some ⟨w.heap.size, 0, none⟩) 1 1]).run Tryd.prog (w.alloc (.cells #[.int .i64 (f : Int), .int .i64 (o : Int)] 34)) = .ok v' w' ∧ PJ W B b1 U w' p q ob lo n v' (Q ++ [(f, o)]) F Bo a b c := by
  obtain ⟨v', w', r1, r2, _, r4⟩ := h.pi.tk.snoc h.pi.hb f o hl
  have hB := h.pi.bu.b1
  have up : ∀ g, vt.ownBlock = some g → b1 ≤ g := fun g hg => (h.pi.tk.up g hg).1
  have cc : ∀ {j v}, w.cell? ⟨Bo, j, none⟩ = some v → w'.cell? ⟨Bo, j, none⟩ = some v := fun {j v} hc => (r4.cell (a := ⟨Bo, j, none⟩) h.bl (fun e => bn Bo e rfl)).trans hc
  refine ⟨v', w', r1, ⟨⟨h.pi.bu.frs r4 (fun i hi => Nat.le_trans h.pi.bb1 (up i hi)) (by omega), h.pi.rb.fr r4 (fun e => by have := up q e; have := h.pi.q1.2; omega) (fun e => by have := up ob e; have := h.pi.o1.2; omega), h.pi.q1, h.pi.o1, r2, fun x hx => ?_, Nat.le_trans h.pi.hb r4.size⟩, cc h.c0, cc h.c1, cc h.c2, Nat.lt_of_lt_of_le h.bl r4.size, h.bb⟩⟩
  rcases List.mem_append.1 hx with e | e
  · exact h.pi.tv x e
  · rcases List.mem_singleton.1 e with rfl
    exact ⟨hf, ho⟩
end
end Go.Proofs.YtlclpnaaaiimaaaDoor
