/- Both ledgers beside each other. -/
import Derived.Test.YtjeahpekcbogeaaGH
namespace Go.Proofs.Ytjeahpekcbogeaa
open Go.RowKit Go.Maps

/-- A step in a box. -/
def OX (w : World) (bo : Nat) (f a u : Int) : Prop := w.heap[bo]? = some (.cells #[.int .i64 f, .int .i64 a, .int .i64 u] 32)
section
variable {w w' : World} {bo : Nat} {f a u : Int}
theorem OX.c0 (h : OX w bo f a u) : w.cell? ⟨bo, 0, none⟩ = some (.int .i64 f) := by rw [cell_of_row _ _ 0 _ _ _ h]; rfl
theorem OX.c1 (h : OX w bo f a u) : w.cell? ⟨bo, 1, none⟩ = some (.int .i64 a) := by rw [cell_of_row _ _ 1 _ _ _ h]; rfl
theorem OX.c2 (h : OX w bo f a u) : w.cell? ⟨bo, 2, none⟩ = some (.int .i64 u) := by rw [cell_of_row _ _ 2 _ _ _ h]; rfl
theorem OX.lt (h : OX w bo f a u) : bo < w.heap.size := (Array.getElem?_eq_some_iff.1 h).1
theorem OX.fr (h : OX w bo f a u) {S : Nat → Prop} (k : Fr S w w') (hS : ¬ S bo) : OX w' bo f a u := (k.block bo h.lt hS).trans h
theorem OX.kp (h : OX w bo f a u) (k : Kp w w') : OX w' bo f a u := (k.block bo h.lt).trans h
theorem OX.made (w : World) (f a u : Int) : OX (w.alloc (.cells #[.int .i64 f, .int .i64 a, .int .i64 u] 32)) w.heap.size f a u := heap_alloc_new w _
end

/-- The program's ledger (entries E) and the document's (entries D), behind W. -/
structure PD (W w : World) (p bm qd b N : Nat) (E D : Int → Int × Int) : Prop where
  lk : LK W w p bm N E
  dl : DL w qd b N D
  hq : W.heap.size ≤ qd
  hb : W.heap.size ≤ b
  n1 : qd ≠ bm
  n2 : b ≠ bm
  n3 : p ≠ b
variable {W w w' : World} {p bm qd b N bo : Nat} {E D : Int → Int × Int} {f a u : Int}
theorem PD.kp (h : PD W w p bm qd b N E D) (k : Kp w w') : PD W w' p bm qd b N E D := ⟨h.lk.kp k, h.dl.kp k, h.hq, h.hb, h.n1, h.n2, h.n3⟩
theorem PD.pdo (h : PD W w p bm qd b N E D) (x a u : Int) (hx : (Lit.int .i64 x).wf = true) :
    Calls Try.prog 12 #[.pointer (some ⟨p, 0, none⟩), .int .i64 x, .int .i64 a, .int .i64 u] w fun e w' => e = .returned (.int .i64 (mayN N (E x) x a u)) ∧ PD W w' p bm qd b N (doE N E x a u) D ∧ Fr (· = bm) w w' :=
  (h.lk.do x a u hx).mono (fun _ _ ⟨h1, h2, h3⟩ => ⟨h1, ⟨h2, h.dl.fr h3 h.n1 h.n2, h.hq, h.hb, h.n1, h.n2, h.n3⟩, h3⟩)
theorem PD.ddo (h : PD W w p bm qd b N E D) (x a u : Int) :
    Calls Try.prog 13 #[.pointer (some ⟨qd, 0, none⟩), .int .i64 x, .int .i64 a, .int .i64 u] w fun e w' => e = .returned (.int .i64 (mayN N (D x) x a u)) ∧ PD W w' p bm qd b N E (doE N D x a u) ∧ Fr (· = b) w w' :=
  (ddo_any h.dl x a u).mono (fun _ _ ⟨h1, h2, h3⟩ => ⟨h1, ⟨⟨h.lk.lg.fr h3 h.n3 (fun e => h.n2 e.symm), h3.kp h.lk.k (fun _ hi => by rw [hi]; exact h.hb), h.lk.hp, h.lk.hb⟩, h2, h.hq, h.hb, h.n1, h.n2, h.n3⟩, h3⟩)

/-- .. beside a step in a box. -/
structure PDX (W w : World) (p bm qd b N : Nat) (E D : Int → Int × Int) (bo : Nat) (f a u : Int) : Prop where
  pd : PD W w p bm qd b N E D
  o : OX w bo f a u
  m1 : bo ≠ bm
  m2 : bo ≠ b
theorem PDX.kp (h : PDX W w p bm qd b N E D bo f a u) (k : Kp w w') : PDX W w' p bm qd b N E D bo f a u := ⟨h.pd.kp k, h.o.kp k, h.m1, h.m2⟩
theorem PDX.pdo (h : PDX W w p bm qd b N E D bo f a u) (x a' u' : Int) (hx : (Lit.int .i64 x).wf = true) :
    Calls Try.prog 12 #[.pointer (some ⟨p, 0, none⟩), .int .i64 x, .int .i64 a', .int .i64 u'] w fun e w' => e = .returned (.int .i64 (mayN N (E x) x a' u')) ∧ PDX W w' p bm qd b N (doE N E x a' u') D bo f a u :=
  (h.pd.pdo x a' u' hx).mono (fun _ _ ⟨h1, h2, h3⟩ => ⟨h1, h2, h.o.fr h3 h.m1, h.m1, h.m2⟩)
theorem PDX.ddo (h : PDX W w p bm qd b N E D bo f a u) (x a' u' : Int) :
    Calls Try.prog 13 #[.pointer (some ⟨qd, 0, none⟩), .int .i64 x, .int .i64 a', .int .i64 u'] w fun e w' => e = .returned (.int .i64 (mayN N (D x) x a' u')) ∧ PDX W w' p bm qd b N E (doE N D x a' u') bo f a u :=
  (h.pd.ddo x a' u').mono (fun _ _ ⟨h1, h2, h3⟩ => ⟨h1, h2, h.o.fr h3 h.m2, h.m1, h.m2⟩)
theorem PDX.pget (h : PDX W w p bm qd b N E D bo f a u) (x s q : Int) (hx : (Lit.int .i64 x).wf = true) (he : E x = (s, q)) :
    Calls Try.prog 14 #[.pointer (some ⟨p, 0, none⟩), .int .i64 x] w fun e w' => e = .returned (.agg #[.int .i64 s, .int .i64 q]) ∧ PDX W w' p bm qd b N E D bo f a u :=
  (h.pd.lk.get x s q hx he).mono (fun _ _ ⟨h1, _, h3⟩ => ⟨h1, h.kp h3⟩)
theorem PDX.dget (h : PDX W w p bm qd b N E D bo f a u) (x s q : Int) (he : D x = (s, q)) :
    Calls Try.prog 15 #[.pointer (some ⟨qd, 0, none⟩), .int .i64 x] w fun e w' => e = .returned (.agg #[.int .i64 s, .int .i64 q]) ∧ PDX W w' p bm qd b N E D bo f a u := by
  have := dget_any h.pd.dl x
  rw [he] at this
  exact this.mono (fun _ _ ⟨h1, h3⟩ => ⟨h1, h.kp h3⟩)
theorem PD.dlist (h : PD W w p bm qd b N E D) (st pt : Int) (L : List Int) (he : lsE D N st pt = L) :
    Calls Try.prog 16 #[.pointer (some ⟨qd, 0, none⟩), .int .i64 st, .int .i64 pt] w fun e w' => (∃ v, e = .returned v ∧ IL w' v L) ∧ PD W w' p bm qd b N E D ∧ Kp w w' := by
  have := dlist_any h.dl st pt
  rw [he] at this
  exact this.mono (fun _ _ ⟨h1, h2⟩ => ⟨h1, h.kp h2, h2⟩)
theorem PD.plist (h : PD W w p bm qd b N E D) (st pt : Int) (L : List Int) (he : lsE E N st pt = L) :
    Calls Try.prog 19 #[.pointer (some ⟨p, 0, none⟩), .int .i64 st, .int .i64 pt] w fun e w' => (∃ v, e = .returned v ∧ IL w' v L) ∧ PD W w' p bm qd b N E D ∧ Kp w w' :=
  (h.lk.list st pt L he).mono (fun _ _ ⟨h1, _, h2⟩ => ⟨h1, h.kp h2, h2⟩)
theorem PD.pcount (h : PD W w p bm qd b N E D) (st pt : Int) (n : Nat) (he : (lsE E N st pt).length = n) :
    Calls Try.prog 17 #[.pointer (some ⟨p, 0, none⟩), .int .i64 st, .int .i64 pt] w fun e w' => e = .returned (.int .i64 (n : Int)) ∧ PD W w' p bm qd b N E D ∧ Kp w w' :=
  (h.lk.count st pt n he).mono (fun _ _ ⟨h1, _, h2⟩ => ⟨h1, h.kp h2, h2⟩)

end Go.Proofs.Ytjeahpekcbogeaa
