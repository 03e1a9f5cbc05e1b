/- DiskPlays: the steps that came in; the program's device beside the document's; each call told in one form. -/
import Derived.Test.YtcgfifihkbiioaaXC
import Derived.Test.YtcgfifihkbiioaaXY
namespace Go.Proofs.Ytcgfifihkbiioaa
open Go.RowKit Go.Maps Go.ChangeShapes Go.WideShapes Go.ChangeAt

/-- A step as it came in. -/
structure OpV where
  kind : Int
  slot : Int
  naA : Option Addr
  mA : Nat
  cA : Nat
  fA : Nat → Int
  naB : Option Addr
  mB : Nat
  cB : Nat
  fB : Nat → Int
  naF : Option Addr
  mF : Nat
  cF : Nat
  fF : Nat → Bool
  other : Bool
def OpV.cells (o : OpV) : List Value := [.int .i64 o.kind, .int .i64 o.slot, .slice o.naA o.mA o.cA, .slice o.naB o.mB o.cB, .slice o.naF o.mF o.cF, .bool o.other]
structure OpV.Ok (w : World) (o : OpV) : Prop where
  k : (Lit.int .i64 o.kind).wf = true
  s : (Lit.int .i64 o.slot).wf = true
  nA : NSK .i64 w o.naA o.mA o.fA
  nB : NSK .u8 w o.naB o.mB o.fB
  lB : o.mB ≤ o.cB
  cB : o.naB = none → o.cB = 0
  nF : NS w o.naF o.mF o.fF
  lF : o.mF ≤ o.cF
  cF : o.naF = none → o.cF = 0
theorem OpV.Ok.kp {w w' : World} {o : OpV} (h : o.Ok w) (k : Kp w w') : o.Ok w' := ⟨h.k, h.s, h.nA.kp k, h.nB.kp k, h.lB, h.cB, h.nF.kp k, h.lF, h.cF⟩
/-- m steps lie in w at na. -/
def Steps (w : World) (na : Option Addr) (m : Nat) (V : Nat → OpV) : Prop := ∀ i, i < m → (∃ b o, na = some ⟨b, o, none⟩ ∧ b < w.heap.size ∧ ∀ j u, (V i).cells[j]? = some u → w.cell? ⟨b, o + (i * 6 + j), none⟩ = some u) ∧ (V i).Ok w

theorem open_steps {H : Type} {enc : TypeId × Value → H} {w : World} {base : Nat} {spare : Nat → Bool} {held : Bool} {fuel : Nat} {cs : List Value} {x : DataW H × List MemPlace}
    (h : DataW.trod enc Try.prog w base spare held fuel 22 cs = some x) :
    ∃ (na : Option Addr) (m mcap : Nat) (V : Nat → OpV), cs = [.slice na m mcap] ∧ m ≤ maxLen ∧ Steps w na m V := by
  obtain ⟨na, m, mcap, h1, h2, _, _, h3⟩ := open_structs Try.underlying22 Try.underlying34 (Go.Deep.hone_of (by kernel_rfl)) (by kernel_rfl) (by decide) h
  have each : ∀ i, i < m → ∃ o : OpV, (∃ b of, na = some ⟨b, of, none⟩ ∧ b < w.heap.size ∧ ∀ j u, o.cells[j]? = some u → w.cell? ⟨b, of + (i * 6 + j), none⟩ = some u) ∧ o.Ok w := fun i hi => by
    obtain ⟨b, of, V, e1, e2, e3⟩ := h3 i hi
    obtain ⟨c0, n0, y0, t0⟩ := e3 0 _ rfl
    obtain ⟨c1, n1, y1, t1⟩ := e3 1 _ rfl
    obtain ⟨c2, n2, y2, t2⟩ := e3 2 _ rfl
    obtain ⟨c3, n3, y3, t3⟩ := e3 3 _ rfl
    obtain ⟨c4, n4, y4, t4⟩ := e3 4 _ rfl
    obtain ⟨c5, n5, y5, t5⟩ := e3 5 _ rfl
    obtain ⟨a0, v0, _, w0⟩ := DataW.trod_int Try.underlying3 t0
    obtain ⟨a1, v1, _, w1⟩ := DataW.trod_int Try.underlying3 t1
    obtain ⟨nA, mA, cA, fA, s2, _, N2⟩ := open_kind Try.underlying30 Try.underlying3 (by kernel_rfl) t2
    obtain ⟨nB, mB, cB, fB, s3, x3, N3⟩ := open_kind Try.underlying31 Try.underlying5 (by kernel_rfl) t3
    obtain ⟨l3, n3'⟩ := slice_cap Try.underlying31 t3 s3
    obtain ⟨nF, mF, cF, fF, s4, x4, N4⟩ := open_marks Try.underlying32 Try.underlying4 (by kernel_rfl) t4
    obtain ⟨l4, n4'⟩ := slice_cap Try.underlying32 t4 s4
    obtain ⟨bo, v5, _⟩ := DataW.trod_bool Try.underlying4 t5
    simp only [List.cons.injEq, and_true] at v0 v1 s2 s3 s4 v5
    refine ⟨⟨a0, a1, nA, mA, cA, fA, nB, mB, cB, fB, nF, mF, cF, fF, bo⟩, ⟨b, of, e1, e2, fun j u hu => ?_⟩, ⟨w0, w1, N2, N3, l3, n3', N4, l4, n4'⟩⟩
    match j, hu with
    | 0, hu => simp [OpV.cells] at hu; subst hu; rw [← v0]; exact c0
    | 1, hu => simp [OpV.cells] at hu; subst hu; rw [← v1]; exact c1
    | 2, hu => simp [OpV.cells] at hu; subst hu; rw [← s2]; exact c2
    | 3, hu => simp [OpV.cells] at hu; subst hu; rw [← s3]; exact c3
    | 4, hu => simp [OpV.cells] at hu; subst hu; rw [← s4]; exact c4
    | 5, hu => simp [OpV.cells] at hu; subst hu; rw [← v5]; exact c5
    | j + 6, hu => simp [OpV.cells] at hu
  haveI : Inhabited OpV := ⟨⟨0, 0, none, 0, 0, fun _ => 0, none, 0, 0, fun _ => 0, none, 0, 0, fun _ => false, false⟩⟩
  obtain ⟨V, hV⟩ := Go.Deep.choose_lt each
  exact ⟨na, m, mcap, V, h1, h2, hV⟩

/-! ### both devices -/
/-- Two devices beside one another, all of which lies in U. -/
def Two (U : Nat → Prop) (w : World) (p q N : Nat) (T1 : Slots) (A1 : List Bool) (T2 : Slots) (A2 : List Bool) : Prop :=
  ∃ S R, DK w S p N T1 A1 ∧ RK w R q N T2 A2 ∧ (∀ i, S i → ¬ R i) ∧ (∀ i, S i → U i) ∧ (∀ i, R i → U i)
section
variable {U : Nat → Prop} {w w' : World} {p q N : Nat} {T1 T2 : Slots} {A1 A2 : List Bool}
theorem Two.kp (h : Two U w p q N T1 A1 T2 A2) (k : Kp w w') : Two U w' p q N T1 A1 T2 A2 := by
  obtain ⟨S, R, h1, h2, h3⟩ := h
  exact ⟨S, R, h1.kp k, h2.kp k, h3⟩
theorem Two.cut {U' : Nat → Prop} (h : Two U w p q N T1 A1 T2 A2) (hU : ∀ i, i < w.heap.size → U i → U' i) : Two U' w p q N T1 A1 T2 A2 := by
  obtain ⟨S, R, h1, h2, h3, h4, h5⟩ := h
  exact ⟨S, R, h1, h2, h3, fun i hi => hU i (h1.own i hi) (h4 i hi), fun i hi => hU i (h2.own i hi) (h5 i hi)⟩
theorem Two.out {X : Nat → Prop} (h : Two U w p q N T1 A1 T2 A2) (k : Fr X w w') (hX : ∀ i, U i → ¬ X i) : Two U w' p q N T1 A1 T2 A2 := by
  obtain ⟨S, R, h1, h2, h3, h4, h5⟩ := h
  exact ⟨S, R, h1.fr k (fun i hi => hX i (h4 i hi)), h2.fr k (fun i hi => hX i (h5 i hi)), h3, h4, h5⟩
theorem Two.left {S S' R : Nat → Prop} {T : Slots} {A : List Bool} (h2 : RK w R q N T2 A2) (h3 : ∀ i, S i → ¬ R i) (h4 : ∀ i, S i → U i) (h5 : ∀ i, R i → U i) (fU : Free U w)
    (m : DK w' S' p N T A) (k : Fr S w w') (l : Less S S' w) : Two U w' p q N T A T2 A2 ∧ Fr U w w' := by
  refine ⟨⟨S', R, m, h2.fr k (fun i hi hs => h3 i hs hi), fun i hi ht => ?_, fun i hi => ?_, h5⟩, k.mono (fun i _ hi => h4 i hi)⟩
  · rcases l i hi with h | h
    · exact h3 i h ht
    · have := h2.own i ht; omega
  · rcases l i hi with h | h
    · exact h4 i h
    · exact fU i h
theorem Two.right {S R R' : Nat → Prop} {T : Slots} {A : List Bool} (h1 : DK w S p N T1 A1) (h3 : ∀ i, S i → ¬ R i) (h4 : ∀ i, S i → U i) (h5 : ∀ i, R i → U i) (fU : Free U w)
    (m : RK w' R' q N T A) (k : Fr R w w') (l : Less R R' w) : Two U w' p q N T1 A1 T A ∧ Fr U w w' := by
  refine ⟨⟨S, R', h1.fr k h3, m, fun i hs hi => ?_, h4, fun i hi => ?_⟩, k.mono (fun i _ hi => h5 i hi)⟩
  · rcases l i hi with h | h
    · exact h3 i hs h
    · have := h1.own i hs; omega
  · rcases l i hi with h | h
    · exact h5 i h
    · exact fU i h
theorem less_same (S : Nat → Prop) (w : World) : Less S S w := fun _ h => .inl h

theorem two_ptake (h : Two U w p q N T1 A1 T2 A2) (fU : Free U w) :
    Calls Try.prog 9 #[.pointer (some ⟨p, 0, none⟩)] w fun e w' => e = .returned (.tuple #[.int .i64 (tkX N T1 : Nat), .int .i64 (tkR N T1)]) ∧ Two U w' p q N (tkT N T1) A1 T2 A2 ∧ Fr U w w' := by
  obtain ⟨S, R, h1, h2, h3, h4, h5⟩ := h
  exact (dtake_any h1).mono fun e w' ⟨e1, S', m, k, l⟩ => ⟨e1, Two.left h2 h3 h4 h5 fU m k l⟩
theorem two_qtake (h : Two U w p q N T1 A1 T2 A2) (fU : Free U w) :
    Calls Try.prog 10 #[.pointer (some ⟨q, 0, none⟩)] w fun e w' => e = .returned (.tuple #[.int .i64 (tkX N T2 : Nat), .int .i64 (tkR N T2)]) ∧ Two U w' p q N T1 A1 (tkT N T2) A2 ∧ Fr U w w' := by
  obtain ⟨S, R, h1, h2, h3, h4, h5⟩ := h
  exact (rtake_any h2).mono fun e w' ⟨e1, R', m, k, l⟩ => ⟨e1, Two.right h1 h3 h4 h5 fU m k l⟩
theorem two_pgive (h : Two U w p q N T1 A1 T2 A2) (fU : Free U w) (x : Int) (hx : (Lit.int .i64 x).wf = true) :
    Calls Try.prog 11 #[.pointer (some ⟨p, 0, none⟩), .int .i64 x] w fun e w' => e = .returned (.int .i64 (gvR T1 x)) ∧ Two U w' p q N (gvT T1 x) A1 T2 A2 ∧ Fr U w w' := by
  obtain ⟨S, R, h1, h2, h3, h4, h5⟩ := h
  exact (dgive_any h1 x hx).mono fun e w' ⟨e1, m, k⟩ => ⟨e1, Two.left h2 h3 h4 h5 fU m k (less_same _ _)⟩
theorem two_qgive (h : Two U w p q N T1 A1 T2 A2) (fU : Free U w) (x : Int) :
    Calls Try.prog 12 #[.pointer (some ⟨q, 0, none⟩), .int .i64 x] w fun e w' => e = .returned (.int .i64 (gvR T2 x)) ∧ Two U w' p q N T1 A1 (gvT T2 x) A2 ∧ Fr U w w' := by
  obtain ⟨S, R, h1, h2, h3, h4, h5⟩ := h
  exact (rgive_any h2 x).mono fun e w' ⟨e1, m, k⟩ => ⟨e1, Two.right h1 h3 h4 h5 fU m k (less_same _ _)⟩
theorem two_pwrite (h : Two U w p q N T1 A1 T2 A2) (fU : Free U w) (x : Int) (hx : (Lit.int .i64 x).wf = true) (na : Option Addr) (n cap : Nat) (f : Nat → Nat) (hf : Bytes f) (hs : n = 4096 → ∃ c o, na = some ⟨c, o, none⟩ ∧ c < w.heap.size ∧ ¬ U c ∧ Cells w c o n f) :
    Calls Try.prog 14 #[.pointer (some ⟨p, 0, none⟩), .int .i64 x, .slice na n cap] w fun e w' => e = .returned (.int .i64 (wrR T1 A1 x n)) ∧ Two U w' p q N (wrT T1 A1 x n f) (wrA T1 A1 x n) T2 A2 ∧ Fr U w w' := by
  obtain ⟨S, R, h1, h2, h3, h4, h5⟩ := h
  exact (dwrite_any h1 x hx na n cap f hf (fun hn => by obtain ⟨c, o, r1, r2, r3, r4⟩ := hs hn; exact ⟨c, o, r1, r2, fun s => r3 (h4 c s), r4⟩)).mono fun e w' ⟨e1, m, k⟩ => ⟨e1, Two.left h2 h3 h4 h5 fU m k (less_same _ _)⟩
theorem two_qwrite (h : Two U w p q N T1 A1 T2 A2) (fU : Free U w) (x : Int) (na : Option Addr) (n cap : Nat) (f : Nat → Nat) (hf : Bytes f) (hs : n = 4096 → ∃ c o, na = some ⟨c, o, none⟩ ∧ c < w.heap.size ∧ ¬ U c ∧ Cells w c o n f) :
    Calls Try.prog 15 #[.pointer (some ⟨q, 0, none⟩), .int .i64 x, .slice na n cap] w fun e w' => e = .returned (.int .i64 (wrR T2 A2 x n)) ∧ Two U w' p q N T1 A1 (wrT T2 A2 x n f) (wrA T2 A2 x n) ∧ Fr U w w' := by
  obtain ⟨S, R, h1, h2, h3, h4, h5⟩ := h
  exact (rwrite_any h2 x na n cap f hf (fun hn => by obtain ⟨c, o, r1, r2, r3, r4⟩ := hs hn; exact ⟨c, o, r1, r2, fun s => r3 (h5 c s), r4⟩)).mono fun e w' ⟨e1, R', m, k, l⟩ => ⟨e1, Two.right h1 h3 h4 h5 fU m k l⟩
theorem two_pread (h : Two U w p q N T1 A1 T2 A2) (x : Int) (hx : (Lit.int .i64 x).wf = true) :
    Calls Try.prog 16 #[.pointer (some ⟨p, 0, none⟩), .int .i64 x] w fun e w' => ∃ na cap, e = .returned (.tuple #[.slice na (rdN T1 A1 x) cap, .int .i64 (rdR T1 A1 x)]) ∧ Told w w' na (rdN T1 A1 x) (rdF T1 x) ∧ Two (fun k => U k ∧ k < w.heap.size) w' p q N T1 (rdA T1 A1 x) T2 A2 ∧ Fr U w w' := by
  obtain ⟨S, R, h1, h2, h3, h4, h5⟩ := h
  exact (dread_any h1 x hx).mono fun e w' ⟨na, cap, e1, t, m, k⟩ => ⟨na, cap, e1, t, ⟨S, R, m, h2.fr k (fun i hi hs => h3 i hs hi), h3, fun i hi => ⟨h4 i hi, h1.own i hi⟩, fun i hi => ⟨h5 i hi, h2.own i hi⟩⟩, k.mono (fun i _ hi => h4 i hi)⟩
theorem two_qread (h : Two U w p q N T1 A1 T2 A2) (fU : Free U w) (x : Int) :
    Calls Try.prog 17 #[.pointer (some ⟨q, 0, none⟩), .int .i64 x] w fun e w' => ∃ na cap, e = .returned (.tuple #[.slice na (rdN T2 A2 x) cap, .int .i64 (rdR T2 A2 x)]) ∧ Lent U w' na (rdN T2 A2 x) (rdF T2 x) ∧ Two U w' p q N T1 A1 T2 (rdA T2 A2 x) ∧ Fr U w w' := by
  obtain ⟨S, R, h1, h2, h3, h4, h5⟩ := h
  exact (rread_any h2 x).mono fun e w' ⟨na, cap, e1, t, m, k⟩ => ⟨na, cap, e1, ⟨t.1, fun hn => by obtain ⟨b, b1, b2, b3⟩ := t.2 hn; exact ⟨b, b1, h5 b b2, b3⟩⟩, Two.right h1 h3 h4 h5 fU m k (less_same _ _)⟩
theorem two_pfail (h : Two U w p q N T1 A1 T2 A2) (fU : Free U w) (na : Option Addr) (n cap : Nat) (nb : Nat → Bool) (H : NS w na n nb) (hc : na = none → n = 0 ∧ cap = 0) (h1 : n ≤ 4000000000) :
    Calls Try.prog 18 #[.pointer (some ⟨p, 0, none⟩), .slice na n cap] w fun e w' => e = .returned (.tuple #[]) ∧ Two U w' p q N T1 (bl nb n) T2 A2 ∧ Fr U w w' := by
  obtain ⟨S, R, h1', h2, h3, h4, h5⟩ := h
  exact (dfail_any h1' na n cap nb H hc h1).mono fun e w' ⟨e1, S', m, k, l⟩ => ⟨e1, Two.left h2 h3 h4 h5 fU m k l⟩
theorem two_qfail (h : Two U w p q N T1 A1 T2 A2) (fU : Free U w) (na : Option Addr) (n cap : Nat) (nb : Nat → Bool) (H : NS w na n nb) (hc : na = none → n = 0 ∧ cap = 0) (h1 : n ≤ 4000000000) :
    Calls Try.prog 19 #[.pointer (some ⟨q, 0, none⟩), .slice na n cap] w fun e w' => e = .returned (.tuple #[]) ∧ Two U w' p q N T1 A1 T2 (bl nb n) ∧ Fr U w w' := by
  obtain ⟨S, R, h1', h2, h3, h4, h5⟩ := h
  exact (rfail_any h2 na n cap nb H hc h1).mono fun e w' ⟨e1, R', m, k, l⟩ => ⟨e1, Two.right h1' h3 h4 h5 fU m k l⟩
end

/-! ### a round -/
/-- The step's own copy. -/
def oRow (o : OpV) : Obj := .cells #[.int .i64 o.kind, .int .i64 o.slot, .slice o.naA o.mA o.cA, .slice o.naB o.mB o.cB, .slice o.naF o.mF o.cF, .bool o.other] 34 (0, 0)
/-- What holds of a round: the two devices are alike; the step lies in block B. -/
structure Round (w wr : World) (p q N : Nat) (T : Slots) (A : List Bool) (o : OpV) (B : Nat) : Prop where
  two : Two (fun k => w.heap.size ≤ k ∧ k ≠ B) wr p q N T A T A
  kp : Kp w wr
  ok : o.Ok w
  row : wr.heap[B]? = some (oRow o)
  up : w.heap.size ≤ B
section
variable {w wr : World} {p q N : Nat} {T : Slots} {A : List Bool} {o : OpV} {B : Nat}
theorem Round.lt (h : Round w wr p q N T A o B) : B < wr.heap.size := (Array.getElem?_eq_some_iff.1 h.row).1
theorem Round.e0 (h : Round w wr p q N T A o B) : wr.cell? ⟨B, 0, none⟩ = some (.int .i64 o.kind) := by rw [cell_of_row wr B 0 _ _ _ h.row]; rfl
theorem Round.e1 (h : Round w wr p q N T A o B) : wr.cell? ⟨B, 1, none⟩ = some (.int .i64 o.slot) := by rw [cell_of_row wr B 1 _ _ _ h.row]; rfl
theorem Round.e2 (h : Round w wr p q N T A o B) : wr.cell? ⟨B, 2, none⟩ = some (.slice o.naA o.mA o.cA) := by rw [cell_of_row wr B 2 _ _ _ h.row]; rfl
theorem Round.e3 (h : Round w wr p q N T A o B) : wr.cell? ⟨B, 3, none⟩ = some (.slice o.naB o.mB o.cB) := by rw [cell_of_row wr B 3 _ _ _ h.row]; rfl
theorem Round.e4 (h : Round w wr p q N T A o B) : wr.cell? ⟨B, 4, none⟩ = some (.slice o.naF o.mF o.cF) := by rw [cell_of_row wr B 4 _ _ _ h.row]; rfl
theorem Round.e5 (h : Round w wr p q N T A o B) : wr.cell? ⟨B, 5, none⟩ = some (.bool o.other) := by rw [cell_of_row wr B 5 _ _ _ h.row]; rfl
theorem Round.free (h : Round w wr p q N T A o B) : Free (fun k => w.heap.size ≤ k ∧ k ≠ B) wr := fun k hk => ⟨Nat.le_trans h.kp.size hk, by have := h.lt; omega⟩
end
theorem Round.kp' {w wr wr' : World} {p q N : Nat} {T : Slots} {A : List Bool} {o : OpV} {B : Nat} (h : Round w wr p q N T A o B) (k : Kp wr wr') : Round w wr' p q N T A o B :=
  ⟨h.two.kp k, h.kp.trans k, h.ok, (k.block B h.lt).trans h.row, h.up⟩
/-- Behind a change of the devices alone. -/
theorem Round.next {w wr w' : World} {p q N : Nat} {T T' : Slots} {A A' : List Bool} {o : OpV} {B : Nat} (h : Round w wr p q N T A o B) (t : Two (fun k => w.heap.size ≤ k ∧ k ≠ B) w' p q N T' A' T' A') (k : Fr (fun k => w.heap.size ≤ k ∧ k ≠ B) wr w') : Round w w' p q N T' A' o B :=
  ⟨t, k.kp h.kp (fun _ hi => hi.1), h.ok, (k.block B h.lt (fun x => x.2 rfl)).trans h.row, h.up⟩
/-- What is asked of both behind each step. -/
theorem Round.tail {w wr : World} {p q N : Nat} {T : Slots} {A : List Bool} {o : OpV} {B : Nat} (h : Round w wr p q N T A o B) :
    ∃ (fr : Int) (na : Option Addr) (le cap : Nat), (∀ P : KeptBy wr, Calls Try.prog 20 #[.pointer (some ⟨p, 0, none⟩)] P.v fun e w' => e = .returned (.int .i64 fr) ∧ Kp P.v w') ∧
      (∀ P : KeptBy wr, Calls Try.prog 21 #[.pointer (some ⟨q, 0, none⟩)] P.v fun e w' => e = .returned (.int .i64 fr) ∧ Kp P.v w') ∧
      (∀ P : KeptBy wr, Calls Try.prog 22 #[.pointer (some ⟨p, 0, none⟩)] P.v fun e w' => e = .returned (.int .i64 (le : Nat)) ∧ Kp P.v w') ∧
      (∀ P : KeptBy wr, P.v.cell? ⟨q, 2, none⟩ = some (.slice na le cap)) := by
  obtain ⟨S, R, h1, h2, _⟩ := h.two
  obtain ⟨bo, bp, v, h2'⟩ := id h2
  obtain ⟨na, cap, rfl, _⟩ := h2'.ah
  refine ⟨(N : Int) - (tkn T N : Nat), na, A.length, cap, fun P => (dfree_any (h1.kp P.k)).mono fun e w' ⟨a, b⟩ => ⟨a, b.kp⟩, fun P => (rfree_any (h2.kp P.k)).mono fun e w' ⟨a, b⟩ => ⟨a, by rw [b]; exact Kp.refl _⟩, fun P => (dleft_any (h1.kp P.k)).mono fun e w' ⟨a, b⟩ => ⟨a, by rw [b]; exact Kp.refl _⟩, fun P => (h2'.fr (P.k.fr (fun _ => False)) (fun _ _ => id)).c2⟩

/-- All but what came in, the step, the page and its copy. -/
def U2 (w : World) (B b g : Nat) : Nat → Prop := fun k => (w.heap.size ≤ k ∧ k ≠ B) ∧ k ≠ b ∧ k ≠ g
theorem Round.two2 {w W1 W : World} {p q N : Nat} {T : Slots} {A : List Bool} {o : OpV} {B : Nat} (h : Round w W1 p q N T A o B) (k : Kp W1 W) {b g : Nat} (hb : W1.heap.size ≤ b) (hg : W1.heap.size ≤ g) (lb : b < W.heap.size) (lg : g < W.heap.size) : Two (U2 w B b g) W p q N T A T A ∧ Free (U2 w B b g) W := by
  refine ⟨(h.two.cut (fun i hi hu => ⟨hu, by omega, by omega⟩)).kp k, fun i hi => ⟨⟨?_, ?_⟩, by omega, by omega⟩⟩
  · have := h.kp.size; have := k.size; omega
  · have := h.lt; have := k.size; omega
/-- Bytes that were handed in: n of them at na, f, not in the block g. -/
def Src (w : World) (na : Option Addr) (n g : Nat) (f : Nat → Nat) : Prop := ∀ j, j < n → ∃ b o, na = some ⟨b, o, none⟩ ∧ b ≠ g ∧ b < w.heap.size ∧ w.cell? ⟨b, o + j, none⟩ = some (.int .u8 (f j : Nat))
/-- The bytes that were handed in, behind the Write, the first k struck out. -/
structure InSt (w wq : World) (p q N : Nat) (T : Slots) (A : List Bool) (o : OpV) (B b g n k : Nat) (na : Option Addr) (f : Nat → Nat) : Prop where
  two : Two (U2 w B b g) wq p q N T A T A
  kp : Kp w wq
  row : wq.heap[B]? = some (oRow o)
  own : ∃ f', BS wq g 0 n f' ∧ ∀ j, k ≤ j → j < n → f' j = f j
  src : Src wq na n g f
theorem InSt.dot {w wq : World} {p q N : Nat} {T : Slots} {A : List Bool} {o : OpV} {B b g n k : Nat} {na : Option Addr} {f : Nat → Nat} (h : InSt w wq p q N T A o B b g n k na f) (hk : k < n) (h1 : w.heap.size ≤ g) (h2 : B ≠ g) :
    wq.cell? ⟨g, k, none⟩ = some (.int .u8 (f k : Nat)) ∧ wq.frozen? ⟨g, k, none⟩ = false ∧ (∃ pb po, na = some ⟨pb, po, none⟩ ∧ wq.cell? ⟨pb, po + k, none⟩ = some (.int .u8 (f k : Nat))) ∧ Hid (InSt w ((wq.setCell ⟨g, k, none⟩ (.int .u8 238)).drew) p q N T A o B b g n (k + 1) na f) := by
  obtain ⟨f', hf, hl⟩ := h.own
  have c1 := hf.cell k hk
  have c2 := hf.frz k hk
  have c3 := hf.set k 238 hk (by decide)
  rw [hl k (Nat.le_refl _) hk] at c1
  rw [Nat.zero_add] at c1 c2 c3
  obtain ⟨pb, po, s1, s2, s3, s4⟩ := h.src k hk
  have kd : Kp (wq.setCell ⟨g, k, none⟩ (.int .u8 238)) (wq.setCell ⟨g, k, none⟩ (.int .u8 238)).drew := (Kp.refl _).drew
  have kf : Fr (fun z => z = g) wq (wq.setCell ⟨g, k, none⟩ (.int .u8 238)) := (Fr.refl _ wq).set ⟨g, k, none⟩ (.int .u8 238) rfl
  refine ⟨c1, c2, ⟨pb, po, s1, s4⟩, ⟨(h.two.out kf (fun i hi e => hi.2.2 e)).kp kd, (h.kp.set _ _ h1).trans kd, (heap_setCell_other wq ⟨g, k, none⟩ B _ h2).trans h.row, ⟨_, c3.kp kd, fun j hj hn => ?_⟩, fun j hj => ?_⟩⟩
  · rw [upd_other _ _ _ _ (by omega)]
    exact hl j (by omega) hn
  · obtain ⟨b', o', r1, r2, r3, r4⟩ := h.src j hj
    exact ⟨b', o', r1, r2, Nat.lt_of_lt_of_le r3 (Fr.size (kf.drew)), ((kf.drew).cell (a := ⟨b', o' + j, none⟩) r3 r2).trans r4⟩
theorem InSt.round {w wq : World} {p q N : Nat} {T : Slots} {A : List Bool} {o : OpV} {B b g n k : Nat} {na : Option Addr} {f : Nat → Nat} (h : InSt w wq p q N T A o B b g n k na f) (ok : o.Ok w) (up : w.heap.size ≤ B) : Round w wq p q N T A o B := ⟨h.two.cut (fun _ _ h => h.1), h.kp, ok, h.row, up⟩
/-- Bytes told, or none, as a string. -/
theorem str_of {w : World} {na : Option Addr} {n cap : Nat} {f : Nat → Nat} (hz : na = none ↔ n = 0) (hs : 0 < n → ∃ B, na = some ⟨B, 0, none⟩ ∧ BS w B 0 n f) : (convert 31 9 (.slice na n cap)).run Try.prog w = .ok (.string (strOf f n)) w := by
  by_cases c : 0 < n
  · obtain ⟨B, rfl, b⟩ := hs c
    exact string_any w B 0 n cap f b.cells
  · have e : n = 0 := by omega
    subst e
    rw [hz.2 rfl]
    exact string_none w cap

end Go.Proofs.Ytcgfifihkbiioaa
