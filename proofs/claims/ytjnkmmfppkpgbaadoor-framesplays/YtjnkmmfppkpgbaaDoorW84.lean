/- FramesPlays: the program's frames beside the document's. -/
import Derived.Test.YtjnkmmfppkpgbaaDoorW83
namespace Go.Proofs.YtjnkmmfppkpgbaaDoor
open Go.RowKit Go.Maps
set_option maxRecDepth 10000

structure TV (W : World) (X S S2 : Nat → Prop) (w : World) (p f pm qm N pool o1 : Nat) (B1 : Nat → Nat → Nat) (C1 : Nat → Nat) (o2 : Nat) (B2 : Nat → Nat → Nat) (C2 : Nat → Nat) : Prop where
  fz : FZ w S p pm N pool o1 B1 C1
  dd : DD w S2 f qm N pool o2 B2 C2
  ap : ∀ k, S k → ¬ S2 k
  kp : Kp W w
  u1 : ∀ k, S k → Out W X k
  u2 : ∀ k, S2 k → Out W X k
  lt : ∀ k, X k → k < w.heap.size
  t0 : 1 < W.heap.size
/-- Both, beside the blocks of X, all behind W. -/
def TW (W : World) (X : Nat → Prop) (w : World) (p f pm qm N pool o1 : Nat) (B1 : Nat → Nat → Nat) (C1 : Nat → Nat) (o2 : Nat) (B2 : Nat → Nat → Nat) (C2 : Nat → Nat) : Prop := ∃ S S2, TV W X S S2 w p f pm qm N pool o1 B1 C1 o2 B2 C2
section
variable {W w w' : World} {X S S' S2 S2' : Nat → Prop} {p f pm qm N pool o1 o2 o' : Nat} {B1 B2 B' : Nat → Nat → Nat} {C1 C2 C' : Nat → Nat}
theorem TV.left (h : TV W X S S2 w p f pm qm N pool o1 B1 C1 o2 B2 C2) (g : FZ w' S' p pm N pool o' B' C') (k : Fr S w w') (l : Less S S' w) : TW W X w' p f pm qm N pool o' B' C' o2 B2 C2 ∧ Fr (Out W X) w w' :=
  ⟨⟨S', S2, g, h.dd.fr k (fun i hi hs => h.ap i hs hi), fun i hi h2 => (l i hi).elim (fun q => h.ap i q h2) (fun q => by have := h.dd.own i h2; omega), k.kp h.kp (fun i hi => (h.u1 i hi).1), fun i hi => (l i hi).elim (h.u1 i) (fun hn => ⟨Nat.le_trans h.kp.size hn, fun hx => by have := h.lt i hx; omega⟩), h.u2, fun i hi => Nat.lt_of_lt_of_le (h.lt i hi) k.size, h.t0⟩, k.mono (fun i _ hi => h.u1 i hi)⟩
theorem TV.right (h : TV W X S S2 w p f pm qm N pool o1 B1 C1 o2 B2 C2) (g : DD w' S2' f qm N pool o' B' C') (k : Fr S2 w w') (l : Less S2 S2' w) : TW W X w' p f pm qm N pool o1 B1 C1 o' B' C' ∧ Fr (Out W X) w w' :=
  have t0 := h.t0
  ⟨⟨S, S2', h.fz.fr k (fun i hi hs => h.ap i hi hs) (fun e => by have := (h.u2 _ e).1; omega), g, fun i hi h2 => (l i h2).elim (fun q => h.ap i hi q) (fun q => by have := h.fz.own i hi; omega), k.kp h.kp (fun i hi => (h.u2 i hi).1), h.u1, fun i hi => (l i hi).elim (h.u2 i) (fun hn => ⟨Nat.le_trans h.kp.size hn, fun hx => by have := h.lt i hx; omega⟩), fun i hi => Nat.lt_of_lt_of_le (h.lt i hi) k.size, h.t0⟩, k.mono (fun i _ hi => h.u2 i hi)⟩
theorem TV.dn (h : TV W X S S2 w p f pm qm N pool o1 B1 C1 o2 B2 C2) (g : DN S2 w w' f qm N pool o' B' C') : TW W X w' p f pm qm N pool o1 B1 C1 o' B' C' ∧ Fr (Out W X) w w' := by
  obtain ⟨S2', g1, g2, g3⟩ := g
  exact h.right g1 g2 g3
theorem TW.kp (h : TW W X w p f pm qm N pool o1 B1 C1 o2 B2 C2) : Kp W w := by
  obtain ⟨S, S2, h⟩ := h
  exact h.kp
theorem TW.tab (h : TW W X w p f pm qm N pool o1 B1 C1 o2 B2 C2) : TAB w := by
  obtain ⟨S, S2, h⟩ := h
  exact h.fz.tab
theorem TW.nums (h : TW W X w p f pm qm N pool o1 B1 C1 o2 B2 C2) : 1 ≤ pool ∧ pool < N ∧ N ≤ 1048576 := by
  obtain ⟨S, S2, h⟩ := h
  exact h.fz.nums
theorem TW.top (h : TW W X w p f pm qm N pool o1 B1 C1 o2 B2 C2) : ∀ x, C1 x ≤ 1073741824 := by
  obtain ⟨S, S2, h⟩ := h
  exact h.fz.2
theorem TW.kps (h : TW W X w p f pm qm N pool o1 B1 C1 o2 B2 C2) (k : Kp w w') : TW W X w' p f pm qm N pool o1 B1 C1 o2 B2 C2 := by
  obtain ⟨S, S2, h⟩ := h
  exact ⟨S, S2, h.fz.kp k, h.dd.fr (k.fr (fun _ => False)) (fun _ _ => id), h.ap, h.kp.trans k, h.u1, h.u2, fun i hi => Nat.lt_of_lt_of_le (h.lt i hi) k.size, h.t0⟩
theorem TW.more (h : TW W X w p f pm qm N pool o1 B1 C1 o2 B2 C2) (k : Kp w w') (b : Nat) (hb : w.heap.size ≤ b) (hl : b < w'.heap.size) : TW W (fun i => X i ∨ i = b) w' p f pm qm N pool o1 B1 C1 o2 B2 C2 := by
  obtain ⟨S, S2, h⟩ := h
  exact ⟨S, S2, h.fz.kp k, h.dd.fr (k.fr (fun _ => False)) (fun _ _ => id), h.ap, h.kp.trans k, fun i hi => ⟨(h.u1 i hi).1, fun e => e.elim (h.u1 i hi).2 (fun e => by have := h.fz.own i hi; omega)⟩, fun i hi => ⟨(h.u2 i hi).1, fun e => e.elim (h.u2 i hi).2 (fun e => by have := h.dd.own i hi; omega)⟩, fun i hi => hi.elim (fun hi => Nat.lt_of_lt_of_le (h.lt i hi) k.size) (fun e => by omega), h.t0⟩
theorem TW.less {Y : Nat → Prop} (h : TW W X w p f pm qm N pool o1 B1 C1 o2 B2 C2) (hY : ∀ i, Y i → X i) : TW W Y w p f pm qm N pool o1 B1 C1 o2 B2 C2 := by
  obtain ⟨S, S2, h⟩ := h
  exact ⟨S, S2, h.fz, h.dd, h.ap, h.kp, fun i hi => ⟨(h.u1 i hi).1, fun e => (h.u1 i hi).2 (hY i e)⟩, fun i hi => ⟨(h.u2 i hi).1, fun e => (h.u2 i hi).2 (hY i e)⟩, fun i hi => h.lt i (hY i hi), h.t0⟩

/-! ### the program's -/
theorem tpt (h : TW W X w p f pm qm N pool o1 B1 C1 o2 B2 C2) (r : Option Nat) (hr : TkR (fT pool C1) 0 r) :
    Calls Tryd.prog 12 #[.pointer (some ⟨p, 0, none⟩)] w fun e w' => e = .returned (.tuple #[.int .i64 (gotX r : Nat), .int .i64 (gotE r 11)]) ∧ TW W X w' p f pm qm N pool o1 (gotB B1 r 1) (gotC C1 r 1) o2 B2 C2 ∧ Fr (Out W X) w w' := by
  obtain ⟨S, S2, h⟩ := h
  exact (ftable_any h.fz r hr).mono fun e w' ⟨e1, e2, e3⟩ => ⟨e1, h.left e2 e3 (Less.refl _ _)⟩
theorem tpp (h : TW W X w p f pm qm N pool o1 B1 C1 o2 B2 C2) (r : Option Nat) (hr : TkR (fP pool N C1) 0 r) :
    Calls Tryd.prog 14 #[.pointer (some ⟨p, 0, none⟩)] w fun e w' => e = .returned (.tuple #[.int .i64 (gotX r : Nat), .int .i64 (gotE r 10)]) ∧ TW W X w' p f pm qm N pool o1 (gotB B1 r 1) (gotC C1 r 1) o2 B2 C2 ∧ Fr (Out W X) w w' := by
  obtain ⟨S, S2, h⟩ := h
  exact (fpage_any h.fz r hr).mono fun e w' ⟨e1, e2, e3⟩ => ⟨e1, h.left e2 e3 (Less.refl _ _)⟩
theorem tpb (h : TW W X w p f pm qm N pool o1 B1 C1 o2 B2 C2) (r : Option Nat) (hr : TkR (fP pool N C1) 9 r) :
    Calls Tryd.prog 16 #[.pointer (some ⟨p, 0, none⟩)] w fun e w' => e = .returned (.tuple #[.int .i64 (gotX r : Nat), .int .i64 (gotE r 10)]) ∧ TW W X w' p f pm qm N pool o1 (gotB B1 r 512) (gotC C1 r 512) o2 B2 C2 ∧ Fr (Out W X) w w' := by
  obtain ⟨S, S2, h⟩ := h
  exact (fblock_any h.fz r hr).mono fun e w' ⟨e1, e2, e3⟩ => ⟨e1, h.left e2 e3 (Less.refl _ _)⟩
theorem tpr (h : TW W X w p f pm qm N pool o1 B1 C1 o2 B2 C2) (x : Int) (hx : (Lit.int .i64 x).wf = true) :
    Calls Tryd.prog 18 #[.pointer (some ⟨p, 0, none⟩), .int .i64 x] w fun e w' => e = .returned (.tuple #[.int .i64 (refN C1 x : Nat), .int .i64 (refE C1 x)]) ∧ TW W X w' p f pm qm N pool o1 B1 (refC C1 x) o2 B2 C2 ∧ Fr (Out W X) w w' := by
  obtain ⟨S, S2, h⟩ := h
  exact (sref_any h.fz x hx).mono fun e w' ⟨e1, e2, e3⟩ => ⟨e1, h.left e2 e3 (Less.refl _ _)⟩
theorem tpd (h : TW W X w p f pm qm N pool o1 B1 C1 o2 B2 C2) (x : Int) (hx : (Lit.int .i64 x).wf = true) :
    Calls Tryd.prog 20 #[.pointer (some ⟨p, 0, none⟩), .int .i64 x] w fun e w' => e = .returned (.tuple #[.int .i64 (dropN C1 x : Nat), .int .i64 (dropE C1 x)]) ∧ TW W X w' p f pm qm N pool o1 (dropB B1 C1 x) (dropC C1 x) o2 B2 C2 ∧ Fr (Out W X) w w' := by
  obtain ⟨S, S2, h⟩ := h
  exact (sdrop_any h.fz x hx).mono fun e w' ⟨e1, e2, e3⟩ => ⟨e1, h.left e2 e3 (Less.refl _ _)⟩
theorem tpw (h : TW W X w p f pm qm N pool o1 B1 C1 o2 B2 C2) (addr s v : Nat) (ha : addr < 18446744073709551616) (hc : chkP N addr s = 0) (hv : v < 18446744073709551616) (ho : o1 < 4611686018427387904) :
    Calls Tryd.prog 22 #[.pointer (some ⟨pm, 0, none⟩), .int .u64 (addr : Int), .int .i64 (s : Int), .int .u64 (v : Int)] w fun e w' => e = .returned (.int .i64 0) ∧ TW W X w' p f pm qm N pool (o1 + 1) (putFr B1 (addr / 4096) (putF (B1 (addr / 4096)) (addr % 4096) s v)) C1 o2 B2 C2 ∧ Fr (Out W X) w w' := by
  obtain ⟨S, S2, h⟩ := h
  exact (swrite_ok h.fz addr s v ha hc hv ho).mono fun e w' ⟨e1, S', e2, e3, e4⟩ => ⟨e1, h.left e2 e3 e4⟩
theorem tpwn (h : TW W X w p f pm qm N pool o1 B1 C1 o2 B2 C2) (addr : Nat) (s r v : Int) (ha : addr < 18446744073709551616) (hc : chkP N addr s = r) (hr : r ≠ 0) :
    Calls Tryd.prog 22 #[.pointer (some ⟨pm, 0, none⟩), .int .u64 (addr : Int), .int .i64 s, .int .u64 v] w fun e w' => e = .returned (.int .i64 r) ∧ w' = w := by
  obtain ⟨S, S2, h⟩ := h
  exact swrite_no h.fz addr s r v ha hc hr
theorem tpc (h : TW W X w p f pm qm N pool o1 B1 C1 o2 B2 C2) (x : Int) (hx : (Lit.int .i64 x).wf = true) :
    Calls Tryd.prog 26 #[.pointer (some ⟨p, 0, none⟩), .int .i64 x] w fun e w' => e = .returned (.int .i64 (cI C1 x : Nat)) ∧ w' = w := by
  obtain ⟨S, S2, h⟩ := h
  exact scount_any h.fz x hx
theorem tpf (h : TW W X w p f pm qm N pool o1 B1 C1 o2 B2 C2) :
    Calls Tryd.prog 24 #[.pointer (some ⟨p, 0, none⟩)] w fun e w' => e = .returned (.tuple #[.int .i64 (cnt (fP pool N C1) N : Nat), .int .i64 (cnt (fT pool C1) pool : Nat)]) ∧ Dr w w' := by
  obtain ⟨S, S2, h⟩ := h
  exact sfree_any h.fz
theorem tpz (h : TW W X w p f pm qm N pool o1 B1 C1 o2 B2 C2) (x : Int) (hx : (Lit.int .i64 x).wf = true) :
    Calls Tryd.prog 28 #[.pointer (some ⟨pm, 0, none⟩), .int .i64 x] w fun e w' => e = .returned (.bool (clearF N B1 x)) ∧ w' = w := by
  obtain ⟨S, S2, h⟩ := h
  exact sclear_any h.fz x hx

/-! ### the document's -/
theorem tdt (h : TW W X w p f pm qm N pool o1 B1 C1 o2 B2 C2) (r : Option Nat) (hr : TkR (fT pool C2) 0 r) :
    Calls Tryd.prog 13 #[.pointer (some ⟨f, 0, none⟩)] w fun e w' => e = .returned (.tuple #[.int .i64 (gotX r : Nat), .int .i64 (gotE r 11)]) ∧ TW W X w' p f pm qm N pool o1 B1 C1 o2 (gotB B2 r 1) (gotC C2 r 1) ∧ Fr (Out W X) w w' := by
  obtain ⟨S, S2, h⟩ := h
  exact (dtable_any h.dd r hr).mono fun e w' ⟨e1, e2⟩ => ⟨e1, h.dn e2⟩
theorem tdp (h : TW W X w p f pm qm N pool o1 B1 C1 o2 B2 C2) (r : Option Nat) (hr : TkR (fP pool N C2) 0 r) :
    Calls Tryd.prog 15 #[.pointer (some ⟨f, 0, none⟩)] w fun e w' => e = .returned (.tuple #[.int .i64 (gotX r : Nat), .int .i64 (gotE r 10)]) ∧ TW W X w' p f pm qm N pool o1 B1 C1 o2 (gotB B2 r 1) (gotC C2 r 1) ∧ Fr (Out W X) w w' := by
  obtain ⟨S, S2, h⟩ := h
  exact (dpage_any h.dd r hr).mono fun e w' ⟨e1, e2⟩ => ⟨e1, h.dn e2⟩
theorem tdb (h : TW W X w p f pm qm N pool o1 B1 C1 o2 B2 C2) (r : Option Nat) (hr : TkR (fP pool N C2) 9 r) :
    Calls Tryd.prog 17 #[.pointer (some ⟨f, 0, none⟩)] w fun e w' => e = .returned (.tuple #[.int .i64 (gotX r : Nat), .int .i64 (gotE r 10)]) ∧ TW W X w' p f pm qm N pool o1 B1 C1 o2 (gotB B2 r 512) (gotC C2 r 512) ∧ Fr (Out W X) w w' := by
  obtain ⟨S, S2, h⟩ := h
  exact (dblock_any h.dd r hr).mono fun e w' ⟨e1, e2⟩ => ⟨e1, h.dn e2⟩
theorem tdr (h : TW W X w p f pm qm N pool o1 B1 C1 o2 B2 C2) (x : Int) (hx : (Lit.int .i64 x).wf = true) :
    Calls Tryd.prog 19 #[.pointer (some ⟨f, 0, none⟩), .int .i64 x] w fun e w' => e = .returned (.tuple #[.int .i64 (refN C2 x : Nat), .int .i64 (refE C2 x)]) ∧ TW W X w' p f pm qm N pool o1 B1 C1 o2 B2 (refC C2 x) ∧ Fr (Out W X) w w' := by
  obtain ⟨S, S2, h⟩ := h
  exact (dref_any h.dd x hx).mono fun e w' ⟨e1, e2⟩ => ⟨e1, h.dn e2⟩
theorem tdd (h : TW W X w p f pm qm N pool o1 B1 C1 o2 B2 C2) (x : Int) (hx : (Lit.int .i64 x).wf = true) :
    Calls Tryd.prog 21 #[.pointer (some ⟨f, 0, none⟩), .int .i64 x] w fun e w' => e = .returned (.tuple #[.int .i64 (dropN C2 x : Nat), .int .i64 (dropE C2 x)]) ∧ TW W X w' p f pm qm N pool o1 B1 C1 o2 (dropB B2 C2 x) (dropC C2 x) ∧ Fr (Out W X) w w' := by
  obtain ⟨S, S2, h⟩ := h
  exact (ddrop_any h.dd x hx).mono fun e w' ⟨e1, e2⟩ => ⟨e1, h.dn e2⟩
theorem tdw (h : TW W X w p f pm qm N pool o1 B1 C1 o2 B2 C2) (addr s v : Nat) (hc : chkP N addr s = 0) (hv : v < 18446744073709551616) (ho : o2 < 4611686018427387904) :
    Calls Tryd.prog 23 #[.pointer (some ⟨qm, 0, none⟩), .int .u64 (addr : Int), .int .i64 (s : Int), .int .u64 (v : Int)] w fun e w' => e = .returned (.int .i64 0) ∧ TW W X w' p f pm qm N pool o1 B1 C1 (o2 + 1) (putFr B2 (addr / 4096) (putF (B2 (addr / 4096)) (addr % 4096) s v)) C2 ∧ Fr (Out W X) w w' := by
  obtain ⟨S, S2, h⟩ := h
  exact (dwrite_ok h.dd addr s v hc hv ho).mono fun e w' ⟨e1, e2⟩ => ⟨e1, h.dn e2⟩
theorem tdwn (h : TW W X w p f pm qm N pool o1 B1 C1 o2 B2 C2) (addr : Nat) (s r v : Int) (hc : chkP N addr s = r) (hr : r ≠ 0) :
    Calls Tryd.prog 23 #[.pointer (some ⟨qm, 0, none⟩), .int .u64 (addr : Int), .int .i64 s, .int .u64 v] w fun e w' => e = .returned (.int .i64 r) ∧ w' = w := by
  obtain ⟨S, S2, h⟩ := h
  exact dwrite_no h.dd addr s r v hc hr
theorem tdc (h : TW W X w p f pm qm N pool o1 B1 C1 o2 B2 C2) (x : Int) (hx : (Lit.int .i64 x).wf = true) :
    Calls Tryd.prog 27 #[.pointer (some ⟨f, 0, none⟩), .int .i64 x] w fun e w' => e = .returned (.int .i64 (cI C2 x : Nat)) ∧ w' = w := by
  obtain ⟨S, S2, h⟩ := h
  exact dcount_any h.dd x hx
theorem tdf (h : TW W X w p f pm qm N pool o1 B1 C1 o2 B2 C2) :
    Calls Tryd.prog 25 #[.pointer (some ⟨f, 0, none⟩)] w fun e w' => e = .returned (.tuple #[.int .i64 (cnt (fP pool N C2) N : Nat), .int .i64 (cnt (fT pool C2) pool : Nat)]) ∧ Dr w w' := by
  obtain ⟨S, S2, h⟩ := h
  exact dfree_any h.dd
theorem tdz (h : TW W X w p f pm qm N pool o1 B1 C1 o2 B2 C2) (x : Int) (hx : (Lit.int .i64 x).wf = true) :
    Calls Tryd.prog 29 #[.pointer (some ⟨qm, 0, none⟩), .int .i64 x] w fun e w' => e = .returned (.bool (clearF N B2 x)) ∧ w' = w := by
  obtain ⟨S, S2, h⟩ := h
  exact dclear_any h.dd x hx
end

/-- Within a step: its copy lies in the block Bo. -/
structure TJ (W w : World) (p f pm qm N pool o1 : Nat) (B1 : Nat → Nat → Nat) (C1 : Nat → Nat) (o2 : Nat) (B2 : Nat → Nat → Nat) (C2 : Nat → Nat) (Bo : Nat) (a b c : Int) : Prop where
  tw : TW W (fun i => False ∨ i = Bo) w p f pm qm N pool o1 B1 C1 o2 B2 C2
  bl : Bo < w.heap.size
  c0 : w.cell? ⟨Bo, 0, none⟩ = some (.int .i64 a)
  c1 : w.cell? ⟨Bo, 1, none⟩ = some (.int .i64 b)
  c2 : w.cell? ⟨Bo, 2, none⟩ = some (.int .i64 c)
section
variable {W w w' : World} {p f pm qm N pool o1 o2 o1' o2' : Nat} {B1 B2 B1' B2' : Nat → Nat → Nat} {C1 C2 C1' C2' : Nat → Nat} {Bo : Nat} {a b c : Int}
theorem TJ.next (h : TJ W w p f pm qm N pool o1 B1 C1 o2 B2 C2 Bo a b c) (t : TW W (fun i => False ∨ i = Bo) w' p f pm qm N pool o1' B1' C1' o2' B2' C2') (k : Fr (Out W (fun i => False ∨ i = Bo)) w w') : TJ W w' p f pm qm N pool o1' B1' C1' o2' B2' C2' Bo a b c :=
  have nO : ¬ Out W (fun i => False ∨ i = Bo) Bo := fun e => e.2 (.inr rfl)
  ⟨t, Nat.lt_of_lt_of_le h.bl k.size, (k.cell (a := ⟨Bo, 0, none⟩) h.bl nO).trans h.c0, (k.cell (a := ⟨Bo, 1, none⟩) h.bl nO).trans h.c1, (k.cell (a := ⟨Bo, 2, none⟩) h.bl nO).trans h.c2⟩
theorem TJ.kps (h : TJ W w p f pm qm N pool o1 B1 C1 o2 B2 C2 Bo a b c) (k : Kp w w') : TJ W w' p f pm qm N pool o1 B1 C1 o2 B2 C2 Bo a b c := h.next (h.tw.kps k) (k.fr _)
theorem TJ.made (h : TW W (fun _ => False) w p f pm qm N pool o1 B1 C1 o2 B2 C2) : TJ W (w.alloc (.cells #[.int .i64 a, .int .i64 b, .int .i64 c] 38)) p f pm qm N pool o1 B1 C1 o2 B2 C2 w.heap.size a b c :=
  have hr := heap_alloc_new w (.cells #[.int .i64 a, .int .i64 b, .int .i64 c] 38)
  ⟨h.more ((Kp.refl w).alloc _) w.heap.size (Nat.le_refl _) (by simp), by simp, by rw [cell_of_row _ _ 0 _ _ _ hr]; rfl, by rw [cell_of_row _ _ 1 _ _ _ hr]; rfl, by rw [cell_of_row _ _ 2 _ _ _ hr]; rfl⟩
end
theorem tnew_ok {W w : World} {M T : Nat → Prop} {pm qm N o1 o2 : Nat} {B1 B2 : Nat → Nat → Nat} (hW : Kp W w) (TT : TAB W) (h1 : PM w M pm N o1 B1) (h2 : RM w T qm N o2 B2) (hM : ∀ k, M k → W.heap.size ≤ k) (hT : ∀ k, T k → W.heap.size ≤ k) (ha : ∀ k, M k → ¬ T k) (pool : Nat) (p1 : 1 ≤ pool) (p2 : pool ≤ 4096) (p3 : pool < N) :
    Calls Tryd.prog 10 #[.pointer (some ⟨pm, 0, none⟩), .int .i64 (pool : Int)] w fun e w' => (∃ p, e = .returned (.tuple #[.pointer (some ⟨p, 0, none⟩), .int .i64 0]) ∧ Calls Tryd.prog 11 #[.pointer (some ⟨qm, 0, none⟩), .int .i64 (pool : Int)] w' fun e' w'' => ∃ f, e' = .returned (.tuple #[.pointer (some ⟨f, 0, none⟩), .int .i64 0]) ∧ TW W (fun _ => False) w'' p f pm qm N pool o1 B1 (fun _ => 0) o2 B2 (fun _ => 0)) := by
  have t0 := TT.lt
  refine (fnew_ok h1 (TT.kp hW) (fun e => by have := hM _ e; omega) pool p1 p2 p3).mono fun e w' ⟨⟨p, S, e1, e2, e3⟩, e4⟩ => ⟨p, e1, ?_⟩
  refine (dnew_ok (h2.kp e4) pool p1 p2 p3).mono fun e' w'' ⟨⟨f, S2, g1, g2, g3⟩, g4⟩ => ⟨f, g1, S, S2, e2.kp g4, g2, fun k hk h2k => ?_, hW.trans (e4.trans g4), fun k hk => ⟨(e3 k hk).elim (hM k) (Nat.le_trans hW.size), id⟩, fun k hk => ⟨(g3 k hk).elim (hT k) (fun q => Nat.le_trans hW.size (Nat.le_trans e4.size q)), id⟩, fun _ hx => hx.elim, t0⟩
  rcases g3 k h2k with q | q
  · rcases e3 k hk with z | z
    · exact ha k z q
    · have := h2.own k q; omega
  · have := e2.own k hk; omega
end Go.Proofs.YtjnkmmfppkpgbaaDoor
