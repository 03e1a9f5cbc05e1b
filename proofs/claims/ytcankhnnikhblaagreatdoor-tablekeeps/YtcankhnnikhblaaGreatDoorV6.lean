/- Frames beside other things of a law; told. -/
import Derived.Test.YtcankhnnikhblaaGreatDoorJW
import Derived.Test.YtcankhnnikhblaaGreatDoorTK
import Derived.LaidEqlPtr
namespace Go.Proofs.YtcankhnnikhblaaGreatDoor
open Go.RowKit Go.Maps
set_option maxRecDepth 10000

/-- What lay ahead of W lies; what is not of X is free to the frames. -/
def Out (W : World) (X : Nat → Prop) : Nat → Prop := fun k => W.heap.size ≤ k ∧ ¬ X k
structure FB (W : World) (X S : Nat → Prop) (w : World) (p pm N pool ops : Nat) (B : Nat → Nat → Nat) (C : Nat → Nat) : Prop where
  fs : FZ w S p pm N pool ops B C
  kp : Kp W w
  out : ∀ k, S k → Out W X k
  lt : ∀ k, X k → k < w.heap.size
  t0 : 1 < W.heap.size
/-- The frames at p, beside the blocks of X, all behind W. -/
def FK (W : World) (X : Nat → Prop) (w : World) (p pm N pool ops : Nat) (B : Nat → Nat → Nat) (C : Nat → Nat) : Prop := ∃ S, FB W X S w p pm N pool ops B C
section
variable {W w w' : World} {X S S' : Nat → Prop} {p pm N pool ops ops' : Nat} {B B' : Nat → Nat → Nat} {C C' : Nat → Nat}
theorem FK.kp (h : FK W X w p pm N pool ops B C) : Kp W w := by
  obtain ⟨S, h⟩ := h
  exact h.kp
theorem FK.nums (h : FK W X w p pm N pool ops B C) : 1 ≤ pool ∧ pool < N ∧ N ≤ 1048576 := by
  obtain ⟨S, h⟩ := h
  exact h.fs.nums
theorem FK.dom (h : FK W X w p pm N pool ops B C) : ∀ x, C x ≠ 0 → x < N := by
  obtain ⟨S, h⟩ := h
  exact h.fs.dom
theorem FK.top (h : FK W X w p pm N pool ops B C) : ∀ x, C x ≤ 1073741824 := by
  obtain ⟨S, h⟩ := h
  exact h.fs.2
theorem FK.tab (h : FK W X w p pm N pool ops B C) : TAB w := by
  obtain ⟨S, h⟩ := h
  exact h.fs.tab
theorem FK.kps (h : FK W X w p pm N pool ops B C) (k : Kp w w') : FK W X w' p pm N pool ops B C := by
  obtain ⟨S, h⟩ := h
  exact ⟨S, h.fs.kp k, h.kp.trans k, h.out, fun i hi => Nat.lt_of_lt_of_le (h.lt i hi) k.size, h.t0⟩
/-- A change of blocks of X alone. -/
theorem FK.frX (h : FK W X w p pm N pool ops B C) {Y : Nat → Prop} (k : Fr Y w w') (hY : ∀ i, Y i → W.heap.size ≤ i ∧ X i) : FK W X w' p pm N pool ops B C := by
  obtain ⟨S, h⟩ := h
  have t0 := h.t0
  exact ⟨S, h.fs.fr k (fun i hi hy => (h.out i hi).2 (hY i hy).2) (fun hy => by have := (hY _ hy).1; omega), k.kp h.kp (fun i hi => (hY i hi).1), h.out, fun i hi => Nat.lt_of_lt_of_le (h.lt i hi) k.size, h.t0⟩
/-- A block more beside. -/
theorem FK.more (h : FK W X w p pm N pool ops B C) (k : Kp w w') (b : Nat) (hb : w.heap.size ≤ b) (hl : b < w'.heap.size) : FK W (fun i => X i ∨ i = b) w' p pm N pool ops B C := by
  obtain ⟨S, h⟩ := h
  exact ⟨S, h.fs.kp k, h.kp.trans k, fun i hi => ⟨(h.out i hi).1, fun e => e.elim (h.out i hi).2 (fun e => by have := h.fs.own i hi; omega)⟩, fun i hi => hi.elim (fun hi => Nat.lt_of_lt_of_le (h.lt i hi) k.size) (fun e => by omega), h.t0⟩
theorem FB.next (h : FB W X S w p pm N pool ops B C) (f : FZ w' S' p pm N pool ops' B' C') (k : Fr S w w') (l : Less S S' w) : FK W X w' p pm N pool ops' B' C' ∧ Fr (Out W X) w w' :=
  ⟨⟨S', f, k.kp h.kp (fun i hi => (h.out i hi).1), fun i hi => (l i hi).elim (h.out i) (fun hn => ⟨Nat.le_trans h.kp.size hn, fun hx => by have := h.lt i hx; omega⟩), fun i hi => Nat.lt_of_lt_of_le (h.lt i hi) k.size, h.t0⟩, k.mono (fun i _ hi => h.out i hi)⟩
theorem FB.next' (h : FB W X S w p pm N pool ops B C) (f : FZ w' S p pm N pool ops' B' C') (k : Fr S w w') : FK W X w' p pm N pool ops' B' C' ∧ Fr (Out W X) w w' := h.next f k (fun _ => .inl)
theorem knew_ok {M : Nat → Prop} (h : PM w M pm N ops B) (hW : Kp W w) (T : TAB W) (hM : ∀ k, M k → W.heap.size ≤ k) (pool : Nat) (h1 : 1 ≤ pool) (h2 : pool ≤ 4096) (h3 : pool < N) :
    Calls Tryz.prog 35 #[.pointer (some ⟨pm, 0, none⟩), .int .i64 (pool : Int)] w fun e w' => (∃ p, e = .returned (.tuple #[.pointer (some ⟨p, 0, none⟩), .int .i64 0]) ∧ FK W (fun _ => False) w' p pm N pool ops B (fun _ => 0)) ∧ Kp w w' :=
  have t0 := T.lt
  (fnew_ok h (T.kp hW) (fun e => by have := hM _ e; omega) pool h1 h2 h3).mono fun e w' ⟨⟨p, S, e1, e2, e3⟩, e4⟩ => ⟨⟨p, e1, S, e2, hW.trans e4, fun k hk => ⟨(e3 k hk).elim (hM k) (Nat.le_trans hW.size), id⟩, fun _ hx => hx.elim, t0⟩, e4⟩
theorem kmem_any (h : FK W X w p pm N pool ops B C) :
    Calls Tryz.prog 97 #[.pointer (some ⟨p, 0, none⟩)] w fun e w' => e = .returned (.pointer (some ⟨pm, 0, none⟩)) ∧ w' = w := by
  obtain ⟨S, h⟩ := h
  exact smem_any h.fs
theorem kfree_any (h : FK W X w p pm N pool ops B C) :
    Calls Tryz.prog 13 #[.pointer (some ⟨p, 0, none⟩)] w fun e w' => e = .returned (.tuple #[.int .i64 (cnt (fP pool N C) N : Nat), .int .i64 (cnt (fT pool C) pool : Nat)]) ∧ Dr w w' := by
  obtain ⟨S, h⟩ := h
  exact sfree_any h.fs
theorem kwrite_ok (h : FK W X w p pm N pool ops B C) (addr s v : Nat) (ha : addr < 18446744073709551616) (hc : chkP N addr s = 0) (hv : v < 18446744073709551616) (ho : ops < 4611686018427387904) :
    Calls Tryz.prog 102 #[.pointer (some ⟨pm, 0, none⟩), .int .u64 (addr : Int), .int .i64 (s : Int), .int .u64 (v : Int)] w fun e w' => e = .returned (.int .i64 0) ∧ FK W X w' p pm N pool (ops + 1) (putFr B (addr / 4096) (putF (B (addr / 4096)) (addr % 4096) s v)) C ∧ Fr (Out W X) w w' := by
  obtain ⟨S, h⟩ := h
  exact (swrite_ok h.fs addr s v ha hc hv ho).mono fun e w' ⟨e1, S', e2, e3, e4⟩ => ⟨e1, h.next e2 e3 e4⟩
theorem ktable_any (h : FK W X w p pm N pool ops B C) (r : Option Nat) (hr : TkR (fT pool C) 0 r) :
    Calls Tryz.prog 36 #[.pointer (some ⟨p, 0, none⟩)] w fun e w' => e = .returned (.tuple #[.int .i64 (gotX r : Nat), .int .i64 (gotE r 11)]) ∧ FK W X w' p pm N pool ops (gotB B r 1) (gotC C r 1) ∧ Fr (Out W X) w w' := by
  obtain ⟨S, h⟩ := h
  exact (ftable_any h.fs r hr).mono fun e w' ⟨e1, e2, e3⟩ => ⟨e1, h.next' e2 e3⟩
theorem kdrop_any (h : FK W X w p pm N pool ops B C) (x : Int) (hx : (Lit.int .i64 x).wf = true) :
    Calls Tryz.prog 74 #[.pointer (some ⟨p, 0, none⟩), .int .i64 x] w fun e w' => e = .returned (.tuple #[.int .i64 (dropN C x : Nat), .int .i64 (dropE C x)]) ∧ FK W X w' p pm N pool ops (dropB B C x) (dropC C x) ∧ Fr (Out W X) w w' := by
  obtain ⟨S, h⟩ := h
  exact (sdrop_any h.fs x hx).mono fun e w' ⟨e1, e2, e3⟩ => ⟨e1, h.next' e2 e3⟩
end

/-! ### told -/
theorem fT_dom (pool : Nat) (C : Nat → Nat) : ∀ k, fT pool C k = true → k < pool := fun _ hk => ((fT_iff ..).1 hk).1
theorem fP_dom (pool N : Nat) (C : Nat → Nat) : ∀ k, fP pool N C k = true → k < N := fun _ hk => ((fP_iff ..).1 hk).2.1
theorem tkr_some {F : Nat → Bool} {hi o o' i x : Nat} (dom : ∀ k, F k = true → k < hi) (h : tkB F hi o o' i = true) (hx : x = i * 2 ^ o') : TkR F o (some x) := ⟨o', i, tk_of dom h, hx⟩
def tC1 : Nat → Nat := gotC (fun _ => 0) (some 0) 1
def tC2 : Nat → Nat := gotC tC1 (some 1) 1
def tC3 : Nat → Nat := gotC tC2 none 1
def tC4 : Nat → Nat := gotC tC3 (some 2) 1
def tC5 : Nat → Nat := refC tC4 2
def tC6 : Nat → Nat := gotC tC5 none 512
theorem t_one : TkR (fT 2 (fun _ => 0)) 0 (some 0) := tkr_some (hi := 2) (o' := 1) (i := 0) (fT_dom _ _) (by decide +kernel) rfl
theorem t_two : TkR (fT 2 tC1) 0 (some 1) := tkr_some (hi := 2) (o' := 0) (i := 1) (fT_dom _ _) (by decide +kernel) rfl
theorem t_three : TkR (fT 2 tC2) 0 none := no_of (hi := 2) (fT_dom _ _) (by decide +kernel)
theorem t_four : TkR (fP 2 6 tC3) 0 (some 2) := tkr_some (hi := 6) (o' := 1) (i := 1) (fP_dom _ _ _) (by decide +kernel) rfl
theorem t_five : TkR (fP 2 6 tC5) 9 none := no_of (hi := 6) (fP_dom _ _ _) (by decide +kernel)
theorem t_rest : refN tC4 2 = 2 ∧ refE tC4 2 = 0 ∧ cnt (fP 2 6 tC5) 6 = 3 ∧ cnt (fT 2 tC5) 2 = 0 ∧ cI tC6 2 = 2 ∧ cI tC6 9 = 0 := by decide +kernel
theorem eql_mem (pm : Nat) (w : World) : (binOp .eql 23 (.pointer (some ⟨pm, 0, none⟩)) (.pointer (some ⟨pm, 0, none⟩))).run Tryz.prog w = .ok (.bool true) w := by
  obtain ⟨i, hi⟩ : ∃ i, Tryz.prog.info? 113 = some i := Option.isSome_iff_exists.1 (by kernel_rfl)
  exact run_eql_ptr_same w _ Tryz.underlying23 hi
end Go.Proofs.YtcankhnnikhblaaGreatDoor
