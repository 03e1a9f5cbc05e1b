/- Frames beside other things of a law; told. -/
import Derived.Test.YtjnkmmfppkpgbaaDoorV5
import Derived.Test.YtjnkmmfppkpgbaaDoorTK
import Derived.LaidEqlPtr
namespace Go.Proofs.YtjnkmmfppkpgbaaDoor
open Go.RowKit Go.Maps
set_option maxRecDepth 10000

/-- What lay ahead of W lies; what is not of X is free to the frames. -/
def Out (W : World) (X : Nat → Prop) : Nat → Prop := fun k => W.heap.size ≤ k ∧ ¬ X k
structure FB (W : World) (X S : Nat → Prop) (w : World) (p pm N pool ops : Nat) (B : Nat → Nat → Nat) (C : Nat → Nat) : Prop where
  fs : FZ w S p pm N pool ops B C
  kp : Kp W w
  out : ∀ k, S k → Out W X k
  lt : ∀ k, X k → k < w.heap.size
  t0 : 1 < W.heap.size
/-- The frames at p, beside the blocks of X, all behind W. -/
def FK (W : World) (X : Nat → Prop) (w : World) (p pm N pool ops : Nat) (B : Nat → Nat → Nat) (C : Nat → Nat) : Prop := ∃ S, FB W X S w p pm N pool ops B C
section
variable {W w w' : World} {X S S' : Nat → Prop} {p pm N pool ops ops' : Nat} {B B' : Nat → Nat → Nat} {C C' : Nat → Nat}
theorem FK.kp (h : FK W X w p pm N pool ops B C) : Kp W w := by
  obtain ⟨S, h⟩ := h
  exact h.kp
theorem FK.nums (h : FK W X w p pm N pool ops B C) : 1 ≤ pool ∧ pool < N ∧ N ≤ 1048576 := by
  obtain ⟨S, h⟩ := h
  exact h.fs.nums
theorem FK.dom (h : FK W X w p pm N pool ops B C) : ∀ x, C x ≠ 0 → x < N := by
  obtain ⟨S, h⟩ := h
  exact h.fs.dom
theorem FK.top (h : FK W X w p pm N pool ops B C) : ∀ x, C x ≤ 1073741824 := by
  obtain ⟨S, h⟩ := h
  exact h.fs.2
theorem FK.tab (h : FK W X w p pm N pool ops B C) : TAB w := by
  obtain ⟨S, h⟩ := h
  exact h.fs.tab
theorem FK.kps (h : FK W X w p pm N pool ops B C) (k : Kp w w') : FK W X w' p pm N pool ops B C := by
  obtain ⟨S, h⟩ := h
  exact ⟨S, h.fs.kp k, h.kp.trans k, h.out, fun i hi => Nat.lt_of_lt_of_le (h.lt i hi) k.size, h.t0⟩
/-- A change of blocks of X alone. -/
theorem FK.frX (h : FK W X w p pm N pool ops B C) {Y : Nat → Prop} (k : Fr Y w w') (hY : ∀ i, Y i → W.heap.size ≤ i ∧ X i) : FK W X w' p pm N pool ops B C := by
  obtain ⟨S, h⟩ := h
  have t0 := h.t0
  exact ⟨S, h.fs.fr k (fun i hi hy => (h.out i hi).2 (hY i hy).2) (fun hy => by have := (hY _ hy).1; omega), k.kp h.kp (fun i hi => (hY i hi).1), h.out, fun i hi => Nat.lt_of_lt_of_le (h.lt i hi) k.size, h.t0⟩
/-- A block more beside. -/
theorem FK.more (h : FK W X w p pm N pool ops B C) (k : Kp w w') (b : Nat) (hb : w.heap.size ≤ b) (hl : b < w'.heap.size) : FK W (fun i => X i ∨ i = b) w' p pm N pool ops B C := by
  obtain ⟨S, h⟩ := h
  exact ⟨S, h.fs.kp k, h.kp.trans k, fun i hi => ⟨(h.out i hi).1, fun e => e.elim (h.out i hi).2 (fun e => by have := h.fs.own i hi; omega)⟩, fun i hi => hi.elim (fun hi => Nat.lt_of_lt_of_le (h.lt i hi) k.size) (fun e => by omega), h.t0⟩
theorem FB.next (h : FB W X S w p pm N pool ops B C) (f : FZ w' S' p pm N pool ops' B' C') (k : Fr S w w') (l : Less S S' w) : FK W X w' p pm N pool ops' B' C' ∧ Fr (Out W X) w w' :=
  ⟨⟨S', f, k.kp h.kp (fun i hi => (h.out i hi).1), fun i hi => (l i hi).elim (h.out i) (fun hn => ⟨Nat.le_trans h.kp.size hn, fun hx => by have := h.lt i hx; omega⟩), fun i hi => Nat.lt_of_lt_of_le (h.lt i hi) k.size, h.t0⟩, k.mono (fun i _ hi => h.out i hi)⟩
theorem FB.next' (h : FB W X S w p pm N pool ops B C) (f : FZ w' S p pm N pool ops' B' C') (k : Fr S w w') : FK W X w' p pm N pool ops' B' C' ∧ Fr (Out W X) w w' := h.next f k (fun _ => .inl)
theorem knew_ok {M : Nat → Prop} (h : PM w M pm N ops B) (hW : Kp W w) (T : TAB W) (hM : ∀ k, M k → W.heap.size ≤ k) (pool : Nat) (h1 : 1 ≤ pool) (h2 : pool ≤ 4096) (h3 : pool < N) :
    Calls Tryd.prog 10 #[.pointer (some ⟨pm, 0, none⟩), .int .i64 (pool : Int)] w fun e w' => (∃ p, e = .returned (.tuple #[.pointer (some ⟨p, 0, none⟩), .int .i64 0]) ∧ FK W (fun _ => False) w' p pm N pool ops B (fun _ => 0)) ∧ Kp w w' :=
  have t0 := T.lt
  (fnew_ok h (T.kp hW) (fun e => by have := hM _ e; omega) pool h1 h2 h3).mono fun e w' ⟨⟨p, S, e1, e2, e3⟩, e4⟩ => ⟨⟨p, e1, S, e2, hW.trans e4, fun k hk => ⟨(e3 k hk).elim (hM k) (Nat.le_trans hW.size), id⟩, fun _ hx => hx.elim, t0⟩, e4⟩
theorem kcount_any (h : FK W X w p pm N pool ops B C) (x : Int) (hx : (Lit.int .i64 x).wf = true) :
    Calls Tryd.prog 26 #[.pointer (some ⟨p, 0, none⟩), .int .i64 x] w fun e w' => e = .returned (.int .i64 (cI C x : Nat)) ∧ w' = w := by
  obtain ⟨S, h⟩ := h
  exact scount_any h.fs x hx
theorem kmem_any (h : FK W X w p pm N pool ops B C) :
    Calls Tryd.prog 30 #[.pointer (some ⟨p, 0, none⟩)] w fun e w' => e = .returned (.pointer (some ⟨pm, 0, none⟩)) ∧ w' = w := by
  obtain ⟨S, h⟩ := h
  exact smem_any h.fs
theorem kfree_any (h : FK W X w p pm N pool ops B C) :
    Calls Tryd.prog 24 #[.pointer (some ⟨p, 0, none⟩)] w fun e w' => e = .returned (.tuple #[.int .i64 (cnt (fP pool N C) N : Nat), .int .i64 (cnt (fT pool C) pool : Nat)]) ∧ Dr w w' := by
  obtain ⟨S, h⟩ := h
  exact sfree_any h.fs
theorem kclear_any (h : FK W X w p pm N pool ops B C) (x : Int) (hx : (Lit.int .i64 x).wf = true) :
    Calls Tryd.prog 28 #[.pointer (some ⟨pm, 0, none⟩), .int .i64 x] w fun e w' => e = .returned (.bool (clearF N B x)) ∧ w' = w := by
  obtain ⟨S, h⟩ := h
  exact sclear_any h.fs x hx
theorem kwrite_ok (h : FK W X w p pm N pool ops B C) (addr s v : Nat) (ha : addr < 18446744073709551616) (hc : chkP N addr s = 0) (hv : v < 18446744073709551616) (ho : ops < 4611686018427387904) :
    Calls Tryd.prog 22 #[.pointer (some ⟨pm, 0, none⟩), .int .u64 (addr : Int), .int .i64 (s : Int), .int .u64 (v : Int)] w fun e w' => e = .returned (.int .i64 0) ∧ FK W X w' p pm N pool (ops + 1) (putFr B (addr / 4096) (putF (B (addr / 4096)) (addr % 4096) s v)) C ∧ Fr (Out W X) w w' := by
  obtain ⟨S, h⟩ := h
  exact (swrite_ok h.fs addr s v ha hc hv ho).mono fun e w' ⟨e1, S', e2, e3, e4⟩ => ⟨e1, h.next e2 e3 e4⟩
theorem ktable_any (h : FK W X w p pm N pool ops B C) (r : Option Nat) (hr : TkR (fT pool C) 0 r) :
    Calls Tryd.prog 12 #[.pointer (some ⟨p, 0, none⟩)] w fun e w' => e = .returned (.tuple #[.int .i64 (gotX r : Nat), .int .i64 (gotE r 11)]) ∧ FK W X w' p pm N pool ops (gotB B r 1) (gotC C r 1) ∧ Fr (Out W X) w w' := by
  obtain ⟨S, h⟩ := h
  exact (ftable_any h.fs r hr).mono fun e w' ⟨e1, e2, e3⟩ => ⟨e1, h.next' e2 e3⟩
theorem kpage_any (h : FK W X w p pm N pool ops B C) (r : Option Nat) (hr : TkR (fP pool N C) 0 r) :
    Calls Tryd.prog 14 #[.pointer (some ⟨p, 0, none⟩)] w fun e w' => e = .returned (.tuple #[.int .i64 (gotX r : Nat), .int .i64 (gotE r 10)]) ∧ FK W X w' p pm N pool ops (gotB B r 1) (gotC C r 1) ∧ Fr (Out W X) w w' := by
  obtain ⟨S, h⟩ := h
  exact (fpage_any h.fs r hr).mono fun e w' ⟨e1, e2, e3⟩ => ⟨e1, h.next' e2 e3⟩
theorem kblock_any (h : FK W X w p pm N pool ops B C) (r : Option Nat) (hr : TkR (fP pool N C) 9 r) :
    Calls Tryd.prog 16 #[.pointer (some ⟨p, 0, none⟩)] w fun e w' => e = .returned (.tuple #[.int .i64 (gotX r : Nat), .int .i64 (gotE r 10)]) ∧ FK W X w' p pm N pool ops (gotB B r 512) (gotC C r 512) ∧ Fr (Out W X) w w' := by
  obtain ⟨S, h⟩ := h
  exact (fblock_any h.fs r hr).mono fun e w' ⟨e1, e2, e3⟩ => ⟨e1, h.next' e2 e3⟩
theorem kref_any (h : FK W X w p pm N pool ops B C) (x : Int) (hx : (Lit.int .i64 x).wf = true) :
    Calls Tryd.prog 18 #[.pointer (some ⟨p, 0, none⟩), .int .i64 x] w fun e w' => e = .returned (.tuple #[.int .i64 (refN C x : Nat), .int .i64 (refE C x)]) ∧ FK W X w' p pm N pool ops B (refC C x) ∧ Fr (Out W X) w w' := by
  obtain ⟨S, h⟩ := h
  exact (sref_any h.fs x hx).mono fun e w' ⟨e1, e2, e3⟩ => ⟨e1, h.next' e2 e3⟩
theorem kdrop_any (h : FK W X w p pm N pool ops B C) (x : Int) (hx : (Lit.int .i64 x).wf = true) :
    Calls Tryd.prog 20 #[.pointer (some ⟨p, 0, none⟩), .int .i64 x] w fun e w' => e = .returned (.tuple #[.int .i64 (dropN C x : Nat), .int .i64 (dropE C x)]) ∧ FK W X w' p pm N pool ops (dropB B C x) (dropC C x) ∧ Fr (Out W X) w w' := by
  obtain ⟨S, h⟩ := h
  exact (sdrop_any h.fs x hx).mono fun e w' ⟨e1, e2, e3⟩ => ⟨e1, h.next' e2 e3⟩
end

/-! ### told -/
theorem fT_dom (pool : Nat) (C : Nat → Nat) : ∀ k, fT pool C k = true → k < pool := fun _ hk => ((fT_iff ..).1 hk).1
theorem fP_dom (pool N : Nat) (C : Nat → Nat) : ∀ k, fP pool N C k = true → k < N := fun _ hk => ((fP_iff ..).1 hk).2.1
theorem tkr_some {F : Nat → Bool} {hi o o' i x : Nat} (dom : ∀ k, F k = true → k < hi) (h : tkB F hi o o' i = true) (hx : x = i * 2 ^ o') : TkR F o (some x) := ⟨o', i, tk_of dom h, hx⟩
def tC1 : Nat → Nat := gotC (fun _ => 0) (some 0) 1
def tC2 : Nat → Nat := gotC tC1 (some 1) 1
def tC3 : Nat → Nat := gotC tC2 none 1
def tC4 : Nat → Nat := gotC tC3 (some 2) 1
def tC5 : Nat → Nat := refC tC4 2
def tC6 : Nat → Nat := gotC tC5 none 512
theorem t_one : TkR (fT 2 (fun _ => 0)) 0 (some 0) := tkr_some (hi := 2) (o' := 1) (i := 0) (fT_dom _ _) (by decide +kernel) rfl
theorem t_two : TkR (fT 2 tC1) 0 (some 1) := tkr_some (hi := 2) (o' := 0) (i := 1) (fT_dom _ _) (by decide +kernel) rfl
theorem t_three : TkR (fT 2 tC2) 0 none := no_of (hi := 2) (fT_dom _ _) (by decide +kernel)
theorem t_four : TkR (fP 2 6 tC3) 0 (some 2) := tkr_some (hi := 6) (o' := 1) (i := 1) (fP_dom _ _ _) (by decide +kernel) rfl
theorem t_five : TkR (fP 2 6 tC5) 9 none := no_of (hi := 6) (fP_dom _ _ _) (by decide +kernel)
theorem t_rest : refN tC4 2 = 2 ∧ refE tC4 2 = 0 ∧ cnt (fP 2 6 tC5) 6 = 3 ∧ cnt (fT 2 tC5) 2 = 0 ∧ cI tC6 2 = 2 ∧ cI tC6 9 = 0 := by decide +kernel
theorem eql_mem (pm : Nat) (w : World) : (binOp .eql 24 (.pointer (some ⟨pm, 0, none⟩)) (.pointer (some ⟨pm, 0, none⟩))).run Tryd.prog w = .ok (.bool true) w := by
  obtain ⟨i, hi⟩ : ∃ i, Tryd.prog.info? 59 = some i := Option.isSome_iff_exists.1 (by kernel_rfl)
  exact run_eql_ptr_same w _ Tryd.underlying24 hi
set_option maxHeartbeats 4000000 in
set_option maxRecDepth 100000 in
theorem ftold_any (w : World) (T : TAB w) : Calls Tryd.prog 7 #[] w fun e w' => e = .returned (.bool true) ∧ Kp w w' := by
  have k1 := new_ok 6 w (by omega) (by omega)
  have k2 : ∀ w, Calls Tryd.prog 10 #[.pointer none, .int .i64 1] w fun e w' => e = .returned (.tuple #[.pointer none, .int .i64 1]) ∧ w' = w := fun w => fnew_nil 1 w
  rw [show ((6 : Nat) : Int) = 6 from rfl] at k1
  have HT : Hid (TAB w) := T
  clear T
  obtain ⟨r1, r2, r3, r4, r5, r6⟩ := t_rest
  go_enter Tryd.func7, Tryd.ntmps7
  go_wp2_with fail
  with_reducible refine k1.mono ?_
  rintro e w1 ⟨pm, M, rfl, m, kk, mn⟩
  have k3 := knew_ok m kk HT.out mn 2 (by omega) (by omega) (by omega)
  rw [show ((2 : Nat) : Int) = 2 from rfl] at k3
  clear m kk mn k1 HT
  go_wp2_with (go_at_call 10; with_reducible refine (k2 _).mono ?_; rintro e w' ⟨rfl, rfl⟩)
  with_reducible refine k3.mono ?_
  rintro e w2 ⟨⟨p, rfl, f2⟩, _⟩
  have k4 := ktable_any f2 (some 0) t_one
  clear f2 k3 k2
  go_wp2_with fail
  with_reducible refine k4.mono ?_
  rintro e w3 ⟨rfl, f3, _⟩
  have k5 := ktable_any (C := tC1) f3 (some 1) t_two
  clear f3 k4
  go_wp2_with fail
  with_reducible refine k5.mono ?_
  rintro e w4 ⟨rfl, f4, _⟩
  have k6 := ktable_any (C := tC2) f4 none t_three
  clear f4 k5
  go_wp2_with fail
  with_reducible refine k6.mono ?_
  rintro e w5 ⟨rfl, f5, _⟩
  have k7 := kpage_any (C := tC3) f5 (some 2) t_four
  clear f5 k6
  go_wp2_with fail
  with_reducible refine k7.mono ?_
  rintro e w6 ⟨rfl, f6, _⟩
  have k8 := kref_any (C := tC4) f6 2 (by decide)
  rw [r1, r2] at k8
  clear f6 k7
  go_wp2_with fail
  with_reducible refine k8.mono ?_
  rintro e w7 ⟨rfl, f7, _⟩
  have k9 := kfree_any (C := tC5) f7
  rw [r3, r4] at k9
  have F7 : Hid (FK w _ w7 p pm 6 2 0 _ tC5) := f7
  clear f7 k8
  go_wp2_with fail
  with_reducible refine k9.mono ?_
  rintro e w8 ⟨rfl, d8⟩
  have kA := kblock_any (F7.out.kps d8.kp) none t_five
  clear d8 k9 F7
  go_wp2_with fail
  with_reducible refine kA.mono ?_
  rintro e w9 ⟨rfl, f9, _⟩
  have kB := kcount_any (C := tC6) f9 2 (by decide)
  have kC := kcount_any (C := tC6) f9 9 (by decide)
  have kD := kmem_any f9
  rw [r5] at kB
  rw [r6] at kC
  have F9 : Hid (Kp w w9) := f9.kp
  clear f9 kA r1 r2 r3 r4 r5 r6
  simp only [gotX, gotE]
  have hq := fun w => eql_mem pm w
  go_wp2_with (first | (go_at_call 26; first | (with_reducible refine kB.mono ?_; rintro e w' ⟨rfl, rfl⟩) | (with_reducible refine kC.mono ?_; rintro e w' ⟨rfl, rfl⟩)) | (go_at_call 30; with_reducible refine kD.mono ?_; rintro e w' ⟨rfl, rfl⟩))
  go_ret
  exact ⟨rfl, F9.out⟩
end Go.Proofs.YtjnkmmfppkpgbaaDoor
