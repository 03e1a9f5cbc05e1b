/- Joined: R3, R4, R5, R6, R7, R8. -/
import Derived.Test.YtcankhnnikhblaaGreatDoorJRA
import Derived.Deep.RegionHeld3
/- stage2: frames by their words; the table's own block; its reader. -/
namespace Go.Proofs.YtcankhnnikhblaaGreatDoor
open Go.RowKit
set_option maxRecDepth 10000

theorem numb_putAt (f : Nat → Nat) (p s v : Nat) : ∀ k, k ≤ s → numb (putF f p s v) p k = v % 2 ^ (8 * k)
  | 0, _ => by simp [numb, Nat.mod_one]
  | k + 1, h => by
    have ih := numb_putAt f p s v k (by omega)
    have e : putF f p s v (p + k) = v / 2 ^ (8 * k) % 256 := by
      unfold putF; rw [if_pos (by omega), show p + k - p = k by omega]
    unfold numb
    rw [ih, e, show 8 * (k + 1) = 8 * k + 8 by omega, Nat.pow_add, Nat.mod_mul, Nat.mul_comm (2 ^ (8 * k))]
/-- The words of frames. -/
def wM (B : Nat → Nat → Nat) : Nat → Nat → Nat := fun x i => numb (B x) (8 * i) 8
def updM (M : Nat → Nat → Nat) (x i v : Nat) : Nat → Nat → Nat := fun y j => if y = x ∧ j = i then v else M y j
def zerM (M : Nat → Nat → Nat) (x : Nat) : Nat → Nat → Nat := fun y j => if y = x then 0 else M y j
theorem wM_put (B : Nat → Nat → Nat) (x i v : Nat) (hv : v < 18446744073709551616) : wM (putFr B x (putF (B x) (8 * i) 8 v)) = updM (wM B) x i v := by
  funext y j
  unfold wM updM putFr
  by_cases c : y = x
  · subst c
    rw [if_pos rfl]
    by_cases c2 : j = i
    · subst c2
      rw [if_pos ⟨rfl, rfl⟩, numb_putAt _ _ _ _ _ (Nat.le_refl _)]
      exact Nat.mod_eq_of_lt hv
    · rw [if_neg (by omega)]
      refine numb_like _ _ _ _ _ fun k hk => ?_
      unfold putF
      rw [if_neg (by omega)]
  · rw [if_neg c, if_neg (by omega)]
theorem wM_zero (B : Nat → Nat → Nat) (x : Nat) : wM (putFr B x z0) = zerM (wM B) x := by
  funext y j
  unfold wM zerM putFr
  by_cases c : y = x
  · rw [if_pos c, if_pos c, numb_zero]
  · rw [if_neg c, if_neg c]
theorem wM_zerR (B : Nat → Nat → Nat) (x : Nat) : wM (zerR B x 1) = zerM (wM B) x := by
  rw [← wM_zero]
  congr 1
  funext k
  unfold zerR putFr
  by_cases c : k = x
  · rw [if_pos (by omega), if_pos c]
  · rw [if_neg (by omega), if_neg c]
theorem onR_one (C : Nat → Nat) (x : Nat) : onR C x 1 = putC C x 1 := by
  funext k
  unfold onR putC
  by_cases c : k = x
  · rw [if_pos (by omega), if_pos c]
  · rw [if_neg (by omega), if_neg c]

/-- The frames at p, beside the blocks of X, all behind W; their words are M, at most o ops were made. -/
def FW (W : World) (X : Nat → Prop) (w : World) (p pm N pool o : Nat) (M : Nat → Nat → Nat) (C : Nat → Nat) : Prop := ∃ ops B, ops ≤ o ∧ wM B = M ∧ FK W X w p pm N pool ops B C
section
variable {W w w' : World} {X Y : Nat → Prop} {p pm N pool o : Nat} {M : Nat → Nat → Nat} {C : Nat → Nat}
theorem FK.less {ops : Nat} {B : Nat → Nat → Nat} (h : FK W X w p pm N pool ops B C) (hY : ∀ i, Y i → X i) : FK W Y w p pm N pool ops B C := by
  obtain ⟨S, h⟩ := h
  exact ⟨S, h.fs, h.kp, fun k hk => ⟨(h.out k hk).1, fun c => (h.out k hk).2 (hY k c)⟩, fun i hi => h.lt i (hY i hi), h.t0⟩
theorem Fr.less (h : Fr (Out W X) w w') (hY : ∀ i, Y i → X i) : Fr (Out W Y) w w' := h.mono fun k _ hk => ⟨hk.1, fun c => hk.2 (hY k c)⟩
theorem FW.kp (h : FW W X w p pm N pool o M C) : Kp W w := by
  obtain ⟨ops, B, _, _, h⟩ := h
  exact h.kp
theorem FW.kps (h : FW W X w p pm N pool o M C) (k : Kp w w') : FW W X w' p pm N pool o M C := by
  obtain ⟨ops, B, h1, h2, h⟩ := h
  exact ⟨ops, B, h1, h2, h.kps k⟩
theorem FW.le (h : FW W X w p pm N pool o M C) {o' : Nat} (ho : o ≤ o') : FW W X w p pm N pool o' M C := by
  obtain ⟨ops, B, h1, h2, h⟩ := h
  exact ⟨ops, B, by omega, h2, h⟩
theorem FW.less (h : FW W X w p pm N pool o M C) (hY : ∀ i, Y i → X i) : FW W Y w p pm N pool o M C := by
  obtain ⟨ops, B, h1, h2, h⟩ := h
  exact ⟨ops, B, h1, h2, h.less hY⟩
theorem FW.more (h : FW W X w p pm N pool o M C) (k : Kp w w') (b : Nat) (hb : w.heap.size ≤ b) (hl : b < w'.heap.size) : FW W (fun i => X i ∨ i = b) w' p pm N pool o M C := by
  obtain ⟨ops, B, h1, h2, h⟩ := h
  exact ⟨ops, B, h1, h2, h.more k b hb hl⟩
theorem FW.frX (h : FW W X w p pm N pool o M C) (k : Fr Y w w') (hY : ∀ i, Y i → W.heap.size ≤ i ∧ X i) : FW W X w' p pm N pool o M C := by
  obtain ⟨ops, B, h1, h2, h⟩ := h
  exact ⟨ops, B, h1, h2, h.frX k hY⟩
theorem FW.nums (h : FW W X w p pm N pool o M C) : 1 ≤ pool ∧ pool < N ∧ N ≤ 1048576 := by
  obtain ⟨ops, B, h1, h2, h⟩ := h
  exact h.nums
theorem FW.xlt (h : FW W X w p pm N pool o M C) : ∀ i, X i → i < w.heap.size := by
  obtain ⟨ops, B, _, _, S, h⟩ := h
  exact h.lt
theorem FW.word (h : FW W X w p pm N pool o M C) (x i : Nat) : M x i < 18446744073709551616 := by
  obtain ⟨ops, B, _, rfl, S, h⟩ := h
  obtain ⟨⟨⟨M', U, V, bt, bp, bc, h⟩, b⟩, _⟩ := h
  obtain ⟨bm, g, h⟩ := h.mem
  exact numb_lt (h.byte x) _ 8

theorem wmem_any (h : FW W X w p pm N pool o M C) :
    Calls Tryz.prog 97 #[.pointer (some ⟨p, 0, none⟩)] w fun e w' => e = .returned (.pointer (some ⟨pm, 0, none⟩)) ∧ w' = w := by
  obtain ⟨ops, B, h1, h2, h⟩ := h
  exact kmem_any h
theorem wframes_any (h : FW W X w p pm N pool o M C) :
    Calls Tryz.prog 75 #[.pointer (some ⟨pm, 0, none⟩)] w fun e w' => e = .returned (.int .i64 (N : Nat)) ∧ w' = w := by
  obtain ⟨ops, B, _, _, S, h⟩ := h
  obtain ⟨⟨⟨M', U, V, bt, bp, bc, h⟩, b⟩, _⟩ := h
  exact pframes_any h.mem
theorem wfree_any (h : FW W X w p pm N pool o M C) :
    Calls Tryz.prog 13 #[.pointer (some ⟨p, 0, none⟩)] w fun e w' => e = .returned (.tuple #[.int .i64 (cnt (fP pool N C) N : Nat), .int .i64 (cnt (fT pool C) pool : Nat)]) ∧ Dr w w' := by
  obtain ⟨ops, B, h1, h2, h⟩ := h
  exact kfree_any h
theorem wget_ok (h : FW W X w p pm N pool o M C) (x : Nat) (hx : x < N) :
    Calls Tryz.prog 139 #[.pointer (some ⟨pm, 0, none⟩), .int .i64 (x : Int)] w fun e w' => e = .returned (.tuple #[.slice (some ⟨w.heap.size, 0, none⟩) 4096 4096, .int .i64 0]) ∧ (∃ f, BS w' w.heap.size 0 4096 f ∧ ∀ i, i < 512 → numb f (8 * i) 8 = M x i) ∧ Kp w w' := by
  obtain ⟨ops, B, _, rfl, S, h⟩ := h
  obtain ⟨⟨⟨M', U, V, bt, bp, bc, h⟩, b⟩, _⟩ := h
  have hb : Bytes (B x) := by obtain ⟨bm, g, h⟩ := h.mem; exact h.byte x
  exact (pget_ok h.mem x hx).mono fun e w' ⟨e1, e2, e3⟩ => ⟨e1, ⟨B x, e2.bs hb, fun i _ => rfl⟩, e3⟩
theorem chk_word {N x i : Nat} (hx : x < N) (hi : i < 512) : chkP N (x * 4096 + 8 * i) (8 : Nat) = 0 := by
  unfold chkP
  rw [if_neg (by omega), if_neg (by show ¬ (x * 4096 + 8 * i) % 8 ≠ 0; omega), if_neg (by omega)]
theorem wwrite_ok (h : FW W X w p pm N pool o M C) (x i v : Nat) (hx : x < N) (hi : i < 512) (hv : v < 18446744073709551616) (ho : o < 4611686018427387904) :
    Calls Tryz.prog 102 #[.pointer (some ⟨pm, 0, none⟩), .int .u64 ((x * 4096 + 8 * i : Nat) : Int), .int .i64 8, .int .u64 (v : Int)] w fun e w' => e = .returned (.int .i64 0) ∧ FW W X w' p pm N pool (o + 1) (updM M x i v) C ∧ Fr (Out W X) w w' := by
  obtain ⟨ops, B, h1, rfl, h⟩ := h
  have hn := h.nums
  have k := kwrite_ok h (x * 4096 + 8 * i) 8 v (by omega) (chk_word hx hi) hv (by omega)
  rw [show (x * 4096 + 8 * i) / 4096 = x by omega, show (x * 4096 + 8 * i) % 4096 = 8 * i by omega] at k
  exact k.mono fun e w' ⟨e1, e2, e3⟩ => ⟨e1, ⟨ops + 1, _, by omega, wM_put B x i v hv, e2⟩, e3⟩
theorem wtable_some (h : FW W X w p pm N pool o M C) (x : Nat) (hr : TkR (fT pool C) 0 (some x)) :
    Calls Tryz.prog 36 #[.pointer (some ⟨p, 0, none⟩)] w fun e w' => e = .returned (.tuple #[.int .i64 (x : Nat), .int .i64 0]) ∧ FW W X w' p pm N pool o (zerM M x) (putC C x 1) ∧ Fr (Out W X) w w' := by
  obtain ⟨ops, B, h1, rfl, h⟩ := h
  exact (ktable_any h (some x) hr).mono fun e w' ⟨e1, e2, e3⟩ => ⟨e1, ⟨ops, _, h1, wM_zerR B x, by rw [← onR_one]; exact e2⟩, e3⟩
theorem wtable_none (h : FW W X w p pm N pool o M C) (hr : TkR (fT pool C) 0 none) :
    Calls Tryz.prog 36 #[.pointer (some ⟨p, 0, none⟩)] w fun e w' => e = .returned (.tuple #[.int .i64 0, .int .i64 11]) ∧ FW W X w' p pm N pool o M C ∧ Fr (Out W X) w w' := by
  obtain ⟨ops, B, h1, rfl, h⟩ := h
  exact (ktable_any h none hr).mono fun e w' ⟨e1, e2, e3⟩ => ⟨e1, ⟨ops, _, h1, rfl, e2⟩, e3⟩
theorem wdrop_one (h : FW W X w p pm N pool o M C) (x : Nat) (hx : x < pool) (hC : C x = 1) :
    Calls Tryz.prog 74 #[.pointer (some ⟨p, 0, none⟩), .int .i64 (x : Int)] w fun e w' => e = .returned (.tuple #[.int .i64 0, .int .i64 0]) ∧ FW W X w' p pm N pool o (zerM M x) (putC C x 0) ∧ Fr (Out W X) w w' := by
  obtain ⟨ops, B, h1, rfl, h⟩ := h
  have hn := h.nums
  have k := kdrop_any h (x : Int) (wf_nat (by omega))
  have c : cI C (x : Int) = 1 := by unfold cI; simp [hC]
  unfold dropN dropE dropC dropB at k
  rw [c, if_neg (by decide), if_pos rfl, if_neg (by decide), Int.toNat_natCast] at k
  exact k.mono fun e w' ⟨e1, e2, e3⟩ => ⟨e1, ⟨ops, _, h1, wM_zero B x, e2⟩, e3⟩
/-- A free frame that Take finds. -/
theorem TkR.free {x : Nat} (h : TkR (fT pool C) 0 (some x)) : x < pool ∧ C x = 0 := (fT_iff pool C x).1 (h.blk.2 x (Nat.le_refl _) (by simp))
end

/-! ### the table's own block -/
def TX (w : World) (b p root : Nat) : Prop := w.heap[b]? = some (.cells #[.pointer (some ⟨p, 0, none⟩), .int .u64 ((root * 4096 : Nat) : Int)] 93 (0, 0))
section
variable {w w' : World} {b p root : Nat}
theorem TX.lt (h : TX w b p root) : b < w.heap.size := (Array.getElem?_eq_some_iff.1 h).1
theorem TX.fr {S : Nat → Prop} (h : TX w b p root) (k : Fr S w w') (hS : ¬ S b) : TX w' b p root := (k.block b h.lt hS).trans h
theorem TX.kp (h : TX w b p root) (k : Kp w w') : TX w' b p root := (k.block b h.lt).trans h
theorem TX.c0 (h : TX w b p root) : w.cell? ⟨b, 0, none⟩ = some (.pointer (some ⟨p, 0, none⟩)) := by rw [cell_of_row w b 0 _ _ _ h]; rfl
theorem TX.c1 (h : TX w b p root) : w.cell? ⟨b, 1, none⟩ = some (.int .u64 ((root * 4096 : Nat) : Int)) := by rw [cell_of_row w b 1 _ _ _ h]; rfl
end

/-! ### its reader -/
def rdB (N : Nat) (B : Nat → Nat → Nat) : Nat → Nat × Bool := fun a => if a % 8 = 0 ∧ a / 4096 < N then (numb (B (a / 4096)) (a % 4096) 8, true) else (0, false)
theorem rdB_at {N : Nat} {B : Nat → Nat → Nat} {x i : Nat} (hx : x < N) (hi : i < 512) : rdB N B (x * 4096 + 8 * i) = (wM B x i, true) := by
  unfold rdB wM
  rw [if_pos (by omega), show (x * 4096 + 8 * i) / 4096 = x by omega, show (x * 4096 + 8 * i) % 4096 = 8 * i by omega]
theorem sread_any {w : World} {S : Nat → Prop} {p pm N pool ops : Nat} {B : Nat → Nat → Nat} {C : Nat → Nat} (h : FZ w S p pm N pool ops B C) (a : Nat) (ha : a < 18446744073709551616) (ho : ops < 4611686018427387904) :
    Calls Tryz.prog 20 #[.pointer (some ⟨pm, 0, none⟩), .int .u64 (a : Int), .int .i64 8] w fun e w' => (∃ r : Int, e = .returned (.tuple #[.int .u64 ((rdB N B a).1 : Int), .int .i64 r]) ∧ (rdB N B a).2 = (r == 0)) ∧ (∃ ops', ops' ≤ ops + 1 ∧ FZ w' S p pm N pool ops' B C) ∧ Fr S w w' := by
  have h0 := h
  obtain ⟨⟨M, U, V, bt, bp, bc, h⟩, b⟩ := h
  unfold rdB
  by_cases c1 : a % 8 = 0
  · by_cases c2 : a / 4096 < N
    · have hc : chkP N a (8 : Nat) = 0 := by
        unfold chkP
        rw [if_neg (by omega), if_neg (by show ¬ a % 8 ≠ 0; omega), if_neg (by omega)]
      rw [if_pos ⟨c1, c2⟩]
      exact (pread_ok h.mem a 8 ha hc ho).mono fun e w' ⟨e1, e2, e3⟩ => ⟨⟨0, e1, rfl⟩, ⟨ops + 1, Nat.le_refl _, ⟨M, U, V, bt, bp, bc, h.setM e2 e3⟩, b⟩, h.frM e3⟩
    · have hc : chkP N a 8 = 2 := by
        unfold chkP
        rw [if_neg (by omega), if_neg (by show ¬ a % 8 ≠ 0; omega), if_pos (by omega)]
      rw [if_neg (by omega)]
      exact (pread_no h.mem a 8 2 ha hc (by decide)).mono fun e w' ⟨e1, e2⟩ => ⟨⟨2, e1, rfl⟩, ⟨ops, by omega, e2 ▸ h0⟩, e2 ▸ Fr.refl _ _⟩
  · have hc : chkP N a 8 = 3 := by
      unfold chkP
      rw [if_neg (by omega), if_pos (by show a % 8 ≠ 0; omega)]
    rw [if_neg (by omega)]
    exact (pread_no h.mem a 8 3 ha hc (by decide)).mono fun e w' ⟨e1, e2⟩ => ⟨⟨3, e1, rfl⟩, ⟨ops, by omega, e2 ▸ h0⟩, e2 ▸ Fr.refl _ _⟩

/-- The world between the reads of a walk. -/
structure TI (W : World) (X S : Nat → Prop) (n0 : Nat) (bt p pm N pool o root : Nat) (B : Nat → Nat → Nat) (C : Nat → Nat) (w : World) : Prop where
  fb : ∃ ops, ops ≤ o ∧ FB W X S w p pm N pool ops B C
  tx : TX w bt p root
  sz : n0 ≤ w.heap.size
theorem FB.below {W w w' : World} {X S : Nat → Prop} {p pm N pool ops n : Nat} {B : Nat → Nat → Nat} {C : Nat → Nat} (h : FB W X S w p pm N pool ops B C) (k : Go.RowKit.Below n w w') (hS : ∀ i, S i → i < n) (hn : W.heap.size ≤ n) : FB W X S w' p pm N pool ops B C := by
  have f : Fr (fun i => n ≤ i) w w' := ⟨k.os, k.tape, k.output, k.size, fun i _ hi => k.block i (by omega)⟩
  have t0 := h.t0
  exact ⟨h.fs.fr f (fun i hi c => by have := hS i hi; omega) (by omega), f.kp h.kp (fun i hi => by omega), h.out, fun i hi => Nat.lt_of_lt_of_le (h.lt i hi) k.size, h.t0⟩
set_option maxHeartbeats 1000000 in
theorem readS {W w0 : World} {X S : Nat → Prop} {bt p pm N pool ops root : Nat} {B : Nat → Nat → Nat} {C : Nat → Nat} (h : FB W X S w0 p pm N pool ops B C) (T : TX w0 bt p root) (hX : X bt) (ho : ops < 4000000000000000000) :
    RD w0.heap.size 95 #[.pointer (some ⟨bt, 0, none⟩)] #[] (rdB N B) S (fun n w => TI W X S w0.heap.size bt p pm N pool (ops + n) root B C w) where
  fn := ⟨_, Tryz.func95, rfl, by decide⟩
  lt := h.fs.own
  word a := by
    obtain ⟨⟨M, U, V, bt, bp, bc, h⟩, b⟩ := h.fs
    obtain ⟨bm, g, h⟩ := h.mem
    unfold rdB
    split
    · exact numb_lt (h.byte _) _ 8
    · show 0 < _; decide
  keep n w w' H k := by
    obtain ⟨⟨ops', a1, a2⟩, a3, a4⟩ := H
    exact ⟨⟨ops', a1, a2.below k h.fs.own h.kp.size⟩, (k.block bt T.lt).trans a3, Nat.le_trans a4 k.size⟩
  size n w H := H.sz
  call n w a H hn ha := by
    obtain ⟨⟨ops', a1, a2⟩, a3, a4⟩ := H
    have k1 := smem_any a2.fs
    have k2 := sread_any a2.fs a ha (by omega)
    have c0 := a3.c0
    have sX : ¬ S bt := fun c => (a2.out bt c).2 hX
    have HA : Hid (FB W X S w p pm N pool ops' B C ∧ TX w bt p root ∧ w0.heap.size ≤ w.heap.size ∧ ops' ≤ ops + n ∧ ¬ S bt) := ⟨a2, a3, a4, a1, sX⟩
    generalize (rdB N B a).1 = u at *
    generalize (rdB N B a).2 = ok at *
    clear a1 a2 a3 a4 h T hX ho hn sX
    show Calls Tryz.prog 95 #[.pointer (some ⟨bt, 0, none⟩), .int .u64 (a : Int)] w fun e w' => e = .returned (.tuple #[.int .u64 (u : Int), .bool ok]) ∧ TI W X S w0.heap.size bt p pm N pool (ops + (n + 1)) root B C w' ∧ Fr S w w'
    go_enter Tryz.func95, Tryz.ntmps95
    go_wp2_with (go_at_call 97; with_reducible refine k1.mono ?_; rintro e w' ⟨rfl, rfl⟩)
    with_reducible refine k2.mono ?_
    rintro e w2 ⟨⟨r, rfl, hr⟩, ⟨o2, ho2, F2⟩, K2⟩
    have HE : Hid (TI W X S w0.heap.size bt p pm N pool (ops + (n + 1)) root B C w2 ∧ Fr S w' w2) := by
      obtain ⟨b1, b2, b3, b4, b5⟩ := HA.out
      exact ⟨⟨⟨o2, by omega, F2, K2.kp b1.kp (fun i hi => (b1.out i hi).1), b1.out, fun i hi => Nat.lt_of_lt_of_le (b1.lt i hi) K2.size, b1.t0⟩, b2.fr K2 b5, Nat.le_trans b3 K2.size⟩, K2⟩
    clear F2 K2 HA k1 k2
    go_wp2
    go_ret2
    exact ⟨by rw [hr]; rfl, HE.out⟩
end Go.Proofs.YtcankhnnikhblaaGreatDoor

/- stage2: the small ones; a page's way. -/
namespace Go.Proofs.YtcankhnnikhblaaGreatDoor
open Go.RowKit
set_option maxRecDepth 10000

theorem addrOf_any (x : Nat) (w : World) (hx : x < 1099511627776) : Calls Tryz.prog 37 #[.int .i64 (x : Int)] w fun e w' => e = .returned (.int .u64 ((x * 4096 : Nat) : Int)) ∧ w' = w := by
  have z1 : (x : Int) < 1099511627776 := by omega
  have z2 : ((x * 4096 : Nat) : Int) = (x : Int) * 4096 := by omega
  rw [z2]
  clear z2 hx
  go_enter Tryz.func37, Tryz.ntmps37
  go_wp2
  go_ret
  exact ⟨rfl, rfl⟩
theorem frameOf_any (a : Nat) (w : World) (ha : a < 18446744073709551616) : Calls Tryz.prog 70 #[.int .u64 (a : Int)] w fun e w' => e = .returned (.int .i64 ((a / 4096 : Nat) : Int)) ∧ w' = w := by
  have z1 : (a : Int) / 4096 < 4503599627370496 := by omega
  have z2 : ((a / 4096 : Nat) : Int) = (a : Int) / 4096 := by omega
  rw [z2]
  clear z2 ha
  go_enter Tryz.func70, Tryz.ntmps70
  go_wp2
  go_ret
  exact ⟨rfl, rfl⟩
theorem entryAt_any (x i : Nat) (w : World) (hx : x < 1048576) (hi : i < 512) : Calls Tryz.prog 107 #[.int .u64 ((x * 4096 : Nat) : Int), .int .i64 (i : Int)] w fun e w' => e = .returned (.int .u64 ((x * 4096 + 8 * i : Nat) : Int)) ∧ w' = w := by
  obtain ⟨a, ha⟩ : ∃ a, a = x * 4096 := ⟨_, rfl⟩
  have z1 : (a : Int) < 4294967296 := by omega
  have z2 : (i : Int) < 512 := by omega
  have z3 : ((x * 4096 + 8 * i : Nat) : Int) = (a : Int) + (i : Int) * 8 := by omega
  rw [z3, ← ha]
  clear z3 ha hx hi
  go_enter Tryz.func107, Tryz.ntmps107
  go_wp2
  go_ret
  exact ⟨rfl, rfl⟩
theorem troot_any {w : World} {bt p root : Nat} (h : TX w bt p root) : Calls Tryz.prog 18 #[.pointer (some ⟨bt, 0, none⟩)] w fun e w' => e = .returned (.int .u64 ((root * 4096 : Nat) : Int)) ∧ w' = w := by
  have c1 := h.c1
  clear h
  generalize root * 4096 = a at *
  go_enter Tryz.func18, Tryz.ntmps18
  go_wp2
  go_ret
  exact ⟨rfl, rfl⟩
/-- A leaf may have these. -/
def canB (r q : Bool) (s : Int) : Bool := (r || !q) && decide (0 ≤ s) && decide (s ≤ 15)
theorem canBe_any (r q x : Bool) (s : Int) (w : World) : Calls Tryz.prog 62 #[.agg #[.bool r, .bool q, .bool x], .int .i64 s] w fun e w' => e = .returned (.bool (canB r q s)) ∧ Kp w w' := by
  unfold canB
  cases r <;> cases q
  all_goals
    by_cases c1 : 0 ≤ s
    · by_cases c2 : s ≤ 15
      · go_enter Tryz.func62, Tryz.ntmps62
        go_wp2
        go_ret
        exact ⟨by simp; try omega, (Kp.refl _).alloc _⟩
      · go_enter Tryz.func62, Tryz.ntmps62
        go_wp2
        go_ret
        exact ⟨by simp; try omega, (Kp.refl _).alloc _⟩
    · go_enter Tryz.func62, Tryz.ntmps62
      go_wp2
      go_ret
      exact ⟨by simp; try omega, (Kp.refl _).alloc _⟩
def svV (s : SV) : Value := .agg #[.int .i64 (s.l : Int), .int .u64 (s.p : Int), .int .u64 (s.u : Int), .int .i64 s.d.k, .int .u64 (s.d.a : Int), .bool s.d.r, .bool s.d.q, .bool s.d.x, .int .i64 s.d.f]
def dvV (d : DV) : Value := .agg #[.int .i64 d.k, .int .u64 (d.a : Int), .bool d.r, .bool d.q, .bool d.x, .int .i64 d.f]
/-- A step's block. -/
def SBk (w : World) (b : Nat) (s : SV) : Prop := w.heap[b]? = some (.cells #[.int .i64 (s.l : Int), .int .u64 (s.p : Int), .int .u64 (s.u : Int), .int .i64 s.d.k, .int .u64 (s.d.a : Int), .bool s.d.r, .bool s.d.q, .bool s.d.x, .int .i64 s.d.f] 64)
section
variable {w w' : World} {b : Nat} {s : SV}
theorem SBk.lt (h : SBk w b s) : b < w.heap.size := (Array.getElem?_eq_some_iff.1 h).1
theorem SBk.kp (h : SBk w b s) (g : Kp w w') : SBk w' b s := (g.block b h.lt).trans h
theorem SBk.fr {S : Nat → Prop} (h : SBk w b s) (g : Fr S w w') (hS : ¬ S b) : SBk w' b s := (g.block b h.lt hS).trans h
theorem SBk.load (h : SBk w b s) : (loadVar 64 ⟨b, 0, none⟩).run Tryz.prog w = .ok (svV s) w :=
  run_loadVar_row w b _ 64 _ _ _ h Tryz.underlying64 rfl (by kernel_rfl)
theorem SBk.c (h : SBk w b s) (j : Nat) {y : Value} (hy : (encS s)[j]? = some y) : w.cell? ⟨b, j, none⟩ = some y := by
  rw [cell_of_row w b j _ _ _ h]; simpa [encS] using hy
theorem res_s {fn : Func} {c : Tmp} {tmps : Array Value} (hf : fn.results = #[.cell c 64]) (hc : tmps.getD c undef = .pointer (some ⟨b, 0, none⟩)) (B : SBk w b s) :
    (results fn tmps).run Tryz.prog w = .ok (svV s) w := by
  have hc' : tmps[c]?.getD undef = .pointer (some ⟨b, 0, none⟩) := by simpa using hc
  simp [results, hf, hc', asAddr, B.load]
end
set_option maxHeartbeats 4000000 in
theorem last_any {w : World} {b n : Nat} {L : List SV} {s : SV} (h : WL w b L) (h4 : n ≤ 3) (hs : L[n]? = some s) :
    Calls Tryz.prog 59 #[.slice (some ⟨b, 0, none⟩) (n + 1) 4] w fun e w' => e = .returned (svV s) ∧ Kp w w' := by
  have cc : ∀ (o : Obj) (j : Nat) (y : Value), (encS s)[j]? = some y → (w.alloc o).cell? ⟨b, n * 9 + j, none⟩ = some y := fun o j y hy => (h.kp ((Kp.refl w).alloc o)).cell hs hy
  obtain ⟨l, pp, u, k, a, r, q, x, f⟩ := s
  have x0 := fun o => cc o 0 _ rfl
  have x1 := fun o => cc o 1 _ rfl
  have x2 := fun o => cc o 2 _ rfl
  have x3 := fun o => cc o 3 _ rfl
  have x4 := fun o => cc o 4 _ rfl
  have x5 := fun o => cc o 5 _ rfl
  have x6 := fun o => cc o 6 _ rfl
  have x7 := fun o => cc o 7 _ rfl
  have x8 := fun o => cc o 8 _ rfl
  simp only [Nat.add_zero] at x0
  have z1 : (n : Int) ≤ 3 := by omega
  clear cc h hs
  go_enter Tryz.func59, Tryz.ntmps59
  go_wp2
  exact bodyPost_ret (res_s (s := ⟨l, pp, u, ⟨k, a, r, q, x, f⟩⟩) rfl rfl (heap_alloc_new w _)) rfl ⟨rfl, (Kp.refl _).alloc _⟩

/-! ### a table's state -/
structure TS (W : World) (X : Nat → Prop) (w : World) (bt p pm N pool o : Nat) (M : Nat → Nat → Nat) (C : Nat → Nat) (Z : Nat → Bool) (root : Nat) (E : Nat → Nat → DV) : Prop where
  fw : FW W X w p pm N pool o M C
  tx : TX w bt p root
  xb : X bt
  bw : W.heap.size ≤ bt
  tg : TG M C pool Z root E
section
variable {W w w' : World} {X Y : Nat → Prop} {bt p pm N pool o : Nat} {M : Nat → Nat → Nat} {C : Nat → Nat} {Z : Nat → Bool} {root : Nat} {E : Nat → Nat → DV}
theorem TS.kps (h : TS W X w bt p pm N pool o M C Z root E) (k : Kp w w') : TS W X w' bt p pm N pool o M C Z root E := ⟨h.fw.kps k, h.tx.kp k, h.xb, h.bw, h.tg⟩
theorem TS.le (h : TS W X w bt p pm N pool o M C Z root E) {o' : Nat} (ho : o ≤ o') : TS W X w bt p pm N pool o' M C Z root E := ⟨h.fw.le ho, h.tx, h.xb, h.bw, h.tg⟩
theorem TS.more (h : TS W X w bt p pm N pool o M C Z root E) (k : Kp w w') (b : Nat) (hb : w.heap.size ≤ b) (hl : b < w'.heap.size) : TS W (fun i => X i ∨ i = b) w' bt p pm N pool o M C Z root E := ⟨h.fw.more k b hb hl, h.tx.kp k, .inl h.xb, h.bw, h.tg⟩
theorem TS.less (h : TS W Y w bt p pm N pool o M C Z root E) (hY : ∀ i, X i → Y i) (hb : X bt) : TS W X w bt p pm N pool o M C Z root E := ⟨h.fw.less hY, h.tx, hb, h.bw, h.tg⟩
theorem TS.frX (h : TS W X w bt p pm N pool o M C Z root E) (k : Fr Y w w') (hY : ∀ i, Y i → W.heap.size ≤ i ∧ X i) (hb : ¬ Y bt) : TS W X w' bt p pm N pool o M C Z root E := ⟨h.fw.frX k hY, h.tx.fr k hb, h.xb, h.bw, h.tg⟩
theorem stps_len (root : Nat) (E : Nat → Nat → DV) (p : Nat) : (stps root E p).length = lvG E p + 1 := by unfold stps; simp
theorem stps_get {root : Nat} {E : Nat → Nat → DV} {p l : Nat} (h : l ≤ lvG E p) : (stps root E p)[l]? = some (stp root E p l) := by
  unfold stps
  rw [List.getElem?_map, List.getElem?_range (by omega)]
  rfl
set_option maxHeartbeats 4000000 in
theorem way_any (h : TS W X w bt p pm N pool o M C Z root E) (page : Nat) (hp : page < 268435456) (ho : o < 4000000000000000000) :
    Calls Tryz.prog 57 #[.pointer (some ⟨bt, 0, none⟩), .int .u64 (page : Int)] w fun e w' => e = .returned (.tuple #[.slice (some ⟨w.heap.size, 0, none⟩) (lvG E page + 1) 4, .bool (decide ((enG E page).k ≠ 0))]) ∧ WL w' w.heap.size (stps root E page) ∧ TS W (fun i => X i ∨ i = w.heap.size) w' bt p pm N pool (o + 4) M C Z root E ∧ Fr (Out W X) w w' := by
  obtain ⟨⟨ops, B, h1, rfl, S, fb⟩, tx, xb, bw, tg⟩ := h
  have hn := fb.fs.nums
  have hg : goW 2 (page * 4096) (rdB N B) 4 0 (root * 4096) = _ := goW_way tg hp (by omega) (fun x i hx hi => rdB_at (by omega) hi)
  have rl := (tg.mine 0 0 root (by omega) rfl).1
  have k1 := walk_any (readS fb tx xb (by omega)) 2 (by decide) (root * 4096) (page * 4096) 0 (by omega) (by omega) (by omega) w ⟨⟨ops, Nat.le_refl _, fb⟩, tx, Nat.le_refl _⟩
  rw [hg] at k1
  simp only [stps_len] at k1
  have k2 : Calls Tryz.prog 17 #[.int .i64 2, .int .u64 ((root * 4096 : Nat) : Int), .int .u64 ((page * 4096 : Nat) : Int), .func (.func 95) #[.pointer (some ⟨bt, 0, none⟩)] #[]] w fun e w' => e = .returned (.tuple #[.slice (some ⟨w.heap.size, 0, none⟩) (lvG E page + 1) 4, .int .i64 (if (enG E page).k = 0 then 1 else 0)]) ∧ Hid (WL w' w.heap.size (stps root E page) ∧ TS W (fun i => X i ∨ i = w.heap.size) w' bt p pm N pool (o + 4) (wM B) C Z root E ∧ Fr (Out W X) w w') := k1.mono fun e w' ⟨e1, e2, e3, e4⟩ => ⟨e1, e2, (by
    obtain ⟨⟨o2, a1, a2⟩, a3, a4⟩ := e3
    have := lvG_le E page
    refine ⟨⟨o2, B, by omega, rfl, S, a2.fs, a2.kp, fun k hk => ⟨(a2.out k hk).1, fun c => c.elim (a2.out k hk).2 (fun c => by have := fb.fs.own k hk; omega)⟩, fun i hi => hi.elim (a2.lt i) (fun c => by have := e2.lt; omega), a2.t0⟩, a3, .inl xb, bw, tg⟩), e4.mono fun i _ hi => fb.out i hi⟩
  have c0 := tx.c0
  have c1 := tx.c1
  obtain ⟨u, hu⟩ : ∃ u, u = page * 4096 := ⟨_, rfl⟩
  have z1 : IntKind.u64.wrap ((page : Int) * 4096) = (u : Int) := by simp [IntKind.wrap, IntKind.bits, IntKind.signed]; omega
  have g1 : decide ((268435456 : Int) ≤ (page : Int)) = false := decide_eq_false (by omega)
  have g2 : decide (268435456 ≤ page) = false := decide_eq_false (by omega)
  have hb : decide ((enG E page).k ≠ 0) = ((if (enG E page).k = 0 then (1 : Int) else 0) == 0) := by
    by_cases c : (enG E page).k = 0
    · rw [if_pos c]; simp [c]
    · rw [if_neg c]; simp [c]
  rw [hb]
  rw [← hu] at k2
  clear h1 fb tx bw tg hn hg rl k1 hb hu hp
  generalize (if (enG E page).k = 0 then (1 : Int) else 0) = kd at *
  generalize root * 4096 = ra at *
  have KW : Aside (Calls Tryz.prog 17 #[.int .i64 2, .int .u64 (ra : Int), .int .u64 (u : Int), .func (.func 95) #[.pointer (some ⟨bt, 0, none⟩)] #[]] w fun e w' => e = .returned (.tuple #[.slice (some ⟨w.heap.size, 0, none⟩) (lvG E page + 1) 4, .int .i64 kd]) ∧ Hid (WL w' w.heap.size (stps root E page) ∧ TS W (fun i => X i ∨ i = w.heap.size) w' bt p pm N pool (o + 4) (wM B) C Z root E ∧ Fr (Out W X) w w')) := k2
  have hmf : ∀ (fn : Fn) (first cap : Array Value) (w : World), (Instr.makeFunc fn first cap).run Tryz.prog w = .ok (.func fn first cap) w := fun _ _ _ _ => rfl
  clear k2
  go_enter Tryz.func57, Tryz.ntmps57
  go_wp2_with fail
  with_reducible refine KW.out.mono ?_
  rintro e w1 ⟨rfl, H1⟩
  clear KW
  go_wp2
  go_ret2
  exact ⟨rfl, H1.out⟩
end
end Go.Proofs.YtcankhnnikhblaaGreatDoor

/- stage2: put, lead, replace. -/
namespace Go.Proofs.YtcankhnnikhblaaGreatDoor
open Go.RowKit
set_option maxRecDepth 10000

/-- The frames and the table's own block. -/
structure FT (W : World) (X : Nat → Prop) (w : World) (bt p pm N pool o : Nat) (M : Nat → Nat → Nat) (C : Nat → Nat) (root : Nat) : Prop where
  fw : FW W X w p pm N pool o M C
  tx : TX w bt p root
  xb : X bt
  bw : W.heap.size ≤ bt
section
variable {W w w' : World} {X Y : Nat → Prop} {bt p pm N pool o : Nat} {M M' : Nat → Nat → Nat} {C C' : Nat → Nat} {Z : Nat → Bool} {root : Nat} {E : Nat → Nat → DV}
theorem TS.ft (h : TS W X w bt p pm N pool o M C Z root E) : FT W X w bt p pm N pool o M C root := ⟨h.fw, h.tx, h.xb, h.bw⟩
theorem FT.ts (h : FT W X w bt p pm N pool o M C root) (g : TG M C pool Z root E) : TS W X w bt p pm N pool o M C Z root E := ⟨h.fw, h.tx, h.xb, h.bw, g⟩
theorem FT.kps (h : FT W X w bt p pm N pool o M C root) (k : Kp w w') : FT W X w' bt p pm N pool o M C root := ⟨h.fw.kps k, h.tx.kp k, h.xb, h.bw⟩
theorem FT.le (h : FT W X w bt p pm N pool o M C root) {o' : Nat} (ho : o ≤ o') : FT W X w bt p pm N pool o' M C root := ⟨h.fw.le ho, h.tx, h.xb, h.bw⟩
theorem FT.more (h : FT W X w bt p pm N pool o M C root) (k : Kp w w') (b : Nat) (hb : w.heap.size ≤ b) (hl : b < w'.heap.size) : FT W (fun i => X i ∨ i = b) w' bt p pm N pool o M C root := ⟨h.fw.more k b hb hl, h.tx.kp k, .inl h.xb, h.bw⟩
theorem FT.less (h : FT W Y w bt p pm N pool o M C root) (hY : ∀ i, X i → Y i) (hb : X bt) : FT W X w bt p pm N pool o M C root := ⟨h.fw.less hY, h.tx, hb, h.bw⟩
theorem FT.next (h : FT W X w bt p pm N pool o M C root) {o' : Nat} (f : FW W X w' p pm N pool o' M' C') (k : Fr (Out W X) w w') : FT W X w' bt p pm N pool o' M' C' root := ⟨f, h.tx.fr k (fun c => c.2 h.xb), h.xb, h.bw⟩
set_option maxHeartbeats 4000000 in
theorem put_any (h : FT W X w bt p pm N pool o M C root) (x i l : Nat) (d : DV) (hx : x < N) (hi : i < 512) (ok : okD l d) (ho : o < 4611686018427387904) :
    Calls Tryz.prog 66 #[.pointer (some ⟨bt, 0, none⟩), .int .u64 ((x * 4096 + 8 * i : Nat) : Int), .int .i64 (l : Int), dvV d] w fun e w' => e = .returned (.tuple #[]) ∧ FT W X w' bt p pm N pool (o + 1) (updM M x i (wdD d)) C root ∧ Fr (Out W X) w w' := by
  have hw := ok.back.2.2
  unfold dvV
  have k1 : ∀ v, Kp w v → Calls Tryz.prog 101 #[.int .i64 2, .int .i64 (l : Int), .agg #[.int .i64 d.k, .int .u64 (d.a : Int), .bool d.r, .bool d.q, .bool d.x, .int .i64 d.f]] v fun e w' => e = .returned (.tuple #[.int .u64 (wdD d : Nat), .int .i64 0]) ∧ Kp v w' := fun v k => by
    have := encode_any 2 (l : Int) d.k d.a d.r d.q d.x d.f v
    have ok' : dchk 2 (l : Int) d.k d.a d.r d.q d.x d.f = 0 := ok
    unfold dencN at this
    rw [if_pos ok', ok'] at this
    exact this
  have K1 : Aside (∀ v, Kp w v → Calls Tryz.prog 101 #[.int .i64 2, .int .i64 (l : Int), .agg #[.int .i64 d.k, .int .u64 (d.a : Int), .bool d.r, .bool d.q, .bool d.x, .int .i64 d.f]] v fun e w' => e = .returned (.tuple #[.int .u64 (wdD d : Nat), .int .i64 0]) ∧ Kp v w') := k1
  have K2 : Aside (∀ v, Kp w v → Calls Tryz.prog 97 #[.pointer (some ⟨p, 0, none⟩)] v fun e w' => e = .returned (.pointer (some ⟨pm, 0, none⟩)) ∧ w' = v) := fun v k => wmem_any (h.fw.kps k)
  have K3 : Aside (∀ v, Kp w v → Calls Tryz.prog 102 #[.pointer (some ⟨pm, 0, none⟩), .int .u64 ((x * 4096 + 8 * i : Nat) : Int), .int .i64 8, .int .u64 (wdD d : Nat)] v fun e w' => e = .returned (.int .i64 0) ∧ Hid (FT W X w' bt p pm N pool (o + 1) (updM M x i (wdD d)) C root ∧ Fr (Out W X) w w')) := fun v k => (wwrite_ok (h.fw.kps k) x i (wdD d) hx hi hw ho).mono fun e w' ⟨e1, e2, e3⟩ => ⟨e1, (h.kps k).next e2 e3, (k.fr _).trans e3⟩
  have K0 : Aside (∀ v, Kp w v → v.cell? ⟨bt, 0, none⟩ = some (.pointer (some ⟨p, 0, none⟩))) := fun v k => (h.tx.kp k).c0
  clear h k1 hw ok ho hx hi
  generalize wdD d = u at *
  generalize x * 4096 + 8 * i = a at *
  obtain ⟨dk, da, dr, dq, dx, df⟩ := d
  go_enter Tryz.func66, Tryz.ntmps66
  go_wp2_with fail
  with_reducible refine (K1.out _ ((Kp.refl w).alloc _)).mono ?_
  rintro e w1 ⟨rfl, k1⟩
  have kw : Kp w w1 := ((Kp.refl w).alloc _).trans k1
  have c0 := K0.out w1 kw
  have k2 := K2.out w1 kw
  have k3 := K3.out w1 kw
  clear kw k1 K0 K1 K2 K3
  go_wp2_with (go_at_call 97; with_reducible refine k2.mono ?_; rintro e w' ⟨rfl, rfl⟩)
  with_reducible refine k3.mono ?_
  rintro e w2 ⟨rfl, H2⟩
  clear k2 k3
  go_wp2
  go_end0
  exact ⟨rfl, H2.out⟩

theorem SBk.made (w : World) (s : SV) : SBk (w.alloc (.cells #[.int .i64 (s.l : Int), .int .u64 (s.p : Int), .int .u64 (s.u : Int), .int .i64 s.d.k, .int .u64 (s.d.a : Int), .bool s.d.r, .bool s.d.q, .bool s.d.x, .int .i64 s.d.f] 64)) w.heap.size s := heap_alloc_new w _
/-- What replace leaves: the words and the counts, where the entry led to a table. -/
def repM (M : Nat → Nat → Nat) (x i : Nat) (s d : DV) : Nat → Nat → Nat := if s.k = 1 then zerM (updM M x i (wdD d)) (s.a / 4096) else updM M x i (wdD d)
def repC (C : Nat → Nat) (s : DV) : Nat → Nat := if s.k = 1 then putC C (s.a / 4096) 0 else C
set_option maxHeartbeats 4000000 in
theorem replace_any (h : FT W X w bt p pm N pool o M C root) (x i : Nat) (s : SV) (d : DV) (hs : s.p = x * 4096 + 8 * i) (hk : s.d.k = 1 → s.d.a < 18446744073709551616 ∧ s.d.a / 4096 < pool ∧ C (s.d.a / 4096) = 1) (hx : x < N) (hi : i < 512) (ok : okD s.l d) (ho : o < 4611686018427387904) :
    Calls Tryz.prog 68 #[.pointer (some ⟨bt, 0, none⟩), svV s, dvV d] w fun e w' => e = .returned (.tuple #[]) ∧ FT W X w' bt p pm N pool (o + 1) (repM M x i s.d d) (repC C s.d) root ∧ Fr (Out W X) w w' := by
  have K1 : Aside (∀ v, Kp w v → w.heap.size < v.heap.size → SBk v w.heap.size s → Calls Tryz.prog 66 #[.pointer (some ⟨bt, 0, none⟩), .int .u64 (s.p : Int), .int .i64 (s.l : Int), dvV d] v fun e w' => e = .returned (.tuple #[]) ∧ (FT W (fun i => X i ∨ i = w.heap.size) w' bt p pm N pool (o + 1) (updM M x i (wdD d)) C root ∧ Fr (Out W X) w w') ∧ SBk w' w.heap.size s) := fun v k hl sb => by
    rw [hs]
    exact (put_any (h.more k w.heap.size (Nat.le_refl _) hl) x i s.l d hx hi ok ho).mono fun e w' ⟨e1, e2, e3⟩ => ⟨e1, ⟨e2, (k.fr _).trans (e3.less fun _ => .inl)⟩, sb.fr e3 (fun c => c.2 (.inr rfl))⟩
  have xb := h.xb
  have KD : Aside (∀ v, s.d.k = 1 → FT W (fun i => X i ∨ i = w.heap.size) v bt p pm N pool (o + 1) (updM M x i (wdD d)) C root → Fr (Out W X) w v → SBk v w.heap.size s → Calls Tryz.prog 74 #[.pointer (some ⟨p, 0, none⟩), .int .i64 ((s.d.a / 4096 : Nat) : Int)] v fun e w' => e = .returned (.tuple #[.int .i64 0, .int .i64 0]) ∧ w'.cell? ⟨bt, 0, none⟩ = some (.pointer (some ⟨p, 0, none⟩)) ∧ w'.cell? ⟨w.heap.size, 4, none⟩ = some (.int .u64 (s.d.a : Int)) ∧ Hid (FT W X w' bt p pm N pool (o + 1) (repM M x i s.d d) (repC C s.d) root ∧ Fr (Out W X) w w')) := fun v hk1 ft fr sb => by
    obtain ⟨_, h1, h2⟩ := hk hk1
    unfold repM repC
    rw [if_pos hk1, if_pos hk1]
    exact (wdrop_one ft.fw _ h1 h2).mono fun e w' ⟨e1, e2, e3⟩ => ⟨e1, (ft.next e2 e3).tx.c0, (sb.fr e3 (fun c => c.2 (.inr rfl))).c 4 rfl, (ft.next e2 e3).less (fun _ => .inl) xb, fr.trans (e3.less fun _ => .inl)⟩
  have KF : Aside (∀ v, s.d.k = 1 → Calls Tryz.prog 70 #[.int .u64 (s.d.a : Int)] v fun e w' => e = .returned (.int .i64 ((s.d.a / 4096 : Nat) : Int)) ∧ w' = v) := fun v hk1 => frameOf_any s.d.a v (hk hk1).1
  have KN : Aside (s.d.k ≠ 1 → repM M x i s.d d = updM M x i (wdD d) ∧ repC C s.d = C) := fun c => ⟨if_neg c, if_neg c⟩
  clear h hk hs hx hi ok ho
  generalize repM M x i s.d d = M2 at *
  generalize repC C s.d = C2 at *
  generalize updM M x i (wdD d) = M1 at *
  obtain ⟨l, pp, u, k, a, r, q, e, f⟩ := s
  unfold svV
  unfold dvV at *
  simp only at *
  generalize a / 4096 = y at *
  go_enter Tryz.func68, Tryz.ntmps68
  go_wp2_with fail
  with_reducible refine (K1.out _ (((Kp.refl w).alloc _).alloc _) (by simp; omega) ((SBk.made w ⟨l, pp, u, k, a, r, q, e, f⟩).kp ((Kp.refl _).alloc _))).mono ?_
  rintro _ w1 ⟨rfl, ⟨F1, R1⟩, S1⟩
  have c0 := F1.tx.c0
  have c3 := S1.c 3 rfl
  have c4 := S1.c 4 rfl
  clear K1
  by_cases ck : k = 1
  · subst ck
    have kd := fun v (kv : Kp w1 v) => KD.out v rfl (F1.kps kv) (R1.trans (kv.fr _)) (S1.kp kv)
    have kf := fun v => KF.out v rfl
    clear KD KF KN F1 R1 S1
    go_wp2_with fail
    go_region_held3 (fun v => v.cell? ⟨bt, 0, none⟩ = some (.pointer (some ⟨p, 0, none⟩)) ∧ v.cell? ⟨w.heap.size, 4, none⟩ = some (.int .u64 (a : Int))) (first | exact ⟨c0, c4⟩ | exact ⟨d0, d4⟩ | go_keep)
      (first | (go_at_call 70; with_reducible refine (kf _).mono ?_; rintro _ w' ⟨rfl, rfl⟩) | (go_at_call 74; with_reducible refine (kd _ (by first | exact Kp.refl _ | exact (Kp.refl _).drew | exact (Kp.refl _).drewN _)).mono ?_; rintro _ w2 ⟨rfl, d0, d4, H2⟩))
    go_wp2
    go_end0
    exact ⟨rfl, H2.out⟩
  · have ck' : (k == 1) = false := by rw [beq_eq_false_iff_ne]; exact ck
    obtain ⟨e1, e2⟩ := KN.out ck
    have H2 : Hid (FT W X w1 bt p pm N pool (o + 1) M2 C2 root ∧ Fr (Out W X) w w1) := by rw [e1, e2]; exact ⟨F1.less (fun _ => .inl) xb, R1⟩
    clear KD KF KN F1 R1 S1 e1 e2
    go_wp2
    go_end0
    exact ⟨rfl, H2.out⟩
end
end Go.Proofs.YtcankhnnikhblaaGreatDoor

/- stage2: lead; tell, Get, Need. -/
namespace Go.Proofs.YtcankhnnikhblaaGreatDoor
open Go.RowKit
set_option maxRecDepth 10000

/-- The world behind a store of a whole step. -/
def putS (w : World) (b : Nat) (s : SV) : World :=
  ((((((((w.setCell ⟨b, 0, none⟩ (.int .i64 (s.l : Int))).setCell ⟨b, 1, none⟩ (.int .u64 (s.p : Int))).setCell ⟨b, 2, none⟩ (.int .u64 (s.u : Int))).setCell ⟨b, 3, none⟩ (.int .i64 s.d.k)).setCell ⟨b, 4, none⟩ (.int .u64 (s.d.a : Int))).setCell ⟨b, 5, none⟩ (.bool s.d.r)).setCell ⟨b, 6, none⟩ (.bool s.d.q)).setCell ⟨b, 7, none⟩ (.bool s.d.x)).setCell ⟨b, 8, none⟩ (.int .i64 s.d.f)
section
variable {W w w' : World} {b : Nat} {s t : SV}
theorem SBk.fz (h : SBk w b s) (j : Nat) : w.frozen? ⟨b, j, none⟩ = false := frozen_of_row w b j _ _ h
theorem row_nine {w : World} {b : Nat} {t : TypeId} {a0 a1 a2 a3 a4 a5 a6 a7 a8 : Value} (c0 c1 c2 c3 c4 c5 c6 c7 c8 : Value) (h : w.heap[b]? = some (.cells #[a0, a1, a2, a3, a4, a5, a6, a7, a8] t (0, 0))) : (((((((((w.setCell ⟨b, 0, none⟩ c0).setCell ⟨b, 1, none⟩ c1).setCell ⟨b, 2, none⟩ c2).setCell ⟨b, 3, none⟩ c3).setCell ⟨b, 4, none⟩ c4).setCell ⟨b, 5, none⟩ c5).setCell ⟨b, 6, none⟩ c6).setCell ⟨b, 7, none⟩ c7).setCell ⟨b, 8, none⟩ c8).heap[b]? = some (.cells #[c0, c1, c2, c3, c4, c5, c6, c7, c8] t (0, 0)) := by
  have h0 : (w.setCell ⟨b, 0, none⟩ c0).heap[b]? = some (.cells #[c0, a1, a2, a3, a4, a5, a6, a7, a8] t (0, 0)) := heap_setCell_same _ b 0 _ _ c0 h
  have h1 : ((w.setCell ⟨b, 0, none⟩ c0).setCell ⟨b, 1, none⟩ c1).heap[b]? = some (.cells #[c0, c1, a2, a3, a4, a5, a6, a7, a8] t (0, 0)) := heap_setCell_same _ b 1 _ _ c1 h0
  have h2 : (((w.setCell ⟨b, 0, none⟩ c0).setCell ⟨b, 1, none⟩ c1).setCell ⟨b, 2, none⟩ c2).heap[b]? = some (.cells #[c0, c1, c2, a3, a4, a5, a6, a7, a8] t (0, 0)) := heap_setCell_same _ b 2 _ _ c2 h1
  have h3 : ((((w.setCell ⟨b, 0, none⟩ c0).setCell ⟨b, 1, none⟩ c1).setCell ⟨b, 2, none⟩ c2).setCell ⟨b, 3, none⟩ c3).heap[b]? = some (.cells #[c0, c1, c2, c3, a4, a5, a6, a7, a8] t (0, 0)) := heap_setCell_same _ b 3 _ _ c3 h2
  have h4 : (((((w.setCell ⟨b, 0, none⟩ c0).setCell ⟨b, 1, none⟩ c1).setCell ⟨b, 2, none⟩ c2).setCell ⟨b, 3, none⟩ c3).setCell ⟨b, 4, none⟩ c4).heap[b]? = some (.cells #[c0, c1, c2, c3, c4, a5, a6, a7, a8] t (0, 0)) := heap_setCell_same _ b 4 _ _ c4 h3
  have h5 : ((((((w.setCell ⟨b, 0, none⟩ c0).setCell ⟨b, 1, none⟩ c1).setCell ⟨b, 2, none⟩ c2).setCell ⟨b, 3, none⟩ c3).setCell ⟨b, 4, none⟩ c4).setCell ⟨b, 5, none⟩ c5).heap[b]? = some (.cells #[c0, c1, c2, c3, c4, c5, a6, a7, a8] t (0, 0)) := heap_setCell_same _ b 5 _ _ c5 h4
  have h6 : (((((((w.setCell ⟨b, 0, none⟩ c0).setCell ⟨b, 1, none⟩ c1).setCell ⟨b, 2, none⟩ c2).setCell ⟨b, 3, none⟩ c3).setCell ⟨b, 4, none⟩ c4).setCell ⟨b, 5, none⟩ c5).setCell ⟨b, 6, none⟩ c6).heap[b]? = some (.cells #[c0, c1, c2, c3, c4, c5, c6, a7, a8] t (0, 0)) := heap_setCell_same _ b 6 _ _ c6 h5
  have h7 : ((((((((w.setCell ⟨b, 0, none⟩ c0).setCell ⟨b, 1, none⟩ c1).setCell ⟨b, 2, none⟩ c2).setCell ⟨b, 3, none⟩ c3).setCell ⟨b, 4, none⟩ c4).setCell ⟨b, 5, none⟩ c5).setCell ⟨b, 6, none⟩ c6).setCell ⟨b, 7, none⟩ c7).heap[b]? = some (.cells #[c0, c1, c2, c3, c4, c5, c6, c7, a8] t (0, 0)) := heap_setCell_same _ b 7 _ _ c7 h6
  have h8 : (((((((((w.setCell ⟨b, 0, none⟩ c0).setCell ⟨b, 1, none⟩ c1).setCell ⟨b, 2, none⟩ c2).setCell ⟨b, 3, none⟩ c3).setCell ⟨b, 4, none⟩ c4).setCell ⟨b, 5, none⟩ c5).setCell ⟨b, 6, none⟩ c6).setCell ⟨b, 7, none⟩ c7).setCell ⟨b, 8, none⟩ c8).heap[b]? = some (.cells #[c0, c1, c2, c3, c4, c5, c6, c7, c8] t (0, 0)) := heap_setCell_same _ b 8 _ _ c8 h7
  exact h8
theorem SBk.put (h : SBk w b s) (t : SV) : SBk (putS w b t) b t := row_nine _ _ _ _ _ _ _ _ _ h
theorem Fr.putS {S : Nat → Prop} (h : Fr S w w') (hb : S b) (s : SV) : Fr S w (putS w' b s) :=
  ((((((((h.set _ _ hb).set _ _ hb).set _ _ hb).set _ _ hb).set _ _ hb).set _ _ hb).set _ _ hb).set _ _ hb).set _ _ hb
end
section
variable {W w w' : World} {X Y : Nat → Prop} {bt p pm N pool o : Nat} {M M' : Nat → Nat → Nat} {C C' : Nat → Nat} {Z : Nat → Bool} {root : Nat} {E : Nat → Nat → DV}
set_option maxHeartbeats 4000000 in
theorem lead_any (h : FT W X w bt p pm N pool o M C root) (x i y page : Nat) (s : SV) (hs : s.p = x * 4096 + 8 * i) (hl : s.l ≤ 2) (hx : x < N) (hi : i < 512) (hy : y < 1048576) (hp : page < 268435456) (ho : o < 4611686018427387904) :
    Calls Tryz.prog 99 #[.pointer (some ⟨bt, 0, none⟩), svV s, .int .u64 ((y * 4096 : Nat) : Int), .int .u64 (page : Int)] w fun e w' => e = .returned (svV ⟨s.l + 1, y * 4096 + 8 * (qn page (s.l + 1) % 512), 0, dN⟩) ∧ FT W X w' bt p pm N pool (o + 1) (updM M x i (wdD (dT y))) C root ∧ Fr (Out W X) w w' := by
  have K1 : Aside (∀ v, Kp w v → w.heap.size + 1 < v.heap.size → SBk v w.heap.size s → SBk v (w.heap.size + 1) ⟨0, 0, 0, dN⟩ → Calls Tryz.prog 66 #[.pointer (some ⟨bt, 0, none⟩), .int .u64 (s.p : Int), .int .i64 (s.l : Int), .agg #[.int .i64 1, .int .u64 ((y * 4096 : Nat) : Int), .bool false, .bool false, .bool false, .int .i64 0]] v fun e w' => e = .returned (.tuple #[]) ∧ (FT W (fun j => (X j ∨ j = w.heap.size) ∨ j = w.heap.size + 1) w' bt p pm N pool (o + 1) (updM M x i (wdD (dT y))) C root ∧ Fr (Out W X) w w') ∧ SBk w' w.heap.size s ∧ SBk w' (w.heap.size + 1) ⟨0, 0, 0, dN⟩) := fun v k hz sb sc => by
    rw [hs]
    have f1 : FT W (fun j => (X j ∨ j = w.heap.size) ∨ j = w.heap.size + 1) v bt p pm N pool o M C root :=
      ⟨by obtain ⟨ops, B, h1, h2, S, h3⟩ := h.fw
          exact ⟨ops, B, h1, h2, S, h3.fs.kp k, h3.kp.trans k, fun i hi => ⟨(h3.out i hi).1, fun c => by
            have := h3.fs.own i hi
            rcases c with (c | c) | c
            · exact (h3.out i hi).2 c
            · omega
            · omega⟩, fun i hi => by
            rcases hi with (hi | hi) | hi
            · have := h3.lt i hi; have := k.size; omega
            · omega
            · omega, h3.t0⟩, h.tx.kp k, .inl (.inl h.xb), h.bw⟩
    exact (put_any f1 x i s.l (dT y) hx hi (okD_table hl hy) ho).mono fun e w' ⟨e1, e2, e3⟩ => ⟨e1, ⟨e2, (k.fr _).trans (e3.less fun _ c => .inl (.inl c))⟩, sb.fr e3 (fun c => c.2 (.inl (.inr rfl))), sc.fr e3 (fun c => c.2 (.inr rfl))⟩
  have K2 : Aside (∀ v, Calls Tryz.prog 50 #[.int .u64 ((page * 4096 : Nat) : Int), .int .i64 ((s.l : Int) + 1)] v fun e w' => e = .returned (.int .i64 ((qn page (s.l + 1) % 512 : Nat) : Int)) ∧ Dr v w') := fun v => by
    have := index_any (page * 4096) ((s.l + 1 : Nat) : Int) v (by omega)
    rw [idx_qn (by omega)] at this
    exact this
  have K3 : Aside (∀ v, Calls Tryz.prog 107 #[.int .u64 ((y * 4096 : Nat) : Int), .int .i64 ((qn page (s.l + 1) % 512 : Nat) : Int)] v fun e w' => e = .returned (.int .u64 ((y * 4096 + 8 * (qn page (s.l + 1) % 512) : Nat) : Int)) ∧ w' = v) := fun v => entryAt_any y _ v hy (Nat.mod_lt _ (by decide))
  have xl := h.fw.xlt
  have XL : Aside (∀ b, X b → b < w.heap.size) := xl
  obtain ⟨u, hu⟩ : ∃ u, u = page * 4096 := ⟨_, rfl⟩
  have z1 : IntKind.u64.wrap ((page : Int) * 4096) = (u : Int) := by simp [IntKind.wrap, IntKind.bits, IntKind.signed]; omega
  have z2 : (s.l : Int) ≤ 2 := by omega
  have HB : Hid (X bt ∧ W.heap.size ≤ w.heap.size) := ⟨h.xb, h.fw.kp.size⟩
  rw [← hu] at K2
  clear h hs hx hi hy hp ho hu hl xl
  generalize updM M x i (wdD (dT y)) = M1 at *
  generalize y * 4096 + 8 * (qn page (s.l + 1) % 512) = a2 at *
  generalize qn page (s.l + 1) % 512 = i2 at *
  generalize y * 4096 = ya at *
  obtain ⟨l, pp, u', k, a, r, q, e, f⟩ := s
  unfold svV
  simp only at *
  go_enter Tryz.func99, Tryz.ntmps99
  go_wp2_with fail
  with_reducible refine (K1.out _ (((Kp.refl w).alloc _).alloc _) (by simp) ((SBk.made w ⟨l, pp, u', k, a, r, q, e, f⟩).kp ((Kp.refl _).alloc _)) (by have := SBk.made (w.alloc (.cells #[.int .i64 (l : Int), .int .u64 (pp : Int), .int .u64 (u' : Int), .int .i64 k, .int .u64 (a : Int), .bool r, .bool q, .bool e, .int .i64 f] 64)) ⟨0, 0, 0, dN⟩; simpa [dN] using this)).mono ?_
  rintro _ w1 ⟨rfl, H1, S1, S2⟩
  have c0 := S1.c 0 rfl
  have HH : Hid ((FT W (fun j => (X j ∨ j = w.heap.size) ∨ j = w.heap.size + 1) w1 bt p pm N pool (o + 1) M1 C root ∧ Fr (Out W X) w w1) ∧ SBk w1 (w.heap.size + 1) ⟨0, 0, 0, dN⟩) := ⟨H1, S2⟩
  clear K1 H1 S1 S2
  go_wp2_with fail
  with_reducible refine (K2.out _).mono ?_
  rintro _ w2 ⟨rfl, D2⟩
  have H2 : Hid ((FT W (fun j => (X j ∨ j = w.heap.size) ∨ j = w.heap.size + 1) w2 bt p pm N pool (o + 1) M1 C root ∧ Fr (Out W X) w w2) ∧ SBk w2 (w.heap.size + 1) ⟨0, 0, 0, dN⟩) := by
    obtain ⟨⟨a1, a2⟩, a3⟩ := HH.out
    exact ⟨⟨a1.kps D2.kp, a2.trans (D2.kp.fr _)⟩, a3.kp D2.kp⟩
  have s2 := H2.out.2
  have f0 := s2.fz 0
  have f1 := s2.fz 1
  have f2 := s2.fz 2
  have f3 := s2.fz 3
  have f4 := s2.fz 4
  have f5 := s2.fz 5
  have f6 := s2.fz 6
  have f7 := s2.fz 7
  have f8 := s2.fz 8
  have t0 := s2.c 0 rfl
  have t1 := s2.c 1 rfl
  have t2 := s2.c 2 rfl
  have t3 := s2.c 3 rfl
  have t4 := s2.c 4 rfl
  have t5 := s2.c 5 rfl
  have t6 := s2.c 6 rfl
  have t7 := s2.c 7 rfl
  have t8 := s2.c 8 rfl
  clear HH K2 D2 s2 c0
  go_wp2_with (go_at_call 107; with_reducible refine (K3.out _).mono ?_; rintro _ w' ⟨rfl, rfl⟩)
  obtain ⟨⟨g1, g2⟩, g3⟩ := H2.out
  obtain ⟨xb, hz⟩ := HB.out
  have bb : ¬ bt = w.heap.size + 1 := fun c => by have := XL.out bt xb; omega
  refine bodyPost_ret (res_s (b := w.heap.size + 1) (s := ⟨l + 1, a2, 0, dN⟩) rfl rfl (g3.put ⟨l + 1, a2, 0, dN⟩)) rfl ⟨rfl, ?_, g2.putS (b := w.heap.size + 1) ⟨by omega, fun c => by have := XL.out _ c; omega⟩ ⟨l + 1, a2, 0, dN⟩⟩
  have k := Fr.putS (S := (· = w.heap.size + 1)) (Fr.refl _ w') rfl ⟨l + 1, a2, 0, dN⟩
  exact FT.less (Y := fun j => (X j ∨ j = w.heap.size) ∨ j = w.heap.size + 1) ⟨g1.fw.frX k (fun j c => ⟨by omega, .inr c⟩), g1.tx.fr k bb, g1.xb, g1.bw⟩ (fun _ c => .inl (.inl c)) xb
end
end Go.Proofs.YtcankhnnikhblaaGreatDoor

/- stage2: tell, Get, Need. -/
namespace Go.Proofs.YtcankhnnikhblaaGreatDoor
open Go.RowKit
set_option maxRecDepth 10000

/-- A leaf: page, frame, permissions, soft, level. -/
structure LV where
  g : Nat
  x : Nat
  r : Bool
  q : Bool
  e : Bool
  f : Int
  l : Nat
def lvV (v : LV) : Value := .agg #[.int .u64 (v.g : Int), .int .i64 (v.x : Int), .bool v.r, .bool v.q, .bool v.e, .int .i64 v.f, .int .i64 (v.l : Int)]
def lvZ : LV := ⟨0, 0, false, false, false, 0, 0⟩
theorem row_seven {w : World} {b : Nat} {t : TypeId} {a0 a1 a2 a3 a4 a5 a6 : Value} (c0 c1 c2 c3 c4 c5 c6 : Value) (h : w.heap[b]? = some (.cells #[a0, a1, a2, a3, a4, a5, a6] t (0, 0))) : (((((((w.setCell ⟨b, 0, none⟩ c0).setCell ⟨b, 1, none⟩ c1).setCell ⟨b, 2, none⟩ c2).setCell ⟨b, 3, none⟩ c3).setCell ⟨b, 4, none⟩ c4).setCell ⟨b, 5, none⟩ c5).setCell ⟨b, 6, none⟩ c6).heap[b]? = some (.cells #[c0, c1, c2, c3, c4, c5, c6] t (0, 0)) := by
  have h0 : (w.setCell ⟨b, 0, none⟩ c0).heap[b]? = some (.cells #[c0, a1, a2, a3, a4, a5, a6] t (0, 0)) := heap_setCell_same _ b 0 _ _ c0 h
  have h1 : ((w.setCell ⟨b, 0, none⟩ c0).setCell ⟨b, 1, none⟩ c1).heap[b]? = some (.cells #[c0, c1, a2, a3, a4, a5, a6] t (0, 0)) := heap_setCell_same _ b 1 _ _ c1 h0
  have h2 : (((w.setCell ⟨b, 0, none⟩ c0).setCell ⟨b, 1, none⟩ c1).setCell ⟨b, 2, none⟩ c2).heap[b]? = some (.cells #[c0, c1, c2, a3, a4, a5, a6] t (0, 0)) := heap_setCell_same _ b 2 _ _ c2 h1
  have h3 : ((((w.setCell ⟨b, 0, none⟩ c0).setCell ⟨b, 1, none⟩ c1).setCell ⟨b, 2, none⟩ c2).setCell ⟨b, 3, none⟩ c3).heap[b]? = some (.cells #[c0, c1, c2, c3, a4, a5, a6] t (0, 0)) := heap_setCell_same _ b 3 _ _ c3 h2
  have h4 : (((((w.setCell ⟨b, 0, none⟩ c0).setCell ⟨b, 1, none⟩ c1).setCell ⟨b, 2, none⟩ c2).setCell ⟨b, 3, none⟩ c3).setCell ⟨b, 4, none⟩ c4).heap[b]? = some (.cells #[c0, c1, c2, c3, c4, a5, a6] t (0, 0)) := heap_setCell_same _ b 4 _ _ c4 h3
  have h5 : ((((((w.setCell ⟨b, 0, none⟩ c0).setCell ⟨b, 1, none⟩ c1).setCell ⟨b, 2, none⟩ c2).setCell ⟨b, 3, none⟩ c3).setCell ⟨b, 4, none⟩ c4).setCell ⟨b, 5, none⟩ c5).heap[b]? = some (.cells #[c0, c1, c2, c3, c4, c5, a6] t (0, 0)) := heap_setCell_same _ b 5 _ _ c5 h4
  have h6 : (((((((w.setCell ⟨b, 0, none⟩ c0).setCell ⟨b, 1, none⟩ c1).setCell ⟨b, 2, none⟩ c2).setCell ⟨b, 3, none⟩ c3).setCell ⟨b, 4, none⟩ c4).setCell ⟨b, 5, none⟩ c5).setCell ⟨b, 6, none⟩ c6).heap[b]? = some (.cells #[c0, c1, c2, c3, c4, c5, c6] t (0, 0)) := heap_setCell_same _ b 6 _ _ c6 h5
  exact h6
/-- The world behind a store of a whole leaf. -/
def putL (w : World) (b : Nat) (v : LV) : World :=
  ((((((w.setCell ⟨b, 0, none⟩ (.int .u64 (v.g : Int))).setCell ⟨b, 1, none⟩ (.int .i64 (v.x : Int))).setCell ⟨b, 2, none⟩ (.bool v.r)).setCell ⟨b, 3, none⟩ (.bool v.q)).setCell ⟨b, 4, none⟩ (.bool v.e)).setCell ⟨b, 5, none⟩ (.int .i64 v.f)).setCell ⟨b, 6, none⟩ (.int .i64 (v.l : Int))
def LB (w : World) (b : Nat) (v : LV) : Prop := w.heap[b]? = some (.cells #[.int .u64 (v.g : Int), .int .i64 (v.x : Int), .bool v.r, .bool v.q, .bool v.e, .int .i64 v.f, .int .i64 (v.l : Int)] 58 (0, 0))
section
variable {w w' : World} {b : Nat} {v : LV}
theorem LB.lt (h : LB w b v) : b < w.heap.size := (Array.getElem?_eq_some_iff.1 h).1
theorem LB.kp (h : LB w b v) (g : Kp w w') : LB w' b v := (g.block b h.lt).trans h
theorem LB.fr {S : Nat → Prop} (h : LB w b v) (g : Fr S w w') (hS : ¬ S b) : LB w' b v := (g.block b h.lt hS).trans h
theorem LB.fz (h : LB w b v) (j : Nat) : w.frozen? ⟨b, j, none⟩ = false := frozen_of_row w b j _ _ h
theorem LB.load (h : LB w b v) : (loadVar 58 ⟨b, 0, none⟩).run Tryz.prog w = .ok (lvV v) w :=
  run_loadVar_row w b _ 58 _ _ _ h Tryz.underlying58 rfl (by kernel_rfl)
theorem LB.c0 (h : LB w b v) : w.cell? ⟨b, 0, none⟩ = some (.int .u64 (v.g : Int)) := by rw [cell_of_row w b 0 _ _ _ h]; rfl
theorem LB.c1 (h : LB w b v) : w.cell? ⟨b, 1, none⟩ = some (.int .i64 (v.x : Int)) := by rw [cell_of_row w b 1 _ _ _ h]; rfl
theorem LB.c2 (h : LB w b v) : w.cell? ⟨b, 2, none⟩ = some (.bool v.r) := by rw [cell_of_row w b 2 _ _ _ h]; rfl
theorem LB.c3 (h : LB w b v) : w.cell? ⟨b, 3, none⟩ = some (.bool v.q) := by rw [cell_of_row w b 3 _ _ _ h]; rfl
theorem LB.c4 (h : LB w b v) : w.cell? ⟨b, 4, none⟩ = some (.bool v.e) := by rw [cell_of_row w b 4 _ _ _ h]; rfl
theorem LB.c5 (h : LB w b v) : w.cell? ⟨b, 5, none⟩ = some (.int .i64 v.f) := by rw [cell_of_row w b 5 _ _ _ h]; rfl
theorem LB.c6 (h : LB w b v) : w.cell? ⟨b, 6, none⟩ = some (.int .i64 (v.l : Int)) := by rw [cell_of_row w b 6 _ _ _ h]; rfl
theorem LB.put (h : LB w b v) (u : LV) : LB (putL w b u) b u := row_seven _ _ _ _ _ _ _ h
theorem LB.made (w : World) (v : LV) : LB (w.alloc (.cells #[.int .u64 (v.g : Int), .int .i64 (v.x : Int), .bool v.r, .bool v.q, .bool v.e, .int .i64 v.f, .int .i64 (v.l : Int)] 58)) w.heap.size v := heap_alloc_new w _
theorem Fr.putL {S : Nat → Prop} (h : Fr S w w') (hb : S b) (v : LV) : Fr S w (putL w' b v) :=
  ((((((h.set _ _ hb).set _ _ hb).set _ _ hb).set _ _ hb).set _ _ hb).set _ _ hb).set _ _ hb
theorem res_l {fn : Func} {c : Tmp} {tmps : Array Value} (hf : fn.results = #[.cell c 58]) (hc : tmps.getD c undef = .pointer (some ⟨b, 0, none⟩)) (B : LB w b v) :
    (results fn tmps).run Tryz.prog w = .ok (lvV v) w := by
  have hc' : tmps[c]?.getD undef = .pointer (some ⟨b, 0, none⟩) := by simpa using hc
  simp [results, hf, hc', asAddr, B.load]
theorem res_l2 {fn : Func} {c t : Tmp} {tmps : Array Value} (hf : fn.results = #[.cell c 58, .tmp t]) (hc : tmps.getD c undef = .pointer (some ⟨b, 0, none⟩)) (B : LB w b v) :
    (results fn tmps).run Tryz.prog w = .ok (.tuple #[lvV v, tmps.getD t undef]) w := by
  have hc' : tmps[c]?.getD undef = .pointer (some ⟨b, 0, none⟩) := by simpa using hc
  simp [results, hf, hc', asAddr, B.load]
end
/-- What a leaf says of a page. -/
def tellN (page l : Nat) (d : DV) : LV := ⟨page, d.a / 4096 + (if l = 2 then page % 512 else 0), d.r, d.q, d.x, d.f, l⟩
theorem out_leaf {page l : Nat} {d : DV} (ok : okD l d) (hk : (d.k = 2 ∧ l = 2) ∨ (d.k = 3 ∧ l = 3)) : outN (page * 4096) (l : Int) d.k d.a / 4096 = d.a / 4096 + (if l = 2 then page % 512 else 0) ∧ outN (page * 4096) (l : Int) d.k d.a < 18446744073709551616 := by
  have h := ok.parts
  have h1 := h.2.2.2.2.2.1
  have h2 := h.2.2.2.2.2.2.1
  unfold outN inN
  rcases hk with ⟨c1, rfl⟩ | ⟨c1, rfl⟩
  · rw [if_pos (.inl c1), show spn ((2 : Nat) : Int) = 2097152 from rfl, if_neg (by decide), if_pos rfl]
    omega
  · rw [if_pos (.inr c1), show spn ((3 : Nat) : Int) = 4096 from rfl, if_neg (by decide), if_neg (by decide)]
    omega
set_option maxHeartbeats 4000000 in
theorem tell_any (page : Nat) (s : SV) (w : World) (ok : okD s.l s.d) (hp : page < 268435456) (hk : (s.d.k = 2 ∧ s.l = 2) ∨ (s.d.k = 3 ∧ s.l = 3)) :
    Calls Tryz.prog 58 #[.int .u64 (page : Int), svV s] w fun e w' => e = .returned (lvV (tellN page s.l s.d)) ∧ Kp w w' := by
  obtain ⟨e1, e2⟩ := out_leaf (page := page) ok hk
  have K1 : Aside (∀ v, Calls Tryz.prog 22 #[.int .u64 ((page * 4096 : Nat) : Int), .agg #[.int .i64 (s.l : Int), .int .u64 (s.p : Int), .int .u64 (s.u : Int), .int .i64 s.d.k, .int .u64 (s.d.a : Int), .bool s.d.r, .bool s.d.q, .bool s.d.x, .int .i64 s.d.f]] v fun e w' => e = .returned (.int .u64 (outN (page * 4096) (s.l : Int) s.d.k s.d.a : Int)) ∧ Kp v w') := fun v => out_any (page * 4096) s.d.a (s.l : Int) (s.p : Int) (s.u : Int) s.d.k s.d.r s.d.q s.d.x s.d.f v
  have K2 : Aside (∀ v, Calls Tryz.prog 70 #[.int .u64 (outN (page * 4096) (s.l : Int) s.d.k s.d.a : Int)] v fun e w' => e = .returned (.int .i64 ((outN (page * 4096) (s.l : Int) s.d.k s.d.a / 4096 : Nat) : Int)) ∧ w' = v) := fun v => frameOf_any _ v e2
  unfold tellN
  rw [← e1]
  obtain ⟨u, hu⟩ : ∃ u, u = page * 4096 := ⟨_, rfl⟩
  have z1 : IntKind.u64.wrap ((page : Int) * 4096) = (u : Int) := by simp [IntKind.wrap, IntKind.bits, IntKind.signed]; omega
  rw [← hu] at K1 K2 ⊢
  clear e1 e2 hk hp ok hu
  generalize outN u (s.l : Int) s.d.k s.d.a = a2 at *
  generalize a2 / 4096 = y at *
  obtain ⟨l, pp, u', k, a, r, q, e, f⟩ := s
  unfold svV
  simp only at *
  go_enter Tryz.func58, Tryz.ntmps58
  go_wp2_with fail
  with_reducible refine (K1.out _).mono ?_
  rintro _ w1 ⟨rfl, k1⟩
  have S1 : SBk w1 w.heap.size ⟨l, pp, u', k, a, r, q, e, f⟩ := ((SBk.made w ⟨l, pp, u', k, a, r, q, e, f⟩).kp ((Kp.refl _).alloc _)).kp k1
  have L1 : LB w1 (w.heap.size + 1) lvZ := LB.kp (by have := LB.made (w.alloc (.cells #[.int .i64 (l : Int), .int .u64 (pp : Int), .int .u64 (u' : Int), .int .i64 k, .int .u64 (a : Int), .bool r, .bool q, .bool e, .int .i64 f] 64)) lvZ; simpa [lvZ] using this) k1
  have HK : Hid (Kp w w1 ∧ LB w1 (w.heap.size + 1) lvZ) := ⟨(((Kp.refl w).alloc _).alloc _).trans k1, L1⟩
  have c0 := S1.c 0 rfl
  have c5 := S1.c 5 rfl
  have c6 := S1.c 6 rfl
  have c7 := S1.c 7 rfl
  have c8 := S1.c 8 rfl
  have f0 := L1.fz 0
  have f1 := L1.fz 1
  have f2 := L1.fz 2
  have f3 := L1.fz 3
  have f4 := L1.fz 4
  have f5 := L1.fz 5
  have f6 := L1.fz 6
  have t0 := L1.c0
  have t1 := L1.c1
  have t2 := L1.c2
  have t3 := L1.c3
  have t4 := L1.c4
  have t5 := L1.c5
  have t6 := L1.c6
  clear K1 k1 S1 L1
  go_wp2_with (go_at_call 70; with_reducible refine (K2.out _).mono ?_; rintro _ w' ⟨rfl, rfl⟩)
  obtain ⟨g1, g2⟩ := HK.out
  exact bodyPost_ret (res_l (b := w.heap.size + 1) (v := ⟨page, y, r, q, e, f, l⟩) rfl rfl (g2.put ⟨page, y, r, q, e, f, l⟩)) rfl ⟨rfl, Fr.kp (Fr.putL (S := (· = w.heap.size + 1)) (Fr.refl _ w') rfl ⟨page, y, r, q, e, f, l⟩) g1 (fun i c => by omega)⟩
end Go.Proofs.YtcankhnnikhblaaGreatDoor

/- stage2: Get, Need; pages that cannot be, and tables that are gone. -/
namespace Go.Proofs.YtcankhnnikhblaaGreatDoor
open Go.RowKit
set_option maxRecDepth 10000

/-- Behind Free. -/
def TXn (w : World) (b : Nat) : Prop := w.heap[b]? = some (.cells #[.pointer none, .int .u64 0] 93 (0, 0))
section
variable {w w' : World} {b : Nat}
theorem TXn.lt (h : TXn w b) : b < w.heap.size := (Array.getElem?_eq_some_iff.1 h).1
theorem TXn.fr {S : Nat → Prop} (h : TXn w b) (k : Fr S w w') (hS : ¬ S b) : TXn w' b := (k.block b h.lt hS).trans h
theorem TXn.kp (h : TXn w b) (k : Kp w w') : TXn w' b := (k.block b h.lt).trans h
theorem TXn.c0 (h : TXn w b) : w.cell? ⟨b, 0, none⟩ = some (.pointer none) := by rw [cell_of_row w b 0 _ _ _ h]; rfl
theorem TXn.c1 (h : TXn w b) : w.cell? ⟨b, 1, none⟩ = some (.int .u64 0) := by rw [cell_of_row w b 1 _ _ _ h]; rfl
end
theorem eql_frames (p : Nat) (w : World) : (binOp .eql 24 (.pointer (some ⟨p, 0, none⟩)) (.pointer none)).run Tryz.prog w = .ok (.bool false) w := by kernel_rfl
/-- No way. -/
def NW (w : World) (b : Nat) (page : Nat) : Prop := TXn w b ∨ (∃ p root, TX w b p root) ∧ 268435456 ≤ page
theorem NW.kp {w w' : World} {b page : Nat} (h : NW w b page) (k : Kp w w') : NW w' b page := by
  rcases h with h | ⟨⟨p, root, h⟩, h2⟩
  · exact .inl (h.kp k)
  · exact .inr ⟨⟨p, root, h.kp k⟩, h2⟩
set_option maxHeartbeats 4000000 in
theorem way_no {w : World} {b page : Nat} (h : NW w b page) : Calls Tryz.prog 57 #[.pointer (some ⟨b, 0, none⟩), .int .u64 (page : Int)] w fun e w' => e = .returned (.tuple #[.slice none 0 0, .bool false]) ∧ w' = w := by
  rcases h with h | ⟨⟨p, root, h⟩, h2⟩
  · have c0 := h.c0
    clear h
    go_enter Tryz.func57, Tryz.ntmps57
    go_wp2
    go_ret2
    exact ⟨rfl, rfl⟩
  · have c0 := h.c0
    have g1 : decide ((268435456 : Int) ≤ (page : Int)) = true := decide_eq_true (by omega)
    have g2 : decide (268435456 ≤ page) = true := decide_eq_true (by omega)
    clear h h2
    go_enter Tryz.func57, Tryz.ntmps57
    go_wp2
    go_ret2
    exact ⟨rfl, rfl⟩
set_option maxHeartbeats 4000000 in
theorem need_no {w : World} {b page : Nat} (h : NW w b page) : Calls Tryz.prog 29 #[.pointer (some ⟨b, 0, none⟩), .int .u64 (page : Int)] w fun e w' => e = .returned (.int .i64 0) ∧ w' = w := by
  have k1 := way_no h
  clear h
  go_enter Tryz.func29, Tryz.ntmps29
  go_wp2_with (go_at_call 57; with_reducible refine k1.mono ?_; rintro e w' ⟨rfl, rfl⟩)
  go_ret
  exact ⟨rfl, rfl⟩
set_option maxHeartbeats 4000000 in
theorem get_no {w : World} {b page : Nat} (h : NW w b page) : Calls Tryz.prog 21 #[.pointer (some ⟨b, 0, none⟩), .int .u64 (page : Int)] w fun e w' => e = .returned (.tuple #[lvV lvZ, .bool false]) ∧ Kp w w' := by
  have k1 := way_no (h.kp ((Kp.refl w).alloc (.cells #[.int .u64 0, .int .i64 0, .bool false, .bool false, .bool false, .int .i64 0, .int .i64 0] 58)))
  clear h
  go_enter Tryz.func21, Tryz.ntmps21
  go_wp2_with (go_at_call 57; with_reducible refine k1.mono ?_; rintro e w' ⟨rfl, rfl⟩)
  exact bodyPost_ret (res_l2 (v := lvZ) rfl rfl (heap_alloc_new w _)) rfl ⟨rfl, (Kp.refl _).alloc _⟩

section
variable {W w w' : World} {X Y : Nat → Prop} {bt p pm N pool o : Nat} {M : Nat → Nat → Nat} {C : Nat → Nat} {Z : Nat → Bool} {root : Nat} {E : Nat → Nat → DV}
/-- How many tables lack. -/
def needN (E : Nat → Nat → DV) (page : Nat) : Nat := if (enG E page).k ≠ 0 then 0 else 3 - lvG E page
theorem TG.leafK (h : TG M C pool Z root E) {page : Nat} (hk : (enG E page).k ≠ 0) : ((enG E page).k = 2 ∧ lvG E page = 2) ∨ ((enG E page).k = 3 ∧ lvG E page = 3) := by
  have h1 := h.last page
  have h2 := (h.ok (lvG E page) (qn page (lvG E page)) (lvG_le _ _)).parts
  have h3 := h.blk (lvG E page) (qn page (lvG E page)) (lvG_le _ _)
  unfold enG at *
  rcases (by omega : (E (lvG E page) (qn page (lvG E page))).k = 2 ∨ (E (lvG E page) (qn page (lvG E page))).k = 3) with c | c
  · exact .inl ⟨c, h3 c⟩
  · exact .inr ⟨c, h2.2.2.2.2.2.2.2.2.2.1 c⟩
set_option maxHeartbeats 4000000 in
theorem need_any (h : TS W X w bt p pm N pool o M C Z root E) (page : Nat) (hp : page < 268435456) (ho : o < 4000000000000000000) :
    Calls Tryz.prog 29 #[.pointer (some ⟨bt, 0, none⟩), .int .u64 (page : Int)] w fun e w' => e = .returned (.int .i64 (needN E page : Nat)) ∧ TS W X w' bt p pm N pool (o + 4) M C Z root E ∧ Fr (Out W X) w w' := by
  have k1 := way_any h page hp ho
  have xb := h.xb
  have hl := lvG_le E page
  have hs := stps_get (root := root) (E := E) (p := page) (Nat.le_refl _)
  unfold needN
  have z1 : (lvG E page : Int) ≤ 3 := by omega
  have HS : Hid ((stps root E page)[lvG E page]? = some (stp root E page (lvG E page)) ∧ lvG E page ≤ 3 ∧ X bt) := ⟨hs, hl, xb⟩
  clear h ho hp hs hl xb
  by_cases ck : (enG E page).k ≠ 0
  · rw [if_pos ck]
    rw [decide_eq_true ck] at k1
    have K1 : Aside (Calls Tryz.prog 57 #[.pointer (some ⟨bt, 0, none⟩), .int .u64 (page : Int)] w fun e w' => e = .returned (.tuple #[.slice (some ⟨w.heap.size, 0, none⟩) (lvG E page + 1) 4, .bool true]) ∧ WL w' w.heap.size (stps root E page) ∧ TS W (fun i => X i ∨ i = w.heap.size) w' bt p pm N pool (o + 4) M C Z root E ∧ Fr (Out W X) w w') := k1
    clear k1 ck
    generalize lvG E page = l at *
    go_enter Tryz.func29, Tryz.ntmps29
    go_wp2_with fail
    with_reducible refine K1.out.mono ?_
    rintro e w1 ⟨rfl, _, t1, r1⟩
    have H1 : Hid (TS W X w1 bt p pm N pool (o + 4) M C Z root E ∧ Fr (Out W X) w w1) := ⟨t1.less (fun _ => .inl) HS.out.2.2, r1⟩
    clear t1 r1 K1
    go_wp2
    go_ret
    exact ⟨rfl, H1.out⟩
  · rw [if_neg ck]
    rw [decide_eq_false ck] at k1
    have K1 : Aside (Calls Tryz.prog 57 #[.pointer (some ⟨bt, 0, none⟩), .int .u64 (page : Int)] w fun e w' => e = .returned (.tuple #[.slice (some ⟨w.heap.size, 0, none⟩) (lvG E page + 1) 4, .bool false]) ∧ WL w' w.heap.size (stps root E page) ∧ TS W (fun i => X i ∨ i = w.heap.size) w' bt p pm N pool (o + 4) M C Z root E ∧ Fr (Out W X) w w') := k1
    have e3 : ((3 - lvG E page : Nat) : Int) = 3 - (lvG E page : Int) := by omega
    rw [e3]
    have hf : ∀ w' : World, (Instr.field 64 (svV (stp root E page (lvG E page))) 0).run Tryz.prog w' = .ok (.int .i64 (lvG E page : Int)) w' := fun w' => by unfold svV; kernel_rfl
    have z3 : ((lvG E page : Int) + 1 == 0) = false := by rw [beq_eq_false_iff_ne]; omega
    clear k1 ck e3
    generalize stps root E page = L at *
    generalize stp root E page (lvG E page) = st at *
    generalize lvG E page = l at *
    go_enter Tryz.func29, Tryz.ntmps29
    go_wp2_with fail
    with_reducible refine K1.out.mono ?_
    rintro e w1 ⟨rfl, L1, t1, r1⟩
    have k2 := last_any L1 HS.out.2.1 HS.out.1
    have H1 : Hid (TS W X w1 bt p pm N pool (o + 4) M C Z root E ∧ Fr (Out W X) w w1) := ⟨t1.less (fun _ => .inl) HS.out.2.2, r1⟩
    clear t1 r1 K1 L1
    go_wp2_with fail
    with_reducible refine k2.mono ?_
    rintro e w2 ⟨rfl, k3⟩
    have H2 : Hid (TS W X w2 bt p pm N pool (o + 4) M C Z root E ∧ Fr (Out W X) w w2) := ⟨H1.out.1.kps k3, H1.out.2.trans (k3.fr _)⟩
    clear k3 k2 H1
    go_wp2
    go_ret
    exact ⟨rfl, H2.out⟩
/-- What Get tells. -/
def getN (E : Nat → Nat → DV) (page : Nat) : LV := if (enG E page).k ≠ 0 then tellN page (lvG E page) (enG E page) else lvZ
set_option maxHeartbeats 4000000 in
theorem get_any (h : TS W X w bt p pm N pool o M C Z root E) (page : Nat) (hp : page < 268435456) (ho : o < 4000000000000000000) :
    Calls Tryz.prog 21 #[.pointer (some ⟨bt, 0, none⟩), .int .u64 (page : Int)] w fun e w' => e = .returned (.tuple #[lvV (getN E page), .bool (decide ((enG E page).k ≠ 0))]) ∧ TS W X w' bt p pm N pool (o + 4) M C Z root E ∧ Fr (Out W X) w w' := by
  have ka : Kp w (w.alloc (.cells #[.int .u64 0, .int .i64 0, .bool false, .bool false, .bool false, .int .i64 0, .int .i64 0] 58)) := (Kp.refl w).alloc _
  have k1 := way_any (h.more ka w.heap.size (Nat.le_refl _) (by simp)) page hp ho
  rw [show (w.alloc (.cells #[.int .u64 0, .int .i64 0, .bool false, .bool false, .bool false, .int .i64 0, .int .i64 0] 58)).heap.size = w.heap.size + 1 by simp] at k1
  have L0 : LB (w.alloc (.cells #[.int .u64 0, .int .i64 0, .bool false, .bool false, .bool false, .int .i64 0, .int .i64 0] 58)) w.heap.size lvZ := heap_alloc_new w _
  have xb := h.xb
  have hz := h.fw.kp.size
  have nx : ¬ X w.heap.size := fun c => by have := h.fw.xlt _ c; omega
  have hl := lvG_le E page
  have hs := stps_get (root := root) (E := E) (p := page) (Nat.le_refl _)
  have K3 : Aside ((enG E page).k ≠ 0 → ∀ v, Calls Tryz.prog 58 #[.int .u64 (page : Int), svV (stp root E page (lvG E page))] v fun e w' => e = .returned (lvV (tellN page (lvG E page) (enG E page))) ∧ Kp v w') := fun ck v => tell_any page (stp root E page (lvG E page)) v (h.tg.ok _ _ hl) hp (h.tg.leafK ck)
  unfold getN
  have HS : Hid ((stps root E page)[lvG E page]? = some (stp root E page (lvG E page)) ∧ lvG E page ≤ 3 ∧ X bt ∧ W.heap.size ≤ w.heap.size ∧ ¬ X w.heap.size ∧ Kp w (w.alloc (.cells #[.int .u64 0, .int .i64 0, .bool false, .bool false, .bool false, .int .i64 0, .int .i64 0] 58)) ∧ LB (w.alloc (.cells #[.int .u64 0, .int .i64 0, .bool false, .bool false, .bool false, .int .i64 0, .int .i64 0] 58)) w.heap.size lvZ) := ⟨hs, hl, xb, hz, nx, ka, L0⟩
  clear h ho hp hs hl xb hz nx ka L0
  have K1 : Aside (Calls Tryz.prog 57 #[.pointer (some ⟨bt, 0, none⟩), .int .u64 (page : Int)] (w.alloc (.cells #[.int .u64 0, .int .i64 0, .bool false, .bool false, .bool false, .int .i64 0, .int .i64 0] 58)) fun e w' => e = .returned (.tuple #[.slice (some ⟨w.heap.size + 1, 0, none⟩) (lvG E page + 1) 4, .bool (decide ((enG E page).k ≠ 0))]) ∧ WL w' (w.heap.size + 1) (stps root E page) ∧ Hid (TS W (fun i => X i ∨ i = w.heap.size) w' bt p pm N pool (o + 4) M C Z root E ∧ Fr (Out W X) w w') ∧ LB w' w.heap.size lvZ) := k1.mono fun e w' ⟨e1, e2, e3, e4⟩ => ⟨e1, e2, ⟨e3.less (fun _ => .inl) (.inl HS.out.2.2.1), (HS.out.2.2.2.2.2.1.fr _).trans (e4.less fun _ => .inl)⟩, HS.out.2.2.2.2.2.2.fr e4 (fun c => c.2 (.inr rfl))⟩
  clear k1
  by_cases ck : (enG E page).k ≠ 0
  · rw [if_pos ck]
    rw [decide_eq_true ck] at K1 ⊢
    have k3 := K3.out ck
    clear K3 ck
    generalize stps root E page = L at *
    generalize stp root E page (lvG E page) = st at *
    generalize tellN page (lvG E page) (enG E page) = tv at *
    generalize lvG E page = l at *
    go_enter Tryz.func21, Tryz.ntmps21
    go_wp2_with fail
    with_reducible refine K1.out.mono ?_
    rintro e w1 ⟨rfl, L1, H1, B1⟩
    have k2 := last_any L1 HS.out.2.1 HS.out.1
    clear K1 L1
    go_wp2_with fail
    with_reducible refine k2.mono ?_
    rintro e w2 ⟨rfl, kk⟩
    have H2 : Hid (TS W (fun i => X i ∨ i = w.heap.size) w2 bt p pm N pool (o + 4) M C Z root E ∧ Fr (Out W X) w w2) := ⟨H1.out.1.kps kk, H1.out.2.trans (kk.fr _)⟩
    have B2 := B1.kp kk
    clear kk k2 H1 B1
    go_wp2_with fail
    with_reducible refine (k3 _).mono ?_
    rintro e w3 ⟨rfl, kk⟩
    have H3 : Hid (TS W (fun i => X i ∨ i = w.heap.size) w3 bt p pm N pool (o + 4) M C Z root E ∧ Fr (Out W X) w w3) := ⟨H2.out.1.kps kk, H2.out.2.trans (kk.fr _)⟩
    have B3 := B2.kp kk
    have HB : Hid (LB w3 w.heap.size lvZ) := B3
    have f0 := B3.fz 0
    have f1 := B3.fz 1
    have f2 := B3.fz 2
    have f3 := B3.fz 3
    have f4 := B3.fz 4
    have f5 := B3.fz 5
    have f6 := B3.fz 6
    have t0 := B3.c0
    have t1 := B3.c1
    have t2 := B3.c2
    have t3 := B3.c3
    have t4 := B3.c4
    have t5 := B3.c5
    have t6 := B3.c6
    clear kk k3 H2 B2 B3
    obtain ⟨tg, tx, tr, tq, te, tf, tl⟩ := tv
    unfold lvV
    go_wp2
    obtain ⟨g1, g2⟩ := H3.out
    obtain ⟨_, _, xb, hz, nx, _⟩ := HS.out
    refine bodyPost_ret (res_l2 (b := w.heap.size) (v := ⟨tg, tx, tr, tq, te, tf, tl⟩) rfl rfl (HB.out.put ⟨tg, tx, tr, tq, te, tf, tl⟩)) rfl ⟨rfl, ?_, g2.putL (b := w.heap.size) ⟨hz, nx⟩ ⟨tg, tx, tr, tq, te, tf, tl⟩⟩
    have k := Fr.putL (S := (· = w.heap.size)) (Fr.refl _ w3) rfl ⟨tg, tx, tr, tq, te, tf, tl⟩
    exact TS.less (g1.frX k (fun j c => ⟨by omega, .inr c⟩) (fun c => nx (c ▸ xb))) (fun _ => .inl) xb
  · rw [if_neg ck]
    rw [decide_eq_false ck] at K1 ⊢
    clear K3 ck
    generalize stps root E page = L at *
    generalize lvG E page = l at *
    go_enter Tryz.func21, Tryz.ntmps21
    go_wp2_with fail
    with_reducible refine K1.out.mono ?_
    rintro e w1 ⟨rfl, _, H1, B1⟩
    have HB : Hid (LB w1 w.heap.size lvZ) := B1
    have f0 := B1.fz 0
    have f1 := B1.fz 1
    have f2 := B1.fz 2
    have f3 := B1.fz 3
    have f4 := B1.fz 4
    have f5 := B1.fz 5
    have f6 := B1.fz 6
    have t0 := B1.c0
    have t1 := B1.c1
    have t2 := B1.c2
    have t3 := B1.c3
    have t4 := B1.c4
    have t5 := B1.c5
    have t6 := B1.c6
    clear K1 B1
    go_wp2
    obtain ⟨g1, g2⟩ := H1.out
    obtain ⟨_, _, xb, hz, nx, _⟩ := HS.out
    refine bodyPost_ret (res_l2 (b := w.heap.size) (v := lvZ) rfl rfl (HB.out.put lvZ)) rfl ⟨rfl, ?_, g2.putL (b := w.heap.size) ⟨hz, nx⟩ lvZ⟩
    have k := Fr.putL (S := (· = w.heap.size)) (Fr.refl _ w1) rfl lvZ
    exact TS.less (g1.frX k (fun j c => ⟨by omega, .inr c⟩) (fun c => nx (c ▸ xb))) (fun _ => .inl) xb
end
end Go.Proofs.YtcankhnnikhblaaGreatDoor
