/- Joined: Mask, R68, R6I, R78. -/
import Derived.Test.YtanlcmdnhhdhaaaGreatDoorJ00
import Derived.Laws.Bits128
import Derived.Test.YtanlcmdnhhdhaaaGreatDoorJ39
import Derived.Test.YtanlcmdnhhdhaaaGreatDoorJ31
import Derived.Deep.CutBlock
import Derived.Deep.DeepCutAuto
import Derived.Deep.RegionHeld3
/- Masks of ints. -/
namespace Go.Proofs.YtanlcmdnhhdhaaaGreatDoor
open Go.RowKit

theorem i64_mask (k : Nat) (M : Int) (n : Int) (hk : k ≤ 62) (h : (BitVec.ofInt 64 M).toNat = 2 ^ k - 1) : bits .and .i64 n M = n % ((2 ^ k : Nat) : Int) := by
  have key : (BitVec.ofInt 64 n &&& BitVec.ofInt 64 M).toNat = (n % ((2 ^ 64 : Nat) : Int)).toNat % 2 ^ k := by
    rw [BitVec.toNat_and, BitVec.toNat_ofInt, h, Nat.and_two_pow_sub_one_eq_mod]
  show IntKind.i64.wrap ((BitVec.ofInt 64 n &&& BitVec.ofInt 64 M).toNat : Nat) = _
  have hd : (2 ^ k : Nat) ∣ 2 ^ 64 := Nat.pow_dvd_pow 2 (by omega)
  have hp : 2 ^ k ≤ 2 ^ 62 := Nat.pow_le_pow_right (by decide) hk
  have hpos : 0 < 2 ^ k := Nat.two_pow_pos k
  have e1 : ((((n % ((2 ^ 64 : Nat) : Int)).toNat % 2 ^ k : Nat)) : Int) = n % ((2 ^ k : Nat) : Int) := by
    rw [Int.natCast_emod, Int.toNat_of_nonneg (Int.emod_nonneg _ (by decide)), Int.emod_emod_of_dvd _ (Int.natCast_dvd_natCast.2 hd)]
  rw [key, IntKind.wrap_i64, e1]
  have l1 := Int.emod_nonneg n (b := ((2 ^ k : Nat) : Int)) (by omega)
  have l2 := Int.emod_lt_of_pos n (b := ((2 ^ k : Nat) : Int)) (by omega)
  omega
theorem mask20 (n : Int) : bits .and .i64 n 1048575 = n % 1048576 := i64_mask 20 1048575 n (by decide) (by decide)
theorem mask10 (n : Int) : bits .and .i64 n 1023 = n % 1024 := i64_mask 10 1023 n (by decide) (by decide)
theorem mask5 (n : Int) : bits .and .i64 n 31 = n % 32 := i64_mask 5 31 n (by decide) (by decide)
theorem mask2 (n : Int) : bits .and .i64 n 3 = n % 4 := i64_mask 2 3 n (by decide) (by decide)
theorem mask4 (n : Int) : bits .and .i64 n 15 = n % 16 := i64_mask 4 15 n (by decide) (by decide)

end Go.Proofs.YtanlcmdnhhdhaaaGreatDoor

/- demesnelaw13.step: the last part: both are asked. -/
namespace Go.Proofs.YtanlcmdnhhdhaaaGreatDoor
open Go.RowKit
set_option maxRecDepth 10000

section
variable {W w0 : World} {X0 : Nat → Prop} {v0 : Value} {bt p pm pool o : Nat} {M0 : Nat → Nat → Nat} {C0 : Nat → Nat} {Z : Nat → Bool} {root br bf : Nat} {L0 : List LV} {fr0 : Int} {w w' : World} {C : Nat → Nat} {E : Nat → Nat → DV} {L : List LV} {fr : Int}
theorem sw_get (h : SWk W w0 X0 v0 bt p pm pool o M0 C0 Z root br bf L0 fr0 w C E L fr) (page : Nat) (ho : o < 1000000000000000000) :
    Calls Tryz.prog 18 #[.pointer (some ⟨bt, 0, none⟩), .int .u64 (page : Int)] w fun e w' => e = .returned (.tuple #[lvV (getP E page), .bool (isP E page)]) ∧ SWk W w0 X0 v0 bt p pm pool (o + 4) M0 C0 Z root br bf L0 fr0 w' C E L fr := by
  obtain ⟨X, M, v, h1, h2, h3⟩ := h.ex
  refine (pget_any h1.ts page (by omega)).mono ?_
  rintro e w' ⟨e1, t, f⟩
  exact ⟨e1, ⟨X, M, v, h1.look t f, h2.out f, h3⟩, h.sum⟩
theorem sw_need (h : SWk W w0 X0 v0 bt p pm pool o M0 C0 Z root br bf L0 fr0 w C E L fr) (page : Nat) (ho : o < 1000000000000000000) :
    Calls Tryz.prog 42 #[.pointer (some ⟨bt, 0, none⟩), .int .u64 (page : Int)] w fun e w' => e = .returned (.int .i64 (needP E page : Nat)) ∧ SWk W w0 X0 v0 bt p pm pool (o + 4) M0 C0 Z root br bf L0 fr0 w' C E L fr := by
  obtain ⟨X, M, v, h1, h2, h3⟩ := h.ex
  refine (pneed_any h1.ts page (by omega)).mono ?_
  rintro e w' ⟨e1, t, f⟩
  exact ⟨e1, ⟨X, M, v, h1.look t f, h2.out f, h3⟩, h.sum⟩
theorem sw_dget (h : SWk W w0 X0 v0 bt p pm pool o M0 C0 Z root br bf L0 fr0 w C E L fr) (page : Nat) (hp : page < 18446744073709551616) (hl : L.length ≤ 900000) :
    Calls Tryz.prog 41 #[.pointer (some ⟨br, 0, none⟩), .int .u64 (page : Int)] w fun e w' => e = .returned (.tuple #[lvV (getL false L page), .bool (isL false L page)]) ∧ SWk W w0 X0 v0 bt p pm pool o M0 C0 Z root br bf L0 fr0 w' C E L fr ∧ Kp w w' := by
  obtain ⟨X, M, v, h1, h2, h3⟩ := h.ex
  refine (rget_any h1.rq hl page hp).mono ?_
  rintro e w' ⟨e1, k⟩
  exact ⟨e1, h.kp k, k⟩
theorem sw_dneed (h : SWk W w0 X0 v0 bt p pm pool o M0 C0 Z root br bf L0 fr0 w C E L fr) (page : Nat) (hp : page < 18446744073709551616) (hl : L.length ≤ 900000) :
    Calls Tryz.prog 43 #[.pointer (some ⟨br, 0, none⟩), .int .u64 (page : Int)] w fun e w' => e = .returned (.int .i64 (needL false L page)) ∧ SWk W w0 X0 v0 bt p pm pool o M0 C0 Z root br bf L0 fr0 w' C E L fr ∧ Kp w w' := by
  obtain ⟨X, M, v, h1, h2, h3⟩ := h.ex
  refine (rneed_any h1.rq hl page hp).mono ?_
  rintro e w' ⟨e1, k⟩
  exact ⟨e1, h.kp k, k⟩
end
theorem SWk.le {W w0 : World} {X0 : Nat → Prop} {v0 : Value} {bt p pm pool o o' : Nat} {M0 : Nat → Nat → Nat} {C0 : Nat → Nat} {Z : Nat → Bool} {root br bf : Nat} {L0 : List LV} {fr0 : Int} {w : World} {C : Nat → Nat} {E : Nat → Nat → DV} {L : List LV} {fr : Int} (h : SWk W w0 X0 v0 bt p pm pool o M0 C0 Z root br bf L0 fr0 w C E L fr) (ho : o ≤ o') : SWk W w0 X0 v0 bt p pm pool o' M0 C0 Z root br bf L0 fr0 w C E L fr := by
  obtain ⟨⟨X, M, v, h1, h2, h3⟩, h4⟩ := h
  exact ⟨⟨X, M, v, h1.le ho, h2, h3⟩, h4⟩
/-- A permission is laid beside both. -/
theorem BJ.sb {W w0 w : World} {X : Nat → Prop} {v : Value} {bt p pm pool o : Nat} {M : Nat → Nat → Nat} {C : Nat → Nat} {Z : Nat → Bool} {root br bf : Nat} {E : Nat → Nat → DV} {L : List LV} {fr : Int} (h : BJ W X w0 bt p pm pool o M C Z root E br bf v L fr false) (hX : ∀ i, X i → i < w0.heap.size) (k : Kp w0 w) {bo : Nat} {r q x : Bool} (hb : w0.heap.size ≤ bo) (px : PX w bo r q x) : SB9 W w0 X v bt p pm pool o M C Z root br bf L fr bo r q x w C E := by
  have l1 := h.rq.lt
  have l2 := h.rq.ltf
  have l3 := h.ts.tx.lt
  have l4 : ∀ b, v.ownBlock = some b → b < w0.heap.size := fun b e => hX b (h.xs b (.inr (.inr e))).2.1
  refine ⟨⟨fun i => X i ∨ i = bo, M, v, ⟨h.ts.more k bo hb px.lt, h.ne, h.rq.kp k, fun i hi => ⟨(h.xs i hi).1, .inl (h.xs i hi).2.1, (h.xs i hi).2.2⟩⟩, ⟨fun i hi => .inl hi, fun i hi => hi.imp id (fun e => by rw [e]; exact hb), fun i hi _ _ _ => k.block i (hX i hi), fun b hb => .inl hb, k.size, hX⟩, Ot.refl _ _ _, .inr rfl, fun b e c => by have := l4 b e; omega⟩, px, fun c => by omega, fun c => by omega, fun c => by omega⟩
/-- What a step tells of both. -/
def ansB (E : Nat → Nat → DV) (L : List LV) (page : Nat) (xx yy aa bb : Int) : Bool := (xx == yy) && (aa == bb) && (isP E page == isL false L page) && samL (getP E page) (getL false L page) && ((needP E page : Int) == needL false L page)
/-- A step in a box. -/
def OPX (w : World) (b : Nat) (kd fm sf pg : Int) (r q x raw : Bool) : Prop := w.heap[b]? = some (.cells #[.int .i64 kd, .int .i64 fm, .int .i64 sf, .int .u64 pg, .bool r, .bool q, .bool x, .bool raw] 41 (0, 0))
section
variable {w w' : World} {b : Nat} {kd fm sf pg : Int} {r q x raw : Bool}
theorem OPX.lt (h : OPX w b kd fm sf pg r q x raw) : b < w.heap.size := (Array.getElem?_eq_some_iff.1 h).1
theorem OPX.kp (h : OPX w b kd fm sf pg r q x raw) (k : Kp w w') : OPX w' b kd fm sf pg r q x raw := (k.block b h.lt).trans h
theorem OPX.putP (h : OPX w b kd fm sf pg r q x raw) {c : Nat} (hc : b ≠ c) (r' q' x' : Bool) : OPX (Go.Proofs.YtanlcmdnhhdhaaaGreatDoor.putP w c r' q' x') b kd fm sf pg r q x raw := by
  unfold OPX Go.Proofs.YtanlcmdnhhdhaaaGreatDoor.putP
  rw [heap_setCell_other _ _ _ _ hc, heap_setCell_other _ _ _ _ hc, heap_setCell_other _ _ _ _ hc]
  exact h
theorem OPX.cells (h : OPX w b kd fm sf pg r q x raw) : w.cell? ⟨b, 0, none⟩ = some (.int .i64 kd) ∧ w.cell? ⟨b, 1, none⟩ = some (.int .i64 fm) ∧ w.cell? ⟨b, 2, none⟩ = some (.int .i64 sf) ∧ w.cell? ⟨b, 3, none⟩ = some (.int .u64 pg) ∧ w.cell? ⟨b, 4, none⟩ = some (.bool r) ∧ w.cell? ⟨b, 5, none⟩ = some (.bool q) ∧ w.cell? ⟨b, 6, none⟩ = some (.bool x) ∧ w.cell? ⟨b, 7, none⟩ = some (.bool raw) := by
  refine ⟨?_, ?_, ?_, ?_, ?_, ?_, ?_, ?_⟩
  · rw [cell_of_row _ _ 0 _ _ _ h]; rfl
  · rw [cell_of_row _ _ 1 _ _ _ h]; rfl
  · rw [cell_of_row _ _ 2 _ _ _ h]; rfl
  · rw [cell_of_row _ _ 3 _ _ _ h]; rfl
  · rw [cell_of_row _ _ 4 _ _ _ h]; rfl
  · rw [cell_of_row _ _ 5 _ _ _ h]; rfl
  · rw [cell_of_row _ _ 6 _ _ _ h]; rfl
  · rw [cell_of_row _ _ 7 _ _ _ h]; rfl
end
/-- Behind the switch. -/
def SQ (W w0 : World) (X0 : Nat → Prop) (v0 : Value) (bt p pm pool o : Nat) (M0 : Nat → Nat → Nat) (C0 : Nat → Nat) (Z : Nat → Bool) (root br bf : Nat) (E0 : Nat → Nat → DV) (L0 : List LV) (fr0 : Int) (xx yy aa bb : Int) (w : World) : Prop :=
  ∃ C E L fr, SWk W w0 X0 v0 bt p pm pool o M0 C0 Z root br bf L0 fr0 w C E L fr ∧ SR pool Z root C0 E0 L0 fr0 C E L fr xx yy aa bb
theorem SB9.idle {W w0 w : World} {X : Nat → Prop} {v : Value} {bt p pm pool o o' : Nat} {M : Nat → Nat → Nat} {C : Nat → Nat} {Z : Nat → Bool} {root br bf : Nat} {E : Nat → Nat → DV} {L : List LV} {fr : Int} {bo : Nat} {r q x : Bool} (h : SB9 W w0 X v bt p pm pool o M C Z root br bf L fr bo r q x w C E) (ho : o ≤ o') (page : Nat) (hp : page < 18446744073709551616) : SQ W w0 X v bt p pm pool o' M C Z root br bf E L fr 0 0 0 0 w := by
  obtain ⟨Y, M', v', h1, h2, h3, _⟩ := h.ex
  exact ⟨C, E, L, fr, ⟨⟨Y, M', v', h1.le ho, h2, h3⟩, DSum.refl _ _⟩, page, 0, false, false, false, 0, hp, .inr (.inr (.inr (.inr (.inr (.inr ⟨rfl, rfl, rfl, rfl, rfl, rfl, rfl, rfl⟩)))))⟩
/-- Behind the step. -/
def SZ (W w0 : World) (X0 : Nat → Prop) (v0 : Value) (bt p pm pool o : Nat) (M0 : Nat → Nat → Nat) (C0 : Nat → Nat) (Z : Nat → Bool) (root br bf : Nat) (E0 : Nat → Nat → DV) (L0 : List LV) (fr0 : Int) (z : Bool) (w : World) : Prop :=
  ∃ C E L fr xx yy aa bb page, SWk W w0 X0 v0 bt p pm pool o M0 C0 Z root br bf L0 fr0 w C E L fr ∧ SR pool Z root C0 E0 L0 fr0 C E L fr xx yy aa bb ∧ page < 18446744073709551616 ∧ z = ansB E L page xx yy aa bb

end Go.Proofs.YtanlcmdnhhdhaaaGreatDoor

/- A function's body, and the second part of a sequence. -/
namespace Go.Proofs.YtanlcmdnhhdhaaaGreatDoor
open Go.RowKit

/-- The second part of a sequence; a function's body. -/
def sB : Code → Code
  | .seq _ b => b
  | c => c
def bodyC (f : Func) : Code := f.body.getD .skip

end Go.Proofs.YtanlcmdnhhdhaaaGreatDoor

/- demesnelaw13.step, over any two that tell the same: what it calls. (Laid by gen_r78.py.) -/
namespace Go.Proofs.YtanlcmdnhhdhaaaGreatDoor
open Go.RowKit
set_option maxRecDepth 10000

/-- What step calls: the two tell the same at each. K0: ahead of the switch, K1: between its two calls, J0: behind it, J1, J2, J3: between the questions, JE: at the end. -/
structure SWC (bt br b9 p3 : Nat) (f3 s : Int) (R Q Y : Bool) (m : Nat) (fm : Int) (w : World) (K0 : World → Prop) (K1 : Int → Int → World → Prop) (J0 : World → Prop) (J1 J2 J3 : LV → Bool → Int → World → Prop) (JE : World → Prop) : Prop where
  start : ∀ v, Kp w v → PX v b9 R Q Y → K0 v
  px : ∀ v, K0 v → PX v b9 R Q Y
  kp : ∀ v v', K0 v → Kp v v' → K0 v'
  map : m < 3 → ∀ v, K0 v → Calls Tryz.prog 21 #[.pointer (some ⟨bt, 0, none⟩), .int .u64 (p3 : Int), .int .i64 f3, .agg #[.bool R, .bool Q, .bool Y], .int .i64 s] v fun e w' => ∃ xx, e = .returned (.int .i64 xx) ∧ K1 xx 0 w' ∧ PX w' b9 R Q Y
  rmap : m < 3 → ∀ v xx, K1 xx 0 v → Calls Tryz.prog 30 #[.pointer (some ⟨br, 0, none⟩), .int .u64 (p3 : Int), .int .i64 f3, .agg #[.bool R, .bool Q, .bool Y], .int .i64 s] v fun e w' => e = .returned (.int .i64 xx) ∧ J0 w' ∧ PX w' b9 R Q Y
  mapb : m = 3 → ∀ v, K0 v → Calls Tryz.prog 31 #[.pointer (some ⟨bt, 0, none⟩), .int .u64 (p3 : Int), .int .i64 f3, .agg #[.bool R, .bool Q, .bool Y], .int .i64 s] v fun e w' => ∃ xx, e = .returned (.int .i64 xx) ∧ K1 xx 0 w' ∧ PX w' b9 R Q Y
  rmapb : m = 3 → ∀ v xx, K1 xx 0 v → Calls Tryz.prog 32 #[.pointer (some ⟨br, 0, none⟩), .int .u64 (p3 : Int), .int .i64 f3, .agg #[.bool R, .bool Q, .bool Y], .int .i64 s] v fun e w' => e = .returned (.int .i64 xx) ∧ J0 w' ∧ PX w' b9 R Q Y
  prot : m = 6 → ∀ v, K0 v → Calls Tryz.prog 34 #[.pointer (some ⟨bt, 0, none⟩), .int .u64 (p3 : Int), .agg #[.bool R, .bool Q, .bool Y], .int .i64 s] v fun e w' => ∃ xx, e = .returned (.int .i64 xx) ∧ K1 xx 0 w' ∧ PX w' b9 R Q Y
  rprot : m = 6 → ∀ v xx, K1 xx 0 v → Calls Tryz.prog 35 #[.pointer (some ⟨br, 0, none⟩), .int .u64 (p3 : Int), .agg #[.bool R, .bool Q, .bool Y], .int .i64 s] v fun e w' => e = .returned (.int .i64 xx) ∧ J0 w' ∧ PX w' b9 R Q Y
  split : m = 7 → ∀ v, K0 v → Calls Tryz.prog 36 #[.pointer (some ⟨bt, 0, none⟩), .int .u64 (p3 : Int)] v fun e w' => ∃ xx, e = .returned (.int .i64 xx) ∧ K1 xx 0 w'
  rsplit : m = 7 → ∀ v xx, K1 xx 0 v → Calls Tryz.prog 37 #[.pointer (some ⟨br, 0, none⟩), .int .u64 (p3 : Int)] v fun e w' => e = .returned (.int .i64 xx) ∧ J0 w'
  join : m = 8 → ∀ v, K0 v → Calls Tryz.prog 38 #[.pointer (some ⟨bt, 0, none⟩), .int .u64 (p3 : Int)] v fun e w' => ∃ xx, e = .returned (.int .i64 xx) ∧ K1 xx 0 w'
  rjoin : m = 8 → ∀ v xx, K1 xx 0 v → Calls Tryz.prog 39 #[.pointer (some ⟨br, 0, none⟩), .int .u64 (p3 : Int)] v fun e w' => e = .returned (.int .i64 xx) ∧ J0 w'
  free : m = 10 → bits .and .i64 fm 15 = 0 → ∀ v, K0 v → Calls Tryz.prog 25 #[.pointer (some ⟨bt, 0, none⟩)] v fun e w' => ∃ xx, e = .returned (.int .i64 xx) ∧ K1 xx 0 w'
  rfree : m = 10 → bits .and .i64 fm 15 = 0 → ∀ v xx, K1 xx 0 v → Calls Tryz.prog 40 #[.pointer (some ⟨br, 0, none⟩)] v fun e w' => e = .returned (.int .i64 xx) ∧ J0 w'
  unmap : (m = 4 ∨ m = 5) → ∀ v, K0 v → Calls Tryz.prog 23 #[.pointer (some ⟨bt, 0, none⟩), .int .u64 (p3 : Int)] v fun e w' => ∃ fx xx, e = .returned (.tuple #[.int .i64 fx, .int .i64 xx]) ∧ K1 xx fx w'
  runmap : (m = 4 ∨ m = 5) → ∀ v xx fx, K1 xx fx v → Calls Tryz.prog 33 #[.pointer (some ⟨br, 0, none⟩), .int .u64 (p3 : Int)] v fun e w' => e = .returned (.tuple #[.int .i64 fx, .int .i64 xx]) ∧ J0 w'
  idle : (m = 9 ∨ (m = 10 ∧ bits .and .i64 fm 15 ≠ 0)) → ∀ v, K0 v → J0 v
  get : ∀ v, J0 v → ∃ u z n, Calls Tryz.prog 18 #[.pointer (some ⟨bt, 0, none⟩), .int .u64 (p3 : Int)] v fun e w' => e = .returned (.tuple #[lvV u, .bool z]) ∧ J1 u z n w'
  k1 : ∀ u z n v v', J1 u z n v → Kp v v' → J1 u z n v'
  rget : ∀ u z n v, J1 u z n v → Calls Tryz.prog 41 #[.pointer (some ⟨br, 0, none⟩), .int .u64 (p3 : Int)] v fun e w' => e = .returned (.tuple #[lvV u, .bool z]) ∧ J2 u z n w' ∧ Kp v w'
  k2 : ∀ u z n v v', J2 u z n v → Kp v v' → J2 u z n v'
  need : ∀ u z n v, J2 u z n v → Calls Tryz.prog 42 #[.pointer (some ⟨bt, 0, none⟩), .int .u64 (p3 : Int)] v fun e w' => e = .returned (.int .i64 n) ∧ J3 u z n w'
  rneed : ∀ u z n v, J3 u z n v → Calls Tryz.prog 43 #[.pointer (some ⟨br, 0, none⟩), .int .u64 (p3 : Int)] v fun e w' => e = .returned (.int .i64 n) ∧ JE w'
set_option maxHeartbeats 16000000 in
theorem gtail {w wc : World} {bt br b5 b9 p3 : Nat} {f3 s : Int} {R Q Y : Bool} {kd fm sf : Int} {pg : Nat} {r q x raw : Bool} {m : Nat} {K0 : World → Prop} {K1 : Int → Int → World → Prop} {J0 : World → Prop} {J1 J2 J3 : LV → Bool → Int → World → Prop} {JE : World → Prop} {xx aa : Int} {u64 u15 u16 u17 u18 u23 u24 u25 u26 u27 u28 u29 u30 u31 u32 u33 u34 u35 u36 u37 u38 u39 u40 u41 u42 u43 u44 u45 u46 u47 u48 u49 u50 u51 u52 u53 u54 u55 u56 u57 u58 u59 u60 u61 u62 u63 u65 u66 u67 u68 u69 u71 u72 u73 u74 u75 u76 u77 u78 u79 u80 u81 u82 u83 u84 u85 u86 u87 u88 u89 u90 u91 u92 u93 u94 u95 u96 u97 u98 u99 u100 u101 u102 u103 u104 u105 u106 u107 u108 u109 u110 u111 u112 u113 u114 u115 u116 u117 u118 u119 u120 u121 u122 u123 u124 u125 u126 u127 u128 u129 u130 u131 u132 u133 u134 u135 u136 u137 u138 u139 u140 u141 u142 u143 u144 u145 u146 u147 u148 u149 u150 u151 u152 u153 u154 u155 u156 u157 u158 u159 u160 u161 u162 u163 u164 u165 u166 u167 u168 u169 u170 u171 u172 u173 u174 u175 u176 u177 u178 u179 u180 u181 u182 u183 u184 u185 u186 u187 u188 u189 u190 u191 u192 u193 u194 u195 u196 u197 u198 u199 u200 u201 u202 u203 u204 u205 u206 : Value} (hs : SWC bt br b9 p3 f3 s R Q Y m fm w K0 K1 J0 J1 J2 J3 JE) (h0 : J0 wc) :
    Code.wp Tryz.prog (sB (sB (sB (sB (sB (sB (sB (sB (sB (sB (bodyC Tryz.f9)))))))))))
      (bodyPost Tryz.prog Tryz.f9 fun e w' => e = .returned (.bool true) ∧ JE w')
      { tmps := #[Value.pointer (some { block := bt, off := 0 }), Value.pointer (some { block := br, off := 0 }), Value.agg #[Value.int IntKind.i64 kd, Value.int IntKind.i64 fm, Value.int IntKind.i64 sf, Value.int IntKind.u64 ↑pg, Value.bool r, Value.bool q, Value.bool x, Value.bool raw], undef, undef, Value.pointer (some { block := b5, off := 0 }), Value.bool false, Value.int IntKind.u64 ↑p3, Value.int IntKind.i64 f3, Value.pointer (some { block := b9, off := 0 }), Value.int IntKind.i64 s, Value.int IntKind.i64 xx, Value.int IntKind.i64 xx, Value.int IntKind.i64 aa, Value.int IntKind.i64 aa, u15, u16, u17, u18, undef, undef, undef, undef, u23, u24, u25, u26, u27, u28, u29, u30, u31, u32, u33, u34, u35, u36, u37, u38, u39, u40, u41, u42, u43, u44, u45, u46, u47, u48, u49, u50, u51, u52, u53, u54, u55, u56, u57, u58, u59, u60, u61, u62, u63, u64, u65, u66, u67, u68, u69, Value.int IntKind.i64 ↑m, u71, u72, u73, u74, u75, u76, u77, u78, u79, u80, u81, u82, u83, u84, u85, u86, u87, u88, u89, u90, u91, u92, u93, u94, u95, u96, u97, u98, u99, u100, u101, u102, u103, u104, u105, u106, u107, u108, u109, u110, u111, u112, u113, u114, u115, u116, u117, u118, u119, u120, u121, u122, u123, u124, u125, u126, u127, u128, u129, u130, u131, u132, u133, u134, u135, u136, u137, u138, u139, u140, u141, u142, u143, u144, u145, u146, u147, u148, u149, u150, u151, u152, u153, u154, u155, u156, u157, u158, u159, u160, u161, u162, u163, u164, u165, u166, u167, u168, u169, u170, u171, u172, u173, u174, u175, u176, u177, u178, u179, u180, u181, u182, u183, u184, u185, u186, u187, u188, u189, u190, u191, u192, u193, u194, u195, u196, u197, u198, u199, u200, u201, u202, u203, u204, u205, u206], defers := [] } wc := by
  have HS : Hid (SWC bt br b9 p3 f3 s R Q Y m fm w K0 K1 J0 J1 J2 J3 JE) := hs
  obtain ⟨u, z1, n1, cA⟩ := hs.get _ h0
  unfold lvV at cA
  clear hs h0
  conv => arg 2; whnf
  go_wp2_with fail
  with_reducible refine cA.mono ?_
  rintro e w6 ⟨rfl, S6⟩
  have S7 := HS.out.k1 _ _ _ _ _ S6 ((Kp.refl w6).alloc (.cells #[.int .u64 (u.g : Int), .int .i64 (u.x : Int), .bool u.r, .bool u.q, .bool u.e, .int .i64 u.f, .int .i64 (u.l : Int)] 58))
  have R7 := heap_alloc_new w6 (.cells #[.int .u64 (u.g : Int), .int .i64 (u.x : Int), .bool u.r, .bool u.q, .bool u.e, .int .i64 u.f, .int .i64 (u.l : Int)] 58)
  have cB := HS.out.rget _ _ _ _ S7
  unfold lvV at cB
  clear S6 cA S7
  go_wp2_with fail
  generalize w6.alloc (.cells #[.int .u64 (u.g : Int), .int .i64 (u.x : Int), .bool u.r, .bool u.q, .bool u.e, .int .i64 u.f, .int .i64 (u.l : Int)] 58) = w7 at *
  generalize w6.heap.size = b19 at *
  with_reducible refine cB.mono ?_
  rintro e w8 ⟨rfl, S8, k8⟩
  have R8 : w8.heap[b19]? = some (.cells #[.int .u64 (u.g : Int), .int .i64 (u.x : Int), .bool u.r, .bool u.q, .bool u.e, .int .i64 u.f, .int .i64 (u.l : Int)] 58 (0, 0)) := (k8.block b19 (Array.getElem?_eq_some_iff.1 R7).1).trans R7
  have kA := (Kp.refl w8).alloc (.cells #[.int .u64 (u.g : Int), .int .i64 (u.x : Int), .bool u.r, .bool u.q, .bool u.e, .int .i64 u.f, .int .i64 (u.l : Int)] 93)
  have S9 := HS.out.k2 _ _ _ _ _ S8 kA
  have R9 := (kA.block b19 (Array.getElem?_eq_some_iff.1 R8).1).trans R8
  have q0 : (w8.alloc (.cells #[.int .u64 (u.g : Int), .int .i64 (u.x : Int), .bool u.r, .bool u.q, .bool u.e, .int .i64 u.f, .int .i64 (u.l : Int)] 93)).cell? ⟨b19, 0, none⟩ = some (.int .u64 (u.g : Int)) := by rw [cell_of_row _ _ 0 _ _ _ R9]; rfl
  have q1 : (w8.alloc (.cells #[.int .u64 (u.g : Int), .int .i64 (u.x : Int), .bool u.r, .bool u.q, .bool u.e, .int .i64 u.f, .int .i64 (u.l : Int)] 93)).cell? ⟨b19, 1, none⟩ = some (.int .i64 (u.x : Int)) := by rw [cell_of_row _ _ 1 _ _ _ R9]; rfl
  have q2 : (w8.alloc (.cells #[.int .u64 (u.g : Int), .int .i64 (u.x : Int), .bool u.r, .bool u.q, .bool u.e, .int .i64 u.f, .int .i64 (u.l : Int)] 93)).cell? ⟨b19, 2, none⟩ = some (.bool u.r) := by rw [cell_of_row _ _ 2 _ _ _ R9]; rfl
  have q3 : (w8.alloc (.cells #[.int .u64 (u.g : Int), .int .i64 (u.x : Int), .bool u.r, .bool u.q, .bool u.e, .int .i64 u.f, .int .i64 (u.l : Int)] 93)).cell? ⟨b19, 3, none⟩ = some (.bool u.q) := by rw [cell_of_row _ _ 3 _ _ _ R9]; rfl
  have q4 : (w8.alloc (.cells #[.int .u64 (u.g : Int), .int .i64 (u.x : Int), .bool u.r, .bool u.q, .bool u.e, .int .i64 u.f, .int .i64 (u.l : Int)] 93)).cell? ⟨b19, 4, none⟩ = some (.bool u.e) := by rw [cell_of_row _ _ 4 _ _ _ R9]; rfl
  have q5 : (w8.alloc (.cells #[.int .u64 (u.g : Int), .int .i64 (u.x : Int), .bool u.r, .bool u.q, .bool u.e, .int .i64 u.f, .int .i64 (u.l : Int)] 93)).cell? ⟨b19, 5, none⟩ = some (.int .i64 u.f) := by rw [cell_of_row _ _ 5 _ _ _ R9]; rfl
  have q6 : (w8.alloc (.cells #[.int .u64 (u.g : Int), .int .i64 (u.x : Int), .bool u.r, .bool u.q, .bool u.e, .int .i64 u.f, .int .i64 (u.l : Int)] 93)).cell? ⟨b19, 6, none⟩ = some (.int .i64 (u.l : Int)) := by rw [cell_of_row _ _ 6 _ _ _ R9]; rfl
  have hq : ∀ w : World, (Op.equalIn 10000 58 (.agg #[.int .u64 (u.g : Int), .int .i64 (u.x : Int), .bool u.r, .bool u.q, .bool u.e, .int .i64 u.f, .int .i64 (u.l : Int)]) (.agg #[.int .u64 (u.g : Int), .int .i64 (u.x : Int), .bool u.r, .bool u.q, .bool u.e, .int .i64 u.f, .int .i64 (u.l : Int)])).run Tryz.prog w = .ok true w := fun w => by rw [eq_leaf]; simp [samP]
  have d1 : (xx == xx) = true := beq_iff_eq.2 rfl
  have d2 : (aa == aa) = true := beq_iff_eq.2 rfl
  have d3 : (z1 == z1) = true := beq_iff_eq.2 rfl
  have d4 : (n1 == n1) = true := beq_iff_eq.2 rfl
  have cN := HS.out.need _ _ _ _ S9
  clear cB S8 k8 R7 R8 kA S9 R9
  go_wp2_with fail
  with_reducible refine cN.mono ?_
  rintro e wA ⟨rfl, SA⟩
  have cM := HS.out.rneed _ _ _ _ SA
  clear cN SA
  go_wp2_with fail
  with_reducible refine cM.mono ?_
  rintro e wB ⟨rfl, SB⟩
  have HB : Hid (JE wB) := SB
  clear cM SB
  go_wp2_with fail
  go_ret
  exact ⟨rfl, HB.out⟩

end Go.Proofs.YtanlcmdnhhdhaaaGreatDoor
