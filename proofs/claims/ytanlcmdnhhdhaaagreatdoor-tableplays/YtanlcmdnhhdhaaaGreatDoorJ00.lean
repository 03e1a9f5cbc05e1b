/- Joined: K0, U0, B1, B6, E1. -/
import Derived.Test.YtanlcmdnhhdhaaaGreatDoorRows
import Derived.WalkKit
import Derived.WalkSpells
import Derived.WalkLawsBesides
import Derived.Laws.BitsAllLaws
import Derived.Laws.MakeOwn
import Derived.Laws.AppendOwn
import Derived.Laws.BytesString
import Derived.Below
import Derived.ChangeSlices
import Derived.ProofKit
import Derived.OpenShut
import Derived.Carry
import Derived.Deep.QuietTactic
import Derived.BigQuiet
import Derived.Deep.LoopGhost
import Derived.Laws.OwnMore
import Derived.Laws.Cells
import Derived.Laws.Cover3
import Derived.Laws.StructEq
import Derived.Laws.Rows
/- For every seat: worlds in which all that lay lies, slices that came in. -/
namespace Go.Proofs.YtanlcmdnhhdhaaaGreatDoor
open Go.ChangeShapes Go.WideShapes Go.ChangeAt Go.RowKit

/-- All that lay in w lies in w' as it did. -/
def Kp (w w' : World) : Prop := Go.RowKit.Below w.heap.size w w'
theorem Kp.refl (w : World) : Kp w w := Go.RowKit.Below.refl _ _
theorem Kp.trans {a b c : World} (h : Kp a b) (k : Kp b c) : Kp a c := Go.RowKit.Below.trans h (Go.RowKit.Below.mono k h.size)
theorem Kp.alloc {a b : World} (h : Kp a b) (o : Obj) : Kp a (b.alloc o) :=
  ⟨h.os, h.tape, h.output, by have := h.size; simp; omega, fun k hk => by
    rw [← h.block k hk]
    have := h.size
    simp only [World.alloc, Array.getElem?_push]
    rw [if_neg (by omega)]⟩
theorem Kp.drewN {a b : World} (h : Kp a b) (q : Nat) : Kp a (b.drewN q) := ⟨h.os, h.tape, h.output, h.size, h.block⟩
theorem Kp.drew {a b : World} (h : Kp a b) : Kp a b.drew := ⟨h.os, h.tape, h.output, h.size, h.block⟩
theorem Kp.set {a b : World} (h : Kp a b) (p : Addr) (v : Value) (hp : a.heap.size ≤ p.block) : Kp a (b.setCell p v) :=
  ⟨h.os, h.tape, h.output, by rw [World.size_setCell]; exact h.size, fun k hk => by rw [heap_setCell_other b p k v (by omega)]; exact h.block k hk⟩
theorem Kp.cell {a b : World} (h : Kp a b) {p : Addr} (hp : p.block < a.heap.size) : b.cell? p = a.cell? p := Go.RowKit.Below.cell h hp
theorem Kp.frz {a b : World} (h : Kp a b) {p : Addr} (hp : p.block < a.heap.size) : b.frozen? p = a.frozen? p := World.frozen?_of_block (h.block _ hp)

/-- The cells of a slice that was read: each holds what an element's reading takes. -/
theorem open_row {H : Type} {enc : TypeId × Value → H} {P : Program} {w : World} {base : Nat} {spare : Nat → Bool} {held : Bool} {t e : TypeId} {fuel : Nat} {cs : List Value} {x : DataW H × List MemPlace}
    (ht : P.underlying t = some (.slice e)) (hc : P.cellsOf e = 1) (h1 : ∀ n cs' y, DataW.trod enc P w base spare held n e cs' = some y → ∃ v, cs' = [v])
    (h : DataW.trod enc P w base spare held fuel t cs = some x) :
    ∃ (na : Option Addr) (m mcap : Nat) (vs : Nat → Value), cs = [.slice na m mcap] ∧ m ≤ maxLen ∧ (na = none → m = 0 ∧ mcap = 0) ∧
      ∀ i, i < m → (∃ b o, na = some ⟨b, o, none⟩ ∧ b < w.heap.size ∧ w.cell? ⟨b, o + i, none⟩ = some (vs i)) ∧ ∃ n y, DataW.trod enc P w base spare held n e [vs i] = some y := by
  rcases DataW.trod_slice ht h with ⟨h0, _⟩ | ⟨a, len, cap, elems, rest, n, _, rfl, rfl, hb, hl, hm, hlen, hel, hsp, hns⟩
  · exact ⟨none, 0, 0, fun _ => .bool false, h0, Nat.zero_le _, fun _ => ⟨rfl, rfl⟩, fun i hi => by omega⟩
  · have each : ∀ i, i < len → ∃ v y, w.cell? (a.add i) = some v ∧ DataW.trod enc P w base spare held n e [v] = some y := by
      intro i hi
      have h2 := hel i hi
      rw [List.getElem?_eq_getElem (by omega : i < elems.length), hc, Nat.mul_one, Option.bind_eq_some_iff] at h2
      obtain ⟨cs', hcs, hy'⟩ := h2
      obtain ⟨v, rfl⟩ := h1 n cs' _ hy'
      exact ⟨v, _, cell_of_cells?_one hcs, hy'⟩
    refine ⟨some a, len, cap, fun i => (w.cell? (a.add i)).getD (.bool false), rfl, by omega, (fun h => by cases h), fun i hi => ?_⟩
    obtain ⟨v0, y0, c0, _⟩ := each 0 (by omega)
    obtain ⟨v, y, c1, t1⟩ := each i hi
    have hsp : a.spot = none := by
      have e0 : a.add 0 = a := rfl
      rw [e0] at c0
      unfold World.cell? at c0
      split at c0
      · split at c0
        · cases c0
        · rename_i hs; simpa using hs
      · cases c0
    have hlt : a.block < w.heap.size := by
      have e0 : a.add 0 = a := rfl
      rw [e0] at c0
      by_cases hh : a.block < w.heap.size
      · exact hh
      · unfold World.cell? at c0
        rw [show w.heap[a.block]? = none from by simp; omega] at c0
        cases c0
    obtain ⟨b, o, sp⟩ := a
    subst hsp
    have ea : (Addr.mk b o none).add i = ⟨b, o + i, none⟩ := by
      unfold Addr.add
      split
      · rename_i h0; subst h0; rfl
      · rfl
    have c2 := c1
    rw [ea] at c2
    refine ⟨⟨b, o, rfl, hlt, ?_⟩, n, y, ?_⟩
    · show _ = some ((w.cell? ((Addr.mk b o none).add i)).getD (.bool false))
      rw [c1, c2]; rfl
    · show DataW.trod enc P w base spare held n e [(w.cell? ((Addr.mk b o none).add i)).getD (.bool false)] = some y
      rw [c1]; exact t1

/-- m ints lie in w at na. -/
def IS (w : World) (na : Option Addr) (m : Nat) (f : Nat → Int) : Prop := ∀ i, i < m → ∃ b o, na = some ⟨b, o, none⟩ ∧ b < w.heap.size ∧ w.cell? ⟨b, o + i, none⟩ = some (.int .i64 (f i))

theorem open_nums {H : Type} {enc : TypeId × Value → H} {P : Program} {w : World} {base : Nat} {spare : Nat → Bool} {held : Bool} {t e : TypeId} {fuel : Nat} {cs : List Value} {x : DataW H × List MemPlace}
    (ht : P.underlying t = some (.slice e)) (he : P.underlying e = some (.int .i64)) (hc : P.cellsOf e = 1) (h : DataW.trod enc P w base spare held fuel t cs = some x) :
    ∃ (na : Option Addr) (m mcap : Nat) (f : Nat → Int), cs = [.slice na m mcap] ∧ m ≤ maxLen ∧ IS w na m f := by
  obtain ⟨na, m, mcap, vs, h1, h2, _, h3⟩ := open_row ht hc (fun n cs' y hy => by obtain ⟨b, hb, _⟩ := DataW.trod_int he hy; exact ⟨_, hb⟩) h
  refine ⟨na, m, mcap, fun i => match vs i with | .int _ b => b | _ => 0, h1, h2, fun i hi => ?_⟩
  obtain ⟨⟨b, o, k1, k2, k3⟩, n, y, hy⟩ := h3 i hi
  obtain ⟨v, hv, _⟩ := DataW.trod_int he hy
  simp only [List.cons.injEq, and_true] at hv
  refine ⟨b, o, k1, k2, ?_⟩
  simp only [k3, hv]

/-- m numbers of the kind k lie in w at na. -/
def NSK (k : IntKind) (w : World) (na : Option Addr) (m : Nat) (f : Nat → Int) : Prop := ∀ i, i < m → (∃ b o, na = some ⟨b, o, none⟩ ∧ b < w.heap.size ∧ w.cell? ⟨b, o + i, none⟩ = some (.int k (f i))) ∧ (Lit.int k (f i)).wf = true
theorem NSK.kp {k : IntKind} {w w' : World} {na : Option Addr} {m : Nat} {f : Nat → Int} (H : NSK k w na m f) (g : Kp w w') : NSK k w' na m f := fun i hi => by
  obtain ⟨⟨b, o, h1, h2, h3⟩, h4⟩ := H i hi
  exact ⟨⟨b, o, h1, Nat.lt_of_lt_of_le h2 g.size, by rw [Kp.cell g (p := ⟨b, o + i, none⟩) h2]; exact h3⟩, h4⟩

theorem open_kind {H : Type} {enc : TypeId × Value → H} {P : Program} {w : World} {base : Nat} {spare : Nat → Bool} {held : Bool} {t e : TypeId} {fuel : Nat} {cs : List Value} {x : DataW H × List MemPlace} {k : IntKind}
    (ht : P.underlying t = some (.slice e)) (he : P.underlying e = some (.int k)) (hc : P.cellsOf e = 1) (h : DataW.trod enc P w base spare held fuel t cs = some x) :
    ∃ (na : Option Addr) (m mcap : Nat) (f : Nat → Int), cs = [.slice na m mcap] ∧ m ≤ maxLen ∧ NSK k w na m f := by
  obtain ⟨na, m, mcap, vs, h1, h2, _, h3⟩ := open_row ht hc (fun n cs' y hy => by obtain ⟨b, hb, _⟩ := DataW.trod_int he hy; exact ⟨_, hb⟩) h
  refine ⟨na, m, mcap, fun i => match vs i with | .int _ b => b | _ => 0, h1, h2, fun i hi => ?_⟩
  obtain ⟨⟨b, o, k1, k2, k3⟩, n, y, hy⟩ := h3 i hi
  obtain ⟨v, hv, _, hw⟩ := DataW.trod_int he hy
  simp only [List.cons.injEq, and_true] at hv
  exact ⟨⟨b, o, k1, k2, by simp only [k3, hv]⟩, by simp only [hv]; exact hw⟩

end Go.Proofs.YtanlcmdnhhdhaaaGreatDoor

/- The ground of the buddy's texts: worlds alike but for some blocks. -/
namespace Go.Proofs.YtanlcmdnhhdhaaaGreatDoor
open Go.RowKit

theorem wf_word {u : Int} (h : (Lit.int .u64 u).wf = true) : 0 ≤ u ∧ u < 18446744073709551616 := by
  simp [Lit.wf, IntKind.min, IntKind.max, IntKind.bits, IntKind.signed] at h
  omega

theorem wf_int {n : Int} (h : (Lit.int .i64 n).wf = true) : -9223372036854775808 ≤ n ∧ n ≤ 9223372036854775807 := by
  simp [Lit.wf, IntKind.min, IntKind.max, IntKind.bits, IntKind.signed] at h
  omega

def Dr (w w' : World) : Prop := ∃ m, w' = w.drewN m

theorem Dr.refl (w : World) : Dr w w := ⟨0, rfl⟩

theorem Dr.trans {a b c : World} (h : Dr a b) (k : Dr b c) : Dr a c := by
  obtain ⟨m, rfl⟩ := h; obtain ⟨n, rfl⟩ := k
  exact ⟨m + n, by rw [World.drewN_drewN]⟩

theorem Dr.kp {a b : World} (h : Dr a b) : Kp a b := by obtain ⟨m, rfl⟩ := h; exact (Kp.refl a).drewN m

theorem add_at (b o j : Nat) : (Addr.mk b o none).add j = ⟨b, o + j, none⟩ := by
  unfold Addr.add
  split
  · rename_i h0; subst h0; rfl
  · rfl

structure Fr (S : Nat → Prop) (w w' : World) : Prop where
  os : w'.os = w.os
  tape : w'.tape = w.tape
  output : w'.output = w.output
  size : w.heap.size ≤ w'.heap.size
  block : ∀ k, k < w.heap.size → ¬ S k → w'.heap[k]? = w.heap[k]?

theorem Fr.refl (S : Nat → Prop) (w : World) : Fr S w w := ⟨rfl, rfl, rfl, Nat.le_refl _, fun _ _ _ => rfl⟩

theorem Fr.mono {S T : Nat → Prop} {w w' : World} (h : Fr S w w') (hS : ∀ k, k < w.heap.size → S k → T k) : Fr T w w' := ⟨h.os, h.tape, h.output, h.size, fun k hk hT => h.block k hk (fun s => hT (hS k hk s))⟩

theorem Fr.trans {S : Nat → Prop} {a b c : World} (h : Fr S a b) (k : Fr S b c) : Fr S a c :=
  ⟨k.os.trans h.os, k.tape.trans h.tape, k.output.trans h.output, Nat.le_trans h.size k.size, fun i hi hS => (k.block i (Nat.lt_of_lt_of_le hi h.size) hS).trans (h.block i hi hS)⟩

theorem Kp.fr {w w' : World} (S : Nat → Prop) (h : Kp w w') : Fr S w w' := ⟨h.os, h.tape, h.output, h.size, fun k hk _ => h.block k hk⟩

theorem Fr.kp {S : Nat → Prop} {W w w' : World} (h : Fr S w w') (k : Kp W w) (hS : ∀ i, S i → W.heap.size ≤ i) : Kp W w' :=
  ⟨h.os.trans k.os, h.tape.trans k.tape, h.output.trans k.output, Nat.le_trans k.size h.size, fun i hi => (h.block i (Nat.lt_of_lt_of_le hi k.size) (fun s => by have := hS i s; omega)).trans (k.block i hi)⟩

theorem Fr.alloc {S : Nat → Prop} {a b : World} (h : Fr S a b) (o : Obj) : Fr S a (b.alloc o) := h.trans ((Kp.refl b).alloc o |>.fr S)

theorem Fr.drew {S : Nat → Prop} {a b : World} (h : Fr S a b) : Fr S a b.drew := h.trans ((Kp.refl b).drew.fr S)

theorem Fr.set {S : Nat → Prop} {a b : World} (h : Fr S a b) (p : Addr) (v : Value) (hp : S p.block) : Fr S a (b.setCell p v) :=
  h.trans ⟨rfl, rfl, rfl, by rw [World.size_setCell]; exact Nat.le_refl _, fun k _ hk => heap_setCell_other b p k v (fun e => hk (e ▸ hp))⟩

theorem Fr.grown {S : Nat → Prop} {a b : World} {r : Option Nat} (h : a.grownBy b r) (hr : ∀ g, r = some g → S g) : Fr S a b :=
  ⟨h.os, h.tape, h.output, h.size, fun k hk hS => h.block k hk (fun e => hS (hr k e.symm))⟩

theorem Fr.trans2 {S T : Nat → Prop} {a b c : World} (h : Fr S a b) (k : Fr T b c) (hT : ∀ i, i < a.heap.size → T i → S i) : Fr S a c :=
  ⟨k.os.trans h.os, k.tape.trans h.tape, k.output.trans h.output, Nat.le_trans h.size k.size, fun i hi hS => (k.block i (Nat.lt_of_lt_of_le hi h.size) (fun t => hS (hT i hi t))).trans (h.block i hi hS)⟩

theorem and_lim (n : Int) (M : Nat) (hM : M < 9223372036854775808) : ∃ m : Nat, bits .and .i64 n (M : Int) = (m : Int) ∧ m ≤ M := by
  have h1 : (BitVec.ofInt 64 n &&& BitVec.ofInt 64 (M : Int)).toNat ≤ M := by
    rw [BitVec.toNat_and]
    refine Nat.le_trans Nat.and_le_right ?_
    rw [BitVec.toNat_ofInt]
    omega
  refine ⟨_, ?_, h1⟩
  show IntKind.i64.wrap ((BitVec.ofInt 64 n &&& BitVec.ofInt 64 (M : Int)).toNat : Nat) = _
  rw [IntKind.wrap_i64]
  omega

theorem place_of (a : Int) (M : Nat) (hM : 0 < M) : ∃ (t : Int) (p : Nat), a.tmod M = t ∧ -(M : Int) < t ∧ t < M ∧ (t + M).tmod M = (p : Int) ∧ p < M := by
  have l1 := Int.lt_tmod_of_pos a (b := (M : Int)) (by omega)
  have l2 := Int.tmod_lt_of_pos a (b := (M : Int)) (by omega)
  have e3 : (a.tmod M + M).tmod M = (a.tmod M + M) % M := Int.tmod_eq_emod_of_nonneg (by omega)
  have e4 := Int.emod_nonneg (a.tmod M + M) (b := (M : Int)) (by omega)
  have e5 := Int.emod_lt_of_pos (a.tmod M + M) (b := (M : Int)) (by omega)
  refine ⟨_, ((a.tmod M + M) % M).toNat, rfl, by omega, l2, ?_, ?_⟩
  · rw [e3, Int.toNat_of_nonneg e4]
  · omega

theorem Fr.cell {U : Nat → Prop} {w w' : World} (h : Fr U w w') {a : Addr} (hl : a.block < w.heap.size) (hu : ¬ U a.block) : w'.cell? a = w.cell? a := World.cell?_of_block (h.block a.block hl hu)

theorem wp_append_of {P : Program} {w : World} {o : Oper} {a : Act} {K : Act → World → Prop} {Q : Exit → Act → World → Prop} {t ty : TypeId} {vs vx v' : Value} {w' : World}
    (hr : (Builtin.append_ #[t, t] ty #[vs, vx]).run P w = .ok v' w') (s x : Operand) (ho : o.op = .call { callee := .builtin .append, args := #[s, x], argTypes := #[t, t] }) (hty : o.type = ty) (hs : a.eval s = vs) (hx : a.eval x = vx)
    (h : K (a.put o.dst v') w') : o.wp P a w K Q := by
  subst hty
  unfold Oper.wp execOp
  simp only [ho, resolve, invoke, builtin, Sem.run_bind, Sem.run_pure, Result.andThen_ok, List.map_toArray, List.map_cons, List.map_nil, hs, hx, hr]
  exact h

end Go.Proofs.YtanlcmdnhhdhaaaGreatDoor

/- bits: which bits and levels there are; a row of ones; fields; indices and spans. -/
namespace Go.Proofs.YtanlcmdnhhdhaaaGreatDoor
open Go.RowKit
set_option maxRecDepth 10000


theorem inWord_any (low n : Int) (w : World) (h1 : -9223372036854775808 ≤ n) (h2 : n ≤ 9223372036854775807) :
    Calls Tryz.prog 112 #[.int .i64 low, .int .i64 n] w fun e w' => e = .returned (.bool (decide (0 ≤ low ∧ 1 ≤ n ∧ low + n ≤ 64))) ∧ w' = w := by
  by_cases c1 : 0 ≤ low
  · by_cases c2 : 1 ≤ n
    · by_cases c3 : low ≤ 64 - n
      · rw [decide_eq_true ⟨c1, c2, by omega⟩]
        go_enter Tryz.func112, Tryz.ntmps112
        go_wp2
        go_ret
        exact ⟨rfl, rfl⟩
      · rw [decide_eq_false (by omega)]
        go_enter Tryz.func112, Tryz.ntmps112
        go_wp2
        go_ret
        exact ⟨rfl, rfl⟩
    · rw [decide_eq_false (by omega)]
      go_enter Tryz.func112, Tryz.ntmps112
      go_wp2
      go_ret
      exact ⟨rfl, rfl⟩
  · rw [decide_eq_false (by omega)]
    go_enter Tryz.func112, Tryz.ntmps112
    go_wp2
    go_ret
    exact ⟨rfl, rfl⟩

/-- n ones. -/
def on (n : Nat) : Nat := 2 ^ n - 1
theorem on_lt {n : Nat} (h : n ≤ 64) : on n < 18446744073709551616 := by
  have := Nat.pow_le_pow_right (n := 2) (by decide) h
  unfold on; omega
theorem on_top : ∀ n, n ≤ 64 → 18446744073709551615 / 2 ^ (64 - n) = on n := by decide +kernel
theorem on_top_int (n : Nat) (h : n ≤ 64) : (18446744073709551615 : Int) / 2 ^ (64 - n) = (on n : Nat) := by
  rw [← on_top n h]; simp


theorem ones_any (n : Nat) (w : World) (h1 : 1 ≤ n) (h2 : n ≤ 64) :
    Calls Tryz.prog 113 #[.int .i64 (n : Int)] w fun e w' => e = .returned (.int .u64 (on n : Nat)) ∧ w' = w := by
  have z1 : (1 : Int) ≤ n := by omega
  have z2 : (n : Int) ≤ 64 := by omega
  have z3 := on_top_int n h2
  go_enter Tryz.func113, Tryz.ntmps113
  go_wp2
  go_ret
  exact ⟨rfl, rfl⟩

/-- The n bits from low on. -/
def fieldN (u low n : Nat) : Nat := u / 2 ^ low % 2 ^ n
theorem field_and (u low n : Nat) (hu : u < 18446744073709551616) (hn : n ≤ 64) : bits .and .u64 ((u : Int) / 2 ^ low) (on n : Nat) = (fieldN u low n : Nat) := by
  have h1 : u / 2 ^ low < 18446744073709551616 := Nat.lt_of_le_of_lt (Nat.div_le_self _ _) hu
  have h2 := u64_and_nat (u / 2 ^ low) (on n) h1 (on_lt hn)
  rw [on, Nat.and_two_pow_sub_one_eq_mod] at h2
  rw [← fieldN, ← on] at h2
  rw [← h2]; congr 1

set_option maxHeartbeats 1000000 in
theorem field_any (u low n : Nat) (w : World) (hu : u < 18446744073709551616) (hn : 1 ≤ n) (hl : low + n ≤ 64) :
    Calls Tryz.prog 82 #[.int .u64 (u : Int), .int .i64 (low : Int), .int .i64 (n : Int)] w fun e w' => e = .returned (.int .u64 (fieldN u low n : Nat)) ∧ Dr w w' := by
  have c1 := fun w => inWord_any low n w (by omega) (by omega)
  rw [decide_eq_true (by omega)] at c1
  have c2 := fun w => ones_any n w hn (by omega)
  have z1 : (low : Int) ≤ 64 := by omega
  have z2 := field_and u low n hu (by omega)
  clear hu hn hl
  generalize fieldN u low n = r at *
  generalize on n = m at *
  go_enter Tryz.func82, Tryz.ntmps82
  go_wp2_with (go_at_call 112; with_reducible refine (c1 _).mono ?_; rintro e w' ⟨rfl, rfl⟩)
  go_quiet (first | (go_at_call 113; refine Calls.quiet_of_same (c2 _)))
  go_wp2
  go_ret
  exact ⟨rfl, ⟨_, rfl⟩⟩

/-- u with v's low n bits from low on. -/
def setN (u low n v : Nat) : Nat := (u &&& (18446744073709551615 - on n * 2 ^ low)) ||| (v % 2 ^ n * 2 ^ low)

theorem shl_lt {c n low : Nat} (hc : c < 2 ^ n) (hl : low + n ≤ 64) : c * 2 ^ low < 18446744073709551616 := by
  have h1 : c * 2 ^ low < 2 ^ n * 2 ^ low := Nat.mul_lt_mul_of_pos_right hc (Nat.two_pow_pos _)
  rw [← Nat.pow_add] at h1
  have h2 := Nat.pow_le_pow_right (n := 2) (by decide) (show n + low ≤ 64 by omega)
  exact Nat.lt_of_lt_of_le h1 h2
theorem shl_mod {c low : Nat} (h : c * 2 ^ low < 18446744073709551616) : IntKind.u64.wrap ((c : Int) * 2 ^ low) = ((c * 2 ^ low : Nat) : Int) := by
  have e : (c : Int) * 2 ^ low = ((c * 2 ^ low : Nat) : Int) := by rw [Int.natCast_mul, Int.natCast_pow]; rfl
  rw [e]; simp [IntKind.wrap, IntKind.bits, IntKind.signed]; omega
theorem on_pow (n : Nat) : on n < 2 ^ n := by have := Nat.two_pow_pos n; unfold on; omega

set_option maxHeartbeats 1000000 in
theorem set_any (u low n v : Nat) (w : World) (hu : u < 18446744073709551616) (hv : v < 18446744073709551616) (hn : 1 ≤ n) (hl : low + n ≤ 64) :
    Calls Tryz.prog 130 #[.int .u64 (u : Int), .int .i64 (low : Int), .int .i64 (n : Int), .int .u64 (v : Int)] w fun e w' => e = .returned (.int .u64 (setN u low n v : Nat)) ∧ Dr w w' := by
  have c1 := fun w => inWord_any low n w (by omega) (by omega)
  rw [decide_eq_true (by omega)] at c1
  have c2 := fun w => ones_any n w hn (by omega)
  have z1 : (low : Int) ≤ 64 := by omega
  have l1 := shl_lt (on_pow n) hl
  have l2 := shl_lt (Nat.mod_lt v (Nat.two_pow_pos n)) hl
  have z2 := shl_mod l1
  have z4 := shl_mod l2
  have z3 := u64_and_nat v (on n) hv (on_lt (by omega))
  rw [on, Nat.and_two_pow_sub_one_eq_mod, ← on] at z3
  have z5 := u64_andNot_nat u (on n * 2 ^ low) hu l1
  have z6 := u64_or_nat (u &&& (18446744073709551615 - on n * 2 ^ low)) (v % 2 ^ n * 2 ^ low) (Nat.lt_of_le_of_lt Nat.and_le_left hu) l2
  rw [← setN] at z6
  clear hu hv hn hl l1 l2
  generalize setN u low n v = r at *
  generalize u &&& (18446744073709551615 - on n * 2 ^ low) = b at *
  generalize v % 2 ^ n * 2 ^ low = d at *
  generalize v % 2 ^ n = c at *
  generalize on n * 2 ^ low = a at *
  generalize on n = m at *
  go_enter Tryz.func130, Tryz.ntmps130
  go_wp2_with (go_at_call 112; with_reducible refine (c1 _).mono ?_; rintro e w' ⟨rfl, rfl⟩)
  go_quiet (first | (go_at_call 113; refine Calls.quiet_of_same (c2 _)))
  go_wp2
  go_ret
  exact ⟨rfl, ⟨_, rfl⟩⟩

end Go.Proofs.YtanlcmdnhhdhaaaGreatDoor

/- Levels: indices and spans, the program's and the document's; no such bits. -/
namespace Go.Proofs.YtanlcmdnhhdhaaaGreatDoor
open Go.RowKit
set_option maxRecDepth 10000

/-- How many bits an address's index of a level stands above the lowest. -/
def sh (level : Int) : Nat := 39 - 9 * level.toNat
def isLv (level : Int) : Bool := decide (0 ≤ level ∧ level ≤ 3)
def spn (level : Int) : Nat := if isLv level = true then 2 ^ sh level else 0
def idx (u : Nat) (level : Int) : Nat := if isLv level = true then fieldN u (sh level) 9 else 0
theorem field_lt (u low n : Nat) : fieldN u low n < 2 ^ n := Nat.mod_lt _ (Nat.two_pow_pos n)
theorem idx_lt (u : Nat) (level : Int) : idx u level < 512 := by
  unfold idx; split
  · exact field_lt _ _ _
  · decide

theorem isLevel_any (level : Int) (w : World) : Calls Tryz.prog 81 #[.int .i64 level] w fun e w' => e = .returned (.bool (isLv level)) ∧ w' = w := by
  by_cases c1 : 0 ≤ level
  · by_cases c2 : level ≤ 3
    · rw [show isLv level = true from decide_eq_true ⟨c1, c2⟩]
      go_enter Tryz.func81, Tryz.ntmps81
      go_wp2
      go_ret
      exact ⟨rfl, rfl⟩
    · rw [show isLv level = false from decide_eq_false (by omega)]
      go_enter Tryz.func81, Tryz.ntmps81
      go_wp2
      go_ret
      exact ⟨rfl, rfl⟩
  · rw [show isLv level = false from decide_eq_false (by omega)]
    go_enter Tryz.func81, Tryz.ntmps81
    go_wp2
    go_ret
    exact ⟨rfl, rfl⟩
theorem isLv_iff {level : Int} : isLv level = true ↔ 0 ≤ level ∧ level ≤ 3 := by unfold isLv; exact decide_eq_true_iff
theorem isLv_not {level : Int} (h : ¬ (0 ≤ level ∧ level ≤ 3)) : isLv level = false := decide_eq_false h

theorem lowBit_any (level : Int) (w : World) (h : 0 ≤ level ∧ level ≤ 3) : Calls Tryz.prog 83 #[.int .i64 level] w fun e w' => e = .returned (.int .i64 (sh level : Nat)) ∧ w' = w := by
  obtain ⟨h1, h2⟩ := h
  have e : (sh level : Int) = 12 + 9 * (3 - level) := by unfold sh; omega
  rw [e]
  go_enter Tryz.func83, Tryz.ntmps83
  go_wp2
  go_ret
  exact ⟨rfl, rfl⟩

theorem index_any (u : Nat) (level : Int) (w : World) (hu : u < 18446744073709551616) :
    Calls Tryz.prog 47 #[.int .u64 (u : Int), .int .i64 level] w fun e w' => e = .returned (.int .i64 (idx u level : Nat)) ∧ Dr w w' := by
  have c1 := isLevel_any level
  by_cases c : 0 ≤ level ∧ level ≤ 3
  · have e : idx u level = fieldN u (sh level) 9 := by unfold idx; rw [if_pos (isLv_iff.2 c)]
    rw [isLv_iff.2 c] at c1
    have c2 := fun w => lowBit_any level w c
    have c3 : ∀ w, Calls Tryz.prog 82 #[.int .u64 (u : Int), .int .i64 (sh level : Nat), .int .i64 9] w fun e w' => e = .returned (.int .u64 (fieldN u (sh level) 9 : Nat)) ∧ Dr w w' := fun w => field_any u (sh level) 9 w hu (by decide) (by unfold sh; omega)
    have l := field_lt u (sh level) 9
    rw [e]
    clear e c
    generalize fieldN u (sh level) 9 = r at *
    generalize sh level = k at *
    have l2 : (r : Int) < 512 := by omega
    go_enter Tryz.func47, Tryz.ntmps47
    go_wp2_with (first | (go_at_call 81; with_reducible refine (c1 _).mono ?_; rintro e w' ⟨rfl, rfl⟩) | (go_at_call 83; with_reducible refine (c2 _).mono ?_; rintro e w' ⟨rfl, rfl⟩))
    with_reducible refine (c3 _).mono ?_
    rintro e w1 ⟨rfl, D⟩
    have HD : Hid _ := D
    clear D
    go_wp2
    go_ret
    exact ⟨rfl, HD.out⟩
  · have e : idx u level = 0 := by unfold idx; rw [isLv_not c]; rfl
    rw [isLv_not c] at c1
    rw [e]
    clear e c
    go_enter Tryz.func47, Tryz.ntmps47
    go_wp2_with (go_at_call 81; with_reducible refine (c1 _).mono ?_; rintro e w' ⟨rfl, rfl⟩)
    go_ret
    exact ⟨rfl, Dr.refl _⟩

theorem pow_sh (level : Int) : (2 : Nat) ^ sh level < 18446744073709551616 := by
  have : (2 : Nat) ^ sh level ≤ 2 ^ 39 := Nat.pow_le_pow_right (by decide) (by unfold sh; omega)
  exact Nat.lt_of_le_of_lt this (by decide)

theorem span_any (level : Int) (w : World) :
    Calls Tryz.prog 93 #[.int .i64 level] w fun e w' => e = .returned (.int .u64 (spn level : Nat)) ∧ w' = w := by
  have c1 := isLevel_any level
  by_cases c : 0 ≤ level ∧ level ≤ 3
  · have e : spn level = 2 ^ sh level := by unfold spn; rw [if_pos (isLv_iff.2 c)]
    rw [isLv_iff.2 c] at c1
    have c2 := fun w => lowBit_any level w c
    have l : (sh level : Int) ≤ 39 := by unfold sh; omega
    have q := shl_mod (c := 1) (low := sh level) (by rw [Nat.one_mul]; exact pow_sh level)
    have q2 : IntKind.u64.wrap (2 ^ sh level) = ((2 ^ sh level : Nat) : Int) := by
      rw [Nat.one_mul] at q
      rw [← q]; congr 1; simp
    rw [e]
    have q3 : (2 : Int) ^ sh level % 18446744073709551616 = ((2 ^ sh level : Nat) : Int) := by
      rw [← q2]; simp [IntKind.wrap, IntKind.bits, IntKind.signed]
    clear e c q
    generalize ((2 ^ sh level : Nat) : Int) = r at *
    generalize sh level = k at *
    go_enter Tryz.func93, Tryz.ntmps93
    go_wp2_with (first | (go_at_call 81; with_reducible refine (c1 _).mono ?_; rintro e w' ⟨rfl, rfl⟩) | (go_at_call 83; with_reducible refine (c2 _).mono ?_; rintro e w' ⟨rfl, rfl⟩))
    go_ret
    exact ⟨rfl, rfl⟩
  · have e : spn level = 0 := by unfold spn; rw [isLv_not c]; rfl
    rw [isLv_not c] at c1
    rw [e]
    clear e c
    go_enter Tryz.func93, Tryz.ntmps93
    go_wp2_with (go_at_call 81; with_reducible refine (c1 _).mono ?_; rintro e w' ⟨rfl, rfl⟩)
    go_ret
    exact ⟨rfl, rfl⟩

end Go.Proofs.YtanlcmdnhhdhaaaGreatDoor

/- desc, the small ones: tops, places, kinds, units, bits asked and set; like structs. -/
namespace Go.Proofs.YtanlcmdnhhdhaaaGreatDoor
open Go.RowKit

/-- What a stage's addresses are below. -/
def topS (s : Int) : Nat := if s = 1 then 1099511627776 else if s = 2 then 4294967296 else 0
theorem top_any (s : Int) (w : World) : Calls Tryz.prog 46 #[.int .i64 s] w fun e w' => e = .returned (.int .u64 (topS s : Nat)) ∧ w' = w := by
  by_cases c1 : s = 1
  · subst c1
    go_enter Tryz.func46, Tryz.ntmps46
    go_wp2
    go_ret
    exact ⟨rfl, rfl⟩
  by_cases c2 : s = 2
  · subst c2
    go_enter Tryz.func46, Tryz.ntmps46
    go_wp2
    go_ret
    exact ⟨rfl, rfl⟩
  rw [show topS s = 0 from by unfold topS; rw [if_neg c1, if_neg c2]]
  go_enter Tryz.func46, Tryz.ntmps46
  go_wp2
  go_ret
  exact ⟨rfl, rfl⟩
/-- Are there tables of the stage and the level? -/
def isPl (s l : Int) : Bool := decide (1 ≤ s ∧ s ≤ 2 ∧ 0 ≤ l ∧ l ≤ 3)
theorem isPl_iff {s l : Int} : isPl s l = true ↔ 1 ≤ s ∧ s ≤ 2 ∧ 0 ≤ l ∧ l ≤ 3 := by unfold isPl; exact decide_eq_true_iff
theorem isPl_not {s l : Int} (h : ¬ (1 ≤ s ∧ s ≤ 2 ∧ 0 ≤ l ∧ l ≤ 3)) : isPl s l = false := decide_eq_false h
theorem isPlace_any (s l : Int) (w : World) : Calls Tryz.prog 85 #[.int .i64 s, .int .i64 l] w fun e w' => e = .returned (.bool (isPl s l)) ∧ w' = w := by
  by_cases c1 : 1 ≤ s
  · by_cases c2 : s ≤ 2
    · by_cases c3 : 0 ≤ l
      · by_cases c4 : l ≤ 3
        · rw [isPl_iff.2 ⟨c1, c2, c3, c4⟩]
          go_enter Tryz.func85, Tryz.ntmps85
          go_wp2
          go_ret
          exact ⟨rfl, rfl⟩
        · rw [isPl_not (by omega)]
          go_enter Tryz.func85, Tryz.ntmps85
          go_wp2
          go_ret
          exact ⟨rfl, rfl⟩
      · rw [isPl_not (by omega)]
        go_enter Tryz.func85, Tryz.ntmps85
        go_wp2
        go_ret
        exact ⟨rfl, rfl⟩
    · rw [isPl_not (by omega)]
      go_enter Tryz.func85, Tryz.ntmps85
      go_wp2
      go_ret
      exact ⟨rfl, rfl⟩
  · rw [isPl_not (by omega)]
    go_enter Tryz.func85, Tryz.ntmps85
    go_wp2
    go_ret
    exact ⟨rfl, rfl⟩

def isKd (k : Int) : Bool := decide (0 ≤ k ∧ k ≤ 3)
theorem isKind_any (k : Int) (w : World) : Calls Tryz.prog 133 #[.int .i64 k] w fun e w' => e = .returned (.bool (isKd k)) ∧ w' = w := by
  by_cases c0 : k = 0
  · subst c0
    go_enter Tryz.func133, Tryz.ntmps133
    go_wp2
    go_ret
    exact ⟨rfl, rfl⟩
  by_cases c1 : k = 1
  · subst c1
    go_enter Tryz.func133, Tryz.ntmps133
    go_wp2
    go_ret
    exact ⟨rfl, rfl⟩
  by_cases c2 : k = 2
  · subst c2
    go_enter Tryz.func133, Tryz.ntmps133
    go_wp2
    go_ret
    exact ⟨rfl, rfl⟩
  by_cases c3 : k = 3
  · subst c3
    go_enter Tryz.func133, Tryz.ntmps133
    go_wp2
    go_ret
    exact ⟨rfl, rfl⟩
  rw [show isKd k = false from decide_eq_false (by omega)]
  go_enter Tryz.func133, Tryz.ntmps133
  go_wp2
  go_ret
  exact ⟨rfl, rfl⟩

/-- What an address of the kind at the level is a multiple of. -/
def unitN (l k : Int) : Nat := if k = 2 then spn l else 4096
theorem unit_any (l k : Int) (w : World) : Calls Tryz.prog 90 #[.int .i64 l, .int .i64 k] w fun e w' => e = .returned (.int .u64 (unitN l k : Nat)) ∧ w' = w := by
  have c1 := span_any l
  by_cases c : k = 2
  · subst c
    rw [show unitN l 2 = spn l from by unfold unitN; rw [if_pos rfl]]
    generalize spn l = r at *
    go_enter Tryz.func90, Tryz.ntmps90
    go_wp2_with (go_at_call 93; with_reducible refine (c1 _).mono ?_; rintro e w' ⟨rfl, rfl⟩)
    go_ret
    exact ⟨rfl, rfl⟩
  · rw [show unitN l k = 4096 from by unfold unitN; rw [if_neg c]]
    go_enter Tryz.func90, Tryz.ntmps90
    go_wp2
    go_ret
    exact ⟨rfl, rfl⟩

/-- The bit of a word. -/
def btN (u i : Nat) : Bool := decide (fieldN u i 1 = 1)
theorem hasBit_any (u i : Nat) (w : World) (hu : u < 18446744073709551616) (hi : i < 64) :
    Calls Tryz.prog 86 #[.int .u64 (u : Int), .int .i64 (i : Int)] w fun e w' => e = .returned (.bool (btN u i)) ∧ Dr w w' := by
  have c1 : ∀ w, Calls Tryz.prog 82 #[.int .u64 (u : Int), .int .i64 (i : Int), .int .i64 1] w fun e w' => e = .returned (.int .u64 (fieldN u i 1 : Nat)) ∧ Dr w w' := fun w => field_any u i 1 w hu (by decide) (by omega)
  unfold btN
  clear hu hi
  generalize fieldN u i 1 = r at *
  by_cases c : r = 1
  · rw [decide_eq_true c]
    subst c
    go_enter Tryz.func86, Tryz.ntmps86
    go_wp2_with fail
    with_reducible refine (c1 _).mono ?_
    rintro e w1 ⟨rfl, D⟩
    have HD : Hid _ := D
    clear D
    go_wp2
    go_ret
    exact ⟨rfl, HD.out⟩
  · rw [decide_eq_false c]
    have c2 : ((r : Int) == 1) = false := by rw [beq_eq_false_iff_ne]; omega
    go_enter Tryz.func86, Tryz.ntmps86
    go_wp2_with fail
    with_reducible refine (c1 _).mono ?_
    rintro e w1 ⟨rfl, D⟩
    have HD : Hid _ := D
    clear D
    go_wp2
    go_ret
    exact ⟨rfl, HD.out⟩

/-- Is one of the n bits from i on set? -/
def bsN (u i n : Nat) : Bool := decide (fieldN u i n ≠ 0)
theorem hasBits_any (u i n m : Nat) (w : World) (hu : u < 18446744073709551616) (hn : 1 ≤ n) (hm : i + n = m) (hi : m ≤ 64) :
    Calls Tryz.prog 88 #[.int .u64 (u : Int), .int .i64 (i : Int), .int .i64 (m : Int)] w fun e w' => e = .returned (.bool (bsN u i n)) ∧ Dr w w' := by
  have c1 := fun w => field_any u i n w hu hn (by omega)
  have z : (m : Int) - i = n := by omega
  have z2 : (m : Int) ≤ 64 := by omega
  unfold bsN
  clear hu
  generalize fieldN u i n = r at *
  by_cases c : r = 0
  · rw [decide_eq_false (by omega)]
    subst c
    go_enter Tryz.func88, Tryz.ntmps88
    go_wp2_with fail
    with_reducible refine (c1 _).mono ?_
    rintro e w1 ⟨rfl, D⟩
    have HD : Hid _ := D
    clear D
    go_wp2
    go_ret
    exact ⟨rfl, HD.out⟩
  · rw [decide_eq_true c]
    have c2 : ((r : Int) != 0) = true := by rw [bne_iff_ne]; omega
    go_enter Tryz.func88, Tryz.ntmps88
    go_wp2_with fail
    with_reducible refine (c1 _).mono ?_
    rintro e w1 ⟨rfl, D⟩
    have HD : Hid _ := D
    clear D
    go_wp2
    go_ret
    exact ⟨rfl, HD.out⟩

/-- A truth as a number. -/
def oneN (b : Bool) : Nat := if b = true then 1 else 0
theorem setBit_any (u i : Nat) (b : Bool) (w : World) (hu : u < 18446744073709551616) (hi : i < 64) :
    Calls Tryz.prog 129 #[.int .u64 (u : Int), .int .i64 (i : Int), .bool b] w fun e w' => e = .returned (.int .u64 (setN u i 1 (oneN b) : Nat)) ∧ Dr w w' := by
  have c1 : ∀ w, Calls Tryz.prog 130 #[.int .u64 (u : Int), .int .i64 (i : Int), .int .i64 1, .int .u64 1] w fun e w' => e = .returned (.int .u64 (setN u i 1 1 : Nat)) ∧ Dr w w' := fun w => set_any u i 1 1 w hu (by decide) (by decide) (by omega)
  have c2 : ∀ w, Calls Tryz.prog 130 #[.int .u64 (u : Int), .int .i64 (i : Int), .int .i64 1, .int .u64 0] w fun e w' => e = .returned (.int .u64 (setN u i 1 0 : Nat)) ∧ Dr w w' := fun w => set_any u i 1 0 w hu (by decide) (by decide) (by omega)
  clear hu hi
  cases b
  · rw [show oneN false = 0 from rfl]
    generalize setN u i 1 0 = r at *
    go_enter Tryz.func129, Tryz.ntmps129
    go_wp2_with fail
    with_reducible refine (c2 _).mono ?_
    rintro e w1 ⟨rfl, D⟩
    have HD : Hid _ := D
    clear D
    go_wp2
    go_ret
    exact ⟨rfl, HD.out⟩
  · rw [show oneN true = 1 from rfl]
    generalize setN u i 1 1 = r at *
    go_enter Tryz.func129, Tryz.ntmps129
    go_wp2_with fail
    with_reducible refine (c1 _).mono ?_
    rintro e w1 ⟨rfl, D⟩
    have HD : Hid _ := D
    clear D
    go_wp2
    go_ret
    exact ⟨rfl, HD.out⟩

/-- The kind that a word says at a level. -/
def kdN (l : Int) (u : Nat) : Int := if btN u 1 = false then 2 else if l = 3 then 3 else 1
theorem kindOf_any (l : Int) (u : Nat) (w : World) (hu : u < 18446744073709551616) :
    Calls Tryz.prog 114 #[.int .i64 l, .int .u64 (u : Int)] w fun e w' => e = .returned (.int .i64 (kdN l u)) ∧ Dr w w' := by
  have c1 : ∀ w, Calls Tryz.prog 86 #[.int .u64 (u : Int), .int .i64 1] w fun e w' => e = .returned (.bool (btN u 1)) ∧ Dr w w' := fun w => hasBit_any u 1 w hu (by decide)
  unfold kdN
  clear hu
  generalize btN u 1 = b at *
  cases b
  · rw [if_pos rfl]
    go_enter Tryz.func114, Tryz.ntmps114
    go_wp2_with fail
    with_reducible refine (c1 _).mono ?_
    rintro e w1 ⟨rfl, D⟩
    have HD : Hid _ := D
    clear D
    go_wp2
    go_ret
    exact ⟨rfl, HD.out⟩
  · rw [if_neg (by decide)]
    by_cases c : l = 3
    · subst c
      rw [if_pos rfl]
      go_enter Tryz.func114, Tryz.ntmps114
      go_wp2_with fail
      with_reducible refine (c1 _).mono ?_
      rintro e w1 ⟨rfl, D⟩
      have HD : Hid _ := D
      clear D
      go_wp2
      go_ret
      exact ⟨rfl, HD.out⟩
    · rw [if_neg c]
      go_enter Tryz.func114, Tryz.ntmps114
      go_wp2_with fail
      with_reducible refine (c1 _).mono ?_
      rintro e w1 ⟨rfl, D⟩
      have HD : Hid _ := D
      clear D
      go_wp2
      go_ret
      exact ⟨rfl, HD.out⟩

end Go.Proofs.YtanlcmdnhhdhaaaGreatDoor
