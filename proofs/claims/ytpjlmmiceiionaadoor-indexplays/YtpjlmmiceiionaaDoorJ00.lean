/- Joined: K0, U0. -/
import Derived.Test.YtpjlmmiceiionaaDoorRows
import Derived.WalkKit
import Derived.WalkSpells
import Derived.WalkLawsBesides
import Derived.Laws.BitsAllLaws
import Derived.Laws.MakeOwn
import Derived.Laws.AppendOwn
import Derived.Laws.BytesString
import Derived.Below
import Derived.ChangeSlices
import Derived.ProofKit
import Derived.OpenShut
import Derived.Carry
import Derived.Deep.QuietTactic
import Derived.BigQuiet
import Derived.Deep.LoopGhost
import Derived.Laws.OwnMore
import Derived.Laws.Cells
import Derived.Laws.Cover3
import Derived.Laws.StructEq
import Derived.Laws.Rows
/- For every seat: worlds in which all that lay lies, slices that came in. -/
namespace Go.Proofs.YtpjlmmiceiionaaDoor
open Go.ChangeShapes Go.WideShapes Go.ChangeAt Go.RowKit

/-- All that lay in w lies in w' as it did. -/
def Kp (w w' : World) : Prop := Go.RowKit.Below w.heap.size w w'
theorem Kp.refl (w : World) : Kp w w := Go.RowKit.Below.refl _ _
theorem Kp.trans {a b c : World} (h : Kp a b) (k : Kp b c) : Kp a c := Go.RowKit.Below.trans h (Go.RowKit.Below.mono k h.size)
theorem Kp.alloc {a b : World} (h : Kp a b) (o : Obj) : Kp a (b.alloc o) :=
  ⟨h.os, h.tape, h.output, by have := h.size; simp; omega, fun k hk => by
    rw [← h.block k hk]
    have := h.size
    simp only [World.alloc, Array.getElem?_push]
    rw [if_neg (by omega)]⟩
theorem Kp.drewN {a b : World} (h : Kp a b) (q : Nat) : Kp a (b.drewN q) := ⟨h.os, h.tape, h.output, h.size, h.block⟩
theorem Kp.drew {a b : World} (h : Kp a b) : Kp a b.drew := ⟨h.os, h.tape, h.output, h.size, h.block⟩
theorem Kp.set {a b : World} (h : Kp a b) (p : Addr) (v : Value) (hp : a.heap.size ≤ p.block) : Kp a (b.setCell p v) :=
  ⟨h.os, h.tape, h.output, by rw [World.size_setCell]; exact h.size, fun k hk => by rw [heap_setCell_other b p k v (by omega)]; exact h.block k hk⟩
theorem Kp.cell {a b : World} (h : Kp a b) {p : Addr} (hp : p.block < a.heap.size) : b.cell? p = a.cell? p := Go.RowKit.Below.cell h hp
theorem Kp.frz {a b : World} (h : Kp a b) {p : Addr} (hp : p.block < a.heap.size) : b.frozen? p = a.frozen? p := World.frozen?_of_block (h.block _ hp)

/-- The cells of a slice that was read: each holds what an element's reading takes. -/
theorem open_row {H : Type} {enc : TypeId × Value → H} {P : Program} {w : World} {base : Nat} {spare : Nat → Bool} {held : Bool} {t e : TypeId} {fuel : Nat} {cs : List Value} {x : DataW H × List MemPlace}
    (ht : P.underlying t = some (.slice e)) (hc : P.cellsOf e = 1) (h1 : ∀ n cs' y, DataW.trod enc P w base spare held n e cs' = some y → ∃ v, cs' = [v])
    (h : DataW.trod enc P w base spare held fuel t cs = some x) :
    ∃ (na : Option Addr) (m mcap : Nat) (vs : Nat → Value), cs = [.slice na m mcap] ∧ m ≤ maxLen ∧ (na = none → m = 0 ∧ mcap = 0) ∧
      ∀ i, i < m → (∃ b o, na = some ⟨b, o, none⟩ ∧ b < w.heap.size ∧ w.cell? ⟨b, o + i, none⟩ = some (vs i)) ∧ ∃ n y, DataW.trod enc P w base spare held n e [vs i] = some y := by
  rcases DataW.trod_slice ht h with ⟨h0, _⟩ | ⟨a, len, cap, elems, rest, n, _, rfl, rfl, hb, hl, hm, hlen, hel, hsp, hns⟩
  · exact ⟨none, 0, 0, fun _ => .bool false, h0, Nat.zero_le _, fun _ => ⟨rfl, rfl⟩, fun i hi => by omega⟩
  · have each : ∀ i, i < len → ∃ v y, w.cell? (a.add i) = some v ∧ DataW.trod enc P w base spare held n e [v] = some y := by
      intro i hi
      have h2 := hel i hi
      rw [List.getElem?_eq_getElem (by omega : i < elems.length), hc, Nat.mul_one, Option.bind_eq_some_iff] at h2
      obtain ⟨cs', hcs, hy'⟩ := h2
      obtain ⟨v, rfl⟩ := h1 n cs' _ hy'
      exact ⟨v, _, cell_of_cells?_one hcs, hy'⟩
    refine ⟨some a, len, cap, fun i => (w.cell? (a.add i)).getD (.bool false), rfl, by omega, (fun h => by cases h), fun i hi => ?_⟩
    obtain ⟨v0, y0, c0, _⟩ := each 0 (by omega)
    obtain ⟨v, y, c1, t1⟩ := each i hi
    have hsp : a.spot = none := by
      have e0 : a.add 0 = a := rfl
      rw [e0] at c0
      unfold World.cell? at c0
      split at c0
      · split at c0
        · cases c0
        · rename_i hs; simpa using hs
      · cases c0
    have hlt : a.block < w.heap.size := by
      have e0 : a.add 0 = a := rfl
      rw [e0] at c0
      by_cases hh : a.block < w.heap.size
      · exact hh
      · unfold World.cell? at c0
        rw [show w.heap[a.block]? = none from by simp; omega] at c0
        cases c0
    obtain ⟨b, o, sp⟩ := a
    subst hsp
    have ea : (Addr.mk b o none).add i = ⟨b, o + i, none⟩ := by
      unfold Addr.add
      split
      · rename_i h0; subst h0; rfl
      · rfl
    have c2 := c1
    rw [ea] at c2
    refine ⟨⟨b, o, rfl, hlt, ?_⟩, n, y, ?_⟩
    · show _ = some ((w.cell? ((Addr.mk b o none).add i)).getD (.bool false))
      rw [c1, c2]; rfl
    · show DataW.trod enc P w base spare held n e [(w.cell? ((Addr.mk b o none).add i)).getD (.bool false)] = some y
      rw [c1]; exact t1

/-- m ints lie in w at na. -/
def IS (w : World) (na : Option Addr) (m : Nat) (f : Nat → Int) : Prop := ∀ i, i < m → ∃ b o, na = some ⟨b, o, none⟩ ∧ b < w.heap.size ∧ w.cell? ⟨b, o + i, none⟩ = some (.int .i64 (f i))

theorem open_nums {H : Type} {enc : TypeId × Value → H} {P : Program} {w : World} {base : Nat} {spare : Nat → Bool} {held : Bool} {t e : TypeId} {fuel : Nat} {cs : List Value} {x : DataW H × List MemPlace}
    (ht : P.underlying t = some (.slice e)) (he : P.underlying e = some (.int .i64)) (hc : P.cellsOf e = 1) (h : DataW.trod enc P w base spare held fuel t cs = some x) :
    ∃ (na : Option Addr) (m mcap : Nat) (f : Nat → Int), cs = [.slice na m mcap] ∧ m ≤ maxLen ∧ IS w na m f := by
  obtain ⟨na, m, mcap, vs, h1, h2, _, h3⟩ := open_row ht hc (fun n cs' y hy => by obtain ⟨b, hb, _⟩ := DataW.trod_int he hy; exact ⟨_, hb⟩) h
  refine ⟨na, m, mcap, fun i => match vs i with | .int _ b => b | _ => 0, h1, h2, fun i hi => ?_⟩
  obtain ⟨⟨b, o, k1, k2, k3⟩, n, y, hy⟩ := h3 i hi
  obtain ⟨v, hv, _⟩ := DataW.trod_int he hy
  simp only [List.cons.injEq, and_true] at hv
  refine ⟨b, o, k1, k2, ?_⟩
  simp only [k3, hv]

/-- m numbers of the kind k lie in w at na. -/
def NSK (k : IntKind) (w : World) (na : Option Addr) (m : Nat) (f : Nat → Int) : Prop := ∀ i, i < m → (∃ b o, na = some ⟨b, o, none⟩ ∧ b < w.heap.size ∧ w.cell? ⟨b, o + i, none⟩ = some (.int k (f i))) ∧ (Lit.int k (f i)).wf = true
theorem NSK.kp {k : IntKind} {w w' : World} {na : Option Addr} {m : Nat} {f : Nat → Int} (H : NSK k w na m f) (g : Kp w w') : NSK k w' na m f := fun i hi => by
  obtain ⟨⟨b, o, h1, h2, h3⟩, h4⟩ := H i hi
  exact ⟨⟨b, o, h1, Nat.lt_of_lt_of_le h2 g.size, by rw [Kp.cell g (p := ⟨b, o + i, none⟩) h2]; exact h3⟩, h4⟩

theorem open_kind {H : Type} {enc : TypeId × Value → H} {P : Program} {w : World} {base : Nat} {spare : Nat → Bool} {held : Bool} {t e : TypeId} {fuel : Nat} {cs : List Value} {x : DataW H × List MemPlace} {k : IntKind}
    (ht : P.underlying t = some (.slice e)) (he : P.underlying e = some (.int k)) (hc : P.cellsOf e = 1) (h : DataW.trod enc P w base spare held fuel t cs = some x) :
    ∃ (na : Option Addr) (m mcap : Nat) (f : Nat → Int), cs = [.slice na m mcap] ∧ m ≤ maxLen ∧ NSK k w na m f := by
  obtain ⟨na, m, mcap, vs, h1, h2, _, h3⟩ := open_row ht hc (fun n cs' y hy => by obtain ⟨b, hb, _⟩ := DataW.trod_int he hy; exact ⟨_, hb⟩) h
  refine ⟨na, m, mcap, fun i => match vs i with | .int _ b => b | _ => 0, h1, h2, fun i hi => ?_⟩
  obtain ⟨⟨b, o, k1, k2, k3⟩, n, y, hy⟩ := h3 i hi
  obtain ⟨v, hv, _, hw⟩ := DataW.trod_int he hy
  simp only [List.cons.injEq, and_true] at hv
  exact ⟨⟨b, o, k1, k2, by simp only [k3, hv]⟩, by simp only [hv]; exact hw⟩

end Go.Proofs.YtpjlmmiceiionaaDoor

/- The ground of the buddy's texts: worlds alike but for some blocks. -/
namespace Go.Proofs.YtpjlmmiceiionaaDoor
open Go.RowKit

theorem wf_word {u : Int} (h : (Lit.int .u64 u).wf = true) : 0 ≤ u ∧ u < 18446744073709551616 := by
  simp [Lit.wf, IntKind.min, IntKind.max, IntKind.bits, IntKind.signed] at h
  omega

theorem wf_int {n : Int} (h : (Lit.int .i64 n).wf = true) : -9223372036854775808 ≤ n ∧ n ≤ 9223372036854775807 := by
  simp [Lit.wf, IntKind.min, IntKind.max, IntKind.bits, IntKind.signed] at h
  omega

def Dr (w w' : World) : Prop := ∃ m, w' = w.drewN m

theorem Dr.refl (w : World) : Dr w w := ⟨0, rfl⟩

theorem Dr.trans {a b c : World} (h : Dr a b) (k : Dr b c) : Dr a c := by
  obtain ⟨m, rfl⟩ := h; obtain ⟨n, rfl⟩ := k
  exact ⟨m + n, by rw [World.drewN_drewN]⟩

theorem Dr.kp {a b : World} (h : Dr a b) : Kp a b := by obtain ⟨m, rfl⟩ := h; exact (Kp.refl a).drewN m

theorem add_at (b o j : Nat) : (Addr.mk b o none).add j = ⟨b, o + j, none⟩ := by
  unfold Addr.add
  split
  · rename_i h0; subst h0; rfl
  · rfl

structure Fr (S : Nat → Prop) (w w' : World) : Prop where
  os : w'.os = w.os
  tape : w'.tape = w.tape
  output : w'.output = w.output
  size : w.heap.size ≤ w'.heap.size
  block : ∀ k, k < w.heap.size → ¬ S k → w'.heap[k]? = w.heap[k]?

theorem Fr.refl (S : Nat → Prop) (w : World) : Fr S w w := ⟨rfl, rfl, rfl, Nat.le_refl _, fun _ _ _ => rfl⟩

theorem Fr.mono {S T : Nat → Prop} {w w' : World} (h : Fr S w w') (hS : ∀ k, k < w.heap.size → S k → T k) : Fr T w w' := ⟨h.os, h.tape, h.output, h.size, fun k hk hT => h.block k hk (fun s => hT (hS k hk s))⟩

theorem Fr.trans {S : Nat → Prop} {a b c : World} (h : Fr S a b) (k : Fr S b c) : Fr S a c :=
  ⟨k.os.trans h.os, k.tape.trans h.tape, k.output.trans h.output, Nat.le_trans h.size k.size, fun i hi hS => (k.block i (Nat.lt_of_lt_of_le hi h.size) hS).trans (h.block i hi hS)⟩

theorem Kp.fr {w w' : World} (S : Nat → Prop) (h : Kp w w') : Fr S w w' := ⟨h.os, h.tape, h.output, h.size, fun k hk _ => h.block k hk⟩

theorem Fr.kp {S : Nat → Prop} {W w w' : World} (h : Fr S w w') (k : Kp W w) (hS : ∀ i, S i → W.heap.size ≤ i) : Kp W w' :=
  ⟨h.os.trans k.os, h.tape.trans k.tape, h.output.trans k.output, Nat.le_trans k.size h.size, fun i hi => (h.block i (Nat.lt_of_lt_of_le hi k.size) (fun s => by have := hS i s; omega)).trans (k.block i hi)⟩

theorem Fr.alloc {S : Nat → Prop} {a b : World} (h : Fr S a b) (o : Obj) : Fr S a (b.alloc o) := h.trans ((Kp.refl b).alloc o |>.fr S)

theorem Fr.drew {S : Nat → Prop} {a b : World} (h : Fr S a b) : Fr S a b.drew := h.trans ((Kp.refl b).drew.fr S)

theorem Fr.set {S : Nat → Prop} {a b : World} (h : Fr S a b) (p : Addr) (v : Value) (hp : S p.block) : Fr S a (b.setCell p v) :=
  h.trans ⟨rfl, rfl, rfl, by rw [World.size_setCell]; exact Nat.le_refl _, fun k _ hk => heap_setCell_other b p k v (fun e => hk (e ▸ hp))⟩

theorem Fr.grown {S : Nat → Prop} {a b : World} {r : Option Nat} (h : a.grownBy b r) (hr : ∀ g, r = some g → S g) : Fr S a b :=
  ⟨h.os, h.tape, h.output, h.size, fun k hk hS => h.block k hk (fun e => hS (hr k e.symm))⟩

theorem Fr.trans2 {S T : Nat → Prop} {a b c : World} (h : Fr S a b) (k : Fr T b c) (hT : ∀ i, i < a.heap.size → T i → S i) : Fr S a c :=
  ⟨k.os.trans h.os, k.tape.trans h.tape, k.output.trans h.output, Nat.le_trans h.size k.size, fun i hi hS => (k.block i (Nat.lt_of_lt_of_le hi h.size) (fun t => hS (hT i hi t))).trans (h.block i hi hS)⟩

theorem and_lim (n : Int) (M : Nat) (hM : M < 9223372036854775808) : ∃ m : Nat, bits .and .i64 n (M : Int) = (m : Int) ∧ m ≤ M := by
  have h1 : (BitVec.ofInt 64 n &&& BitVec.ofInt 64 (M : Int)).toNat ≤ M := by
    rw [BitVec.toNat_and]
    refine Nat.le_trans Nat.and_le_right ?_
    rw [BitVec.toNat_ofInt]
    omega
  refine ⟨_, ?_, h1⟩
  show IntKind.i64.wrap ((BitVec.ofInt 64 n &&& BitVec.ofInt 64 (M : Int)).toNat : Nat) = _
  rw [IntKind.wrap_i64]
  omega

theorem place_of (a : Int) (M : Nat) (hM : 0 < M) : ∃ (t : Int) (p : Nat), a.tmod M = t ∧ -(M : Int) < t ∧ t < M ∧ (t + M).tmod M = (p : Int) ∧ p < M := by
  have l1 := Int.lt_tmod_of_pos a (b := (M : Int)) (by omega)
  have l2 := Int.tmod_lt_of_pos a (b := (M : Int)) (by omega)
  have e3 : (a.tmod M + M).tmod M = (a.tmod M + M) % M := Int.tmod_eq_emod_of_nonneg (by omega)
  have e4 := Int.emod_nonneg (a.tmod M + M) (b := (M : Int)) (by omega)
  have e5 := Int.emod_lt_of_pos (a.tmod M + M) (b := (M : Int)) (by omega)
  refine ⟨_, ((a.tmod M + M) % M).toNat, rfl, by omega, l2, ?_, ?_⟩
  · rw [e3, Int.toNat_of_nonneg e4]
  · omega

theorem Fr.cell {U : Nat → Prop} {w w' : World} (h : Fr U w w') {a : Addr} (hl : a.block < w.heap.size) (hu : ¬ U a.block) : w'.cell? a = w.cell? a := World.cell?_of_block (h.block a.block hl hu)

theorem wp_append_of {P : Program} {w : World} {o : Oper} {a : Act} {K : Act → World → Prop} {Q : Exit → Act → World → Prop} {t ty : TypeId} {vs vx v' : Value} {w' : World}
    (hr : (Builtin.append_ #[t, t] ty #[vs, vx]).run P w = .ok v' w') (s x : Operand) (ho : o.op = .call { callee := .builtin .append, args := #[s, x], argTypes := #[t, t] }) (hty : o.type = ty) (hs : a.eval s = vs) (hx : a.eval x = vx)
    (h : K (a.put o.dst v') w') : o.wp P a w K Q := by
  subst hty
  unfold Oper.wp execOp
  simp only [ho, resolve, invoke, builtin, Sem.run_bind, Sem.run_pure, Result.andThen_ok, List.map_toArray, List.map_cons, List.map_nil, hs, hx, hr]
  exact h

end Go.Proofs.YtpjlmmiceiionaaDoor
