/- Joined: Mask, R68, R6A. -/
import Derived.Test.YtanlcmdnhhdhaaaGreatDoorJ00
import Derived.Laws.Bits128
import Derived.Test.YtanlcmdnhhdhaaaGreatDoorJ37
import Derived.Test.YtanlcmdnhhdhaaaGreatDoorR43
import Derived.Test.YtanlcmdnhhdhaaaGreatDoorJ28
import Derived.Deep.CutBlock
import Derived.Deep.DeepCutAuto
import Derived.Deep.RegionHeld3
import Derived.Test.YtanlcmdnhhdhaaaGreatDoorJ04
/- Masks of ints. -/
namespace Go.Proofs.YtanlcmdnhhdhaaaGreatDoor
open Go.RowKit

theorem i64_mask (k : Nat) (M : Int) (n : Int) (hk : k ≤ 62) (h : (BitVec.ofInt 64 M).toNat = 2 ^ k - 1) : bits .and .i64 n M = n % ((2 ^ k : Nat) : Int) := by
  have key : (BitVec.ofInt 64 n &&& BitVec.ofInt 64 M).toNat = (n % ((2 ^ 64 : Nat) : Int)).toNat % 2 ^ k := by
    rw [BitVec.toNat_and, BitVec.toNat_ofInt, h, Nat.and_two_pow_sub_one_eq_mod]
  show IntKind.i64.wrap ((BitVec.ofInt 64 n &&& BitVec.ofInt 64 M).toNat : Nat) = _
  have hd : (2 ^ k : Nat) ∣ 2 ^ 64 := Nat.pow_dvd_pow 2 (by omega)
  have hp : 2 ^ k ≤ 2 ^ 62 := Nat.pow_le_pow_right (by decide) hk
  have hpos : 0 < 2 ^ k := Nat.two_pow_pos k
  have e1 : ((((n % ((2 ^ 64 : Nat) : Int)).toNat % 2 ^ k : Nat)) : Int) = n % ((2 ^ k : Nat) : Int) := by
    rw [Int.natCast_emod, Int.toNat_of_nonneg (Int.emod_nonneg _ (by decide)), Int.emod_emod_of_dvd _ (Int.natCast_dvd_natCast.2 hd)]
  rw [key, IntKind.wrap_i64, e1]
  have l1 := Int.emod_nonneg n (b := ((2 ^ k : Nat) : Int)) (by omega)
  have l2 := Int.emod_lt_of_pos n (b := ((2 ^ k : Nat) : Int)) (by omega)
  omega
theorem mask20 (n : Int) : bits .and .i64 n 1048575 = n % 1048576 := i64_mask 20 1048575 n (by decide) (by decide)
theorem mask10 (n : Int) : bits .and .i64 n 1023 = n % 1024 := i64_mask 10 1023 n (by decide) (by decide)
theorem mask5 (n : Int) : bits .and .i64 n 31 = n % 32 := i64_mask 5 31 n (by decide) (by decide)
theorem mask2 (n : Int) : bits .and .i64 n 3 = n % 4 := i64_mask 2 3 n (by decide) (by decide)
theorem mask4 (n : Int) : bits .and .i64 n 15 = n % 16 := i64_mask 4 15 n (by decide) (by decide)

end Go.Proofs.YtanlcmdnhhdhaaaGreatDoor

/- demesnelaw13.step: the last part: both are asked. -/
namespace Go.Proofs.YtanlcmdnhhdhaaaGreatDoor
open Go.RowKit
set_option maxRecDepth 10000

section
variable {W w0 : World} {X0 : Nat → Prop} {v0 : Value} {bt p pm pool o : Nat} {M0 : Nat → Nat → Nat} {C0 : Nat → Nat} {Z : Nat → Bool} {root br bf : Nat} {L0 : List LV} {fr0 : Int} {w w' : World} {C : Nat → Nat} {E : Nat → Nat → DV} {L : List LV} {fr : Int}
theorem sw_get (h : SWk W w0 X0 v0 bt p pm pool o M0 C0 Z root br bf L0 fr0 w C E L fr) (page : Nat) (ho : o < 1000000000000000000) :
    Calls Tryz.prog 18 #[.pointer (some ⟨bt, 0, none⟩), .int .u64 (page : Int)] w fun e w' => e = .returned (.tuple #[lvV (getP E page), .bool (isP E page)]) ∧ SWk W w0 X0 v0 bt p pm pool (o + 4) M0 C0 Z root br bf L0 fr0 w' C E L fr := by
  obtain ⟨X, M, v, h1, h2, h3⟩ := h.ex
  refine (pget_any h1.ts page (by omega)).mono ?_
  rintro e w' ⟨e1, t, f⟩
  exact ⟨e1, ⟨X, M, v, h1.look t f, h2.out f, h3⟩, h.sum⟩
theorem sw_need (h : SWk W w0 X0 v0 bt p pm pool o M0 C0 Z root br bf L0 fr0 w C E L fr) (page : Nat) (ho : o < 1000000000000000000) :
    Calls Tryz.prog 42 #[.pointer (some ⟨bt, 0, none⟩), .int .u64 (page : Int)] w fun e w' => e = .returned (.int .i64 (needP E page : Nat)) ∧ SWk W w0 X0 v0 bt p pm pool (o + 4) M0 C0 Z root br bf L0 fr0 w' C E L fr := by
  obtain ⟨X, M, v, h1, h2, h3⟩ := h.ex
  refine (pneed_any h1.ts page (by omega)).mono ?_
  rintro e w' ⟨e1, t, f⟩
  exact ⟨e1, ⟨X, M, v, h1.look t f, h2.out f, h3⟩, h.sum⟩
theorem sw_dget (h : SWk W w0 X0 v0 bt p pm pool o M0 C0 Z root br bf L0 fr0 w C E L fr) (page : Nat) (hp : page < 18446744073709551616) (hl : L.length ≤ 900000) :
    Calls Tryz.prog 41 #[.pointer (some ⟨br, 0, none⟩), .int .u64 (page : Int)] w fun e w' => e = .returned (.tuple #[lvV (getL false L page), .bool (isL false L page)]) ∧ SWk W w0 X0 v0 bt p pm pool o M0 C0 Z root br bf L0 fr0 w' C E L fr ∧ Kp w w' := by
  obtain ⟨X, M, v, h1, h2, h3⟩ := h.ex
  refine (rget_any h1.rq hl page hp).mono ?_
  rintro e w' ⟨e1, k⟩
  exact ⟨e1, h.kp k, k⟩
theorem sw_dneed (h : SWk W w0 X0 v0 bt p pm pool o M0 C0 Z root br bf L0 fr0 w C E L fr) (page : Nat) (hp : page < 18446744073709551616) (hl : L.length ≤ 900000) :
    Calls Tryz.prog 43 #[.pointer (some ⟨br, 0, none⟩), .int .u64 (page : Int)] w fun e w' => e = .returned (.int .i64 (needL false L page)) ∧ SWk W w0 X0 v0 bt p pm pool o M0 C0 Z root br bf L0 fr0 w' C E L fr ∧ Kp w w' := by
  obtain ⟨X, M, v, h1, h2, h3⟩ := h.ex
  refine (rneed_any h1.rq hl page hp).mono ?_
  rintro e w' ⟨e1, k⟩
  exact ⟨e1, h.kp k, k⟩
end
theorem SWk.le {W w0 : World} {X0 : Nat → Prop} {v0 : Value} {bt p pm pool o o' : Nat} {M0 : Nat → Nat → Nat} {C0 : Nat → Nat} {Z : Nat → Bool} {root br bf : Nat} {L0 : List LV} {fr0 : Int} {w : World} {C : Nat → Nat} {E : Nat → Nat → DV} {L : List LV} {fr : Int} (h : SWk W w0 X0 v0 bt p pm pool o M0 C0 Z root br bf L0 fr0 w C E L fr) (ho : o ≤ o') : SWk W w0 X0 v0 bt p pm pool o' M0 C0 Z root br bf L0 fr0 w C E L fr := by
  obtain ⟨⟨X, M, v, h1, h2, h3⟩, h4⟩ := h
  exact ⟨⟨X, M, v, h1.le ho, h2, h3⟩, h4⟩
/-- A permission is laid beside both. -/
theorem BJ.sb {W w0 w : World} {X : Nat → Prop} {v : Value} {bt p pm pool o : Nat} {M : Nat → Nat → Nat} {C : Nat → Nat} {Z : Nat → Bool} {root br bf : Nat} {E : Nat → Nat → DV} {L : List LV} {fr : Int} (h : BJ W X w0 bt p pm pool o M C Z root E br bf v L fr false) (hX : ∀ i, X i → i < w0.heap.size) (k : Kp w0 w) {bo : Nat} {r q x : Bool} (hb : w0.heap.size ≤ bo) (px : PX w bo r q x) : SB9 W w0 X v bt p pm pool o M C Z root br bf L fr bo r q x w C E := by
  have l1 := h.rq.lt
  have l2 := h.rq.ltf
  have l3 := h.ts.tx.lt
  have l4 : ∀ b, v.ownBlock = some b → b < w0.heap.size := fun b e => hX b (h.xs b (.inr (.inr e))).2.1
  refine ⟨⟨fun i => X i ∨ i = bo, M, v, ⟨h.ts.more k bo hb px.lt, h.ne, h.rq.kp k, fun i hi => ⟨(h.xs i hi).1, .inl (h.xs i hi).2.1, (h.xs i hi).2.2⟩⟩, ⟨fun i hi => .inl hi, fun i hi => hi.imp id (fun e => by rw [e]; exact hb), fun i hi _ _ _ => k.block i (hX i hi), fun b hb => .inl hb, k.size, hX⟩, Ot.refl _ _ _, .inr rfl, fun b e c => by have := l4 b e; omega⟩, px, fun c => by omega, fun c => by omega, fun c => by omega⟩
/-- What a step tells of both. -/
def ansB (E : Nat → Nat → DV) (L : List LV) (page : Nat) (xx yy aa bb : Int) : Bool := (xx == yy) && (aa == bb) && (isP E page == isL false L page) && samL (getP E page) (getL false L page) && ((needP E page : Int) == needL false L page)
/-- A step in a box. -/
def OPX (w : World) (b : Nat) (kd fm sf pg : Int) (r q x raw : Bool) : Prop := w.heap[b]? = some (.cells #[.int .i64 kd, .int .i64 fm, .int .i64 sf, .int .u64 pg, .bool r, .bool q, .bool x, .bool raw] 41 (0, 0))
section
variable {w w' : World} {b : Nat} {kd fm sf pg : Int} {r q x raw : Bool}
theorem OPX.lt (h : OPX w b kd fm sf pg r q x raw) : b < w.heap.size := (Array.getElem?_eq_some_iff.1 h).1
theorem OPX.kp (h : OPX w b kd fm sf pg r q x raw) (k : Kp w w') : OPX w' b kd fm sf pg r q x raw := (k.block b h.lt).trans h
theorem OPX.putP (h : OPX w b kd fm sf pg r q x raw) {c : Nat} (hc : b ≠ c) (r' q' x' : Bool) : OPX (Go.Proofs.YtanlcmdnhhdhaaaGreatDoor.putP w c r' q' x') b kd fm sf pg r q x raw := by
  unfold OPX Go.Proofs.YtanlcmdnhhdhaaaGreatDoor.putP
  rw [heap_setCell_other _ _ _ _ hc, heap_setCell_other _ _ _ _ hc, heap_setCell_other _ _ _ _ hc]
  exact h
theorem OPX.cells (h : OPX w b kd fm sf pg r q x raw) : w.cell? ⟨b, 0, none⟩ = some (.int .i64 kd) ∧ w.cell? ⟨b, 1, none⟩ = some (.int .i64 fm) ∧ w.cell? ⟨b, 2, none⟩ = some (.int .i64 sf) ∧ w.cell? ⟨b, 3, none⟩ = some (.int .u64 pg) ∧ w.cell? ⟨b, 4, none⟩ = some (.bool r) ∧ w.cell? ⟨b, 5, none⟩ = some (.bool q) ∧ w.cell? ⟨b, 6, none⟩ = some (.bool x) ∧ w.cell? ⟨b, 7, none⟩ = some (.bool raw) := by
  refine ⟨?_, ?_, ?_, ?_, ?_, ?_, ?_, ?_⟩
  · rw [cell_of_row _ _ 0 _ _ _ h]; rfl
  · rw [cell_of_row _ _ 1 _ _ _ h]; rfl
  · rw [cell_of_row _ _ 2 _ _ _ h]; rfl
  · rw [cell_of_row _ _ 3 _ _ _ h]; rfl
  · rw [cell_of_row _ _ 4 _ _ _ h]; rfl
  · rw [cell_of_row _ _ 5 _ _ _ h]; rfl
  · rw [cell_of_row _ _ 6 _ _ _ h]; rfl
  · rw [cell_of_row _ _ 7 _ _ _ h]; rfl
end
/-- Behind the switch. -/
def SQ (W w0 : World) (X0 : Nat → Prop) (v0 : Value) (bt p pm pool o : Nat) (M0 : Nat → Nat → Nat) (C0 : Nat → Nat) (Z : Nat → Bool) (root br bf : Nat) (E0 : Nat → Nat → DV) (L0 : List LV) (fr0 : Int) (xx yy aa bb : Int) (w : World) : Prop :=
  ∃ C E L fr, SWk W w0 X0 v0 bt p pm pool o M0 C0 Z root br bf L0 fr0 w C E L fr ∧ SR pool Z root C0 E0 L0 fr0 C E L fr xx yy aa bb
theorem SB9.idle {W w0 w : World} {X : Nat → Prop} {v : Value} {bt p pm pool o o' : Nat} {M : Nat → Nat → Nat} {C : Nat → Nat} {Z : Nat → Bool} {root br bf : Nat} {E : Nat → Nat → DV} {L : List LV} {fr : Int} {bo : Nat} {r q x : Bool} (h : SB9 W w0 X v bt p pm pool o M C Z root br bf L fr bo r q x w C E) (ho : o ≤ o') (page : Nat) (hp : page < 18446744073709551616) : SQ W w0 X v bt p pm pool o' M C Z root br bf E L fr 0 0 0 0 w := by
  obtain ⟨Y, M', v', h1, h2, h3, _⟩ := h.ex
  exact ⟨C, E, L, fr, ⟨⟨Y, M', v', h1.le ho, h2, h3⟩, DSum.refl _ _⟩, page, 0, false, false, false, 0, hp, .inr (.inr (.inr (.inr (.inr (.inr ⟨rfl, rfl, rfl, rfl, rfl, rfl, rfl, rfl⟩)))))⟩
/-- Behind the step. -/
def SZ (W w0 : World) (X0 : Nat → Prop) (v0 : Value) (bt p pm pool o : Nat) (M0 : Nat → Nat → Nat) (C0 : Nat → Nat) (Z : Nat → Bool) (root br bf : Nat) (E0 : Nat → Nat → DV) (L0 : List LV) (fr0 : Int) (z : Bool) (w : World) : Prop :=
  ∃ C E L fr xx yy aa bb page, SWk W w0 X0 v0 bt p pm pool o M0 C0 Z root br bf L0 fr0 w C E L fr ∧ SR pool Z root C0 E0 L0 fr0 C E L fr xx yy aa bb ∧ page < 18446744073709551616 ∧ z = ansB E L page xx yy aa bb

end Go.Proofs.YtanlcmdnhhdhaaaGreatDoor

/- demesnelaw13.step: what is behind the switch. (Laid by gen_r69.py.) -/
namespace Go.Proofs.YtanlcmdnhhdhaaaGreatDoor
open Go.RowKit
set_option maxRecDepth 10000

/-- The second part of a sequence; a function's body. -/
def sB : Code → Code
  | .seq _ b => b
  | c => c
def bodyC (f : Func) : Code := f.body.getD .skip
set_option maxHeartbeats 16000000 in
theorem step_tail {W w wc : World} {X : Nat → Prop} {v : Value} {bt p pm pool o : Nat} {M : Nat → Nat → Nat} {C : Nat → Nat} {Z : Nat → Bool} {root br bf : Nat} {E : Nat → Nat → DV} {L : List LV} {fr : Int} (hh : (BJ W X w bt p pm pool o M C Z root E br bf v L fr false ∧ L.length ≤ 800000 ∧ (-100000000 ≤ fr ∧ fr ≤ 100000000) ∧ o < 100000000000000000 ∧ ∀ i, X i → i < w.heap.size)) {p3 : Nat} {f3 s : Int} {b5 b9 : Nat} {kd fm sf : Int} {pg : Nat} {r q x raw : Bool} {m : Nat} (lp : p3 < 18446744073709551616) {xx yy aa bb : Int} (hr : SQ W w X v bt p pm pool (o + 600) M C Z root br bf E L fr xx yy aa bb wc) {y64 y15 y16 y17 y18 y23 y24 y25 y26 y27 y28 y29 y30 y31 y32 y33 y34 y35 y36 y37 y38 y39 y40 y41 y42 y43 y44 y45 y46 y47 y48 y49 y50 y51 y52 y53 y54 y55 y56 y57 y58 y59 y60 y61 y62 y63 y65 y66 y67 y68 y69 y71 y72 y73 y74 y75 y76 y77 y78 y79 y80 y81 y82 y83 y84 y85 y86 y87 y88 y89 y90 y91 y92 y93 y94 y95 y96 y97 y98 y99 y100 y101 y102 y103 y104 y105 y106 y107 y108 y109 y110 y111 y112 y113 y114 y115 y116 y117 y118 y119 y120 y121 y122 y123 y124 y125 y126 y127 y128 y129 y130 y131 y132 y133 y134 y135 y136 y137 y138 y139 y140 y141 y142 y143 y144 y145 y146 y147 y148 y149 y150 y151 y152 y153 y154 y155 y156 y157 y158 y159 y160 y161 y162 y163 y164 y165 y166 y167 y168 y169 y170 y171 y172 y173 y174 y175 y176 y177 y178 y179 y180 y181 y182 y183 y184 y185 y186 y187 y188 y189 y190 y191 y192 y193 y194 y195 y196 y197 y198 y199 y200 y201 y202 y203 y204 y205 y206 : Value} :
    Code.wp Tryz.prog (sB (sB (sB (sB (sB (sB (sB (sB (sB (sB (bodyC Tryz.f9)))))))))))
      (bodyPost Tryz.prog Tryz.f9 fun e w' => ∃ z, e = .returned (.bool z) ∧ SZ W w X v bt p pm pool (o + 1000) M C Z root br bf E L fr z w')
      { tmps := #[Value.pointer (some { block := bt, off := 0 }), Value.pointer (some { block := br, off := 0 }), Value.agg #[Value.int IntKind.i64 kd, Value.int IntKind.i64 fm, Value.int IntKind.i64 sf, Value.int IntKind.u64 ↑pg, Value.bool r, Value.bool q, Value.bool x, Value.bool raw], undef, undef, Value.pointer (some { block := b5, off := 0 }), Value.bool false, Value.int IntKind.u64 ↑p3, Value.int IntKind.i64 f3, Value.pointer (some { block := b9, off := 0 }), Value.int IntKind.i64 s, Value.int IntKind.i64 xx, Value.int IntKind.i64 yy, Value.int IntKind.i64 aa, Value.int IntKind.i64 bb, y15, y16, y17, y18, undef, undef, undef, undef, y23, y24, y25, y26, y27, y28, y29, y30, y31, y32, y33, y34, y35, y36, y37, y38, y39, y40, y41, y42, y43, y44, y45, y46, y47, y48, y49, y50, y51, y52, y53, y54, y55, y56, y57, y58, y59, y60, y61, y62, y63, y64, y65, y66, y67, y68, y69, Value.int IntKind.i64 ↑m, y71, y72, y73, y74, y75, y76, y77, y78, y79, y80, y81, y82, y83, y84, y85, y86, y87, y88, y89, y90, y91, y92, y93, y94, y95, y96, y97, y98, y99, y100, y101, y102, y103, y104, y105, y106, y107, y108, y109, y110, y111, y112, y113, y114, y115, y116, y117, y118, y119, y120, y121, y122, y123, y124, y125, y126, y127, y128, y129, y130, y131, y132, y133, y134, y135, y136, y137, y138, y139, y140, y141, y142, y143, y144, y145, y146, y147, y148, y149, y150, y151, y152, y153, y154, y155, y156, y157, y158, y159, y160, y161, y162, y163, y164, y165, y166, y167, y168, y169, y170, y171, y172, y173, y174, y175, y176, y177, y178, y179, y180, y181, y182, y183, y184, y185, y186, y187, y188, y189, y190, y191, y192, y193, y194, y195, y196, y197, y198, y199, y200, y201, y202, y203, y204, y205, y206], defers := [] } wc := by
  have HPp : Hid (p3 < 18446744073709551616) := lp
  have HL0 : Hid (L.length ≤ 800000 ∧ o < 100000000000000000) := ⟨hh.2.1, hh.2.2.2.1⟩
  have HR : Hid (SQ W w X v bt p pm pool (o + 600) M C Z root br bf E L fr xx yy aa bb wc) := hr
  clear hh lp hr
  conv => arg 2; whnf
  obtain ⟨C', E', L', fr', S6, R6⟩ := HR.out
  have HL : Hid (L'.length ≤ 900000 ∧ SR pool Z root C E L fr C' E' L' fr' xx yy aa bb ∧ o < 100000000000000000) := ⟨by have := S6.sum.2; have := HL0.out.1; omega, R6, HL0.out.2⟩
  have cA := sw_get S6 p3 (by have := HL0.out.2; omega)
  obtain ⟨u, hu⟩ : ∃ u, getP E' p3 = u := ⟨_, rfl⟩
  obtain ⟨z1, hz1⟩ : ∃ z, isP E' p3 = z := ⟨_, rfl⟩
  rw [hu, hz1] at cA
  unfold lvV at cA
  clear S6 R6 HR HL0
  go_wp2_with fail
  with_reducible refine cA.mono ?_
  rintro e w6 ⟨rfl, S6⟩
  have S7 := S6.kp ((Kp.refl w6).alloc (.cells #[.int .u64 (u.g : Int), .int .i64 (u.x : Int), .bool u.r, .bool u.q, .bool u.e, .int .i64 u.f, .int .i64 (u.l : Int)] 58))
  have R7 := heap_alloc_new w6 (.cells #[.int .u64 (u.g : Int), .int .i64 (u.x : Int), .bool u.r, .bool u.q, .bool u.e, .int .i64 u.f, .int .i64 (u.l : Int)] 58)
  obtain ⟨u2, hu2⟩ : ∃ u, getL false L' p3 = u := ⟨_, rfl⟩
  obtain ⟨z2, hz2⟩ : ∃ z, isL false L' p3 = z := ⟨_, rfl⟩
  have cB := sw_dget S7 p3 HPp.out HL.out.1
  rw [hu2, hz2] at cB
  unfold lvV at cB
  clear S6 cA
  go_wp2_with fail
  generalize w6.alloc (.cells #[.int .u64 (u.g : Int), .int .i64 (u.x : Int), .bool u.r, .bool u.q, .bool u.e, .int .i64 u.f, .int .i64 (u.l : Int)] 58) = w7 at *
  generalize w6.heap.size = b19 at *
  clear S7
  with_reducible refine cB.mono ?_
  rintro e w8 ⟨rfl, S8, k8⟩
  have R8 : w8.heap[b19]? = some (.cells #[.int .u64 (u.g : Int), .int .i64 (u.x : Int), .bool u.r, .bool u.q, .bool u.e, .int .i64 u.f, .int .i64 (u.l : Int)] 58 (0, 0)) := (k8.block b19 (Array.getElem?_eq_some_iff.1 R7).1).trans R7
  have kA := (Kp.refl w8).alloc (.cells #[.int .u64 (u2.g : Int), .int .i64 (u2.x : Int), .bool u2.r, .bool u2.q, .bool u2.e, .int .i64 u2.f, .int .i64 (u2.l : Int)] 93)
  have S9 := S8.kp kA
  have R9 := (kA.block b19 (Array.getElem?_eq_some_iff.1 R8).1).trans R8
  have q0 : (w8.alloc (.cells #[.int .u64 (u2.g : Int), .int .i64 (u2.x : Int), .bool u2.r, .bool u2.q, .bool u2.e, .int .i64 u2.f, .int .i64 (u2.l : Int)] 93)).cell? ⟨b19, 0, none⟩ = some (.int .u64 (u.g : Int)) := by rw [cell_of_row _ _ 0 _ _ _ R9]; rfl
  have q1 : (w8.alloc (.cells #[.int .u64 (u2.g : Int), .int .i64 (u2.x : Int), .bool u2.r, .bool u2.q, .bool u2.e, .int .i64 u2.f, .int .i64 (u2.l : Int)] 93)).cell? ⟨b19, 1, none⟩ = some (.int .i64 (u.x : Int)) := by rw [cell_of_row _ _ 1 _ _ _ R9]; rfl
  have q2 : (w8.alloc (.cells #[.int .u64 (u2.g : Int), .int .i64 (u2.x : Int), .bool u2.r, .bool u2.q, .bool u2.e, .int .i64 u2.f, .int .i64 (u2.l : Int)] 93)).cell? ⟨b19, 2, none⟩ = some (.bool u.r) := by rw [cell_of_row _ _ 2 _ _ _ R9]; rfl
  have q3 : (w8.alloc (.cells #[.int .u64 (u2.g : Int), .int .i64 (u2.x : Int), .bool u2.r, .bool u2.q, .bool u2.e, .int .i64 u2.f, .int .i64 (u2.l : Int)] 93)).cell? ⟨b19, 3, none⟩ = some (.bool u.q) := by rw [cell_of_row _ _ 3 _ _ _ R9]; rfl
  have q4 : (w8.alloc (.cells #[.int .u64 (u2.g : Int), .int .i64 (u2.x : Int), .bool u2.r, .bool u2.q, .bool u2.e, .int .i64 u2.f, .int .i64 (u2.l : Int)] 93)).cell? ⟨b19, 4, none⟩ = some (.bool u.e) := by rw [cell_of_row _ _ 4 _ _ _ R9]; rfl
  have q5 : (w8.alloc (.cells #[.int .u64 (u2.g : Int), .int .i64 (u2.x : Int), .bool u2.r, .bool u2.q, .bool u2.e, .int .i64 u2.f, .int .i64 (u2.l : Int)] 93)).cell? ⟨b19, 5, none⟩ = some (.int .i64 u.f) := by rw [cell_of_row _ _ 5 _ _ _ R9]; rfl
  have q6 : (w8.alloc (.cells #[.int .u64 (u2.g : Int), .int .i64 (u2.x : Int), .bool u2.r, .bool u2.q, .bool u2.e, .int .i64 u2.f, .int .i64 (u2.l : Int)] 93)).cell? ⟨b19, 6, none⟩ = some (.int .i64 (u.l : Int)) := by rw [cell_of_row _ _ 6 _ _ _ R9]; rfl
  obtain ⟨sl, hsl⟩ : ∃ sl, samL u u2 = sl := ⟨_, rfl⟩
  obtain ⟨n1, hn1⟩ : ∃ n, needP E' p3 = n := ⟨_, rfl⟩
  obtain ⟨n2, hn2⟩ : ∃ n, needL false L' p3 = n := ⟨_, rfl⟩
  have hq : ∀ w : World, (Op.equalIn 10000 58 (.agg #[.int .u64 (u.g : Int), .int .i64 (u.x : Int), .bool u.r, .bool u.q, .bool u.e, .int .i64 u.f, .int .i64 (u.l : Int)]) (.agg #[.int .u64 (u2.g : Int), .int .i64 (u2.x : Int), .bool u2.r, .bool u2.q, .bool u2.e, .int .i64 u2.f, .int .i64 (u2.l : Int)])).run Tryz.prog w = .ok sl w := fun w => by rw [← hsl]; exact eq_leaf _ _ _ _ _ _ _ _ _ _ _ _ _ _ w
  have HA : Hid (ansB E' L' p3 xx yy aa bb = ((xx == yy) && (aa == bb) && (z1 == z2) && sl && ((n1 : Int) == n2))) := by
    show ansB E' L' p3 xx yy aa bb = _
    unfold ansB
    rw [hu, hu2, hz1, hz2, hsl, hn1, hn2]
  have cN : Aside (∀ v', SWk W w X v bt p pm pool (o + 600 + 4) M C Z root br bf L fr v' C' E' L' fr' → Calls Tryz.prog 42 #[.pointer (some ⟨bt, 0, none⟩), .int .u64 (p3 : Int)] v' fun e w' => e = .returned (.int .i64 (n1 : Int)) ∧ SWk W w X v bt p pm pool (o + 600 + 4 + 4) M C Z root br bf L fr w' C' E' L' fr') := fun v' h => by rw [← hn1]; exact sw_need h p3 (by have := HL.out.2.2; omega)
  have cM : Aside (∀ v', SWk W w X v bt p pm pool (o + 600 + 4 + 4) M C Z root br bf L fr v' C' E' L' fr' → Calls Tryz.prog 43 #[.pointer (some ⟨br, 0, none⟩), .int .u64 (p3 : Int)] v' fun e w' => e = .returned (.int .i64 n2) ∧ SWk W w X v bt p pm pool (o + 600 + 4 + 4) M C Z root br bf L fr w' C' E' L' fr' ∧ Kp v' w') := fun v' h => by rw [← hn2]; exact sw_dneed h p3 HPp.out HL.out.1
  have HZ : Hid (∀ v' z, SWk W w X v bt p pm pool (o + 600 + 4 + 4) M C Z root br bf L fr v' C' E' L' fr' → z = ansB E' L' p3 xx yy aa bb → SZ W w X v bt p pm pool (o + 1000) M C Z root br bf E L fr z v') := fun v' z h hz => ⟨C', E', L', fr', xx, yy, aa, bb, p3, h.le (by omega), HL.out.2.1, HPp.out, hz⟩
  have H9 : Hid (SWk W w X v bt p pm pool (o + 600 + 4) M C Z root br bf L fr (w8.alloc (.cells #[.int .u64 (u2.g : Int), .int .i64 (u2.x : Int), .bool u2.r, .bool u2.q, .bool u2.e, .int .i64 u2.f, .int .i64 (u2.l : Int)] 93)) C' E' L' fr') := S9
  clear cB S8 k8 R7 R8 kA S9 R9 hu hz1 hu2 hz2 hsl hn1 hn2
  by_cases e1 : xx = yy
  · have d1 : (xx == yy) = true := beq_iff_eq.2 e1
    by_cases e2 : aa = bb
    · have d2 : (aa == bb) = true := beq_iff_eq.2 e2
      by_cases e3 : z1 = z2
      · have d3 : (z1 == z2) = true := beq_iff_eq.2 e3
        cases sl
        · clear e1 e2 e3
          go_wp2_with fail
          go_ret
          exact ⟨_, rfl, HZ.out _ _ (H9.out.le (by omega)) (by rw [HA.out, d1, d2, d3]; rfl)⟩
        · have cN9 := cN.out _ H9.out
          clear e1 e2 e3 cN
          go_wp2_with fail
          with_reducible refine cN9.mono ?_
          rintro e wA ⟨rfl, SA⟩
          have cMA := cM.out _ SA
          clear cN9 SA cM
          go_wp2_with fail
          with_reducible refine cMA.mono ?_
          rintro e wB ⟨rfl, SB, _⟩
          have HSB : Hid (SWk W w X v bt p pm pool (o + 600 + 4 + 4) M C Z root br bf L fr wB C' E' L' fr') := SB
          clear cMA SB
          go_wp2_with fail
          go_ret
          exact ⟨_, rfl, HZ.out _ _ HSB.out (by rw [HA.out, d1, d2, d3]; rfl)⟩
      · have d3 : (z1 == z2) = false := beq_false_of_ne e3
        clear e1 e2 e3
        go_wp2_with fail
        go_ret
        exact ⟨_, rfl, HZ.out _ _ (H9.out.le (by omega)) (by rw [HA.out, d1, d2, d3]; rfl)⟩
    · have d2 : (aa == bb) = false := beq_false_of_ne e2
      clear e1 e2
      go_wp2_with fail
      go_ret
      exact ⟨_, rfl, HZ.out _ _ (H9.out.le (by omega)) (by rw [HA.out, d1, d2]; rfl)⟩
  · have d1 : (xx == yy) = false := beq_false_of_ne e1
    clear e1
    go_wp2_with fail
    go_ret
    exact ⟨_, rfl, HZ.out _ _ (H9.out.le (by omega)) (by rw [HA.out, d1]; rfl)⟩

end Go.Proofs.YtanlcmdnhhdhaaaGreatDoor
