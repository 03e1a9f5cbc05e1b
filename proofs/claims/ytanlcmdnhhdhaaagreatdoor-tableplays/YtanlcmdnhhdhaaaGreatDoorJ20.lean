/- Joined: R7, R8. -/
import Derived.Test.YtanlcmdnhhdhaaaGreatDoorJ19
/- stage2: tell, Get, Need. -/
namespace Go.Proofs.YtanlcmdnhhdhaaaGreatDoor
open Go.RowKit
set_option maxRecDepth 10000

/-- A leaf: page, frame, permissions, soft, level. -/
structure LV where
  g : Nat
  x : Nat
  r : Bool
  q : Bool
  e : Bool
  f : Int
  l : Nat
def lvV (v : LV) : Value := .agg #[.int .u64 (v.g : Int), .int .i64 (v.x : Int), .bool v.r, .bool v.q, .bool v.e, .int .i64 v.f, .int .i64 (v.l : Int)]
def lvZ : LV := ⟨0, 0, false, false, false, 0, 0⟩
theorem row_seven {w : World} {b : Nat} {t : TypeId} {a0 a1 a2 a3 a4 a5 a6 : Value} (c0 c1 c2 c3 c4 c5 c6 : Value) (h : w.heap[b]? = some (.cells #[a0, a1, a2, a3, a4, a5, a6] t (0, 0))) : (((((((w.setCell ⟨b, 0, none⟩ c0).setCell ⟨b, 1, none⟩ c1).setCell ⟨b, 2, none⟩ c2).setCell ⟨b, 3, none⟩ c3).setCell ⟨b, 4, none⟩ c4).setCell ⟨b, 5, none⟩ c5).setCell ⟨b, 6, none⟩ c6).heap[b]? = some (.cells #[c0, c1, c2, c3, c4, c5, c6] t (0, 0)) := by
  have h0 : (w.setCell ⟨b, 0, none⟩ c0).heap[b]? = some (.cells #[c0, a1, a2, a3, a4, a5, a6] t (0, 0)) := heap_setCell_same _ b 0 _ _ c0 h
  have h1 : ((w.setCell ⟨b, 0, none⟩ c0).setCell ⟨b, 1, none⟩ c1).heap[b]? = some (.cells #[c0, c1, a2, a3, a4, a5, a6] t (0, 0)) := heap_setCell_same _ b 1 _ _ c1 h0
  have h2 : (((w.setCell ⟨b, 0, none⟩ c0).setCell ⟨b, 1, none⟩ c1).setCell ⟨b, 2, none⟩ c2).heap[b]? = some (.cells #[c0, c1, c2, a3, a4, a5, a6] t (0, 0)) := heap_setCell_same _ b 2 _ _ c2 h1
  have h3 : ((((w.setCell ⟨b, 0, none⟩ c0).setCell ⟨b, 1, none⟩ c1).setCell ⟨b, 2, none⟩ c2).setCell ⟨b, 3, none⟩ c3).heap[b]? = some (.cells #[c0, c1, c2, c3, a4, a5, a6] t (0, 0)) := heap_setCell_same _ b 3 _ _ c3 h2
  have h4 : (((((w.setCell ⟨b, 0, none⟩ c0).setCell ⟨b, 1, none⟩ c1).setCell ⟨b, 2, none⟩ c2).setCell ⟨b, 3, none⟩ c3).setCell ⟨b, 4, none⟩ c4).heap[b]? = some (.cells #[c0, c1, c2, c3, c4, a5, a6] t (0, 0)) := heap_setCell_same _ b 4 _ _ c4 h3
  have h5 : ((((((w.setCell ⟨b, 0, none⟩ c0).setCell ⟨b, 1, none⟩ c1).setCell ⟨b, 2, none⟩ c2).setCell ⟨b, 3, none⟩ c3).setCell ⟨b, 4, none⟩ c4).setCell ⟨b, 5, none⟩ c5).heap[b]? = some (.cells #[c0, c1, c2, c3, c4, c5, a6] t (0, 0)) := heap_setCell_same _ b 5 _ _ c5 h4
  have h6 : (((((((w.setCell ⟨b, 0, none⟩ c0).setCell ⟨b, 1, none⟩ c1).setCell ⟨b, 2, none⟩ c2).setCell ⟨b, 3, none⟩ c3).setCell ⟨b, 4, none⟩ c4).setCell ⟨b, 5, none⟩ c5).setCell ⟨b, 6, none⟩ c6).heap[b]? = some (.cells #[c0, c1, c2, c3, c4, c5, c6] t (0, 0)) := heap_setCell_same _ b 6 _ _ c6 h5
  exact h6
/-- The world behind a store of a whole leaf. -/
def putL (w : World) (b : Nat) (v : LV) : World :=
  ((((((w.setCell ⟨b, 0, none⟩ (.int .u64 (v.g : Int))).setCell ⟨b, 1, none⟩ (.int .i64 (v.x : Int))).setCell ⟨b, 2, none⟩ (.bool v.r)).setCell ⟨b, 3, none⟩ (.bool v.q)).setCell ⟨b, 4, none⟩ (.bool v.e)).setCell ⟨b, 5, none⟩ (.int .i64 v.f)).setCell ⟨b, 6, none⟩ (.int .i64 (v.l : Int))
def LB (w : World) (b : Nat) (v : LV) : Prop := w.heap[b]? = some (.cells #[.int .u64 (v.g : Int), .int .i64 (v.x : Int), .bool v.r, .bool v.q, .bool v.e, .int .i64 v.f, .int .i64 (v.l : Int)] 58 (0, 0))
section
variable {w w' : World} {b : Nat} {v : LV}
theorem LB.lt (h : LB w b v) : b < w.heap.size := (Array.getElem?_eq_some_iff.1 h).1
theorem LB.kp (h : LB w b v) (g : Kp w w') : LB w' b v := (g.block b h.lt).trans h
theorem LB.fr {S : Nat → Prop} (h : LB w b v) (g : Fr S w w') (hS : ¬ S b) : LB w' b v := (g.block b h.lt hS).trans h
theorem LB.fz (h : LB w b v) (j : Nat) : w.frozen? ⟨b, j, none⟩ = false := frozen_of_row w b j _ _ h
theorem LB.load (h : LB w b v) : (loadVar 58 ⟨b, 0, none⟩).run Tryz.prog w = .ok (lvV v) w :=
  run_loadVar_row w b _ 58 _ _ _ h Tryz.underlying58 rfl (by kernel_rfl)
theorem LB.c0 (h : LB w b v) : w.cell? ⟨b, 0, none⟩ = some (.int .u64 (v.g : Int)) := by rw [cell_of_row w b 0 _ _ _ h]; rfl
theorem LB.c1 (h : LB w b v) : w.cell? ⟨b, 1, none⟩ = some (.int .i64 (v.x : Int)) := by rw [cell_of_row w b 1 _ _ _ h]; rfl
theorem LB.c2 (h : LB w b v) : w.cell? ⟨b, 2, none⟩ = some (.bool v.r) := by rw [cell_of_row w b 2 _ _ _ h]; rfl
theorem LB.c3 (h : LB w b v) : w.cell? ⟨b, 3, none⟩ = some (.bool v.q) := by rw [cell_of_row w b 3 _ _ _ h]; rfl
theorem LB.c4 (h : LB w b v) : w.cell? ⟨b, 4, none⟩ = some (.bool v.e) := by rw [cell_of_row w b 4 _ _ _ h]; rfl
theorem LB.c5 (h : LB w b v) : w.cell? ⟨b, 5, none⟩ = some (.int .i64 v.f) := by rw [cell_of_row w b 5 _ _ _ h]; rfl
theorem LB.c6 (h : LB w b v) : w.cell? ⟨b, 6, none⟩ = some (.int .i64 (v.l : Int)) := by rw [cell_of_row w b 6 _ _ _ h]; rfl
theorem LB.put (h : LB w b v) (u : LV) : LB (putL w b u) b u := row_seven _ _ _ _ _ _ _ h
theorem LB.made (w : World) (v : LV) : LB (w.alloc (.cells #[.int .u64 (v.g : Int), .int .i64 (v.x : Int), .bool v.r, .bool v.q, .bool v.e, .int .i64 v.f, .int .i64 (v.l : Int)] 58)) w.heap.size v := heap_alloc_new w _
theorem Fr.putL {S : Nat → Prop} (h : Fr S w w') (hb : S b) (v : LV) : Fr S w (putL w' b v) :=
  ((((((h.set _ _ hb).set _ _ hb).set _ _ hb).set _ _ hb).set _ _ hb).set _ _ hb).set _ _ hb
theorem res_l {fn : Func} {c : Tmp} {tmps : Array Value} (hf : fn.results = #[.cell c 58]) (hc : tmps.getD c undef = .pointer (some ⟨b, 0, none⟩)) (B : LB w b v) :
    (results fn tmps).run Tryz.prog w = .ok (lvV v) w := by
  have hc' : tmps[c]?.getD undef = .pointer (some ⟨b, 0, none⟩) := by simpa using hc
  simp [results, hf, hc', asAddr, B.load]
theorem res_l2 {fn : Func} {c t : Tmp} {tmps : Array Value} (hf : fn.results = #[.cell c 58, .tmp t]) (hc : tmps.getD c undef = .pointer (some ⟨b, 0, none⟩)) (B : LB w b v) :
    (results fn tmps).run Tryz.prog w = .ok (.tuple #[lvV v, tmps.getD t undef]) w := by
  have hc' : tmps[c]?.getD undef = .pointer (some ⟨b, 0, none⟩) := by simpa using hc
  simp [results, hf, hc', asAddr, B.load]
end
/-- What a leaf says of a page. -/
def tellN (page l : Nat) (d : DV) : LV := ⟨page, d.a / 4096 + (if l = 2 then page % 512 else 0), d.r, d.q, d.x, d.f, l⟩
theorem out_leaf {page l : Nat} {d : DV} (ok : okD l d) (hk : (d.k = 2 ∧ l = 2) ∨ (d.k = 3 ∧ l = 3)) : outN (page * 4096) (l : Int) d.k d.a / 4096 = d.a / 4096 + (if l = 2 then page % 512 else 0) ∧ outN (page * 4096) (l : Int) d.k d.a < 18446744073709551616 := by
  have h := ok.parts
  have h1 := h.2.2.2.2.2.1
  have h2 := h.2.2.2.2.2.2.1
  unfold outN inN
  rcases hk with ⟨c1, rfl⟩ | ⟨c1, rfl⟩
  · rw [if_pos (.inl c1), show spn ((2 : Nat) : Int) = 2097152 from rfl, if_neg (by decide), if_pos rfl]
    omega
  · rw [if_pos (.inr c1), show spn ((3 : Nat) : Int) = 4096 from rfl, if_neg (by decide), if_neg (by decide)]
    omega
set_option maxHeartbeats 4000000 in
theorem tell_any (page : Nat) (s : SV) (w : World) (ok : okD s.l s.d) (hp : page < 268435456) (hk : (s.d.k = 2 ∧ s.l = 2) ∨ (s.d.k = 3 ∧ s.l = 3)) :
    Calls Tryz.prog 55 #[.int .u64 (page : Int), svV s] w fun e w' => e = .returned (lvV (tellN page s.l s.d)) ∧ Kp w w' := by
  obtain ⟨e1, e2⟩ := out_leaf (page := page) ok hk
  have K1 : Aside (∀ v, Calls Tryz.prog 19 #[.int .u64 ((page * 4096 : Nat) : Int), .agg #[.int .i64 (s.l : Int), .int .u64 (s.p : Int), .int .u64 (s.u : Int), .int .i64 s.d.k, .int .u64 (s.d.a : Int), .bool s.d.r, .bool s.d.q, .bool s.d.x, .int .i64 s.d.f]] v fun e w' => e = .returned (.int .u64 (outN (page * 4096) (s.l : Int) s.d.k s.d.a : Int)) ∧ Kp v w') := fun v => out_any (page * 4096) s.d.a (s.l : Int) (s.p : Int) (s.u : Int) s.d.k s.d.r s.d.q s.d.x s.d.f v
  have K2 : Aside (∀ v, Calls Tryz.prog 65 #[.int .u64 (outN (page * 4096) (s.l : Int) s.d.k s.d.a : Int)] v fun e w' => e = .returned (.int .i64 ((outN (page * 4096) (s.l : Int) s.d.k s.d.a / 4096 : Nat) : Int)) ∧ w' = v) := fun v => frameOf_any _ v e2
  unfold tellN
  rw [← e1]
  obtain ⟨u, hu⟩ : ∃ u, u = page * 4096 := ⟨_, rfl⟩
  have z1 : IntKind.u64.wrap ((page : Int) * 4096) = (u : Int) := by simp [IntKind.wrap, IntKind.bits, IntKind.signed]; omega
  rw [← hu] at K1 K2 ⊢
  clear e1 e2 hk hp ok hu
  generalize outN u (s.l : Int) s.d.k s.d.a = a2 at *
  generalize a2 / 4096 = y at *
  obtain ⟨l, pp, u', k, a, r, q, e, f⟩ := s
  unfold svV
  simp only at *
  go_enter Tryz.func55, Tryz.ntmps55
  go_wp2_with fail
  with_reducible refine (K1.out _).mono ?_
  rintro _ w1 ⟨rfl, k1⟩
  have S1 : SBk w1 w.heap.size ⟨l, pp, u', k, a, r, q, e, f⟩ := ((SBk.made w ⟨l, pp, u', k, a, r, q, e, f⟩).kp ((Kp.refl _).alloc _)).kp k1
  have L1 : LB w1 (w.heap.size + 1) lvZ := LB.kp (by have := LB.made (w.alloc (.cells #[.int .i64 (l : Int), .int .u64 (pp : Int), .int .u64 (u' : Int), .int .i64 k, .int .u64 (a : Int), .bool r, .bool q, .bool e, .int .i64 f] 64)) lvZ; simpa [lvZ] using this) k1
  have HK : Hid (Kp w w1 ∧ LB w1 (w.heap.size + 1) lvZ) := ⟨(((Kp.refl w).alloc _).alloc _).trans k1, L1⟩
  have c0 := S1.c 0 rfl
  have c5 := S1.c 5 rfl
  have c6 := S1.c 6 rfl
  have c7 := S1.c 7 rfl
  have c8 := S1.c 8 rfl
  have f0 := L1.fz 0
  have f1 := L1.fz 1
  have f2 := L1.fz 2
  have f3 := L1.fz 3
  have f4 := L1.fz 4
  have f5 := L1.fz 5
  have f6 := L1.fz 6
  have t0 := L1.c0
  have t1 := L1.c1
  have t2 := L1.c2
  have t3 := L1.c3
  have t4 := L1.c4
  have t5 := L1.c5
  have t6 := L1.c6
  clear K1 k1 S1 L1
  go_wp2_with (go_at_call 65; with_reducible refine (K2.out _).mono ?_; rintro _ w' ⟨rfl, rfl⟩)
  obtain ⟨g1, g2⟩ := HK.out
  exact bodyPost_ret (res_l (b := w.heap.size + 1) (v := ⟨page, y, r, q, e, f, l⟩) rfl rfl (g2.put ⟨page, y, r, q, e, f, l⟩)) rfl ⟨rfl, Fr.kp (Fr.putL (S := (· = w.heap.size + 1)) (Fr.refl _ w') rfl ⟨page, y, r, q, e, f, l⟩) g1 (fun i c => by omega)⟩
end Go.Proofs.YtanlcmdnhhdhaaaGreatDoor

/- stage2: Get, Need; pages that cannot be, and tables that are gone. -/
namespace Go.Proofs.YtanlcmdnhhdhaaaGreatDoor
open Go.RowKit
set_option maxRecDepth 10000

/-- Behind Free. -/
def TXn (w : World) (b : Nat) : Prop := w.heap[b]? = some (.cells #[.pointer none, .int .u64 0] 86 (0, 0))
section
variable {w w' : World} {b : Nat}
theorem TXn.lt (h : TXn w b) : b < w.heap.size := (Array.getElem?_eq_some_iff.1 h).1
theorem TXn.fr {S : Nat → Prop} (h : TXn w b) (k : Fr S w w') (hS : ¬ S b) : TXn w' b := (k.block b h.lt hS).trans h
theorem TXn.kp (h : TXn w b) (k : Kp w w') : TXn w' b := (k.block b h.lt).trans h
theorem TXn.c0 (h : TXn w b) : w.cell? ⟨b, 0, none⟩ = some (.pointer none) := by rw [cell_of_row w b 0 _ _ _ h]; rfl
theorem TXn.c1 (h : TXn w b) : w.cell? ⟨b, 1, none⟩ = some (.int .u64 0) := by rw [cell_of_row w b 1 _ _ _ h]; rfl
end
theorem eql_frames (p : Nat) (w : World) : (binOp .eql 24 (.pointer (some ⟨p, 0, none⟩)) (.pointer none)).run Tryz.prog w = .ok (.bool false) w := by kernel_rfl
/-- No way. -/
def NW (w : World) (b : Nat) (page : Nat) : Prop := TXn w b ∨ (∃ p root, TX w b p root) ∧ 268435456 ≤ page
theorem NW.kp {w w' : World} {b page : Nat} (h : NW w b page) (k : Kp w w') : NW w' b page := by
  rcases h with h | ⟨⟨p, root, h⟩, h2⟩
  · exact .inl (h.kp k)
  · exact .inr ⟨⟨p, root, h.kp k⟩, h2⟩
set_option maxHeartbeats 4000000 in
theorem way_no {w : World} {b page : Nat} (h : NW w b page) : Calls Tryz.prog 54 #[.pointer (some ⟨b, 0, none⟩), .int .u64 (page : Int)] w fun e w' => e = .returned (.tuple #[.slice none 0 0, .bool false]) ∧ w' = w := by
  rcases h with h | ⟨⟨p, root, h⟩, h2⟩
  · have c0 := h.c0
    clear h
    go_enter Tryz.func54, Tryz.ntmps54
    go_wp2
    go_ret2
    exact ⟨rfl, rfl⟩
  · have c0 := h.c0
    have g1 : decide ((268435456 : Int) ≤ (page : Int)) = true := decide_eq_true (by omega)
    have g2 : decide (268435456 ≤ page) = true := decide_eq_true (by omega)
    clear h h2
    go_enter Tryz.func54, Tryz.ntmps54
    go_wp2
    go_ret2
    exact ⟨rfl, rfl⟩
set_option maxHeartbeats 4000000 in
theorem need_no {w : World} {b page : Nat} (h : NW w b page) : Calls Tryz.prog 42 #[.pointer (some ⟨b, 0, none⟩), .int .u64 (page : Int)] w fun e w' => e = .returned (.int .i64 0) ∧ w' = w := by
  have k1 := way_no h
  clear h
  go_enter Tryz.func42, Tryz.ntmps42
  go_wp2_with (go_at_call 54; with_reducible refine k1.mono ?_; rintro e w' ⟨rfl, rfl⟩)
  go_ret
  exact ⟨rfl, rfl⟩
set_option maxHeartbeats 4000000 in
theorem get_no {w : World} {b page : Nat} (h : NW w b page) : Calls Tryz.prog 18 #[.pointer (some ⟨b, 0, none⟩), .int .u64 (page : Int)] w fun e w' => e = .returned (.tuple #[lvV lvZ, .bool false]) ∧ Kp w w' := by
  have k1 := way_no (h.kp ((Kp.refl w).alloc (.cells #[.int .u64 0, .int .i64 0, .bool false, .bool false, .bool false, .int .i64 0, .int .i64 0] 58)))
  clear h
  go_enter Tryz.func18, Tryz.ntmps18
  go_wp2_with (go_at_call 54; with_reducible refine k1.mono ?_; rintro e w' ⟨rfl, rfl⟩)
  exact bodyPost_ret (res_l2 (v := lvZ) rfl rfl (heap_alloc_new w _)) rfl ⟨rfl, (Kp.refl _).alloc _⟩

section
variable {W w w' : World} {X Y : Nat → Prop} {bt p pm N pool o : Nat} {M : Nat → Nat → Nat} {C : Nat → Nat} {Z : Nat → Bool} {root : Nat} {E : Nat → Nat → DV}
/-- How many tables lack. -/
def needN (E : Nat → Nat → DV) (page : Nat) : Nat := if (enG E page).k ≠ 0 then 0 else 3 - lvG E page
theorem TG.leafK (h : TG M C pool Z root E) {page : Nat} (hk : (enG E page).k ≠ 0) : ((enG E page).k = 2 ∧ lvG E page = 2) ∨ ((enG E page).k = 3 ∧ lvG E page = 3) := by
  have h1 := h.last page
  have h2 := (h.ok (lvG E page) (qn page (lvG E page)) (lvG_le _ _)).parts
  have h3 := h.blk (lvG E page) (qn page (lvG E page)) (lvG_le _ _)
  unfold enG at *
  rcases (by omega : (E (lvG E page) (qn page (lvG E page))).k = 2 ∨ (E (lvG E page) (qn page (lvG E page))).k = 3) with c | c
  · exact .inl ⟨c, h3 c⟩
  · exact .inr ⟨c, h2.2.2.2.2.2.2.2.2.2.1 c⟩
set_option maxHeartbeats 4000000 in
theorem need_any (h : TS W X w bt p pm N pool o M C Z root E) (page : Nat) (hp : page < 268435456) (ho : o < 4000000000000000000) :
    Calls Tryz.prog 42 #[.pointer (some ⟨bt, 0, none⟩), .int .u64 (page : Int)] w fun e w' => e = .returned (.int .i64 (needN E page : Nat)) ∧ TS W X w' bt p pm N pool (o + 4) M C Z root E ∧ Fr (Out W X) w w' := by
  have k1 := way_any h page hp ho
  have xb := h.xb
  have hl := lvG_le E page
  have hs := stps_get (root := root) (E := E) (p := page) (Nat.le_refl _)
  unfold needN
  have z1 : (lvG E page : Int) ≤ 3 := by omega
  have HS : Hid ((stps root E page)[lvG E page]? = some (stp root E page (lvG E page)) ∧ lvG E page ≤ 3 ∧ X bt) := ⟨hs, hl, xb⟩
  clear h ho hp hs hl xb
  by_cases ck : (enG E page).k ≠ 0
  · rw [if_pos ck]
    rw [decide_eq_true ck] at k1
    have K1 : Aside (Calls Tryz.prog 54 #[.pointer (some ⟨bt, 0, none⟩), .int .u64 (page : Int)] w fun e w' => e = .returned (.tuple #[.slice (some ⟨w.heap.size, 0, none⟩) (lvG E page + 1) 4, .bool true]) ∧ WL w' w.heap.size (stps root E page) ∧ TS W (fun i => X i ∨ i = w.heap.size) w' bt p pm N pool (o + 4) M C Z root E ∧ Fr (Out W X) w w') := k1
    clear k1 ck
    generalize lvG E page = l at *
    go_enter Tryz.func42, Tryz.ntmps42
    go_wp2_with fail
    with_reducible refine K1.out.mono ?_
    rintro e w1 ⟨rfl, _, t1, r1⟩
    have H1 : Hid (TS W X w1 bt p pm N pool (o + 4) M C Z root E ∧ Fr (Out W X) w w1) := ⟨t1.less (fun _ => .inl) HS.out.2.2, r1⟩
    clear t1 r1 K1
    go_wp2
    go_ret
    exact ⟨rfl, H1.out⟩
  · rw [if_neg ck]
    rw [decide_eq_false ck] at k1
    have K1 : Aside (Calls Tryz.prog 54 #[.pointer (some ⟨bt, 0, none⟩), .int .u64 (page : Int)] w fun e w' => e = .returned (.tuple #[.slice (some ⟨w.heap.size, 0, none⟩) (lvG E page + 1) 4, .bool false]) ∧ WL w' w.heap.size (stps root E page) ∧ TS W (fun i => X i ∨ i = w.heap.size) w' bt p pm N pool (o + 4) M C Z root E ∧ Fr (Out W X) w w') := k1
    have e3 : ((3 - lvG E page : Nat) : Int) = 3 - (lvG E page : Int) := by omega
    rw [e3]
    have hf : ∀ w' : World, (Instr.field 64 (svV (stp root E page (lvG E page))) 0).run Tryz.prog w' = .ok (.int .i64 (lvG E page : Int)) w' := fun w' => by unfold svV; kernel_rfl
    have z3 : ((lvG E page : Int) + 1 == 0) = false := by rw [beq_eq_false_iff_ne]; omega
    clear k1 ck e3
    generalize stps root E page = L at *
    generalize stp root E page (lvG E page) = st at *
    generalize lvG E page = l at *
    go_enter Tryz.func42, Tryz.ntmps42
    go_wp2_with fail
    with_reducible refine K1.out.mono ?_
    rintro e w1 ⟨rfl, L1, t1, r1⟩
    have k2 := last_any L1 HS.out.2.1 HS.out.1
    have H1 : Hid (TS W X w1 bt p pm N pool (o + 4) M C Z root E ∧ Fr (Out W X) w w1) := ⟨t1.less (fun _ => .inl) HS.out.2.2, r1⟩
    clear t1 r1 K1 L1
    go_wp2_with fail
    with_reducible refine k2.mono ?_
    rintro e w2 ⟨rfl, k3⟩
    have H2 : Hid (TS W X w2 bt p pm N pool (o + 4) M C Z root E ∧ Fr (Out W X) w w2) := ⟨H1.out.1.kps k3, H1.out.2.trans (k3.fr _)⟩
    clear k3 k2 H1
    go_wp2
    go_ret
    exact ⟨rfl, H2.out⟩
/-- What Get tells. -/
def getN (E : Nat → Nat → DV) (page : Nat) : LV := if (enG E page).k ≠ 0 then tellN page (lvG E page) (enG E page) else lvZ
set_option maxHeartbeats 4000000 in
theorem get_any (h : TS W X w bt p pm N pool o M C Z root E) (page : Nat) (hp : page < 268435456) (ho : o < 4000000000000000000) :
    Calls Tryz.prog 18 #[.pointer (some ⟨bt, 0, none⟩), .int .u64 (page : Int)] w fun e w' => e = .returned (.tuple #[lvV (getN E page), .bool (decide ((enG E page).k ≠ 0))]) ∧ TS W X w' bt p pm N pool (o + 4) M C Z root E ∧ Fr (Out W X) w w' := by
  have ka : Kp w (w.alloc (.cells #[.int .u64 0, .int .i64 0, .bool false, .bool false, .bool false, .int .i64 0, .int .i64 0] 58)) := (Kp.refl w).alloc _
  have k1 := way_any (h.more ka w.heap.size (Nat.le_refl _) (by simp)) page hp ho
  rw [show (w.alloc (.cells #[.int .u64 0, .int .i64 0, .bool false, .bool false, .bool false, .int .i64 0, .int .i64 0] 58)).heap.size = w.heap.size + 1 by simp] at k1
  have L0 : LB (w.alloc (.cells #[.int .u64 0, .int .i64 0, .bool false, .bool false, .bool false, .int .i64 0, .int .i64 0] 58)) w.heap.size lvZ := heap_alloc_new w _
  have xb := h.xb
  have hz := h.fw.kp.size
  have nx : ¬ X w.heap.size := fun c => by have := h.fw.xlt _ c; omega
  have hl := lvG_le E page
  have hs := stps_get (root := root) (E := E) (p := page) (Nat.le_refl _)
  have K3 : Aside ((enG E page).k ≠ 0 → ∀ v, Calls Tryz.prog 55 #[.int .u64 (page : Int), svV (stp root E page (lvG E page))] v fun e w' => e = .returned (lvV (tellN page (lvG E page) (enG E page))) ∧ Kp v w') := fun ck v => tell_any page (stp root E page (lvG E page)) v (h.tg.ok _ _ hl) hp (h.tg.leafK ck)
  unfold getN
  have HS : Hid ((stps root E page)[lvG E page]? = some (stp root E page (lvG E page)) ∧ lvG E page ≤ 3 ∧ X bt ∧ W.heap.size ≤ w.heap.size ∧ ¬ X w.heap.size ∧ Kp w (w.alloc (.cells #[.int .u64 0, .int .i64 0, .bool false, .bool false, .bool false, .int .i64 0, .int .i64 0] 58)) ∧ LB (w.alloc (.cells #[.int .u64 0, .int .i64 0, .bool false, .bool false, .bool false, .int .i64 0, .int .i64 0] 58)) w.heap.size lvZ) := ⟨hs, hl, xb, hz, nx, ka, L0⟩
  clear h ho hp hs hl xb hz nx ka L0
  have K1 : Aside (Calls Tryz.prog 54 #[.pointer (some ⟨bt, 0, none⟩), .int .u64 (page : Int)] (w.alloc (.cells #[.int .u64 0, .int .i64 0, .bool false, .bool false, .bool false, .int .i64 0, .int .i64 0] 58)) fun e w' => e = .returned (.tuple #[.slice (some ⟨w.heap.size + 1, 0, none⟩) (lvG E page + 1) 4, .bool (decide ((enG E page).k ≠ 0))]) ∧ WL w' (w.heap.size + 1) (stps root E page) ∧ Hid (TS W (fun i => X i ∨ i = w.heap.size) w' bt p pm N pool (o + 4) M C Z root E ∧ Fr (Out W X) w w') ∧ LB w' w.heap.size lvZ) := k1.mono fun e w' ⟨e1, e2, e3, e4⟩ => ⟨e1, e2, ⟨e3.less (fun _ => .inl) (.inl HS.out.2.2.1), (HS.out.2.2.2.2.2.1.fr _).trans (e4.less fun _ => .inl)⟩, HS.out.2.2.2.2.2.2.fr e4 (fun c => c.2 (.inr rfl))⟩
  clear k1
  by_cases ck : (enG E page).k ≠ 0
  · rw [if_pos ck]
    rw [decide_eq_true ck] at K1 ⊢
    have k3 := K3.out ck
    clear K3 ck
    generalize stps root E page = L at *
    generalize stp root E page (lvG E page) = st at *
    generalize tellN page (lvG E page) (enG E page) = tv at *
    generalize lvG E page = l at *
    go_enter Tryz.func18, Tryz.ntmps18
    go_wp2_with fail
    with_reducible refine K1.out.mono ?_
    rintro e w1 ⟨rfl, L1, H1, B1⟩
    have k2 := last_any L1 HS.out.2.1 HS.out.1
    clear K1 L1
    go_wp2_with fail
    with_reducible refine k2.mono ?_
    rintro e w2 ⟨rfl, kk⟩
    have H2 : Hid (TS W (fun i => X i ∨ i = w.heap.size) w2 bt p pm N pool (o + 4) M C Z root E ∧ Fr (Out W X) w w2) := ⟨H1.out.1.kps kk, H1.out.2.trans (kk.fr _)⟩
    have B2 := B1.kp kk
    clear kk k2 H1 B1
    go_wp2_with fail
    with_reducible refine (k3 _).mono ?_
    rintro e w3 ⟨rfl, kk⟩
    have H3 : Hid (TS W (fun i => X i ∨ i = w.heap.size) w3 bt p pm N pool (o + 4) M C Z root E ∧ Fr (Out W X) w w3) := ⟨H2.out.1.kps kk, H2.out.2.trans (kk.fr _)⟩
    have B3 := B2.kp kk
    have HB : Hid (LB w3 w.heap.size lvZ) := B3
    have f0 := B3.fz 0
    have f1 := B3.fz 1
    have f2 := B3.fz 2
    have f3 := B3.fz 3
    have f4 := B3.fz 4
    have f5 := B3.fz 5
    have f6 := B3.fz 6
    have t0 := B3.c0
    have t1 := B3.c1
    have t2 := B3.c2
    have t3 := B3.c3
    have t4 := B3.c4
    have t5 := B3.c5
    have t6 := B3.c6
    clear kk k3 H2 B2 B3
    obtain ⟨tg, tx, tr, tq, te, tf, tl⟩ := tv
    unfold lvV
    go_wp2
    obtain ⟨g1, g2⟩ := H3.out
    obtain ⟨_, _, xb, hz, nx, _⟩ := HS.out
    refine bodyPost_ret (res_l2 (b := w.heap.size) (v := ⟨tg, tx, tr, tq, te, tf, tl⟩) rfl rfl (HB.out.put ⟨tg, tx, tr, tq, te, tf, tl⟩)) rfl ⟨rfl, ?_, g2.putL (b := w.heap.size) ⟨hz, nx⟩ ⟨tg, tx, tr, tq, te, tf, tl⟩⟩
    have k := Fr.putL (S := (· = w.heap.size)) (Fr.refl _ w3) rfl ⟨tg, tx, tr, tq, te, tf, tl⟩
    exact TS.less (g1.frX k (fun j c => ⟨by omega, .inr c⟩) (fun c => nx (c ▸ xb))) (fun _ => .inl) xb
  · rw [if_neg ck]
    rw [decide_eq_false ck] at K1 ⊢
    clear K3 ck
    generalize stps root E page = L at *
    generalize lvG E page = l at *
    go_enter Tryz.func18, Tryz.ntmps18
    go_wp2_with fail
    with_reducible refine K1.out.mono ?_
    rintro e w1 ⟨rfl, _, H1, B1⟩
    have HB : Hid (LB w1 w.heap.size lvZ) := B1
    have f0 := B1.fz 0
    have f1 := B1.fz 1
    have f2 := B1.fz 2
    have f3 := B1.fz 3
    have f4 := B1.fz 4
    have f5 := B1.fz 5
    have f6 := B1.fz 6
    have t0 := B1.c0
    have t1 := B1.c1
    have t2 := B1.c2
    have t3 := B1.c3
    have t4 := B1.c4
    have t5 := B1.c5
    have t6 := B1.c6
    clear K1 B1
    go_wp2
    obtain ⟨g1, g2⟩ := H1.out
    obtain ⟨_, _, xb, hz, nx, _⟩ := HS.out
    refine bodyPost_ret (res_l2 (b := w.heap.size) (v := lvZ) rfl rfl (HB.out.put lvZ)) rfl ⟨rfl, ?_, g2.putL (b := w.heap.size) ⟨hz, nx⟩ lvZ⟩
    have k := Fr.putL (S := (· = w.heap.size)) (Fr.refl _ w1) rfl lvZ
    exact TS.less (g1.frX k (fun j c => ⟨by omega, .inr c⟩) (fun c => nx (c ▸ xb))) (fun _ => .inl) xb
end
end Go.Proofs.YtanlcmdnhhdhaaaGreatDoor
