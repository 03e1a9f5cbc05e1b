/- The document's frames: New, Table, Page, Block, Ref, Drop, over what is counted alone. -/
import Derived.Test.YtjnkmmfppkpgbaaDoorW81
namespace Go.Proofs.YtjnkmmfppkpgbaaDoor
open Go.RowKit Go.Maps
set_option maxRecDepth 10000

def DD (w : World) (S : Nat → Prop) (f qm N pool ops : Nat) (B : Nat → Nat → Nat) (C : Nat → Nat) : Prop :=
  (∃ T bt ot bp op bn, DA w S T f qm bt ot bp op bn N pool ops B (fT pool C) (fP pool N C) C) ∧ (∀ k, C k ≤ 1073741824) ∧ ∀ k, C k ≠ 0 → k < N
/-- Behind a change. -/
def DN (S : Nat → Prop) (w w' : World) (f qm N pool ops : Nat) (B : Nat → Nat → Nat) (C : Nat → Nat) : Prop := ∃ S', DD w' S' f qm N pool ops B C ∧ Fr S w w' ∧ Less S S' w
section
variable {w w' : World} {S T S0 : Nat → Prop} {w0 : World} {f qm bt ot bp op bn N pool ops : Nat} {B : Nat → Nat → Nat} {Ft Fp : Nat → Bool} {C : Nat → Nat}
theorem DD.fr (h : DD w S f qm N pool ops B C) {X : Nat → Prop} (k : Fr X w w') (hX : ∀ i, S i → ¬ X i) : DD w' S f qm N pool ops B C := by
  obtain ⟨⟨T, bt, ot, bp, op, bn, h⟩, b⟩ := h
  exact ⟨⟨T, bt, ot, bp, op, bn, h.fr k hX⟩, b⟩
theorem DD.own (h : DD w S f qm N pool ops B C) : ∀ k, S k → k < w.heap.size := by
  obtain ⟨⟨T, bt, ot, bp, op, bn, h⟩, b⟩ := h
  exact h.own
theorem DG.dn (h : DG S w w' f qm bt ot bp op bn N pool ops B (fT pool C) (fP pool N C) C) (b : ∀ k, C k ≤ 1073741824) (d : ∀ k, C k ≠ 0 → k < N) : DN S w w' f qm N pool ops B C := by
  obtain ⟨S', T', h1, h2, h3⟩ := h
  exact ⟨S', ⟨⟨T', bt, ot, bp, op, bn, h1⟩, b, d⟩, h2, h3⟩
theorem DA.dg (h : DA w S T f qm bt ot bp op bn N pool ops B Ft Fp C) : DG S w w f qm bt ot bp op bn N pool ops B Ft Fp C := ⟨S, T, h, Fr.refl _ _, Less.refl _ _⟩
theorem onR_dom {C : Nat → Nat} {N x s : Nat} (d : ∀ k, C k ≠ 0 → k < N) (hx : x + s ≤ N) : ∀ k, onR C x s k ≠ 0 → k < N := fun k hk => by
  unfold onR at hk
  by_cases c : x ≤ k ∧ k < x + s
  · omega
  · rw [if_neg c] at hk; exact d k hk
theorem putC_dom {C : Nat → Nat} {N x v : Nat} (d : ∀ k, C k ≠ 0 → k < N) (hx : x < N) : ∀ k, putC C x v k ≠ 0 → k < N := fun k hk => by
  unfold putC at hk
  by_cases c : k = x
  · omega
  · rw [if_neg c] at hk; exact d k hk

theorem DG.cells (h : DG S0 w0 w f qm bt ot bp op bn N pool ops B Ft Fp C) : w.cell? ⟨f, 0, none⟩ = some (.pointer (some ⟨qm, 0, none⟩)) ∧ w.cell? ⟨f, 1, none⟩ = some (.pointer (some ⟨bt, 0, none⟩)) ∧ w.cell? ⟨f, 2, none⟩ = some (.pointer (some ⟨bp, 0, none⟩)) ∧ w.cell? ⟨f, 3, none⟩ = some (.slice (some ⟨bn, 0, none⟩) N N) ∧ w.cell? ⟨bt, 1, none⟩ = some (.slice (some ⟨ot, 0, none⟩) pool pool) ∧ ∀ x, x < N → w.cell? ⟨bn, x, none⟩ = some (.int .i64 (C x : Nat)) := by
  obtain ⟨S, T, h1, h2, h3⟩ := h
  exact ⟨h1.c0, h1.c1, h1.c2, h1.c3, h1.tb.c1, h1.cs.cell⟩
/-! ### Table, Page, Block -/
theorem dtables_low (h : DA w S T f qm bt ot bp op bn N pool ops B (fT pool C) (fP pool N C) C) (b : ∀ k, C k ≤ 1073741824) (d : ∀ k, C k ≠ 0 → k < N) (r : Option Nat) (hr : TkR (fT pool C) 0 r) :
    Calls Tryd.prog 35 #[.pointer (some ⟨f, 0, none⟩), .pointer (some ⟨bt, 0, none⟩), .int .i64 0, .int .i64 11] w fun e w' => e = .returned (.tuple #[.int .i64 (gotX r : Nat), .int .i64 (gotE r 11)]) ∧ DN S w w' f qm N pool ops (gotB B r 1) (gotC C r 1) := by
  match r, hr with
  | none, hr => exact (dtake_no S w bt 0 11 ((rtake_no h.tb 0 (by omega) hr).mono fun e w' ⟨e1, e2, e3⟩ => ⟨e1, S, T, h.setU e2 e3, h.frU e3, Less.refl _ _⟩)).mono fun e w' ⟨e1, e2⟩ => ⟨e1, e2.dn b d⟩
  | some x, hr =>
    obtain ⟨b1, b2⟩ := hr.blk
    have b3 := ((fT_iff ..).1 (b2 x (Nat.le_refl _) (by omega))).1
    have hp2 := h.p2
    obtain ⟨o', i, t, rfl⟩ := hr
    have cT := (rtake_ok h.tb 0 o' i t).mono fun e w' (q : _ ∧ _ ∧ _) => (⟨q.1, S, T, h.setU q.2.1 q.2.2, h.frU q.2.2, Less.refl _ _⟩ : e = .returned (.tuple #[.int .i64 ((i * 2 ^ o' : Nat) : Int), .int .i64 0]) ∧ DG S w w' f qm bt ot bp op bn N pool ops B (subF (fT pool C) 0 (i * 2 ^ o' / 2 ^ 0)) (fP pool N C) C)
    refine (dtake_walk S w bt 0 (i * 2 ^ o') 1 11 (by omega) two0 (by omega) (by omega) h.n2 cT).mono fun e w' ⟨e1, e2⟩ => ⟨e1, DG.dn (bt := bt) (ot := ot) (bp := bp) (op := op) (bn := bn) ?_ (onR_le b _ _) (onR_dom d (by omega))⟩
    show DG S w w' f qm bt ot bp op bn N pool ops (zerR B (i * 2 ^ o') 1) (fT pool (onR C (i * 2 ^ o') 1)) (fP pool N (onR C (i * 2 ^ o') 1)) _
    rw [fP_out (by omega), show fT pool (onR C (i * 2 ^ o') 1) = _ from fT_on (o := 0) b1]
    exact e2
theorem dpages_low (h : DA w S T f qm bt ot bp op bn N pool ops B (fT pool C) (fP pool N C) C) (b : ∀ k, C k ≤ 1073741824) (d : ∀ k, C k ≠ 0 → k < N) (o s : Nat) (ho : o ≤ 9) (hs : 2 ^ o = s) (hi : (2 : Int) ^ o = (s : Int)) (h5 : s ≤ 512) (r : Option Nat) (hr : TkR (fP pool N C) o r) :
    Calls Tryd.prog 35 #[.pointer (some ⟨f, 0, none⟩), .pointer (some ⟨bp, 0, none⟩), .int .i64 (o : Int), .int .i64 10] w fun e w' => e = .returned (.tuple #[.int .i64 (gotX r : Nat), .int .i64 (gotE r 10)]) ∧ DN S w w' f qm N pool ops (gotB B r s) (gotC C r s) := by
  subst hs
  match r, hr with
  | none, hr => exact (dtake_no S w bp o 10 ((rtake_no h.pg o ho hr).mono fun e w' ⟨e1, e2, e3⟩ => ⟨e1, S, T, h.setV e2 e3, h.frV e3, Less.refl _ _⟩)).mono fun e w' ⟨e1, e2⟩ => ⟨e1, e2.dn b d⟩
  | some x, hr =>
    obtain ⟨b1, b2⟩ := hr.blk
    have hp := Nat.two_pow_pos o
    have b3 := ((fP_iff ..).1 (b2 x (Nat.le_refl _) (by omega)))
    have b4 := ((fP_iff ..).1 (b2 (x + (2 ^ o - 1)) (by omega) (by omega)))
    obtain ⟨o', i, t, rfl⟩ := hr
    have cT := (rtake_ok h.pg o o' i t).mono fun e w' (q : _ ∧ _ ∧ _) => (⟨q.1, S, T, h.setV q.2.1 q.2.2, h.frV q.2.2, Less.refl _ _⟩ : e = .returned (.tuple #[.int .i64 ((i * 2 ^ o' : Nat) : Int), .int .i64 0]) ∧ DG S w w' f qm bt ot bp op bn N pool ops B (fT pool C) (subF (fP pool N C) o (i * 2 ^ o' / 2 ^ o)) C)
    refine (dtake_walk S w bp o (i * 2 ^ o') (2 ^ o) 10 ho hi (by omega) (by omega) h.n2 cT).mono fun e w' ⟨e1, e2⟩ => ⟨e1, DG.dn (bt := bt) (ot := ot) (bp := bp) (op := op) (bn := bn) ?_ (onR_le b _ _) (onR_dom d (by omega))⟩
    show DG S w w' f qm bt ot bp op bn N pool ops (zerR B (i * 2 ^ o') (2 ^ o)) (fT pool (onR C (i * 2 ^ o') (2 ^ o))) (fP pool N (onR C (i * 2 ^ o') (2 ^ o))) _
    rw [fT_out b3.1, fP_on b1]
    exact e2
set_option maxHeartbeats 1000000 in
theorem dtable_any (h : DD w S f qm N pool ops B C) (r : Option Nat) (hr : TkR (fT pool C) 0 r) :
    Calls Tryd.prog 13 #[.pointer (some ⟨f, 0, none⟩)] w fun e w' => e = .returned (.tuple #[.int .i64 (gotX r : Nat), .int .i64 (gotE r 11)]) ∧ DN S w w' f qm N pool ops (gotB B r 1) (gotC C r 1) := by
  obtain ⟨⟨T, bt, ot, bp, op, bn, h⟩, b, d⟩ := h
  have c1 := h.c1
  have kT : Aside (Calls Tryd.prog 35 #[.pointer (some ⟨f, 0, none⟩), .pointer (some ⟨bt, 0, none⟩), .int .i64 0, .int .i64 11] w fun e w' => e = .returned (.tuple #[.int .i64 (gotX r : Nat), .int .i64 (gotE r 11)]) ∧ DN S w w' f qm N pool ops (gotB B r 1) (gotC C r 1)) := dtables_low h b d r hr
  clear h
  go_enter Tryd.func13, Tryd.ntmps13
  go_wp2_with fail
  with_reducible refine kT.out.mono ?_
  rintro e w' ⟨rfl, h1⟩
  have H1 : Hid (DN S w w' f qm N pool ops (gotB B r 1) (gotC C r 1)) := h1
  clear h1 kT
  go_wp2
  go_ret2
  exact ⟨rfl, H1.out⟩
set_option maxHeartbeats 1000000 in
theorem dpage_any (h : DD w S f qm N pool ops B C) (r : Option Nat) (hr : TkR (fP pool N C) 0 r) :
    Calls Tryd.prog 15 #[.pointer (some ⟨f, 0, none⟩)] w fun e w' => e = .returned (.tuple #[.int .i64 (gotX r : Nat), .int .i64 (gotE r 10)]) ∧ DN S w w' f qm N pool ops (gotB B r 1) (gotC C r 1) := by
  obtain ⟨⟨T, bt, ot, bp, op, bn, h⟩, b, d⟩ := h
  have c2 := h.c2
  have kT : Aside (Calls Tryd.prog 35 #[.pointer (some ⟨f, 0, none⟩), .pointer (some ⟨bp, 0, none⟩), .int .i64 0, .int .i64 10] w fun e w' => e = .returned (.tuple #[.int .i64 (gotX r : Nat), .int .i64 (gotE r 10)]) ∧ DN S w w' f qm N pool ops (gotB B r 1) (gotC C r 1)) := dpages_low h b d 0 1 (by omega) rfl two0 (by omega) r hr
  clear h
  go_enter Tryd.func15, Tryd.ntmps15
  go_wp2_with fail
  with_reducible refine kT.out.mono ?_
  rintro e w' ⟨rfl, h1⟩
  have H1 : Hid (DN S w w' f qm N pool ops (gotB B r 1) (gotC C r 1)) := h1
  clear h1 kT
  go_wp2
  go_ret2
  exact ⟨rfl, H1.out⟩
set_option maxHeartbeats 1000000 in
theorem dblock_any (h : DD w S f qm N pool ops B C) (r : Option Nat) (hr : TkR (fP pool N C) 9 r) :
    Calls Tryd.prog 17 #[.pointer (some ⟨f, 0, none⟩)] w fun e w' => e = .returned (.tuple #[.int .i64 (gotX r : Nat), .int .i64 (gotE r 10)]) ∧ DN S w w' f qm N pool ops (gotB B r 512) (gotC C r 512) := by
  obtain ⟨⟨T, bt, ot, bp, op, bn, h⟩, b, d⟩ := h
  have c2 := h.c2
  have kT : Aside (Calls Tryd.prog 35 #[.pointer (some ⟨f, 0, none⟩), .pointer (some ⟨bp, 0, none⟩), .int .i64 9, .int .i64 10] w fun e w' => e = .returned (.tuple #[.int .i64 (gotX r : Nat), .int .i64 (gotE r 10)]) ∧ DN S w w' f qm N pool ops (gotB B r 512) (gotC C r 512)) := dpages_low h b d 9 512 (by omega) rfl two9 (by omega) r hr
  clear h
  go_enter Tryd.func17, Tryd.ntmps17
  go_wp2_with fail
  with_reducible refine kT.out.mono ?_
  rintro e w' ⟨rfl, h1⟩
  have H1 : Hid (DN S w w' f qm N pool ops (gotB B r 512) (gotC C r 512)) := h1
  clear h1 kT
  go_wp2
  go_ret2
  exact ⟨rfl, H1.out⟩

/-! ### Count, Free, Clear, Write -/
theorem dcount_any (h : DD w S f qm N pool ops B C) (x : Int) (hx : (Lit.int .i64 x).wf = true) :
    Calls Tryd.prog 27 #[.pointer (some ⟨f, 0, none⟩), .int .i64 x] w fun e w' => e = .returned (.int .i64 (cI C x : Nat)) ∧ w' = w := by
  obtain ⟨⟨T, bt, ot, bp, op, bn, h⟩, b, d⟩ := h
  exact dcount_low h d x hx
theorem dfree_any (h : DD w S f qm N pool ops B C) :
    Calls Tryd.prog 25 #[.pointer (some ⟨f, 0, none⟩)] w fun e w' => e = .returned (.tuple #[.int .i64 (cnt (fP pool N C) N : Nat), .int .i64 (cnt (fT pool C) pool : Nat)]) ∧ Dr w w' := by
  obtain ⟨⟨T, bt, ot, bp, op, bn, h⟩, b, d⟩ := h
  exact dfree_low h
theorem dclear_any (h : DD w S f qm N pool ops B C) (x : Int) (hx : (Lit.int .i64 x).wf = true) :
    Calls Tryd.prog 29 #[.pointer (some ⟨qm, 0, none⟩), .int .i64 x] w fun e w' => e = .returned (.bool (clearF N B x)) ∧ w' = w := by
  obtain ⟨⟨T, bt, ot, bp, op, bn, h⟩, b, d⟩ := h
  exact rclear_any h.mem x hx
theorem dwrite_ok (h : DD w S f qm N pool ops B C) (addr s v : Nat) (hc : chkP N addr s = 0) (hv : v < 18446744073709551616) (ho : ops < 4611686018427387904) :
    Calls Tryd.prog 23 #[.pointer (some ⟨qm, 0, none⟩), .int .u64 (addr : Int), .int .i64 (s : Int), .int .u64 (v : Int)] w fun e w' => e = .returned (.int .i64 0) ∧ DN S w w' f qm N pool (ops + 1) (putFr B (addr / 4096) (putF (B (addr / 4096)) (addr % 4096) s v)) C := by
  obtain ⟨⟨T, bt, ot, bp, op, bn, h⟩, b, d⟩ := h
  refine (rwrite_ok h.mem addr s v hc hv ho).mono fun e w' ⟨e1, T', e2, e3, e4⟩ => ⟨e1, fun i => S i ∨ T' i, ⟨⟨T', bt, ot, bp, op, bn, h.setT e2 e3 e4⟩, b, d⟩, h.frT e3, fun k hk => hk.elim .inl (fun hk => (e4 k hk).elim (fun q => .inl (h.sT k q).1) .inr)⟩
theorem dwrite_no (h : DD w S f qm N pool ops B C) (addr : Nat) (s r v : Int) (hc : chkP N addr s = r) (hr : r ≠ 0) :
    Calls Tryd.prog 23 #[.pointer (some ⟨qm, 0, none⟩), .int .u64 (addr : Int), .int .i64 s, .int .u64 v] w fun e w' => e = .returned (.int .i64 r) ∧ w' = w := by
  obtain ⟨⟨T, bt, ot, bp, op, bn, h⟩, b, d⟩ := h
  exact rwrite_no h.mem addr s r v hc hr

/-! ### Ref -/
set_option maxHeartbeats 2000000 in
set_option maxRecDepth 100000 in
theorem dref_any (h : DD w S f qm N pool ops B C) (x : Int) (hx : (Lit.int .i64 x).wf = true) :
    Calls Tryd.prog 19 #[.pointer (some ⟨f, 0, none⟩), .int .i64 x] w fun e w' => e = .returned (.tuple #[.int .i64 (refN C x : Nat), .int .i64 (refE C x)]) ∧ DN S w w' f qm N pool ops B (refC C x) := by
  unfold refN refE refC
  have k1 := dcount_any h x hx
  have h0 : Hid (DN S w w f qm N pool ops B C) := ⟨S, h, Fr.refl _ _, Less.refl _ _⟩
  obtain ⟨⟨T, bt, ot, bp, op, bn, h⟩, b, d⟩ := h
  have c3 := h.c3
  have hle := cI_le b x
  have hn := h.n2
  have z1 : (N : Int) ≤ 1048576 := by omega
  by_cases e0 : cI C x = 0
  · have hb : refO C x = false := decide_eq_false (by omega)
    rw [hb, if_neg (by decide), if_neg (by decide), if_neg (by decide)]
    rw [e0, show ((0 : Nat) : Int) = 0 from rfl] at k1
    clear h b d hx hb hle e0
    go_enter Tryd.func19, Tryd.ntmps19
    go_wp2_with (go_at_call 27; with_reducible refine k1.mono ?_; rintro e w' ⟨rfl, rfl⟩)
    go_ret2
    exact ⟨rfl, h0.out⟩
  · obtain ⟨ex, ec⟩ := cI_some e0
    have hd := d x.toNat (by rw [ec]; exact e0)
    have ck := h.cs.cell x.toNat hd
    have fk := h.cs.frz x.toNat
    rw [ec] at ck
    obtain ⟨k, hk⟩ : ∃ k : Nat, x = (k : Int) := ⟨x.toNat, ex.symm⟩
    subst hk
    rw [Int.toNat_natCast] at *
    have y1 : (k : Int) < N := by omega
    have y0 : ¬ ((cI C (k : Int) : Nat) : Int) = 0 := by omega
    by_cases e1 : cI C (k : Int) = 1073741824
    · have hb : refO C (k : Int) = false := decide_eq_false (by omega)
      rw [hb, if_neg (by decide), if_neg (by decide), if_neg (by decide)]
      rw [e1, show ((1073741824 : Nat) : Int) = 1073741824 from rfl] at k1 ck
      clear h b d hx hb hle e0 e1 ec ex hd y0
      go_enter Tryd.func19, Tryd.ntmps19
      go_wp2_with (go_at_call 27; with_reducible refine k1.mono ?_; rintro e w' ⟨rfl, rfl⟩)
      go_ret2
      exact ⟨rfl, h0.out⟩
    · have hb : refO C (k : Int) = true := decide_eq_true ⟨e0, e1⟩
      rw [hb, if_pos rfl, if_pos rfl, if_pos rfl]
      have h2 := h.dg.put k (cI C (k : Int) + 1)
      rw [show ((cI C (k : Int) + 1 : Nat) : Int) = (cI C (k : Int) : Nat) + 1 by omega] at h2 ⊢
      have hC : C k ≠ 0 := by rw [ec]; exact e0
      have H2 : Hid (DN S w (w.setCell ⟨bn, k, none⟩ (.int .i64 ((cI C (k : Int) : Nat) + 1))) f qm N pool ops B (putC C k (cI C (k : Int) + 1))) := DG.dn (bt := bt) (ot := ot) (bp := bp) (op := op) (bn := bn) (by rw [fT_same hC (by omega), fP_same hC (by omega)]; exact h2) (putC_le b _ _ (by omega)) (putC_dom d hd)
      obtain ⟨_, _, _, q3, _, q5⟩ := h2.cells
      have q6 := q5 k hd
      rw [putC_same, show ((cI C (k : Int) + 1 : Nat) : Int) = (cI C (k : Int) : Nat) + 1 by omega] at q6
      have z2 : ((cI C (k : Int) : Nat) : Int) ≤ 1073741824 := by omega
      have y5 : decide ((1073741824 : Int) ≤ ((cI C (k : Int) : Nat) : Int)) = false := decide_eq_false (by omega)
      have y6 : decide (1073741824 ≤ cI C (k : Int)) = false := decide_eq_false (by omega)
      clear h b d hx hb hle e0 e1 ec ex hd h2 hC h0 q5
      generalize putC C k (cI C (k : Int) + 1) = C2 at *
      generalize cI C (k : Int) = c at *
      go_enter Tryd.func19, Tryd.ntmps19
      go_wp2_with (go_at_call 27; with_reducible refine k1.mono ?_; rintro e w' ⟨rfl, rfl⟩)
      go_ret2
      exact ⟨rfl, H2.out⟩
end
end Go.Proofs.YtjnkmmfppkpgbaaDoor
