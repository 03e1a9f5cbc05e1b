/- The document's frames: Drop, New. -/
import Derived.Test.YtjnkmmfppkpgbaaDoorW82
namespace Go.Proofs.YtjnkmmfppkpgbaaDoor
open Go.RowKit Go.Maps
set_option maxRecDepth 10000

section
variable {w w' : World} {S T S0 : Nat → Prop} {w0 : World} {f qm bt ot bp op bn N pool ops : Nat} {B : Nat → Nat → Nat} {Ft Fp : Nat → Bool} {C : Nat → Nat}
theorem rgive_one {q ob lo n x : Nat} {F : Nat → Bool} (h : RBU w q ob lo n F) (h1 : lo ≤ x) (h2 : x < lo + n) (hF : F x = false) :
    Calls Tryd.prog 38 #[.pointer (some ⟨q, 0, none⟩), .int .i64 (x : Int), .int .i64 0] w fun e w' => e = .returned (.int .i64 0) ∧ RBU w' q ob lo n (addF F 0 x) ∧ Fr (fun k => k = ob) w w' := by
  have hh := h.hh
  have := rgive_any h (x : Int) 0 (by omega)
  unfold gvR gvF at this
  rw [owns_one h1 h2, Int.toNat_natCast, show (0 : Int).toNat = 0 from rfl, anyF_one hF] at this
  simpa using this
theorem DG.giveU (h : DG S0 w0 w f qm bt ot bp op bn N pool ops B Ft Fp C) (x : Nat) (hx : x < pool) (hF : Ft x = false) :
    Calls Tryd.prog 38 #[.pointer (some ⟨bt, 0, none⟩), .int .i64 (x : Int), .int .i64 0] w fun e w' => e = .returned (.int .i64 0) ∧ DG S0 w0 w' f qm bt ot bp op bn N pool ops B (addF Ft 0 x) Fp C := by
  obtain ⟨S, T, h1, h2, h3⟩ := h
  exact (rgive_one h1.tb (Nat.zero_le _) (by omega) hF).mono fun e w' ⟨e1, e2, e3⟩ => ⟨e1, S, T, h1.setU e2 e3, h2.trans2 (h1.frU e3) (fun i hi hs => h3.in_ i hi hs), h3⟩
theorem DG.giveV (h : DG S0 w0 w f qm bt ot bp op bn N pool ops B Ft Fp C) (x : Nat) (hx : pool ≤ x) (hx2 : x < N) (hF : Fp x = false) :
    Calls Tryd.prog 38 #[.pointer (some ⟨bp, 0, none⟩), .int .i64 (x : Int), .int .i64 0] w fun e w' => e = .returned (.int .i64 0) ∧ DG S0 w0 w' f qm bt ot bp op bn N pool ops B Ft (addF Fp 0 x) C := by
  obtain ⟨S, T, h1, h2, h3⟩ := h
  exact (rgive_one h1.pg hx (by omega) hF).mono fun e w' ⟨e1, e2, e3⟩ => ⟨e1, S, T, h1.setV e2 e3, h2.trans2 (h1.frV e3) (fun i hi hs => h3.in_ i hi hs), h3⟩
set_option maxHeartbeats 2000000 in
set_option maxRecDepth 100000 in
theorem ddrop_any (h : DD w S f qm N pool ops B C) (x : Int) (hx : (Lit.int .i64 x).wf = true) :
    Calls Tryd.prog 21 #[.pointer (some ⟨f, 0, none⟩), .int .i64 x] w fun e w' => e = .returned (.tuple #[.int .i64 (dropN C x : Nat), .int .i64 (dropE C x)]) ∧ DN S w w' f qm N pool ops (dropB B C x) (dropC C x) := by
  unfold dropN dropE dropC dropB
  have k1 := dcount_any h x hx
  have h0 : Hid (DN S w w f qm N pool ops B C) := ⟨S, h, Fr.refl _ _, Less.refl _ _⟩
  obtain ⟨⟨T, bt, ot, bp, op, bn, h⟩, b, d⟩ := h
  have hle := cI_le b x
  have hn := h.n2
  have z1 : (N : Int) ≤ 1048576 := by omega
  by_cases e0 : cI C x = 0
  · rw [if_pos e0, if_neg (show ¬ cI C x = 1 by omega), if_pos e0, show cI C x - 1 = 0 by omega]
    rw [e0, show ((0 : Nat) : Int) = 0 from rfl] at k1
    clear h b d hx hle e0
    go_enter Tryd.func21, Tryd.ntmps21
    go_wp2_with (go_at_call 27; with_reducible refine k1.mono ?_; rintro e w' ⟨rfl, rfl⟩)
    go_ret2
    exact ⟨rfl, h0.out⟩
  · obtain ⟨ex, ec⟩ := cI_some e0
    have hd := d x.toNat (by rw [ec]; exact e0)
    obtain ⟨k, hk⟩ : ∃ k : Nat, x = (k : Int) := ⟨x.toNat, ex.symm⟩
    subst hk
    rw [Int.toNat_natCast] at *
    have hC : C k ≠ 0 := by rw [ec]; exact e0
    have y1 : (k : Int) < N := by omega
    have ck := h.cs.cell k hd
    have fk := h.cs.frz k
    have c3 := h.c3
    rw [ec] at ck
    by_cases e1 : cI C (k : Int) = 1
    · rw [if_neg e0, if_pos e1, if_neg e0, show cI C (k : Int) - 1 = 0 by omega]
      rw [e1, show ((1 : Nat) : Int) = 1 from rfl] at k1 ck
      have h2 := h.dg.put k 0
      rw [show ((0 : Nat) : Int) = 0 from rfl] at h2
      obtain ⟨q0, q1, q2, q3, q4, q5⟩ := h2.cells
      have q6 := q5 k hd
      rw [putC_same, show ((0 : Nat) : Int) = 0 from rfl] at q6
      have kZ := h2.zero k hd
      have hFt : fT pool C k = false := by unfold fT; rw [decide_eq_false hC, Bool.and_false]
      have hFp : fP pool N C k = false := by unfold fP; rw [decide_eq_false hC, Bool.and_false]
      have HB : Hid ((∀ k, C k ≤ 1073741824) ∧ ∀ k, C k ≠ 0 → k < N) := ⟨b, d⟩
      clear h b d hx hle e0 e1 ec ex hC q5 h0
      by_cases hl : k < pool
      · have kG : Aside (∀ w', DG S w w' f qm bt ot bp op bn N pool ops (putFr B k z0) (fT pool C) (fP pool N C) (putC C k 0) → Calls Tryd.prog 38 #[.pointer (some ⟨bt, 0, none⟩), .int .i64 (k : Int), .int .i64 0] w' fun e w'' => e = .returned (.int .i64 0) ∧ DG S w w'' f qm bt ot bp op bn N pool ops (putFr B k z0) (fT pool (putC C k 0)) (fP pool N (putC C k 0)) (putC C k 0)) := fun w' h3 => (h3.giveU k hl hFt).mono fun e w'' ⟨e1, e2⟩ => ⟨e1, by rw [fT_zero hl, fP_off hl]; exact e2⟩
        have y2 : (k : Int) < pool := by omega
        clear h2 hFt hFp
        go_enter Tryd.func21, Tryd.ntmps21
        go_wp2_with (go_at_call 27; with_reducible refine k1.mono ?_; rintro e w' ⟨rfl, rfl⟩)
        with_reducible refine kZ.mono ?_
        rintro e w3 ⟨rfl, h3⟩
        have kG3 := kG.out w3 h3
        obtain ⟨q0', q1', q2', q3', q4', _⟩ := h3.cells
        clear h3 kZ kG
        go_wp2_with fail
        with_reducible refine kG3.mono ?_
        rintro e w4 ⟨rfl, h4⟩
        obtain ⟨_, _, _, r3, _, r5⟩ := h4.cells
        have r6 := r5 k hd
        rw [putC_same, show ((0 : Nat) : Int) = 0 from rfl] at r6
        have H4 : Hid (DN S w' w4 f qm N pool ops (putFr B k z0) (putC C k 0)) := h4.dn (putC_le HB.out.1 _ _ (by omega)) (putC_dom HB.out.2 hd)
        clear h4 kG3 r5 HB
        go_wp2
        go_ret2
        exact ⟨rfl, H4.out⟩
      · have kG : Aside (∀ w', DG S w w' f qm bt ot bp op bn N pool ops (putFr B k z0) (fT pool C) (fP pool N C) (putC C k 0) → Calls Tryd.prog 38 #[.pointer (some ⟨bp, 0, none⟩), .int .i64 (k : Int), .int .i64 0] w' fun e w'' => e = .returned (.int .i64 0) ∧ DG S w w'' f qm bt ot bp op bn N pool ops (putFr B k z0) (fT pool (putC C k 0)) (fP pool N (putC C k 0)) (putC C k 0)) := fun w' h3 => (h3.giveV k (by omega) hd hFp).mono fun e w'' ⟨e1, e2⟩ => ⟨e1, by rw [fP_zero (by omega) hd, fT_off (by omega)]; exact e2⟩
        have y2 : ¬ (k : Int) < pool := by omega
        clear h2 hFt hFp
        go_enter Tryd.func21, Tryd.ntmps21
        go_wp2_with (go_at_call 27; with_reducible refine k1.mono ?_; rintro e w' ⟨rfl, rfl⟩)
        with_reducible refine kZ.mono ?_
        rintro e w3 ⟨rfl, h3⟩
        have kG3 := kG.out w3 h3
        obtain ⟨q0', q1', q2', q3', q4', _⟩ := h3.cells
        clear h3 kZ kG
        go_wp2_with fail
        with_reducible refine kG3.mono ?_
        rintro e w4 ⟨rfl, h4⟩
        obtain ⟨_, _, _, r3, _, r5⟩ := h4.cells
        have r6 := r5 k hd
        rw [putC_same, show ((0 : Nat) : Int) = 0 from rfl] at r6
        have H4 : Hid (DN S w' w4 f qm N pool ops (putFr B k z0) (putC C k 0)) := h4.dn (putC_le HB.out.1 _ _ (by omega)) (putC_dom HB.out.2 hd)
        clear h4 kG3 r5 HB
        go_wp2
        go_ret2
        exact ⟨rfl, H4.out⟩
    · rw [if_neg e0, if_neg e1, if_neg e0]
      have z4 : ((cI C (k : Int) - 1 : Nat) : Int) = (cI C (k : Int) : Nat) - 1 := by omega
      have h2 := h.dg.put k (cI C (k : Int) - 1)
      rw [z4] at h2 ⊢
      have H2 : Hid (DN S w (w.setCell ⟨bn, k, none⟩ (.int .i64 ((cI C (k : Int) : Nat) - 1))) f qm N pool ops B (putC C k (cI C (k : Int) - 1))) := DG.dn (bt := bt) (ot := ot) (bp := bp) (op := op) (bn := bn) (by rw [fT_same hC (by omega), fP_same hC (by omega)]; exact h2) (putC_le b _ _ (by omega)) (putC_dom d hd)
      obtain ⟨q0, q1, q2, q3, q4, q5⟩ := h2.cells
      have q6 := q5 k hd
      rw [putC_same, z4] at q6
      have y2 : ¬ ((cI C (k : Int) : Nat) : Int) = 0 := by omega
      have y3 : ¬ ((cI C (k : Int) : Nat) : Int) - 1 = 0 := by omega
      have y4 : ((cI C (k : Int) : Nat) : Int) ≤ 1073741824 := by omega
      clear h b d hx hle e0 e1 ec ex hC q5 h0 h2 z4
      generalize putC C k (cI C (k : Int) - 1) = C2 at *
      generalize cI C (k : Int) = c at *
      go_enter Tryd.func21, Tryd.ntmps21
      go_wp2_with (go_at_call 27; with_reducible refine k1.mono ?_; rintro e w' ⟨rfl, rfl⟩)
      go_ret2
      exact ⟨rfl, H2.out⟩
end

/-! ### New -/
theorem RM.c0 {w : World} {T : Nat → Prop} {q N ops : Nat} {F : Nat → Nat → Nat} (h : RM w T q N ops F) : w.cell? ⟨q, 0, none⟩ = some (.int .i64 (N : Nat)) := by
  obtain ⟨na, cap, L, h1, h2⟩ := h
  exact h1.c0
theorem RM.n2 {w : World} {T : Nat → Prop} {q N ops : Nat} {F : Nat → Nat → Nat} (h : RM w T q N ops F) : N ≤ 1048576 := by
  obtain ⟨na, cap, L, h1, h2⟩ := h
  exact h1.n2
set_option maxHeartbeats 2000000 in
theorem dnew_ok {w : World} {T : Nat → Prop} {qm N ops : Nat} {B : Nat → Nat → Nat} (h : RM w T qm N ops B) (pool : Nat) (h1 : 1 ≤ pool) (h2 : pool ≤ 4096) (h3 : pool < N) :
    Calls Tryd.prog 11 #[.pointer (some ⟨qm, 0, none⟩), .int .i64 (pool : Int)] w fun e w' => (∃ f S, e = .returned (.tuple #[.pointer (some ⟨f, 0, none⟩), .int .i64 0]) ∧ DD w' S f qm N pool ops B (fun _ => 0) ∧ ∀ k, S k → T k ∨ w.heap.size ≤ k) ∧ Kp w w' := by
  have hn := h.n2
  have c0 := h.c0
  have kB := rbnew_ok 0 pool w (by omega) (by omega)
  have KP : Aside (∀ w', Calls Tryd.prog 33 #[.int .i64 (pool : Int), .int .i64 ((N : Int) - pool)] w' fun e w'' => (∃ q ob, e = .returned (.tuple #[.pointer (some ⟨q, 0, none⟩), .int .i64 0]) ∧ RBU w'' q ob pool (N - pool) (fP pool N (fun _ => 0)) ∧ w'.heap.size ≤ q ∧ w'.heap.size ≤ ob) ∧ Kp w' w'') := fun w' => by
    have := rbnew_ok pool (N - pool) w' (by omega) (by omega)
    rw [show pool + (N - pool) = N by omega, ivl_fP, show ((N - pool : Nat) : Int) = (N : Int) - pool by omega] at this
    exact this
  have HH : Hid (RM w T qm N ops B ∧ 1 ≤ pool ∧ pool < N ∧ N ≤ 1048576) := ⟨h, h1, h3, hn⟩
  have z1 : (1 : Int) ≤ pool := by omega
  have z2 : (pool : Int) ≤ 4096 := by omega
  have z3 : (pool : Int) < N := by omega
  have z4 : (N : Int) ≤ 1048576 := by omega
  rw [show ((0 : Nat) : Int) = 0 from rfl] at kB
  clear h h1 h2 h3
  go_enter Tryd.func11, Tryd.ntmps11
  go_wp2_with fail
  with_reducible refine kB.mono ?_
  rintro e w1 ⟨⟨bt, ot, rfl, t1, t2⟩, t3⟩
  have H1 : Hid (RBU w1 bt ot 0 pool (fT pool (fun _ => 0)) ∧ (w.heap.size ≤ bt ∧ w.heap.size ≤ ot) ∧ Kp w w1) := ⟨by rw [← ivl_fT]; simpa using t1, t2, t3⟩
  have c01 := (HH.out.1.kp t3).c0
  have kP := KP.out w1
  clear t1 t2 t3 kB KP c0
  go_wp2_with fail
  with_reducible refine kP.mono ?_
  rintro e w2 ⟨⟨bp, op, rfl, t1, t2⟩, t3⟩
  have H2 : Hid (RBU w2 bp op pool (N - pool) (fP pool N (fun _ => 0)) ∧ (w1.heap.size ≤ bp ∧ w1.heap.size ≤ op) ∧ Kp w1 w2) := ⟨t1, t2, t3⟩
  have c02 := ((HH.out.1.kp H1.out.2.2).kp t3).c0
  have hmk := make_ints N w2 (by omega)
  clear t1 t2 t3 kP c01
  generalize hz : zeroI N = Z at *
  go_wp2
  go_ret2
  subst hz
  obtain ⟨m, q1, q2, q3⟩ := HH.out
  obtain ⟨t1, ⟨t2, t2'⟩, t3⟩ := H1.out
  obtain ⟨v1, ⟨v2, v2'⟩, v3⟩ := H2.out
  have ka : Kp w2 (w2.alloc (.cells (zeroI N) 3)) := (Kp.refl w2).alloc _
  have kb : Kp (w2.alloc (.cells (zeroI N) 3)) ((w2.alloc (.cells (zeroI N) 3)).alloc (.cells #[.pointer (some ⟨qm, 0, none⟩), .pointer (some ⟨bt, 0, none⟩), .pointer (some ⟨bp, 0, none⟩), .slice (some ⟨w2.heap.size, 0, none⟩) N N] 74)) := (Kp.refl _).alloc _
  have e1 : (w2.alloc (.cells (zeroI N) 3)).heap.size = w2.heap.size + 1 := by simp
  have e2 := heap_alloc_new (w2.alloc (.cells (zeroI N) 3)) (.cells #[.pointer (some ⟨qm, 0, none⟩), .pointer (some ⟨bt, 0, none⟩), .pointer (some ⟨bp, 0, none⟩), .slice (some ⟨w2.heap.size, 0, none⟩) N N] 74)
  rw [e1] at e2
  have e3 : ((w2.alloc (.cells (zeroI N) 3)).alloc (.cells #[.pointer (some ⟨qm, 0, none⟩), .pointer (some ⟨bt, 0, none⟩), .pointer (some ⟨bp, 0, none⟩), .slice (some ⟨w2.heap.size, 0, none⟩) N N] 74)).heap.size = w2.heap.size + 2 := by simp
  have mo := m.own
  have s1 := t3.size
  have s2 := v3.size
  have l1 := t1.ql
  have l2 := t1.on.lt
  have l3 := v1.ql
  have l4 := v1.on.lt
  have n1 := t1.ne
  have n2 := v1.ne
  have kab := ka.trans kb
  refine ⟨⟨w2.heap.size + 1, fun k => T k ∨ k = w2.heap.size + 1 ∨ k = bt ∨ k = ot ∨ k = bp ∨ k = op ∨ k = w2.heap.size, rfl, ⟨⟨T, bt, ot, bp, op, w2.heap.size, ⟨fun k hk => ?_, e2, ((m.kp t3).kp v3).kp kab, (t1.kp v3).kp kab, v1.kp kab, (OI.made w2 N).kp kb, q1, q2, q3, ⟨.inr (.inl rfl), .inr (.inr (.inl rfl)), .inr (.inr (.inr (.inl rfl))), .inr (.inr (.inr (.inr (.inl rfl)))), .inr (.inr (.inr (.inr (.inr (.inl rfl))))), .inr (.inr (.inr (.inr (.inr (.inr rfl)))))⟩, fun k hk => ⟨.inl hk, by have := mo k hk; omega⟩, by omega⟩⟩, fun _ => Nat.zero_le _, fun _ hk => absurd rfl hk⟩, fun k hk => ?_⟩, (t3.trans v3).trans kab⟩
  · rcases hk with x | x
    · have := mo k x; omega
    · omega
  · rcases hk with x | x
    · exact .inl x
    · exact .inr (by omega)
set_option maxHeartbeats 1000000 in
theorem dnew_no {w : World} {T : Nat → Prop} {qm N ops : Nat} {B : Nat → Nat → Nat} (h : RM w T qm N ops B) (pool : Int) (hp : ¬ (1 ≤ pool ∧ pool ≤ 4096 ∧ pool < (N : Int))) :
    Calls Tryd.prog 11 #[.pointer (some ⟨qm, 0, none⟩), .int .i64 pool] w fun e w' => e = .returned (.tuple #[.pointer none, .int .i64 1]) ∧ w' = w := by
  have c0 := h.c0
  clear h
  by_cases d1 : pool < 1
  · clear hp
    go_enter Tryd.func11, Tryd.ntmps11
    go_wp2
    go_ret2
    exact ⟨rfl, rfl⟩
  · by_cases d2 : (4096 : Int) < pool
    · clear hp
      go_enter Tryd.func11, Tryd.ntmps11
      go_wp2
      go_ret2
      exact ⟨rfl, rfl⟩
    · have d3 : (N : Int) ≤ pool := by omega
      clear hp
      go_enter Tryd.func11, Tryd.ntmps11
      go_wp2
      go_ret2
      exact ⟨rfl, rfl⟩
end Go.Proofs.YtjnkmmfppkpgbaaDoor
