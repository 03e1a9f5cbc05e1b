/- Joined: V5, TK, V6. -/
import Derived.Test.YtanlcmdnhhdhaaaGreatDoorJ15
import Derived.Test.YtanlcmdnhhdhaaaGreatDoorJ12
import Derived.LaidEqlPtr
/- frames: New, Ref, Drop, Count, Free, Mem; the memory's Write and Clear beside them. -/
namespace Go.Proofs.YtanlcmdnhhdhaaaGreatDoor
open Go.RowKit Go.Maps
set_option maxRecDepth 10000

section
variable {w w' : World} {S : Nat → Prop} {p pm N pool ops : Nat} {B : Nat → Nat → Nat} {C : Nat → Nat}
theorem smem_any (h : FZ w S p pm N pool ops B C) :
    Calls Tryz.prog 95 #[.pointer (some ⟨p, 0, none⟩)] w fun e w' => e = .returned (.pointer (some ⟨pm, 0, none⟩)) ∧ w' = w := by
  obtain ⟨⟨M, U, V, bt, bp, bc, h⟩, b⟩ := h
  exact fmem_any h
theorem sfree_any (h : FZ w S p pm N pool ops B C) :
    Calls Tryz.prog 10 #[.pointer (some ⟨p, 0, none⟩)] w fun e w' => e = .returned (.tuple #[.int .i64 (cnt (fP pool N C) N : Nat), .int .i64 (cnt (fT pool C) pool : Nat)]) ∧ Dr w w' := by
  obtain ⟨⟨M, U, V, bt, bp, bc, h⟩, b⟩ := h
  exact ffree_any h
theorem swrite_ok (h : FZ w S p pm N pool ops B C) (addr s v : Nat) (ha : addr < 18446744073709551616) (hc : chkP N addr s = 0) (hv : v < 18446744073709551616) (ho : ops < 4611686018427387904) :
    Calls Tryz.prog 107 #[.pointer (some ⟨pm, 0, none⟩), .int .u64 (addr : Int), .int .i64 (s : Int), .int .u64 (v : Int)] w fun e w' => e = .returned (.int .i64 0) ∧ ∃ S', FZ w' S' p pm N pool (ops + 1) (putFr B (addr / 4096) (putF (B (addr / 4096)) (addr % 4096) s v)) C ∧ Fr S w w' ∧ Less S S' w := by
  obtain ⟨⟨M, U, V, bt, bp, bc, h⟩, b⟩ := h
  refine (pwrite_ok h.mem addr s v ha hc hv ho).mono fun e w' ⟨e1, M', e2, e3, e4⟩ => ⟨e1, fun i => S i ∨ M' i, ⟨⟨M', U, V, bt, bp, bc, h.setM' e2 e3 e4⟩, b⟩, h.frM e3, fun k hk => hk.elim .inl (fun hk => (e4 k hk).elim (fun x => .inl (h.sM k x)) .inr)⟩
theorem swrite_no (h : FZ w S p pm N pool ops B C) (addr : Nat) (s r v : Int) (ha : addr < 18446744073709551616) (hc : chkP N addr s = r) (hr : r ≠ 0) :
    Calls Tryz.prog 107 #[.pointer (some ⟨pm, 0, none⟩), .int .u64 (addr : Int), .int .i64 s, .int .u64 v] w fun e w' => e = .returned (.int .i64 r) ∧ w' = w := by
  obtain ⟨⟨M, U, V, bt, bp, bc, h⟩, b⟩ := h
  exact pwrite_no h.mem addr s r v ha hc hr

/-! ### Ref -/
def refO (C : Nat → Nat) (x : Int) : Bool := decide (cI C x ≠ 0 ∧ cI C x ≠ 1073741824)
def refN (C : Nat → Nat) (x : Int) : Nat := if refO C x then cI C x + 1 else 0
def refE (C : Nat → Nat) (x : Int) : Int := if refO C x then 0 else 20
def refC (C : Nat → Nat) (x : Int) : Nat → Nat := if refO C x then putC C x.toNat (cI C x + 1) else C
theorem cI_some {C : Nat → Nat} {x : Int} (h : cI C x ≠ 0) : ((x.toNat : Nat) : Int) = x ∧ C x.toNat = cI C x := by
  unfold cI at *
  by_cases h0 : 0 ≤ x
  · rw [if_pos h0]; exact ⟨by omega, rfl⟩
  · rw [if_neg h0] at h; exact absurd rfl h
theorem cI_le {C : Nat → Nat} (b : ∀ k, C k ≤ 1073741824) (x : Int) : cI C x ≤ 1073741824 := by
  unfold cI; split; exact b _; omega
/-! ### Drop -/
def dropN (C : Nat → Nat) (x : Int) : Nat := cI C x - 1
def dropE (C : Nat → Nat) (x : Int) : Int := if cI C x = 0 then 20 else 0
def dropC (C : Nat → Nat) (x : Int) : Nat → Nat := if cI C x = 0 then C else putC C x.toNat (cI C x - 1)
def dropB (B : Nat → Nat → Nat) (C : Nat → Nat) (x : Int) : Nat → Nat → Nat := if cI C x = 1 then putFr B x.toNat z0 else B
theorem anyF_one {F : Nat → Bool} {x : Nat} (h : F x = false) : anyF F x 0 = false := by
  cases e : anyF F x 0
  · rfl
  · obtain ⟨i, hi, hF⟩ := anyF_true e
    have : i = 0 := by omega
    subst this
    rw [Nat.add_zero, h] at hF; cases hF
theorem owns_one {lo hi x : Nat} (h1 : lo ≤ x) (h2 : x < hi) : owns lo hi (x : Int) 0 = true := by
  unfold owns
  refine decide_eq_true ⟨by omega, by omega, ?_, by omega, ?_⟩
  · show (x : Int).tmod (2 ^ 0) = 0
    simp
  · show (x : Int) ≤ (hi : Int) - 2 ^ 0
    simp; omega
theorem give_one {U : Nat → Prop} {b lo hi x : Nat} {F : Nat → Bool} (h : BF w U b lo hi F) (h1 : lo ≤ x) (h2 : x < hi) (hF : F x = false) :
    Calls Tryz.prog 120 #[.pointer (some ⟨b, 0, none⟩), .int .i64 (x : Int), .int .i64 0] w fun e w' => e = .returned (.int .i64 0) ∧ BF w' U b lo hi (addF F 0 x) ∧ Fr U w w' := by
  have := give_any h (x : Int) 0
  unfold gvR gvF at this
  rw [owns_one h1 h2, Int.toNat_natCast, show (0 : Int).toNat = 0 from rfl, anyF_one hF] at this
  simpa using this
set_option maxHeartbeats 1000000 in
theorem sfree_one {M U V : Nat → Prop} {bt bp bc : Nat} (h : FA w S M U V p pm bt bp bc N pool ops B (fT pool C) (fP pool N C) C) (b : ∀ k, C k ≤ 1073741824) (x : Nat) (hC : C x ≠ 0) :
    Calls Tryz.prog 100 #[.pointer (some ⟨p, 0, none⟩), .int .i64 (x : Int)] w fun e w' => e = .returned (.int .i64 0) ∧ FZ w' S p pm N pool ops (putFr B x z0) (putC C x 0) ∧ Fr S w w' := by
  have hd := h.cs.dom x hC
  have c4 := h.c4
  have hn := h.n2
  obtain ⟨w1, r1, r2, r3⟩ := h.cs.drop x (wf_nat (by omega)) 0
  have h1 := h.setC r2 r3
  have f1 := h.frC r3
  have c0 := h1.c0
  have kZ : Aside (Calls Tryz.prog 105 #[.pointer (some ⟨pm, 0, none⟩), .int .i64 (x : Int)] w1 fun e w' => e = .returned (.int .i64 0) ∧ FA w' S M U V p pm bt bp bc N pool ops (putFr B x z0) (fT pool C) (fP pool N C) (putC C x 0) ∧ Fr S w w') := (pzero_ok h1.mem x hd).mono fun e w' ⟨e1, e2, e3⟩ => ⟨e1, h1.setM e2 e3, f1.trans (h1.frM e3)⟩
  have hFt : fT pool C x = false := by unfold fT; rw [decide_eq_false hC, Bool.and_false]
  have hFp : fP pool N C x = false := by unfold fP; rw [decide_eq_false hC, Bool.and_false]
  have zz : (x : Int) ≤ 1048576 := by omega
  by_cases hl : x < pool
  · have kG : Aside (∀ w', FA w' S M U V p pm bt bp bc N pool ops (putFr B x z0) (fT pool C) (fP pool N C) (putC C x 0) → Fr S w w' → Calls Tryz.prog 120 #[.pointer (some ⟨bt, 0, none⟩), .int .i64 (x : Int), .int .i64 0] w' fun e w'' => e = .returned (.int .i64 0) ∧ Hid (FZ w'' S p pm N pool ops (putFr B x z0) (putC C x 0) ∧ Fr S w w'')) := fun w' h2 k2 => (give_one h2.tb (Nat.zero_le _) hl hFt).mono fun e w'' ⟨e1, e2, e3⟩ => ⟨e1, ⟨⟨M, U, V, bt, bp, bc, by rw [fT_zero hl, fP_off hl]; exact h2.setU e2 e3⟩, putC_le b _ _ (by omega)⟩, k2.trans (h2.frU e3)⟩
    have y1 : (x : Int) < pool := by omega
    clear h h1 r2 r3 f1 hFt hFp hd hn b hC
    go_enter Tryz.func100, Tryz.ntmps100
    go_wp2_with fail
    with_reducible refine kZ.out.mono ?_
    rintro e w2 ⟨rfl, h2, k2⟩
    have kG2 := kG.out w2 h2 k2
    have c1 := h2.c1
    have c2 := h2.c2
    clear kG kZ h2 k2
    go_wp2_with fail
    with_reducible refine kG2.mono ?_
    rintro e w3 ⟨rfl, H3⟩
    clear kG2
    go_wp2
    go_ret
    exact ⟨rfl, H3.out⟩
  · have kG : Aside (∀ w', FA w' S M U V p pm bt bp bc N pool ops (putFr B x z0) (fT pool C) (fP pool N C) (putC C x 0) → Fr S w w' → Calls Tryz.prog 120 #[.pointer (some ⟨bp, 0, none⟩), .int .i64 (x : Int), .int .i64 0] w' fun e w'' => e = .returned (.int .i64 0) ∧ Hid (FZ w'' S p pm N pool ops (putFr B x z0) (putC C x 0) ∧ Fr S w w'')) := fun w' h2 k2 => (give_one h2.pg (by omega) hd hFp).mono fun e w'' ⟨e1, e2, e3⟩ => ⟨e1, ⟨⟨M, U, V, bt, bp, bc, by rw [fP_zero (by omega) hd, fT_off (by omega)]; exact h2.setV e2 e3⟩, putC_le b _ _ (by omega)⟩, k2.trans (h2.frV e3)⟩
    have y1 : ¬ (x : Int) < pool := by omega
    clear h h1 r2 r3 f1 hFt hFp hd hn b hC
    go_enter Tryz.func100, Tryz.ntmps100
    go_wp2_with fail
    with_reducible refine kZ.out.mono ?_
    rintro e w2 ⟨rfl, h2, k2⟩
    have kG2 := kG.out w2 h2 k2
    have c1 := h2.c1
    have c3 := h2.c3
    clear kG kZ h2 k2
    go_wp2_with fail
    with_reducible refine kG2.mono ?_
    rintro e w3 ⟨rfl, H3⟩
    clear kG2
    go_wp2
    go_ret
    exact ⟨rfl, H3.out⟩
set_option maxHeartbeats 1000000 in
theorem sdrop_any (h : FZ w S p pm N pool ops B C) (x : Int) (hx : (Lit.int .i64 x).wf = true) :
    Calls Tryz.prog 67 #[.pointer (some ⟨p, 0, none⟩), .int .i64 x] w fun e w' => e = .returned (.tuple #[.int .i64 (dropN C x : Nat), .int .i64 (dropE C x)]) ∧ FZ w' S p pm N pool ops (dropB B C x) (dropC C x) ∧ Fr S w w' := by
  unfold dropN dropE dropC dropB
  have h0 := h
  obtain ⟨⟨M, U, V, bt, bp, bc, h⟩, b⟩ := h
  have c4 := h.c4
  have l := h.cs.look x hx
  have hle := cI_le b x
  by_cases e0 : cI C x = 0
  · have H0 : Hid (FZ w S p pm N pool ops B C) := h0
    rw [if_pos e0, if_neg (show ¬ cI C x = 1 by omega), if_pos e0, show cI C x - 1 = 0 by omega]
    rw [e0] at l
    rw [show ((0 : Nat) : Int) = 0 from rfl] at l
    clear h h0 b hx hle e0
    go_enter Tryz.func67, Tryz.ntmps67
    go_wp2
    go_ret2
    exact ⟨rfl, H0.out, Fr.refl _ _⟩
  · obtain ⟨ex, ec⟩ := cI_some e0
    have hC : C x.toNat ≠ 0 := by rw [ec]; exact e0
    by_cases e1 : cI C x = 1
    · have kF := sfree_one h b x.toNat hC
      rw [ex] at kF
      rw [if_neg e0, if_pos e1, if_neg e0, show cI C x - 1 = 0 by omega]
      rw [e1] at l
      rw [show ((1 : Nat) : Int) = 1 from rfl] at l
      have kF' : Aside (Calls Tryz.prog 100 #[.pointer (some ⟨p, 0, none⟩), .int .i64 x] w fun e w' => e = .returned (.int .i64 0) ∧ FZ w' S p pm N pool ops (putFr B x.toNat z0) (putC C x.toNat 0) ∧ Fr S w w') := kF
      clear kF h h0 b hx hle e0 e1 ex ec hC
      generalize putC C x.toNat 0 = C2 at *
      generalize putFr B x.toNat z0 = B2 at *
      go_enter Tryz.func67, Tryz.ntmps67
      go_wp2_with fail
      with_reducible refine kF'.out.mono ?_
      rintro e w' ⟨rfl, h1, k1⟩
      have H1 : Hid (FZ w' S p pm N pool ops B2 C2 ∧ Fr S w w') := ⟨h1, k1⟩
      clear h1 k1 kF'
      go_wp2
      go_ret2
      exact ⟨rfl, H1.out⟩
    · have hd := h.cs.dom x.toNat hC
      obtain ⟨w2, r1, r2, r3⟩ := h.cs.store x.toNat (cI C x - 1) hd (by omega) (by omega) h.n2
      rw [ex] at r1
      have h2 := h.setC r2 r3
      have H2 : Hid (FZ w2 S p pm N pool ops B (putC C x.toNat (cI C x - 1)) ∧ Fr S w w2) := ⟨⟨⟨M, U, V, bt, bp, bc, by rw [fT_same hC (by omega), fP_same hC (by omega)]; exact h2⟩, putC_le b _ _ (by omega)⟩, h.frC r3⟩
      rw [if_neg e0, if_neg e1, if_neg e0]
      have z1 : ¬ ((cI C x : Nat) : Int) = 0 := by omega
      have z2 : ¬ ((cI C x : Nat) : Int) = 1 := by omega
      have z3 : ((cI C x : Nat) : Int) ≤ 1073741824 := by omega
      have z4 : ((cI C x - 1 : Nat) : Int) = (cI C x : Nat) - 1 := by omega
      rw [z4] at r1
      rw [z4]
      clear h h0 b hx h2 r2 r3 hd ex ec e0 e1 hle z4 hC
      generalize hc : putC C x.toNat (cI C x - 1) = C2 at *
      clear hc
      generalize cI C x = c at *
      go_enter Tryz.func67, Tryz.ntmps67
      go_wp2
      go_ret2
      exact ⟨rfl, H2.out⟩
end

/-! ### New -/
theorem ivl_fT (pool : Nat) : ivl 0 (0 + pool) = fT pool (fun _ => 0) := eq_of_iff fun k => by rw [ivl_iff, fT_iff]; omega
theorem ivl_fP {pool N : Nat} : ivl pool N = fP pool N (fun _ => 0) := eq_of_iff fun k => by rw [ivl_iff, fP_iff]; omega
set_option maxHeartbeats 2000000 in
theorem fnew_ok {w : World} {M : Nat → Prop} {pm N ops : Nat} {B : Nat → Nat → Nat} (h : PM w M pm N ops B) (T : TAB w) (h0 : ¬ M 1) (pool : Nat) (h1 : 1 ≤ pool) (h2 : pool ≤ 4096) (h3 : pool < N) :
    Calls Tryz.prog 27 #[.pointer (some ⟨pm, 0, none⟩), .int .i64 (pool : Int)] w fun e w' => (∃ p S, e = .returned (.tuple #[.pointer (some ⟨p, 0, none⟩), .int .i64 0]) ∧ FZ w' S p pm N pool ops B (fun _ => 0) ∧ ∀ k, S k → M k ∨ w.heap.size ≤ k) ∧ Kp w w' := by
  have hn : N ≤ 1048576 := by obtain ⟨bm, g, h⟩ := h; exact h.n2
  have kF := fun w' (k : Kp w w') => pframes_any (h.kp k)
  have KF : Aside (∀ w', Kp w w' → Calls Tryz.prog 68 #[.pointer (some ⟨pm, 0, none⟩)] w' fun e w'' => e = .returned (.int .i64 (N : Nat)) ∧ w'' = w') := kF
  have k0 := KF.out w (Kp.refl w)
  have kB := bnew_ok 0 pool w T (by omega) (by omega)
  have KP : Aside (∀ w', Kp w w' → Calls Tryz.prog 69 #[.int .i64 (pool : Int), .int .i64 ((N : Int) - pool)] w' fun e w'' => (∃ p U, e = .returned (.tuple #[.pointer (some ⟨p, 0, none⟩), .int .i64 0]) ∧ BF w'' U p pool N (fP pool N (fun _ => 0)) ∧ ∀ k, U k → w'.heap.size ≤ k) ∧ Kp w' w'') := fun w' k => by
    have := bnew_ok pool (N - pool) w' (T.kp k) (by omega) (by omega)
    rw [show pool + (N - pool) = N by omega, ivl_fP, show ((N - pool : Nat) : Int) = (N : Int) - pool by omega] at this
    exact this
  have HH : Hid (PM w M pm N ops B ∧ ¬ M 1 ∧ TAB w ∧ 1 ≤ pool ∧ pool < N ∧ N ≤ 1048576) := ⟨h, h0, T, h1, h3, hn⟩
  have z1 : (1 : Int) ≤ pool := by omega
  have z2 : (pool : Int) ≤ 4096 := by omega
  have z3 : (pool : Int) < N := by omega
  have z4 : (N : Int) ≤ 1048576 := by omega
  have hmm := @run_makeMap Tryz.prog
  rw [show ((0 : Nat) : Int) = 0 from rfl] at kB
  clear h T h0 h1 h2 h3 hn kF
  go_enter Tryz.func27, Tryz.ntmps27
  go_wp2_with (go_at_call 68; with_reducible refine k0.mono ?_; rintro e w' ⟨rfl, rfl⟩)
  with_reducible refine kB.mono ?_
  rintro e w1 ⟨⟨bt, U, rfl, t1, t2⟩, t3⟩
  have H1 : Hid (BF w1 U bt 0 pool (fT pool (fun _ => 0)) ∧ (∀ k, U k → w'.heap.size ≤ k) ∧ Kp w' w1) := ⟨by rw [← ivl_fT]; simpa using t1, t2, t3⟩
  have k1 := KF.out w1 t3
  have kP := KP.out w1 t3
  clear t1 t2 t3 kB k0 KP
  go_wp2_with (go_at_call 68; with_reducible refine k1.mono ?_; rintro e w'' ⟨rfl, rfl⟩)
  with_reducible refine kP.mono ?_
  rintro e w2 ⟨⟨bp, V, rfl, t1, t2⟩, t3⟩
  have H2 : Hid (BF w2 V bp pool N (fP pool N (fun _ => 0)) ∧ (∀ k, V k → w''.heap.size ≤ k) ∧ Kp w'' w2) := ⟨t1, t2, t3⟩
  clear t1 t2 t3 kP k1 KF
  go_wp2
  go_ret2
  have HE := HH.out
  have A1 := H1.out
  have A2 := H2.out
  obtain ⟨m, m0, T, q1, q2, q3⟩ := HE
  obtain ⟨t1, t2, t3⟩ := A1
  obtain ⟨v1, v2, v3⟩ := A2
  have k23 := t3.trans v3
  have ka : Kp w2 (w2.alloc (.map #[] 0)) := (Kp.refl w2).alloc _
  have kb : Kp (w2.alloc (.map #[] 0)) ((w2.alloc (.map #[] 0)).alloc (.cells #[.pointer (some ⟨pm, 0, none⟩), .int .i64 (pool : Nat), .pointer (some ⟨bt, 0, none⟩), .pointer (some ⟨bp, 0, none⟩), .map (some w2.heap.size)] 99)) := (Kp.refl _).alloc _
  have e1 : (w2.alloc (.map #[] 0)).heap.size = w2.heap.size + 1 := by simp
  have e2 := heap_alloc_new (w2.alloc (.map #[] 0)) (.cells #[.pointer (some ⟨pm, 0, none⟩), .int .i64 (pool : Nat), .pointer (some ⟨bt, 0, none⟩), .pointer (some ⟨bp, 0, none⟩), .map (some w2.heap.size)] 99)
  rw [e1] at e2
  have e3 : ((w2.alloc (.map #[] 0)).alloc (.cells #[.pointer (some ⟨pm, 0, none⟩), .int .i64 (pool : Nat), .pointer (some ⟨bt, 0, none⟩), .pointer (some ⟨bp, 0, none⟩), .map (some w2.heap.size)] 99)).heap.size = w2.heap.size + 2 := by simp
  have hT := T.lt
  have mo := m.own
  have uo := t1.own
  have vo := v1.own
  have s1 := t3.size
  have s2 := v3.size
  have kab := ka.trans kb
  refine ⟨⟨w2.heap.size + 1, fun k => M k ∨ U k ∨ V k ∨ k = w2.heap.size + 1 ∨ k = w2.heap.size, rfl, ⟨⟨M, U, V, bt, bp, w2.heap.size, ⟨fun k hk => ?_, e2, (m.kp k23).kp kab, (t1.kp v3).kp kab, v1.kp kab, (MC.made w2 N).fr (kb.fr (fun _ => False)) id, q1, q2, q3, .inr (.inr (.inr (.inl rfl))), .inr (.inr (.inr (.inr rfl))), fun _ => .inl, fun _ x => .inr (.inl x), fun _ x => .inr (.inr (.inl x)), by omega, fun x => ?_, fun x => ?_, fun x => ?_, fun x => ?_, fun x => ?_, fun x => ?_, fun k x y => ?_, fun k x y => ?_, fun k x y => ?_, fun x => ?_⟩⟩, fun _ => Nat.zero_le _⟩, fun k hk => ?_⟩, k23.trans kab⟩
  · rcases hk with x | x | x | x | x
    · have := mo k x; omega
    · have := uo k x; omega
    · have := vo k x; omega
    · omega
    · omega
  · have := mo _ x; omega
  · have := uo _ x; omega
  · have := vo _ x; omega
  · have := mo _ x; omega
  · have := uo _ x; omega
  · have := vo _ x; omega
  · have := mo _ x; have := t2 _ y; omega
  · have := mo _ x; have := v2 _ y; omega
  · have := uo _ x; have := v2 _ y; omega
  · rcases x with x | x | x | x | x
    · exact m0 x
    · exact t1.u0 x
    · exact v1.u0 x
    · omega
    · omega
  · rcases hk with x | x | x | x | x
    · exact .inl x
    · exact .inr (t2 _ x)
    · exact .inr (by have := v2 _ x; omega)
    · exact .inr (by omega)
    · exact .inr (by omega)
theorem fnew_nil (pool : Int) (w : World) :
    Calls Tryz.prog 27 #[.pointer none, .int .i64 pool] w fun e w' => e = .returned (.tuple #[.pointer none, .int .i64 1]) ∧ w' = w := by
  go_enter Tryz.func27, Tryz.ntmps27
  go_wp2
  go_ret2
  exact ⟨rfl, rfl⟩
set_option maxHeartbeats 1000000 in
theorem fnew_no {w : World} {M : Nat → Prop} {pm N ops : Nat} {B : Nat → Nat → Nat} (h : PM w M pm N ops B) (pool : Int) (hp : ¬ (1 ≤ pool ∧ pool ≤ 4096 ∧ pool < (N : Int))) :
    Calls Tryz.prog 27 #[.pointer (some ⟨pm, 0, none⟩), .int .i64 pool] w fun e w' => e = .returned (.tuple #[.pointer none, .int .i64 1]) ∧ w' = w := by
  have k0 := pframes_any h
  clear h
  by_cases d1 : pool < 1
  · clear hp k0
    go_enter Tryz.func27, Tryz.ntmps27
    go_wp2
    go_ret2
    exact ⟨rfl, rfl⟩
  · by_cases d2 : (4096 : Int) < pool
    · clear hp k0
      go_enter Tryz.func27, Tryz.ntmps27
      go_wp2
      go_ret2
      exact ⟨rfl, rfl⟩
    · have d3 : (N : Int) ≤ pool := by omega
      clear hp
      go_enter Tryz.func27, Tryz.ntmps27
      go_wp2_with (go_at_call 68; with_reducible refine k0.mono ?_; rintro e w' ⟨rfl, rfl⟩)
      go_ret2
      exact ⟨rfl, rfl⟩
end Go.Proofs.YtanlcmdnhhdhaaaGreatDoor

/- What Take finds, by reckoning. -/
namespace Go.Proofs.YtanlcmdnhhdhaaaGreatDoor
open Go.RowKit

theorem dom_idx {F : Nat → Bool} {hi a j : Nat} (dom : ∀ k, F k = true → k < hi) (h : Rn F a j) : j < hi := by
  have h1 := dom _ (h.1 _ (rep j a))
  have := Nat.le_mul_of_pos_right j (Nat.two_pow_pos a)
  omega
def tkB (F : Nat → Bool) (hi o o' i : Nat) : Bool := decide (o ≤ o' ∧ o' ≤ 9) && rn F o' i && (List.range o').all (fun a => decide (a < o) || (List.range hi).all (fun j => !rn F a j)) && (List.range i).all (fun j => !rn F o' j)
theorem tk_of {F : Nat → Bool} {hi o o' i : Nat} (dom : ∀ k, F k = true → k < hi) (h : tkB F hi o o' i = true) : Tk F o o' i := by
  unfold tkB at h
  simp only [Bool.and_eq_true, decide_eq_true_eq] at h
  obtain ⟨⟨⟨h1, h2⟩, h3⟩, h4⟩ := h
  refine ⟨h1.1, h1.2, (rn_iff ..).1 h2, fun a ha hb j hj => ?_, fun j hj hR => ?_⟩
  · have := List.all_eq_true.1 h3 a (List.mem_range.2 hb)
    rw [decide_eq_false (by omega), Bool.false_or] at this
    have := List.all_eq_true.1 this j (List.mem_range.2 (dom_idx dom hj))
    rw [(rn_iff ..).2 hj] at this; cases this
  · have := List.all_eq_true.1 h4 j (List.mem_range.2 hj)
    rw [(rn_iff ..).2 hR] at this; cases this
def noB (F : Nat → Bool) (hi o : Nat) : Bool := (List.range 10).all (fun a => decide (a < o) || (List.range hi).all (fun j => !rn F a j))
theorem no_of {F : Nat → Bool} {hi o : Nat} (dom : ∀ k, F k = true → k < hi) (h : noB F hi o = true) : ∀ a, o ≤ a → a ≤ 9 → ∀ j, ¬ Rn F a j := fun a ha hb j hj => by
  have := List.all_eq_true.1 h a (List.mem_range.2 (by omega))
  rw [decide_eq_false (by omega), Bool.false_or] at this
  have := List.all_eq_true.1 this j (List.mem_range.2 (dom_idx dom hj))
  rw [(rn_iff ..).2 hj] at this; cases this

end Go.Proofs.YtanlcmdnhhdhaaaGreatDoor

/- Frames beside other things of a law; told. -/
namespace Go.Proofs.YtanlcmdnhhdhaaaGreatDoor
open Go.RowKit Go.Maps
set_option maxRecDepth 10000

/-- What lay ahead of W lies; what is not of X is free to the frames. -/
def Out (W : World) (X : Nat → Prop) : Nat → Prop := fun k => W.heap.size ≤ k ∧ ¬ X k
structure FB (W : World) (X S : Nat → Prop) (w : World) (p pm N pool ops : Nat) (B : Nat → Nat → Nat) (C : Nat → Nat) : Prop where
  fs : FZ w S p pm N pool ops B C
  kp : Kp W w
  out : ∀ k, S k → Out W X k
  lt : ∀ k, X k → k < w.heap.size
  t0 : 1 < W.heap.size
/-- The frames at p, beside the blocks of X, all behind W. -/
def FK (W : World) (X : Nat → Prop) (w : World) (p pm N pool ops : Nat) (B : Nat → Nat → Nat) (C : Nat → Nat) : Prop := ∃ S, FB W X S w p pm N pool ops B C
section
variable {W w w' : World} {X S S' : Nat → Prop} {p pm N pool ops ops' : Nat} {B B' : Nat → Nat → Nat} {C C' : Nat → Nat}
theorem FK.kp (h : FK W X w p pm N pool ops B C) : Kp W w := by
  obtain ⟨S, h⟩ := h
  exact h.kp
theorem FK.nums (h : FK W X w p pm N pool ops B C) : 1 ≤ pool ∧ pool < N ∧ N ≤ 1048576 := by
  obtain ⟨S, h⟩ := h
  exact h.fs.nums
theorem FK.dom (h : FK W X w p pm N pool ops B C) : ∀ x, C x ≠ 0 → x < N := by
  obtain ⟨S, h⟩ := h
  exact h.fs.dom
theorem FK.top (h : FK W X w p pm N pool ops B C) : ∀ x, C x ≤ 1073741824 := by
  obtain ⟨S, h⟩ := h
  exact h.fs.2
theorem FK.tab (h : FK W X w p pm N pool ops B C) : TAB w := by
  obtain ⟨S, h⟩ := h
  exact h.fs.tab
theorem FK.kps (h : FK W X w p pm N pool ops B C) (k : Kp w w') : FK W X w' p pm N pool ops B C := by
  obtain ⟨S, h⟩ := h
  exact ⟨S, h.fs.kp k, h.kp.trans k, h.out, fun i hi => Nat.lt_of_lt_of_le (h.lt i hi) k.size, h.t0⟩
/-- A change of blocks of X alone. -/
theorem FK.frX (h : FK W X w p pm N pool ops B C) {Y : Nat → Prop} (k : Fr Y w w') (hY : ∀ i, Y i → W.heap.size ≤ i ∧ X i) : FK W X w' p pm N pool ops B C := by
  obtain ⟨S, h⟩ := h
  have t0 := h.t0
  exact ⟨S, h.fs.fr k (fun i hi hy => (h.out i hi).2 (hY i hy).2) (fun hy => by have := (hY _ hy).1; omega), k.kp h.kp (fun i hi => (hY i hi).1), h.out, fun i hi => Nat.lt_of_lt_of_le (h.lt i hi) k.size, h.t0⟩
/-- A block more beside. -/
theorem FK.more (h : FK W X w p pm N pool ops B C) (k : Kp w w') (b : Nat) (hb : w.heap.size ≤ b) (hl : b < w'.heap.size) : FK W (fun i => X i ∨ i = b) w' p pm N pool ops B C := by
  obtain ⟨S, h⟩ := h
  exact ⟨S, h.fs.kp k, h.kp.trans k, fun i hi => ⟨(h.out i hi).1, fun e => e.elim (h.out i hi).2 (fun e => by have := h.fs.own i hi; omega)⟩, fun i hi => hi.elim (fun hi => Nat.lt_of_lt_of_le (h.lt i hi) k.size) (fun e => by omega), h.t0⟩
theorem FB.next (h : FB W X S w p pm N pool ops B C) (f : FZ w' S' p pm N pool ops' B' C') (k : Fr S w w') (l : Less S S' w) : FK W X w' p pm N pool ops' B' C' ∧ Fr (Out W X) w w' :=
  ⟨⟨S', f, k.kp h.kp (fun i hi => (h.out i hi).1), fun i hi => (l i hi).elim (h.out i) (fun hn => ⟨Nat.le_trans h.kp.size hn, fun hx => by have := h.lt i hx; omega⟩), fun i hi => Nat.lt_of_lt_of_le (h.lt i hi) k.size, h.t0⟩, k.mono (fun i _ hi => h.out i hi)⟩
theorem FB.next' (h : FB W X S w p pm N pool ops B C) (f : FZ w' S p pm N pool ops' B' C') (k : Fr S w w') : FK W X w' p pm N pool ops' B' C' ∧ Fr (Out W X) w w' := h.next f k (fun _ => .inl)
theorem knew_ok {M : Nat → Prop} (h : PM w M pm N ops B) (hW : Kp W w) (T : TAB W) (hM : ∀ k, M k → W.heap.size ≤ k) (pool : Nat) (h1 : 1 ≤ pool) (h2 : pool ≤ 4096) (h3 : pool < N) :
    Calls Tryz.prog 27 #[.pointer (some ⟨pm, 0, none⟩), .int .i64 (pool : Int)] w fun e w' => (∃ p, e = .returned (.tuple #[.pointer (some ⟨p, 0, none⟩), .int .i64 0]) ∧ FK W (fun _ => False) w' p pm N pool ops B (fun _ => 0)) ∧ Kp w w' :=
  have t0 := T.lt
  (fnew_ok h (T.kp hW) (fun e => by have := hM _ e; omega) pool h1 h2 h3).mono fun e w' ⟨⟨p, S, e1, e2, e3⟩, e4⟩ => ⟨⟨p, e1, S, e2, hW.trans e4, fun k hk => ⟨(e3 k hk).elim (hM k) (Nat.le_trans hW.size), id⟩, fun _ hx => hx.elim, t0⟩, e4⟩
theorem kmem_any (h : FK W X w p pm N pool ops B C) :
    Calls Tryz.prog 95 #[.pointer (some ⟨p, 0, none⟩)] w fun e w' => e = .returned (.pointer (some ⟨pm, 0, none⟩)) ∧ w' = w := by
  obtain ⟨S, h⟩ := h
  exact smem_any h.fs
theorem kfree_any (h : FK W X w p pm N pool ops B C) :
    Calls Tryz.prog 10 #[.pointer (some ⟨p, 0, none⟩)] w fun e w' => e = .returned (.tuple #[.int .i64 (cnt (fP pool N C) N : Nat), .int .i64 (cnt (fT pool C) pool : Nat)]) ∧ Dr w w' := by
  obtain ⟨S, h⟩ := h
  exact sfree_any h.fs
theorem kwrite_ok (h : FK W X w p pm N pool ops B C) (addr s v : Nat) (ha : addr < 18446744073709551616) (hc : chkP N addr s = 0) (hv : v < 18446744073709551616) (ho : ops < 4611686018427387904) :
    Calls Tryz.prog 107 #[.pointer (some ⟨pm, 0, none⟩), .int .u64 (addr : Int), .int .i64 (s : Int), .int .u64 (v : Int)] w fun e w' => e = .returned (.int .i64 0) ∧ FK W X w' p pm N pool (ops + 1) (putFr B (addr / 4096) (putF (B (addr / 4096)) (addr % 4096) s v)) C ∧ Fr (Out W X) w w' := by
  obtain ⟨S, h⟩ := h
  exact (swrite_ok h.fs addr s v ha hc hv ho).mono fun e w' ⟨e1, S', e2, e3, e4⟩ => ⟨e1, h.next e2 e3 e4⟩
theorem ktable_any (h : FK W X w p pm N pool ops B C) (r : Option Nat) (hr : TkR (fT pool C) 0 r) :
    Calls Tryz.prog 28 #[.pointer (some ⟨p, 0, none⟩)] w fun e w' => e = .returned (.tuple #[.int .i64 (gotX r : Nat), .int .i64 (gotE r 11)]) ∧ FK W X w' p pm N pool ops (gotB B r 1) (gotC C r 1) ∧ Fr (Out W X) w w' := by
  obtain ⟨S, h⟩ := h
  exact (ftable_any h.fs r hr).mono fun e w' ⟨e1, e2, e3⟩ => ⟨e1, h.next' e2 e3⟩
theorem kdrop_any (h : FK W X w p pm N pool ops B C) (x : Int) (hx : (Lit.int .i64 x).wf = true) :
    Calls Tryz.prog 67 #[.pointer (some ⟨p, 0, none⟩), .int .i64 x] w fun e w' => e = .returned (.tuple #[.int .i64 (dropN C x : Nat), .int .i64 (dropE C x)]) ∧ FK W X w' p pm N pool ops (dropB B C x) (dropC C x) ∧ Fr (Out W X) w w' := by
  obtain ⟨S, h⟩ := h
  exact (sdrop_any h.fs x hx).mono fun e w' ⟨e1, e2, e3⟩ => ⟨e1, h.next' e2 e3⟩
end

/-! ### told -/
theorem fT_dom (pool : Nat) (C : Nat → Nat) : ∀ k, fT pool C k = true → k < pool := fun _ hk => ((fT_iff ..).1 hk).1
theorem fP_dom (pool N : Nat) (C : Nat → Nat) : ∀ k, fP pool N C k = true → k < N := fun _ hk => ((fP_iff ..).1 hk).2.1
theorem tkr_some {F : Nat → Bool} {hi o o' i x : Nat} (dom : ∀ k, F k = true → k < hi) (h : tkB F hi o o' i = true) (hx : x = i * 2 ^ o') : TkR F o (some x) := ⟨o', i, tk_of dom h, hx⟩
def tC1 : Nat → Nat := gotC (fun _ => 0) (some 0) 1
def tC2 : Nat → Nat := gotC tC1 (some 1) 1
def tC3 : Nat → Nat := gotC tC2 none 1
def tC4 : Nat → Nat := gotC tC3 (some 2) 1
def tC5 : Nat → Nat := refC tC4 2
def tC6 : Nat → Nat := gotC tC5 none 512
theorem t_one : TkR (fT 2 (fun _ => 0)) 0 (some 0) := tkr_some (hi := 2) (o' := 1) (i := 0) (fT_dom _ _) (by decide +kernel) rfl
theorem t_two : TkR (fT 2 tC1) 0 (some 1) := tkr_some (hi := 2) (o' := 0) (i := 1) (fT_dom _ _) (by decide +kernel) rfl
theorem t_three : TkR (fT 2 tC2) 0 none := no_of (hi := 2) (fT_dom _ _) (by decide +kernel)
theorem t_four : TkR (fP 2 6 tC3) 0 (some 2) := tkr_some (hi := 6) (o' := 1) (i := 1) (fP_dom _ _ _) (by decide +kernel) rfl
theorem t_five : TkR (fP 2 6 tC5) 9 none := no_of (hi := 6) (fP_dom _ _ _) (by decide +kernel)
theorem t_rest : refN tC4 2 = 2 ∧ refE tC4 2 = 0 ∧ cnt (fP 2 6 tC5) 6 = 3 ∧ cnt (fT 2 tC5) 2 = 0 ∧ cI tC6 2 = 2 ∧ cI tC6 9 = 0 := by decide +kernel
theorem eql_mem (pm : Nat) (w : World) : (binOp .eql 23 (.pointer (some ⟨pm, 0, none⟩)) (.pointer (some ⟨pm, 0, none⟩))).run Tryz.prog w = .ok (.bool true) w := by
  obtain ⟨i, hi⟩ : ∃ i, Tryz.prog.info? 110 = some i := Option.isSome_iff_exists.1 (by kernel_rfl)
  exact run_eql_ptr_same w _ Tryz.underlying23 hi
end Go.Proofs.YtanlcmdnhhdhaaaGreatDoor
