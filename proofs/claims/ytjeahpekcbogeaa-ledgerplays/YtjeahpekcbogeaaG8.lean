/- ledger: List. -/
import Derived.Test.YtjeahpekcbogeaaG7
namespace Go.Proofs.Ytjeahpekcbogeaa
open Go.RowKit Go.Maps

variable {w w' : World} {p bm N : Nat} {E : Int → Int × Int}
theorem LI.kp_of {b : Nat} {v : Value} {L : List Int} {W : World} (h : LI w b v L) (k : Fr (fun g => v.ownBlock = some g) w w') (hb : W.heap.size ≤ b) (kW : Kp W w) : Kp W w' :=
  k.kp kW (fun i hi => Nat.le_trans hb (h.up i hi).1)
/-- What is free. -/
def ff (E : Int → Int × Int) : Int → Bool := fun x => !nf E x
theorem fl_succ_on {F : Int → Bool} {k : Nat} (h : F (k : Int) = true) : fl F (k + 1) = fl F k ++ [(k : Int)] := by rw [fl, h]; rfl
theorem fl_succ_off {F : Int → Bool} {k : Nat} (h : F (k : Int) = false) : fl F (k + 1) = fl F k := by rw [fl, h]; simp

set_option maxHeartbeats 2000000 in
set_option maxRecDepth 100000 in
theorem llfree_any (h : LG w p bm N E) (pt : Int) :
    Calls Try.prog 28 #[.pointer (some ⟨p, 0, none⟩), .int .i64 pt] w fun e w' => (∃ v, e = .returned v ∧ IL w' v (lsE E N 0 pt)) ∧ Kp w w' := by
  have cI := is_any 0 0 0 pt w
  have HH : Hid (LG w p bm N E) := h
  have n2 := h.n2
  cases hb : isN (0, 0) 0 pt
  · rw [h.me.ok.free_no hb]
    rw [hb] at cI
    clear h hb
    go_enter Try.func28, Try.ntmps28
    go_wp2_with (first | (go_at_call 27; with_reducible refine cI.mono ?_; rintro e w1 ⟨rfl, K1⟩))
    go_ret
    exact ⟨⟨_, rfl, IL.nil _⟩, K1⟩
  · have HE : Hid (lsE E N 0 pt = fl (ff E) N) := by
      show lsE E N 0 pt = _
      unfold lsE
      rw [h.me.ok.free_yes hb]
      rfl
    rw [hb] at cI
    have N2 : Hid (N ≤ 1048576) := n2
    clear h hb n2
    go_enter Try.func28, Try.ntmps28
    go_wp2_with (first | (go_at_call 27; with_reducible refine cI.mono ?_; rintro e w1 ⟨rfl, K1⟩; have c0 := (HH.out.kp K1).c0))
    have HK : Hid (Kp w w1) := K1
    clear K1 c0
    go_loopg [5, 16] (N + 1) (fun g v5 v16 wr => ∃ (k : Nat), v16 = .int .i64 (k : Int) ∧ k ≤ N ∧ N + 1 - k ≤ g ∧ Hid (LI wr w.heap.size v5 (fl (ff E) k) ∧ Kp w wr))
    case atStart => exact ⟨0, rfl, by omega, by omega, LI.nil _ _, HK.out⟩
    case round =>
      obtain ⟨k, rfl, hk, hg, HL⟩ := hrel
      have y1 : (k : Int) ≤ N := by omega
      by_cases e : k < N
      · have z1 : (k : Int) < N := by omega
        have z2 : (k : Int) ≤ 2000000 := by have := N2.out; omega
        have cG := lget_any (HH.out.kp HL.out.2) (k : Int) (WalkArith.wf_i64 (by omega))
        obtain ⟨s, q, he⟩ : ∃ s q, E (k : Int) = (s, q) := ⟨_, _, rfl⟩
        rw [he] at cG
        unfold entV at cG
        simp only at cG
        have f0 := fld0 s q
        by_cases hs : s = 0
        · subst hs
          have HF : Hid (ff E (k : Int) = true) := by show (!nf E (k : Int)) = true; unfold nf; rw [he]; rfl
          clear he
          go_wp2_with fail
          with_reducible refine cG.mono ?_
          rintro e w1 ⟨rfl, K1⟩
          have K2 : Kp w w1 := HL.out.2.trans K1
          have hlen := fl_le (ff E) k
          obtain ⟨v', w2, r1, r2, r3⟩ := (HL.out.1.kp K1).snoc K2.size (k : Int) (by omega)
          have HL2 : Hid (LI w2 w.heap.size v' (fl (ff E) (k + 1)) ∧ Kp w w2) := ⟨by rw [fl_succ_on (F := ff E) HF.out]; exact r2, (HL.out.1.kp K1).kp_of r3 (Nat.le_refl _) K2⟩
          clear HL r2 r3 cG K1 K2 HF hlen
          repeat' (first | ((with_reducible refine wp_append_of r1 (.tmp 24) (.tmp 26) ?_ ?_ ?_ ?_ ?_); rfl; rfl; rfl; rfl) | go_values | go_skip | go_guarded | go_step | go_upon | go_back | (simp only []) | (go_values <;> (try go_simp)) | (go_ite <;> go_prune <;> (try go_simp)))
          go_roundg (N + 1 - (k + 1))
          case measure => omega
          case rel => exact ⟨k + 1, by go_num, by omega, by omega, HL2⟩
        · have HF : Hid (ff E (k : Int) = false) := by show (!nf E (k : Int)) = false; unfold nf; rw [he, decide_eq_true hs]; rfl
          have y : (s == 0) = false := by simpa using hs
          clear he
          go_wp2_with (first | (go_at_call 14; with_reducible refine cG.mono ?_; rintro e w1 ⟨rfl, K1⟩))
          have HL2 : Hid (LI w1 w.heap.size u5 (fl (ff E) (k + 1)) ∧ Kp w w1) := ⟨by rw [fl_succ_off (F := ff E) HF.out]; exact HL.out.1.kp K1, HL.out.2.trans K1⟩
          clear HL cG K1 HF
          go_roundg (N + 1 - (k + 1))
          case measure => omega
          case rel => exact ⟨k + 1, by go_num, by omega, by omega, HL2⟩
      · have ek : k = N := by omega
        subst ek
        go_wp2_with fail
        go_ret
        refine ⟨⟨_, rfl, ?_⟩, HL.out.2⟩
        rw [HE.out]
        exact HL.out.1.il

set_option maxHeartbeats 2000000 in
theorem llist_any (h : LG w p bm N E) (st pt : Int) :
    Calls Try.prog 19 #[.pointer (some ⟨p, 0, none⟩), .int .i64 st, .int .i64 pt] w fun e w' => (∃ v, e = .returned v ∧ IL w' v (lsE E N st pt)) ∧ Kp w w' := by
  by_cases hs : st = 0
  · subst hs
    have cF := llfree_any h pt
    clear h
    go_enter Try.func19, Try.ntmps19
    go_wp2_with (first | (go_at_call 28; with_reducible refine cF.mono ?_; rintro e w1 ⟨⟨v, rfl, I1⟩, K1⟩))
    go_ret
    exact ⟨⟨_, rfl, I1⟩, K1⟩
  · have HH : Hid (LG w p bm N E) := h
    have HS : Hid (st ≠ 0) := hs
    have c1 := h.c1
    have y : (st == 0) = false := by simpa using hs
    have n2 := h.n2
    have y2 : (N : Int) ≤ 1048576 := by omega
    clear h hs
    go_enter Try.func19, Try.ntmps19
    go_wp2_with (first | (at_range; refine wp_range_me HH.out.me _ rfl rfl rfl ?_; intro w0 k0 R0 hk0 K0 hs0))
    go_frame
    have HR : Hid (RG w0 bm w.heap.size N E (nf E) k0 ∧ Kp w w0 ∧ w0.heap.size = w.heap.size + 1) := ⟨R0, K0, hs0⟩
    clear R0 K0 hs0 c1
    go_loopg [7] (N + 1) (fun g v7 wr => ∃ (c : Nat) (left : Int → Bool) (L : List Int), c < g ∧ Hid (RG wr bm w.heap.size N E left c ∧ Kp w wr ∧ (∀ x, left x = true → nf E x = true) ∧ L.Perm (fl (met E st pt left) N) ∧ LI wr (w.heap.size + 1) v7 L))
    case atStart => exact ⟨k0, nf E, [], by omega, HR.out.1, HR.out.2.1, fun _ h => h, by rw [met_start HS.out], LI.nil _ _⟩
    case round =>
      obtain ⟨c, left, L, hc, HL⟩ := hrel
      go_wp2_with (first | (at_next; refine wp_next_me HL.out.1 _ rfl rfl rfl ?_ ?_))
      · intro hl
        have hp := HL.out.2.2.2.1
        rw [met_end hl] at hp
        have hlen := hp.length_eq
        have hle := lsE_le E N st pt
        have cS := sort_any HL.out.2.2.2.2 (by omega)
        rw [sort_fl (show L.Perm (fl (fun x => isN (E x) st pt) N) from hp)] at cS
        have HK : Hid (Kp w wr ∧ LI wr (w.heap.size + 1) u7 L) := ⟨HL.out.2.1, HL.out.2.2.2.2⟩
        clear HL hl hp hlen hle
        go_wp2_with (first | (go_at_call 29; with_reducible refine cS.mono ?_; rintro e w1 ⟨rfl, I1, F1⟩))
        go_ret
        exact ⟨⟨_, rfl, I1⟩, HK.out.2.kp_of F1 (Nat.le_succ _) HK.out.1⟩
      · intro x s q w1 c1 he hl R1 hc1 F1 hen
        have cI := is_any s q st pt
        have hnf := HL.out.2.2.1 x hl
        have hd := HH.out.me.ok.dom x (of_decide_eq_true hnf)
        have K1 : Kp w w1 := F1.kp HL.out.2.1 (fun i hi => by rw [hi]; exact Nat.le_refl _)
        have L1 : LI w1 (w.heap.size + 1) u7 L := HL.out.2.2.2.2.fr F1 (fun g hg _ e => by omega)
        have HL2 : ∀ y, (left y && !decide (y = x)) = true → nf E y = true := fun y hy => HL.out.2.2.1 y (by simp at hy; exact hy.1)
        cases hb : isN (s, q) st pt
        · have HN : Hid (RG w1 bm w.heap.size N E (fun y => left y && !decide (y = x)) c1 ∧ Kp w w1 ∧ (∀ y, (left y && !decide (y = x)) = true → nf E y = true) ∧ L.Perm (fl (met E st pt (fun y => left y && !decide (y = x))) N) ∧ LI w1 (w.heap.size + 1) u7 L) := ⟨R1, K1, HL2, by rw [met_off (by rw [he]; exact hb)]; exact HL.out.2.2.2.1, L1⟩
          rw [hb] at cI
          clear HL R1 F1 K1 HL2 he hl hb hnf hd L1
          go_wp2_with (first | (go_at_call 27; with_reducible refine (cI _).mono ?_; rintro e w2 ⟨rfl, K2⟩))
          have K3 : Kp w1 w2 := ((Kp.refl w1).alloc _).trans K2
          have HN2 : Hid (RG w2 bm w.heap.size N E (fun y => left y && !decide (y = x)) c1 ∧ Kp w w2 ∧ (∀ y, (left y && !decide (y = x)) = true → nf E y = true) ∧ L.Perm (fl (met E st pt (fun y => left y && !decide (y = x))) N) ∧ LI w2 (w.heap.size + 1) u7 L) := ⟨HN.out.1.kp K3, HN.out.2.1.trans K3, HN.out.2.2.1, HN.out.2.2.2.1, HN.out.2.2.2.2.kp K3⟩
          clear HN K3 K2 hen
          go_roundg (c1 + 1)
          case measure => omega
          case rel => exact ⟨c1, _, L, by omega, HN2⟩
        · have hp := met_on (E := E) (st := st) (pt := pt) (N := N) (left := left) (by rw [he]; exact hb) hl hd.1 hd.2
          have hle := fl_le (met E st pt left) N
          have hlen := HL.out.2.2.2.1.length_eq
          have HN : Hid (RG w1 bm w.heap.size N E (fun y => left y && !decide (y = x)) c1 ∧ Kp w w1 ∧ (∀ y, (left y && !decide (y = x)) = true → nf E y = true) ∧ (L ++ [x]).Perm (fl (met E st pt (fun y => left y && !decide (y = x))) N) ∧ LI w1 (w.heap.size + 1) u7 L ∧ w.heap.size + 1 ≤ w1.heap.size ∧ L.length ≤ 2000000) := ⟨R1, K1, HL2, (HL.out.2.2.2.1.append_right [x]).trans hp.symm, L1, R1.lt, by omega⟩
          rw [hb] at cI
          clear HL R1 F1 K1 HL2 he hl hb hnf hd hp hle L1 hlen
          go_wp2_with fail
          with_reducible refine (cI _).mono ?_
          rintro e w2 ⟨rfl, K2⟩
          have K3 : Kp w1 w2 := ((Kp.refl w1).alloc _).trans K2
          obtain ⟨v', w3, r1, r2, r3⟩ := (HN.out.2.2.2.2.1.kp K3).snoc (Nat.le_trans HN.out.2.2.2.2.2.1 K3.size) x HN.out.2.2.2.2.2.2
          have F3 : Fr (fun g => u7.ownBlock = some g) w2 w3 := r3
          have ne : ∀ g, u7.ownBlock = some g → w.heap.size + 1 ≤ g := fun g hg => (HN.out.2.2.2.2.1.up g hg).1
          have Rw : RG w3 bm w.heap.size N E (fun y => left y && !decide (y = x)) c1 := by
            obtain ⟨D, lf, q1, q2⟩ := HN.out.1.kp K3
            have hbm : bm < w.heap.size := HH.out.me.lt
            have hg : w2.grownBy w3 u7.ownBlock := ⟨F3.os, F3.tape, F3.output, F3.size, fun i hi hne => F3.block i hi (fun e => hne e.symm)⟩
            exact ⟨D, lf, q1.kept hg (fun e => by have := ne bm e.symm; omega) (fun e => by have := ne _ e.symm; omega), q2⟩
          have HN2 : Hid (RG w3 bm w.heap.size N E (fun y => left y && !decide (y = x)) c1 ∧ Kp w w3 ∧ (∀ y, (left y && !decide (y = x)) = true → nf E y = true) ∧ (L ++ [x]).Perm (fl (met E st pt (fun y => left y && !decide (y = x))) N) ∧ LI w3 (w.heap.size + 1) v' (L ++ [x])) := ⟨Rw, (HN.out.2.2.2.2.1.kp K3).kp_of F3 (Nat.le_succ _) (HN.out.2.1.trans K3), HN.out.2.2.1, HN.out.2.2.2.1, r2⟩
          clear HN K3 K2 hen Rw F3 r2 r3 ne cI
          repeat' (first | ((with_reducible refine wp_append_of r1 (.tmp 29) (.tmp 31) ?_ ?_ ?_ ?_ ?_); rfl; rfl; rfl; rfl) | go_values | go_skip | go_guarded | go_step | go_upon | go_back | (simp only []) | (go_values <;> (try go_simp)) | (go_ite <;> go_prune <;> (try go_simp)))
          go_roundg (c1 + 1)
          case measure => omega
          case rel => exact ⟨c1, _, _, by omega, HN2⟩

end Go.Proofs.Ytjeahpekcbogeaa
