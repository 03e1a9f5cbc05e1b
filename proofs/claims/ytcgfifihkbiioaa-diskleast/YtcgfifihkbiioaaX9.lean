/- DiskLeast: the walk. -/
import Derived.Test.YtcgfifihkbiioaaX8
namespace Go.Proofs.Ytcgfifihkbiioaa
open Go.RowKit Go.Maps

set_option maxHeartbeats 16000000 in
set_option maxRecDepth 100000 in
theorem least_walk (n0 : Int) (m r n : Nat) (nc : Option Addr) (mc capc : Nat) (fc : Nat → Int) (w : World) (C : NSK .i64 w nc mc fc)
    (e1 : bits .and .i64 n0 63 = (m : Int)) (e2 : (m : Int).tmod 40 = (r : Int)) (e3 : 1 + (r : Int) = (n : Int)) (h1 : 1 ≤ n) (h2 : n ≤ 40) :
    Calls Try.prog 5 #[.int .i64 n0, .slice nc mc capc] w fun e w' => e = .returned (.bool true) ∧ Kp w w' := by
  have k1 := dd_new n w (by omega)
  have CC : Aside (NSK .i64 w nc mc fc) := C
  have z1 : (n : Int) ≤ 40 := by omega
  have z0' : (1 : Int) ≤ n := by omega
  have zn : ¬ (n : Int) = 0 := by omega
  clear C
  go_enter Try.func5, Try.ntmps5
  go_wp2_with fail
  with_reducible refine k1.mono ?_
  rintro e w1 ⟨p, rfl, P1, K1⟩
  clear k1 e1 e2 e3
  have hmk := make_page w1
  obtain ⟨b, hb⟩ : ∃ b, b = w1.heap.size := ⟨_, rfl⟩
  obtain ⟨w2, h4⟩ : ∃ w2, w2 = w1.alloc (.cells (bytesOf z0 4096).toArray 5) := ⟨_, rfl⟩
  have k12 : Kp w1 w2 := by rw [h4]; exact (Kp.refl w1).alloc _
  have bs : BS w2 b 0 4096 z0 := by rw [h4, hb]; exact (RB.made w1 4096).bs z0_byte
  have c5 := bs.cell 5 (by omega)
  have f5 := bs.frz 5 (by omega)
  have b3 := bs.set 5 9 (by omega) (by omega)
  rw [Nat.zero_add] at c5 f5 b3
  have k23 : Fr (· = b) w2 (w2.setCell ⟨b, 5, none⟩ (.int .u8 (9 : Nat))) := (Fr.refl _ w2).set _ _ rfl
  have P2 : DU (Bes w b) w2 p n (fun _ => none) [] := (P1.cut (fun i hi h => ⟨h, by omega⟩)).kp k12
  have P3 := P2.out k23 (fun i hi e => hi.2 e)
  have K3 : Kp w (w2.setCell ⟨b, 5, none⟩ (.int .u8 (9 : Nat))) := k23.kp (K1.trans k12) (fun i hi => by rw [hi, hb]; exact K1.size)
  rw [show (((9 : Nat)) : Int) = 9 from rfl] at P3 K3 b3
  obtain ⟨w3, h5⟩ : ∃ w3, w3 = w2.setCell ⟨b, 5, none⟩ (.int .u8 9) := ⟨_, rfl⟩
  rw [← h5] at P3 K3 b3
  have hmm := make_marks n w3 (by omega)
  obtain ⟨bo, hbo⟩ : ∃ bo, bo = w3.heap.size := ⟨_, rfl⟩
  obtain ⟨w4, h6⟩ : ∃ w4, w4 = w3.alloc (.cells (marksOf (List.replicate n false)).toArray 4) := ⟨_, rfl⟩
  have k34 : Kp w3 w4 := by rw [h6]; exact (Kp.refl w3).alloc _
  have on4 : ON w4 bo n (fun _ => false) := by rw [h6, hbo]; exact ON.made w3 n
  have hwb : w.heap.size ≤ b := by rw [hb]; exact K1.size
  have I0 : Hid (LI w w4 p b bo n (fun _ => none)) := ⟨(P3.cut (fun i hi h => ⟨h.1, h.2, by omega⟩)).kp k34, K3.trans k34, b3.kp k34, on4, hwb, by rw [hbo]; exact K3.size, by have := b3.lt; omega⟩
  rw [← h6, ← hbo, h5] at hmm
  rw [← h4, ← hb] at hmk
  clear P1 K1 k12 bs b3 k23 P2 P3 K3 k34 on4 hwb hb h4 h5 h6 hbo
  generalize (bytesOf z0 4096).toArray = ZA at *
  generalize z0 5 = z at *
  go_wp2_with fail
  clear hmm hmk c5 f5
  go_loopg [9] (n + 1) (fun g v9 wr => ∃ (i : Nat) (T : Slots), v9 = .int .i64 (i : Int) ∧ i ≤ n ∧ n + 1 - i ≤ g ∧ Hid (LI w wr p b bo n T ∧ ∀ x, (T x).isSome = decide (x < i)))
  case atStart => exact ⟨0, _, rfl, by omega, by omega, ⟨I0.out, fun x => by simp⟩⟩
  case round =>
    clear I0
    obtain ⟨i, T, rfl, hi, hg, HI⟩ := hrel
    by_cases hlt : i < n
    · have y1 : (i : Int) < n := by omega
      have hTi : T i = none := by have := HI.out.2 i; simpa using this
      have hTn := tkn_ne hTi hlt
      have hl : lst T n = i := lst_eq (fun x hx => by rw [HI.out.2 x]; exact decide_eq_true hx) hTi hlt
      have k5 : Calls Try.prog 9 #[.pointer (some ⟨p, 0, none⟩)] wr fun e w' => e = .returned (.tuple #[.int .i64 (i : Int), .int .i64 0]) ∧ DU (Bes2 w b bo) w' p n (putT T i z0) [] ∧ Fr (Bes2 w b bo) wr w' := by
        have := dd_take HI.out.1.du HI.out.1.free
        rw [show tkX n T = i by unfold tkX; rw [if_neg hTn, hl], show tkR n T = 0 from if_neg hTn, show tkT n T = putT T i z0 by unfold tkT; rw [if_neg hTn, hl]] at this
        exact this
      have HT : Hid (T i = none) := hTi
      clear hTi hTn hl
      go_wp2_with fail
      with_reducible refine k5.mono ?_
      rintro e w5 ⟨rfl, P5, F5⟩
      clear k5
      have hhas : hasT (putT T i z0) (i : Int) = true := by rw [hasT_nat, putT_same]; rfl
      have b5 := HI.out.1.bs.fr F5 (fun h => h.2.1 rfl)
      have k6 : Calls Try.prog 14 #[.pointer (some ⟨p, 0, none⟩), .int .i64 (i : Int), .slice (some ⟨b, 0, none⟩) 4096 4096] w5 fun e w' => e = .returned (.int .i64 0) ∧ DU (Bes2 w b bo) w' p n (putT (putT T i z0) i p9) [] ∧ Fr (Bes2 w b bo) w5 w' := by
        have := dd_write P5 (i : Int) (wf_small (by omega)) (some ⟨b, 0, none⟩) 4096 4096 p9 b5.byte (fun _ => ⟨b, 0, rfl, b5.lt, fun h => h.2.1 rfl, b5.cells⟩)
        rw [show wrR (putT T i z0) [] (i : Int) 4096 = 0 by unfold wrR; rw [if_pos hhas]; rfl, show wrT (putT T i z0) [] (i : Int) 4096 p9 = putT (putT T i z0) i p9 by unfold wrT; rw [if_pos ⟨hhas, rfl, rfl⟩, Int.toNat_natCast], show wrA (putT T i z0) [] (i : Int) 4096 = [] by unfold wrA; rw [if_pos ⟨hhas, rfl⟩]; rfl] at this
        exact this
      have F5h : Hid (Fr (Bes2 w b bo) wr w5) := F5
      clear P5 b5 hhas F5
      go_wp2_with fail
      with_reducible refine k6.mono ?_
      rintro e w6 ⟨rfl, P6, F6⟩
      clear k6
      have on6 := HI.out.1.on.fr (F5h.out.trans F6) (fun h => h.2.2 rfl)
      have co := on6.cell i hlt
      have cf := on6.frz i
      have H7 : Hid (LI w (w6.setCell ⟨bo, i, none⟩ (.bool true)) p b bo n (putT (putT T i z0) i p9) ∧ ∀ x, (putT (putT T i z0) i p9 x).isSome = decide (x < i + 1)) :=
        ⟨HI.out.1.mark P6 (F5h.out.trans F6) i hlt true (fun y _ => by
          by_cases e : y = i
          · rw [if_pos e, e, putT_same]; rfl
          · rw [if_neg e, putT_other _ _ _ _ e, putT_other _ _ _ _ e]), fun x => by
          by_cases e : x = i
          · rw [e, putT_same, decide_eq_true (by omega)]; rfl
          · rw [putT_other _ _ _ _ e, putT_other _ _ _ _ e, HI.out.2 x]
            by_cases d : x < i
            · rw [decide_eq_true d, decide_eq_true (by omega)]
            · rw [decide_eq_false d, decide_eq_false (by omega)]⟩
      rw [HT.out] at co
      clear P6 F6 F5h on6 HI HT
      go_wp2
      go_roundg (n + 1 - (i + 1))
      case measure => omega
      case rel => exact ⟨i + 1, _, by go_num, by omega, by omega, H7⟩
    · have y1 : ¬ (i : Int) < n := by omega
      have HI2 : Hid (LI w wr p b bo n T) := HI.out.1
      clear HI
      go_wp2_with fail
      go_loopg [12] 41 (fun g v12 wr => ∃ (i : Nat) (T : Slots), v12 = .int .i64 (i : Int) ∧ i ≤ 40 ∧ 41 - i ≤ g ∧ Hid (LI w wr p b bo n T))
      case atStart => exact ⟨0, T, rfl, by omega, by omega, HI2⟩
      case round =>
        clear HI2 y1 hi hg hlt
        obtain ⟨i, T, rfl, hi, hg, HI⟩ := hrel
        by_cases hlt : i < mc ∧ i < 40
        · have y1 : (i : Int) < mc := by omega
          have y2 : (i : Int) < 40 := by omega
          obtain ⟨⟨cb, co, rfl, q1, q2⟩, q3⟩ := CC.out i hlt.1
          have cc := (HI.out.kp.cell (p := ⟨cb, co + i, none⟩) q1).trans q2
          obtain ⟨t, s, g1, g2, g3, g4, g5⟩ := place_of (fc i) n h1
          generalize fc i = ci at *
          have y3 : (s : Int) < n := by omega
          have cO := HI.out.on.cell s g5
          have fO := HI.out.on.frz s
          have kd : Kp wr wr.drew := (Kp.refl wr).drew
          have HId : Hid (LI w wr.drew p b bo n T) := ⟨HI.out.du.kp kd, HI.out.kp.trans kd, HI.out.bs.kp kd, HI.out.on.fr (kd.fr (fun _ => False)) id, HI.out.ub, HI.out.uo, HI.out.ne⟩
          have k5 := dd_give HId.out.du (s : Int) (wf_small (by omega))
          have KS : Aside (∀ w', Fr (Bes2 w b bo) wr.drew w' → w'.cell? ⟨bo, s, none⟩ = some (.bool (T s).isSome)) := fun w' k => (HId.out.on.fr k (fun h => h.2.2 rfl)).cell s g5
          have hgv : gvR T (s : Int) = if (T s).isSome then 0 else 23 := by unfold gvR; rw [hasT_nat]
          have hgt : ∀ y, (gvT T (s : Int) y).isSome = if y = s then false else (T y).isSome := fun y => by
            unfold gvT
            rw [hasT_nat, Int.toNat_natCast]
            by_cases e : y = s
            · rw [if_pos e, e]
              cases hv : (T s).isSome
              · rw [if_neg (by decide)]; exact hv
              · rw [if_pos rfl, offT_same]; rfl
            · rw [if_neg e]
              split
              · rw [offT_other _ _ _ e]
              · rfl
          have HG : Hid ((∀ y, (gvT T (s : Int) y).isSome = if y = s then false else (T y).isSome) ∧ s < n) := ⟨hgt, g5⟩
          rw [hgv] at k5
          clear hgt hgv q1 q2 q3
          obtain ⟨os, hos⟩ : ∃ os, (T s).isSome = os := ⟨_, rfl⟩
          rw [hos] at cO k5 KS
          have c6 : ∃ rr : Int, (if os = true then (0 : Int) else 23) = rr ∧ (rr == 0) = os := by cases os <;> exact ⟨_, rfl, rfl⟩
          obtain ⟨rr, r1, r2⟩ := c6
          rw [r1] at k5
          clear r1 hos
          go_wp2_with fail
          go_region_held3 (fun w' => w'.cell? ⟨bo, s, none⟩ = some (.bool os))
            (first | go_keep | exact KS.out _ F5)
            (first | (go_at_call 11; refine k5.mono ?_; rintro e w5 ⟨rfl, P5, F5⟩))
          have on5 := HId.out.on.fr F5 (fun h => h.2.2 rfl)
          have c5 := on5.cell s HG.out.2
          have f5 := on5.frz s
          have I5 : Hid (LI w (w5.setCell ⟨bo, s, none⟩ (.bool false)) p b bo n (gvT T (s : Int)) ∧ gvT T (s : Int) s = none) := ⟨HId.out.mark P5 F5 s HG.out.2 false (fun y _ => HG.out.1 y), by have := HG.out.1 s; rw [if_pos rfl] at this; simpa using this⟩
          generalize gvT T (s : Int) = T1 at *
          generalize (T s).isSome = ou at c5
          obtain ⟨q, hq, hq3⟩ : ∃ q : Nat, (i : Int).tmod 3 = (q : Int) ∧ q < 3 := ⟨i % 3, by rw [Int.tmod_eq_emod_of_nonneg (by omega)]; omega, by omega⟩
          have hsn : Hid (s < n) := HG.out.2
          clear P5 F5 on5 HI HId k5 KS HG kd cO fO cc g1 g2 g3 g4 g5
          by_cases hq2 : q < 2
          · have y4 : (q : Int) < 2 := by omega
            have I6 : Hid (LI w (w5.setCell ⟨bo, s, none⟩ (.bool false)) p b bo n T1) := I5.out.1
            clear I5
            go_wp2
            go_roundg (41 - (i + 1))
            case measure => omega
            case rel => exact ⟨i + 1, _, by go_num, by omega, by omega, I6⟩
          · have y4 : ¬ (q : Int) < 2 := by omega
            have hll := lst_lt I5.out.2 hsn.out
            obtain ⟨l, hl⟩ : ∃ l, lst T1 n = l := ⟨_, rfl⟩
            obtain ⟨w6, h6⟩ : ∃ w6, w6 = w5.setCell ⟨bo, s, none⟩ (.bool false) := ⟨_, rfl⟩
            have HL : Hid (lst T1 n = l ∧ LI w w6 p b bo n T1 ∧ l < n ∧ T1 l = none ∧ ∀ x, x < l → (T1 x).isSome = true) := ⟨hl, by rw [h6]; exact I5.out.1, by omega, by rw [← hl]; exact lst_off T1 n hll, fun x hx => lst_on T1 n x (by omega)⟩
            have y6 : (l : Int) < n := by omega
            rw [hl] at hll
            have H6 : Hid (w6 = w5.setCell ⟨bo, s, none⟩ (.bool false)) := h6
            clear h6 hl I5
            go_wp2_with fail
            rw [← H6.out]
            clear H6 c5 f5
            go_loopg [14] (l + 1) (fun g v14 wr => ∃ (k : Nat), v14 = .int .i64 (k : Int) ∧ k ≤ l ∧ l + 1 - k ≤ g ∧ wr = w6)
            case atStart => exact ⟨0, rfl, by omega, by omega, rfl⟩
            case round =>
              obtain ⟨k, rfl, hk, hgk, rfl⟩ := hrel
              have y7 : (k : Int) < n := by omega
              have d1 := HL.out.2.1.on.cell k (by omega)
              by_cases hkl : k < l
              · rw [HL.out.2.2.2.2 k hkl] at d1
                go_wp2
                go_roundg (l + 1 - (k + 1))
                case measure => omega
                case rel => exact ⟨k + 1, by go_num, by omega, by omega, rfl⟩
              · have e : k = l := by omega
                subst e
                rw [HL.out.2.2.2.1] at d1
                have d1' : wr.cell? ⟨bo, k, none⟩ = some (.bool false) := d1
                have hne := tkn_ne HL.out.2.2.2.1 HL.out.2.2.1
                have k5 : Calls Try.prog 9 #[.pointer (some ⟨p, 0, none⟩)] wr fun e w' => e = .returned (.tuple #[.int .i64 (k : Int), .int .i64 0]) ∧ DU (Bes2 w b bo) w' p n (putT T1 k z0) [] ∧ Fr (Bes2 w b bo) wr w' := by
                  have := dd_take HL.out.2.1.du HL.out.2.1.free
                  rw [show tkX n T1 = k by unfold tkX; rw [if_neg hne, HL.out.1], show tkR n T1 = 0 from if_neg hne, show tkT n T1 = putT T1 k z0 by unfold tkT; rw [if_neg hne, HL.out.1]] at this
                  exact this
                clear d1 hne
                go_wp2_with fail
                with_reducible refine k5.mono ?_
                rintro e w7 ⟨rfl, P7, F7⟩
                have hhas : hasT (putT T1 k z0) (k : Int) = true := by rw [hasT_nat, putT_same]; rfl
                have k6 : Calls Try.prog 16 #[.pointer (some ⟨p, 0, none⟩), .int .i64 (k : Int)] w7 fun e w' => ∃ na cap, e = .returned (.tuple #[.slice na 4096 cap, .int .i64 0]) ∧ Told w7 w' na 4096 z0 ∧ DU (Bes2 w b bo) w' p n (putT T1 k z0) [] ∧ Fr (Bes2 w b bo) w7 w' := by
                  have := dd_read P7 (k : Int) (wf_small (by omega))
                  rw [show rdN (putT T1 k z0) [] (k : Int) = 4096 by unfold rdN; rw [if_pos ⟨hhas, rfl⟩], show rdR (putT T1 k z0) [] (k : Int) = 0 by unfold rdR; rw [if_pos hhas]; rfl, show rdA (putT T1 k z0) [] (k : Int) = [] by unfold rdA; rw [if_pos hhas]; rfl, show rdF (putT T1 k z0) (k : Int) = z0 by unfold rdF; rw [Int.toNat_natCast, putT_same]; rfl] at this
                  exact this
                have F7h : Hid (Fr (Bes2 w b bo) wr w7) := F7
                clear P7 F7 hhas k5 d1'
                go_wp2_with fail
                with_reducible refine k6.mono ?_
                rintro e w8 ⟨na8, cap8, rfl, T8, P8, F8⟩
                obtain ⟨b8, rfl, _, q8⟩ := T8.2 (by omega)
                have d8 := q8.cell 5 (by omega)
                rw [Nat.zero_add] at d8
                have d8' : w8.cell? ⟨b8, 5, none⟩ = some (.int .u8 0) := d8
                have F9 := F7h.out.trans F8
                have on8 := HL.out.2.1.on.fr F9 (fun h => h.2.2 rfl)
                have c8 := on8.cell k HL.out.2.2.1
                have f8 := on8.frz k
                have I8 : Hid (LI w (w8.setCell ⟨bo, k, none⟩ (.bool true)) p b bo n (putT T1 k z0)) := HL.out.2.1.mark P8 F9 k HL.out.2.2.1 true (fun y _ => by
                  by_cases e : y = k
                  · rw [if_pos e, e, putT_same]; rfl
                  · rw [if_neg e, putT_other _ _ _ _ e])
                generalize (T1 k).isSome = ov at c8
                clear T8 P8 F8 q8 d8 F9 on8 F7h k6 HL
                go_wp2
                go_roundg (41 - (i + 1))
                case measure => omega
                case rel => exact ⟨i + 1, _, by go_num, by omega, by omega, I8⟩
        · have NLT : Hid (¬ (i < mc ∧ i < 40)) := hlt
          clear hlt
          by_cases hlt : (i : Int) < mc
          · have y2 : ¬ (i : Int) < 40 := by have := NLT.out; omega
            go_wp2_with fail
            go_loopg [19, 20] (n + 1) (fun g v19 v20 wq => ∃ (j : Nat), v19 = .int .i64 ((j : Int) - (tkn T j : Nat)) ∧ v20 = .int .i64 (j : Int) ∧ j ≤ n ∧ n + 1 - j ≤ g ∧ wq = wr)
            case atStart => exact ⟨0, by rw [tkn]; rfl, rfl, by omega, by omega, rfl⟩
            case round =>
              obtain ⟨j, rfl, rfl, hj, hgj, rfl⟩ := hrel
              have hle := tkn_le T j
              by_cases hjn : j < n
              · have y7 : (j : Int) < n := by omega
                have d1 := HI.out.on.cell j hjn
                obtain ⟨fr, hfr⟩ : ∃ fr : Nat, (j : Int) - (tkn T j : Nat) = (fr : Int) := ⟨j - tkn T j, by omega⟩
                have y8 : (fr : Int) ≤ 40 := by omega
                cases hv : (T j).isSome
                · have hs := sub_tkn' T j hv
                  rw [hv] at d1
                  rw [hfr] at hs
                  have HS : Hid (((j : Int) + 1) - (tkn T (j + 1) : Nat) = (fr : Int) + 1) := hs
                  clear hs hv hle
                  rw [hfr]
                  clear hfr
                  go_wp2
                  go_roundg (n + 1 - (j + 1))
                  case measure => omega
                  case rel => exact ⟨j + 1, by rw [show ((j + 1 : Nat) : Int) = (j : Int) + 1 by omega, HS.out], by go_num, by omega, by omega, rfl⟩
                · have hs := sub_tkn T j hv
                  rw [hv] at d1
                  rw [hfr] at hs
                  have HS : Hid (((j : Int) + 1) - (tkn T (j + 1) : Nat) = (fr : Int)) := hs
                  clear hs hv hle
                  rw [hfr]
                  clear hfr
                  go_wp2
                  go_roundg (n + 1 - (j + 1))
                  case measure => omega
                  case rel => exact ⟨j + 1, by rw [show ((j + 1 : Nat) : Int) = (j : Int) + 1 by omega, HS.out], by go_num, by omega, by omega, rfl⟩
              · have e : j = n := by omega
                subst e
                have y7 : ¬ (j : Int) < j := by omega
                have FIN : Aside (∀ w9, Kp wr w9 → Calls Try.prog 20 #[.pointer (some ⟨p, 0, none⟩)] w9 fun e w' => e = .returned (.int .i64 ((j : Int) - (tkn T j : Nat))) ∧ Kp w w') := fun w9 k9 => (dd_free (HI.out.du.kp k9)).mono fun e w' ⟨e1, d⟩ => ⟨e1, (HI.out.kp.trans k9).trans d.kp⟩
                generalize (j : Int) - (tkn T j : Nat) = fr at *
                go_wp2_with fail
                with_reducible refine (told_any _).mono ?_
                rintro e w9 ⟨rfl, K9⟩
                have k10 := FIN.out w9 K9
                clear K9
                go_wp2_with fail
                with_reducible refine k10.mono ?_
                rintro e w10 ⟨rfl, K10⟩
                have HK10 : Hid (Kp w w10) := K10
                clear K10 k10
                go_wp2
                go_ret
                exact ⟨rfl, HK10.out⟩
          · go_wp2_with fail
            go_loopg [19, 20] (n + 1) (fun g v19 v20 wq => ∃ (j : Nat), v19 = .int .i64 ((j : Int) - (tkn T j : Nat)) ∧ v20 = .int .i64 (j : Int) ∧ j ≤ n ∧ n + 1 - j ≤ g ∧ wq = wr)
            case atStart => exact ⟨0, by rw [tkn]; rfl, rfl, by omega, by omega, rfl⟩
            case round =>
              obtain ⟨j, rfl, rfl, hj, hgj, rfl⟩ := hrel
              have hle := tkn_le T j
              by_cases hjn : j < n
              · have y7 : (j : Int) < n := by omega
                have d1 := HI.out.on.cell j hjn
                obtain ⟨fr, hfr⟩ : ∃ fr : Nat, (j : Int) - (tkn T j : Nat) = (fr : Int) := ⟨j - tkn T j, by omega⟩
                have y8 : (fr : Int) ≤ 40 := by omega
                cases hv : (T j).isSome
                · have hs := sub_tkn' T j hv
                  rw [hv] at d1
                  rw [hfr] at hs
                  have HS : Hid (((j : Int) + 1) - (tkn T (j + 1) : Nat) = (fr : Int) + 1) := hs
                  clear hs hv hle
                  rw [hfr]
                  clear hfr
                  go_wp2
                  go_roundg (n + 1 - (j + 1))
                  case measure => omega
                  case rel => exact ⟨j + 1, by rw [show ((j + 1 : Nat) : Int) = (j : Int) + 1 by omega, HS.out], by go_num, by omega, by omega, rfl⟩
                · have hs := sub_tkn T j hv
                  rw [hv] at d1
                  rw [hfr] at hs
                  have HS : Hid (((j : Int) + 1) - (tkn T (j + 1) : Nat) = (fr : Int)) := hs
                  clear hs hv hle
                  rw [hfr]
                  clear hfr
                  go_wp2
                  go_roundg (n + 1 - (j + 1))
                  case measure => omega
                  case rel => exact ⟨j + 1, by rw [show ((j + 1 : Nat) : Int) = (j : Int) + 1 by omega, HS.out], by go_num, by omega, by omega, rfl⟩
              · have e : j = n := by omega
                subst e
                have y7 : ¬ (j : Int) < j := by omega
                have FIN : Aside (∀ w9, Kp wr w9 → Calls Try.prog 20 #[.pointer (some ⟨p, 0, none⟩)] w9 fun e w' => e = .returned (.int .i64 ((j : Int) - (tkn T j : Nat))) ∧ Kp w w') := fun w9 k9 => (dd_free (HI.out.du.kp k9)).mono fun e w' ⟨e1, d⟩ => ⟨e1, (HI.out.kp.trans k9).trans d.kp⟩
                generalize (j : Int) - (tkn T j : Nat) = fr at *
                go_wp2_with fail
                with_reducible refine (told_any _).mono ?_
                rintro e w9 ⟨rfl, K9⟩
                have k10 := FIN.out w9 K9
                clear K9
                go_wp2_with fail
                with_reducible refine k10.mono ?_
                rintro e w10 ⟨rfl, K10⟩
                have HK10 : Hid (Kp w w10) := K10
                clear K10 k10
                go_wp2
                go_ret
                exact ⟨rfl, HK10.out⟩

/-- 1 + (n & 63) % 40. -/
theorem few (n0 : Int) : ∃ m r n : Nat, bits .and .i64 n0 63 = (m : Int) ∧ (m : Int).tmod 40 = (r : Int) ∧ 1 + (r : Int) = (n : Int) ∧ 1 ≤ n ∧ n ≤ 40 := by
  obtain ⟨m, e1, l1⟩ := and_lim n0 63 (by omega)
  exact ⟨m, m % 40, 1 + m % 40, e1, by rw [Int.tmod_eq_emod_of_nonneg (by omega)]; omega, by omega, by omega, by omega⟩
theorem least_any (n0 : Int) (nc : Option Addr) (mc capc : Nat) (fc : Nat → Int) (w : World) (C : NSK .i64 w nc mc fc) :
    Calls Try.prog 5 #[.int .i64 n0, .slice nc mc capc] w fun e w' => e = .returned (.bool true) ∧ Kp w w' := by
  obtain ⟨m, r, n, e1, e2, e3, h1, h2⟩ := few n0
  exact least_walk n0 m r n nc mc capc fc w C e1 e2 e3 h1 h2

end Go.Proofs.Ytcgfifihkbiioaa
