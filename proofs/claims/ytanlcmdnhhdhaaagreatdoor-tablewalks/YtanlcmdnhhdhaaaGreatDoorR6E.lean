/- demesnelaw13: TableWalks. -/
import Derived.Test.YtanlcmdnhhdhaaaGreatDoorJ44
import Derived.Test.YtanlcmdnhhdhaaaGreatDoorJ05
import Derived.Deep.CutBlock
import Derived.Deep.DeepCutAuto
namespace Go.Proofs.YtanlcmdnhhdhaaaGreatDoor
open Go.RowKit
set_option maxRecDepth 10000

theorem low12 (u : Nat) (hu : u < 18446744073709551616) : bits .and .u64 (u : Int) 4095 = ((u % 4096 : Nat) : Int) := by
  have h := u64_and_nat u 4095 hu (by decide)
  rwa [show (4095 : Nat) = 2 ^ 12 - 1 from rfl, Nat.and_two_pow_sub_one_eq_mod] at h
set_option maxHeartbeats 16000000 in
theorem walks13_any (na : Option Addr) (mc cap : Nat) (V : Nat → OpV) (at0 : Nat) (w : World) (hO : Steps w na mc V) (hm : mc ≤ maxLen) (hat : at0 < 18446744073709551616) (T : TAB w) :
    Calls Tryz.prog 4 #[.slice na mc cap, .int .u64 (at0 : Int)] w fun e w' => e = .returned (.bool true) ∧ Kp w w' := by
  have k1 := begun_any 64 w T (by omega) (by omega)
  rw [show ((64 : Nat) : Int) = 64 from rfl] at k1
  have q3 : ∀ p (w : World), (binOp .eql 27 (.pointer (some ⟨p, 0, none⟩)) (.pointer none)).run Tryz.prog w = .ok (.bool false) w := fun p w => by kernel_rfl
  have HT : Hid (Steps w na mc V ∧ TAB w) := ⟨hO, T⟩
  have y0 : (mc : Int) ≤ 9223372036854775807 := by unfold maxLen at hm; omega
  obtain ⟨lo, hlo, llo⟩ : ∃ lo : Nat, bits .and .u64 (at0 : Int) 4095 = (lo : Int) ∧ lo < 4096 := ⟨_, low12 at0 hat, Nat.mod_lt _ (by decide)⟩
  have HL : Hid (lo < 4096) := llo
  clear hO hm T hat llo
  go_enter Tryz.func4, Tryz.ntmps4
  go_wp2_with fail
  with_reducible refine k1.mono ?_
  rintro e w1 ⟨pm, p, M, rfl, f1⟩
  obtain ⟨w2, hw2⟩ : ∃ w2, w2 = w1.alloc (.cells #[.pointer (some ⟨pm, 0, none⟩)] 23) := ⟨_, rfl⟩
  have f2 : FW w (fun i => False ∨ i = w1.heap.size) w2 p pm 2100 64 0 M (fun _ => 0) := by rw [hw2]; exact f1.more ((Kp.refl w1).alloc _) _ (Nat.le_refl _) (by simp)
  have R2 : w2.heap[w1.heap.size]? = some (.cells #[.pointer (some ⟨pm, 0, none⟩)] 23 (0, 0)) := by rw [hw2]; exact heap_alloc_new w1 _
  obtain ⟨y, hy⟩ := tk_there (F := fT 64 (fun _ => 0)) (hi := 64) (by rw [cntT_all]; omega)
  have k2 := tnew_ok (Z := fun _ => false) f2 y hy (fun x => ⟨(fun c => by cases c), fun c => absurd rfl c⟩)
  have H2 : Hid (w2.heap[w1.heap.size]? = some (.cells #[.pointer (some ⟨pm, 0, none⟩)] 23 (0, 0)) ∧ w.heap.size ≤ w1.heap.size ∧ cnt (fT 64 (putC (fun _ => 0) y 1)) 64 + 1 = 64) := ⟨R2, f1.kp.size, by have := cnt_take (C := fun _ => 0) hy.free.1 rfl; rw [cntT_all] at this; exact this⟩
  clear k1 f1 f2 hy R2
  go_wp2_with fail
  rw [← hw2]
  generalize w1.heap.size = bm at *
  clear hw2
  with_reducible refine k2.mono ?_
  rintro e w3 ⟨⟨bt, rfl, t3, hbt⟩, r3⟩
  have hbm := (Array.getElem?_eq_some_iff.1 H2.out.1).1
  obtain ⟨w4, hw4⟩ : ∃ w4, w4 = w3.alloc (.cells #[.int .i64 64] 3) := ⟨_, rfl⟩
  have k4 : Kp w3 w4 := by rw [hw4]; exact (Kp.refl w3).alloc _
  have hbf : w4.heap[w3.heap.size]? = some (.cells #[.int .i64 64] 3 (0, 0)) := by rw [hw4]; exact heap_alloc_new w3 _
  have t4 := t3.more k4 w3.heap.size (Nat.le_refl _) (by rw [hw4]; simp)
  have R4 : w4.heap[bm]? = some (.cells #[.pointer (some ⟨pm, 0, none⟩)] 23 (0, 0)) := (k4.block bm (Nat.lt_of_lt_of_le hbm r3.size)).trans ((r3.block bm hbm (fun c => c.2 (.inr rfl))).trans H2.out.1)
  have c4 := rnew_ok hbf (by decide) (by decide)
  rw [show (64 : Int) - 1 = 63 from rfl] at c4
  have H4 : Hid (TS w (fun i => ((False ∨ i = bm) ∨ i = bt) ∨ i = w3.heap.size) w4 bt p pm 2100 64 0 (zerM M y) (putC (fun _ => 0) y 1) (fun _ => false) y eN ∧ w4.heap[bm]? = some (.cells #[.pointer (some ⟨pm, 0, none⟩)] 23 (0, 0)) ∧ w.heap.size ≤ bm ∧ bm < w3.heap.size ∧ bt < w3.heap.size ∧ w.heap.size ≤ bt ∧ w3.heap.size < w4.heap.size ∧ w.heap.size ≤ w3.heap.size) := ⟨t4, R4, H2.out.2.1, Nat.lt_of_lt_of_le hbm r3.size, t3.tx.lt, t3.bw, by rw [hw4]; simp, t3.fw.kp.size⟩
  clear k2 t3 hbt r3 hbm k4 hbf t4 R4 H2
  go_wp2_with fail
  rw [← hw4]
  generalize w3.heap.size = bf at *
  clear hw4
  with_reducible refine c4.mono ?_
  rintro e w5 ⟨⟨br, rfl, rq, hbr⟩, f5⟩
  have I0 : Hid (LWk w w5 bm bt p pm y br bf 0) := by
    obtain ⟨t4, R4, g1, g2, g3, g4, g5, g6⟩ := H4.out
    have t5 : TS w (fun i => (((False ∨ i = bm) ∨ i = bt) ∨ i = bf) ∨ i = br) w5 bt p pm 2100 64 0 (zerM M y) (putC (fun _ => 0) y 1) (fun _ => false) y eN := t4.wide f5 (fun i hi => ⟨by have hi : i = bf := hi; omega, .inr hi⟩) (fun c => by have c : bt = bf := c; omega) (fun i hi => hi.imp id (fun c => by rw [c]; exact ⟨hbr, rq.lt⟩)) (.inl (.inl (.inr rfl)))
    refine ⟨_, _, _, _, .slice none 0 0, [], 63, ⟨t5, NE.made y, rq, fun i hi => ?_⟩, .inl (.inl (.inl (.inr rfl))), (f5.block bm (by omega) (fun c => by have c : bm = bf := c; omega)).trans R4, by simp, rfl, (fun b e => by cases e), by omega, by omega⟩
    rcases hi with hi | hi | hi
    · exact ⟨by omega, .inr hi, by omega⟩
    · exact ⟨by omega, .inl (.inr hi), by omega⟩
    · cases hi
  clear c4 rq hbr f5 H4
  go_upto_block 0 with fail
  go_cut [] (fun wx => Hid (LWk w wx bm bt p pm y br bf 30))
  case first =>
    go_wp2_with fail
    go_loopg [13] 31 (fun gk v13 wr => ∃ (i : Nat), v13 = .int .i64 (i : Int) ∧ i ≤ 30 ∧ 31 - i ≤ gk ∧ Hid (LWk w wr bm bt p pm y br bf i))
    case atStart => exact ⟨0, rfl, by omega, by omega, I0⟩
    case round =>
      clear I0
      obtain ⟨i, rfl, hi, hgk, HI⟩ := hrel
      by_cases hlt : i < mc ∧ i < 30
      · have y1 : (i : Int) < mc := by omega
        have y2 : (i : Int) < 30 := by omega
        obtain ⟨⟨cb, co, rfl, d1, d2⟩, wo⟩ := HT.out.1 i hlt.1
        obtain ⟨o, ho⟩ : ∃ o, o = V i := ⟨_, rfl⟩
        rw [← ho] at d2 wo
        obtain ⟨t, m, k1, k2, k3, k4, k5⟩ := place_of o.kd 11 (by omega)
        rw [show ((11 : Nat) : Int) = 11 from rfl] at k1 k2 k3 k4
        have o0 := (HI.out.k.cell (p := ⟨cb, co + i * 8 + 0, none⟩) d1).trans (d2 0 _ rfl)
        have o1 := (HI.out.k.cell (p := ⟨cb, co + i * 8 + 1, none⟩) d1).trans (d2 1 _ rfl)
        have o2 := (HI.out.k.cell (p := ⟨cb, co + i * 8 + 2, none⟩) d1).trans (d2 2 _ rfl)
        have o3 := (HI.out.k.cell (p := ⟨cb, co + i * 8 + 3, none⟩) d1).trans (d2 3 _ rfl)
        have o4 := (HI.out.k.cell (p := ⟨cb, co + i * 8 + 4, none⟩) d1).trans (d2 4 _ rfl)
        have o5 := (HI.out.k.cell (p := ⟨cb, co + i * 8 + 5, none⟩) d1).trans (d2 5 _ rfl)
        have o6 := (HI.out.k.cell (p := ⟨cb, co + i * 8 + 6, none⟩) d1).trans (d2 6 _ rfl)
        have o7 := (HI.out.k.cell (p := ⟨cb, co + i * 8 + 7, none⟩) d1).trans (d2 7 _ rfl)
        simp only [Nat.add_zero] at o0
        by_cases e : m = 10
        · subst e
          have HJ : Hid (LWk w wr bm bt p pm y br bf (i + 1)) := HI.out.mono (by omega)
          clear HI o1 o2 o3 o4 o5 o6 o7 d2 wo ho
          go_wp2_with fail
          go_roundg (31 - (i + 1))
          case measure => omega
          case rel => exact ⟨i + 1, by go_num, by omega, by omega, HJ⟩
        · have e10 : ((m : Int) != 10) = true := by rw [bne_iff_ne]; omega
          have cS := HI.out.step hlt.2 o wo m t k1 (by omega) k3 k4 k5 e
          clear HI d2 wo ho e
          go_wp2_with fail
          with_reducible refine cS.mono ?_
          rintro e w6 ⟨⟨z, rfl⟩, L6⟩
          have HJ : Hid (LWk w w6 bm bt p pm y br bf (i + 1)) := L6
          clear cS L6 o0 o1 o2 o3 o4 o5 o6 o7
          go_wp2_with fail
          go_roundg (31 - (i + 1))
          case measure => omega
          case rel => exact ⟨i + 1, by go_num, by omega, by omega, HJ⟩
      · have HJ : Hid (LWk w wr bm bt p pm y br bf 30) := HI.out.mono hi
        clear HI
        by_cases hm : i < mc
        · have ei : i = 30 := by omega
          subst ei
          have y1 : (30 : Int) < mc := by omega
          rw [show ((30 : Nat) : Int) = 30 from rfl]
          go_wp2_with fail
          go_meet
          case rel => exact HJ
        · have y1 : ¬ (i : Int) < mc := by omega
          go_wp2_with fail
          go_meet
          case rel => exact HJ
  case rest =>
    obtain ⟨M1, C1, E, h0⟩ := LWk.tk (hcut : LWk w wc bm bt p pm y br bf 30) (Nat.le_refl _)
    have HC : Hid (LTk w wc bm bt p pm y 30000 M1 C1 E) := h0
    have hmf : ∀ (fn : Fn) (first cap : Array Value) (w : World), (Instr.makeFunc fn first cap).run Tryz.prog w = .ok (.func fn first cap) w := fun _ _ _ _ => rfl
    clear hcut I0 h0
    go_wp2_with fail
    go_loopg [14] 13 (fun gk v14 wr => ∃ (k : Nat), v14 = .int .u64 (k : Int) ∧ k ≤ 12 ∧ 13 - k ≤ gk ∧ Hid (LTk w wr bm bt p pm y (30000 + 8 * k) M1 C1 E))
    case atStart => exact ⟨0, rfl, by omega, by omega, HC⟩
    case round =>
      clear HC
      obtain ⟨k, rfl, hk, hgk, HI⟩ := hrel
      by_cases hlt : k < 12
      · have y1 : (k : Int) < 12 := by omega
        have kP := page_tab k wr
        obtain ⟨pg, hpg, lpg⟩ : ∃ pg, pgT k = pg ∧ pg < 268435456 := ⟨_, rfl, pgT_lt k⟩
        rw [hpg] at kP
        have HP : Hid (pg < 268435456) := lpg
        obtain ⟨a4, ha4⟩ : ∃ a, a = pg * 4096 := ⟨_, rfl⟩
        obtain ⟨u, hu⟩ : ∃ u, u = pg * 4096 + lo := ⟨_, rfl⟩
        have ll := HL.out
        have z1 : IntKind.u64.wrap ((pg : Int) * 4096) = (a4 : Int) := by simp [IntKind.wrap, IntKind.bits, IntKind.signed]; omega
        have z2 : (a4 : Int) + (lo : Int) = (u : Int) := by omega
        have z3 : (u : Int) ≤ 1099511627775 := by omega
        obtain ⟨ra, hra⟩ : ∃ ra, ra = y * 4096 := ⟨_, rfl⟩
        obtain ⟨l, hl⟩ : ∃ l, lvG E pg = l := ⟨_, rfl⟩
        obtain ⟨n, hn⟩ : ∃ n, n = l + 1 := ⟨_, rfl⟩
        have l3 : l ≤ 3 := by rw [← hl]; exact lvG_le E pg
        have n1 : ((n : Int) == 0) = false := by rw [beq_eq_false_iff_ne]; omega
        have KR : Aside (∀ v, LTk w v bm bt p pm y (30000 + 8 * k) M1 C1 E → Calls Tryz.prog 15 #[.pointer (some ⟨bt, 0, none⟩)] v fun e w' => e = .returned (.int .u64 (ra : Int)) ∧ w' = v) := fun v h => by rw [hra]; exact h.rootc
        have KW : Aside (∀ v, LTk w v bm bt p pm y (30000 + 8 * k) M1 C1 E → Calls Tryz.prog 14 #[.int .i64 2, .int .u64 (ra : Int), .int .u64 (u : Int), .func (.func 16) #[] #[.pointer (some ⟨bm, 0, none⟩)]] v fun e w' => e = .returned (.tuple #[.slice (some ⟨v.heap.size, 0, none⟩) n 4, .int .i64 (if (enG E pg).k = 0 then 1 else 0)]) ∧ LTb w w' bm bt p pm y (30000 + 8 * k + 4) M1 C1 E v.heap.size pg) := fun v h => by
          have := h.walk pg lo HP.out HL.out (by omega)
          rw [hl] at this
          rw [hra, hu, hn]
          exact this
        have KG : Aside (∀ v b, LTb w v bm bt p pm y (30000 + 8 * k + 4) M1 C1 E b pg → Calls Tryz.prog 18 #[.pointer (some ⟨bt, 0, none⟩), .int .u64 (pg : Int)] v fun e w' => e = .returned (.tuple #[lvV (getP E pg), .bool (isP E pg)]) ∧ LTb w w' bm bt p pm y (30000 + 8 * k + 4 + 4) M1 C1 E b pg) := fun v b h => h.get (by omega)
        have hl0 : (l : Int) ≤ 3 := by omega
        have n2 : (n : Int) - 1 = (l : Int) := by omega
        have n3 : (l : Int) < n := by omega
        have n4 : (n : Int) ≤ 4 := by omega
        have HE : Hid (lvG E pg = l ∧ u = pg * 4096 + lo) := ⟨hl, hu⟩
        clear hpg lpg ha4 hu ll hra hl hn l3
        go_wp2_with fail
        with_reducible refine kP.mono ?_
        rintro e w6 ⟨rfl, K6⟩
        have L6 := HI.out.kp K6
        have cR := KR.out _ L6
        have cW := KW.out _ L6
        have HI0 : Hid (LTk w w6 bm bt p pm y (30000 + 8 * k) M1 C1 E) := L6
        clear kP K6 KR KW HI L6
        by_cases hz : (enG E pg).k = 0
        · rw [if_pos hz] at cW
          have hi : isP E pg = false := by unfold isP; rw [show decide ((enG E pg).k ≠ 0) = false from decide_eq_false (fun c => c hz), Bool.and_false]
          rw [hi] at KG
          clear hz hi
          go_wp2_with fail
          with_reducible refine cR.mono ?_
          rintro e w7 ⟨rfl, rfl⟩
          clear cR
          go_wp2_with fail
          with_reducible refine cW.mono ?_
          rintro e w7 ⟨rfl, L7⟩
          have cG := KG.out _ _ L7
          generalize getP E pg = gv at *
          unfold lvV at cG
          clear cW KG L7
          go_wp2_with fail
          with_reducible refine cG.mono ?_
          rintro e w8 ⟨rfl, L8⟩
          have HJ : Hid (LTk w (w8.alloc (.cells #[.int .u64 (gv.g : Int), .int .i64 (gv.x : Int), .bool gv.r, .bool gv.q, .bool gv.e, .int .i64 gv.f, .int .i64 (gv.l : Int)] 58)) bm bt p pm y (30000 + 8 * (k + 1)) M1 C1 E) := (L8.kp ((Kp.refl w8).alloc _)).tk (by omega)
          clear cG L8
          go_wp2_with fail
          go_roundg (13 - (k + 1))
          case measure => omega
          case rel => exact ⟨k + 1, by go_num, by omega, by omega, HJ⟩
        · rw [if_neg hz] at cW
          have hi : isP E pg = true := by unfold isP; rw [decide_eq_true HP.out, decide_eq_true hz]; rfl
          have HO := out_at HI0.out.tg HP.out HL.out hz
          rw [HE.out.1, ← HE.out.2] at HO
          obtain ⟨dk, da, dr, dq, dx, df, hd⟩ : ∃ dk da dr dq dx df, enG E pg = (⟨dk, da, dr, dq, dx, df⟩ : DV) := ⟨_, _, _, _, _, _, rfl⟩
          obtain ⟨gg, gx, gr, gq, ge, gf, gl, hg⟩ : ∃ gg gx gr gq ge gf gl, getP E pg = (⟨gg, gx, gr, gq, ge, gf, gl⟩ : LV) := ⟨_, _, _, _, _, _, _, rfl⟩
          rw [hd, hg] at HO
          dsimp only at HO
          obtain ⟨o1, o2, o3, o4, o5, o6, o7⟩ := HO
          have o3 := o3.symm
          have o4 := o4.symm
          have o5 := o5.symm
          have o6 := o6.symm
          have o7 := o7.symm
          subst o3 o4 o5 o6 o7
          rw [hi, hg] at KG
          unfold lvV at KG
          dsimp only at KG
          obtain ⟨PP, hPP⟩ : ∃ P, (stp y E pg l).p = P := ⟨_, rfl⟩
          obtain ⟨UU, hUU⟩ : ∃ U, (stp y E pg l).u = U := ⟨_, rfl⟩
          have HS : Hid (encS (stp y E pg l) = [.int .i64 (l : Int), .int .u64 (PP : Int), .int .u64 (UU : Int), .int .i64 dk, .int .u64 (da : Int), .bool dr, .bool dq, .bool dx, .int .i64 df]) := by
            have e : (stp y E pg l).d = (⟨dk, da, dr, dq, dx, df⟩ : DV) := by rw [← hd]; unfold stp enG; rw [HE.out.1]
            show encS _ = _
            unfold encS
            rw [hPP, hUU, e]
            rfl
          obtain ⟨X4, hX4⟩ : ∃ X, X = gx * 4096 := ⟨_, rfl⟩
          obtain ⟨oN, hoN⟩ : ∃ o, outN u (l : Int) dk da = o := ⟨_, rfl⟩
          rw [hoN] at o1
          have ll := HL.out
          have v1 : IntKind.u64.wrap (gx : Int) = (gx : Int) := by simp [IntKind.wrap, IntKind.bits, IntKind.signed]; omega
          have v2 : IntKind.u64.wrap ((gx : Int) * 4096) = (X4 : Int) := by simp [IntKind.wrap, IntKind.bits, IntKind.signed]; omega
          have v3 : (X4 : Int) + (lo : Int) = (oN : Int) := by omega
          have v4 : (oN : Int) ≤ 1099511627775 := by omega
          have hq : ∀ w : World, (Op.equalIn 10000 39 (.agg #[.bool dr, .bool dq, .bool dx]) (.agg #[.bool dr, .bool dq, .bool dx])).run Tryz.prog w = .ok true w := fun w => by rw [eq_permP]; simp [samP]
          have KO : Aside (∀ v, Calls Tryz.prog 19 #[.int .u64 (u : Int), .agg #[.int .i64 (l : Int), .int .u64 (PP : Int), .int .u64 (UU : Int), .int .i64 dk, .int .u64 (da : Int), .bool dr, .bool dq, .bool dx, .int .i64 df]] v fun e w' => e = .returned (.int .u64 (oN : Int)) ∧ Kp v w') := fun v => by
            rw [← hoN]
            exact out_any u da (l : Int) PP UU dk dr dq dx df v
          clear hz hi hd hg hPP hUU hX4 hoN ll o1 o2
          go_wp2_with fail
          with_reducible refine cR.mono ?_
          rintro e w7 ⟨rfl, rfl⟩
          clear cR
          go_wp2_with fail
          with_reducible refine cW.mono ?_
          rintro e w8 ⟨rfl, L8⟩
          generalize w7.heap.size = bs at *
          have cG := KG.out _ _ L8
          clear cW KG L8
          go_wp2_with fail
          with_reducible refine cG.mono ?_
          rintro e w9 ⟨rfl, L9⟩
          have SC : Hid (∀ v, LTb w v bm bt p pm y (30000 + 8 * k + 4 + 4) M1 C1 E bs pg → ∀ j z, ([.int .i64 (l : Int), .int .u64 (PP : Int), .int .u64 (UU : Int), .int .i64 dk, .int .u64 (da : Int), .bool dr, .bool dq, .bool dx, .int .i64 df] : List Value)[j]? = some z → v.cell? ⟨bs, l * 9 + j, none⟩ = some z) := fun v h j z hj => by
            have := h.cells j z
            rw [HE.out.1] at this
            exact this (by rw [HS.out]; exact hj)
          obtain ⟨wA, hwA⟩ : ∃ wA, wA = w9.alloc (.cells #[.int .u64 (gg : Int), .int .i64 (gx : Int), .bool dr, .bool dq, .bool dx, .int .i64 df, .int .i64 (l : Int)] 58) := ⟨_, rfl⟩
          obtain ⟨bl, hbl⟩ : ∃ bl, bl = w9.heap.size := ⟨_, rfl⟩
          have LA : LTb w wA bm bt p pm y (30000 + 8 * k + 4 + 4) M1 C1 E bs pg := by rw [hwA]; exact L9.kp ((Kp.refl w9).alloc _)
          have RA : wA.heap[bl]? = some (.cells #[.int .u64 (gg : Int), .int .i64 (gx : Int), .bool dr, .bool dq, .bool dx, .int .i64 df, .int .i64 (l : Int)] 58 (0, 0)) := by rw [hwA, hbl]; exact heap_alloc_new w9 _
          clear cG L9
          go_upto_if 111 with fail
          rw [← hwA, ← hbl]
          clear hwA hbl
          have c3 : wA.cell? ⟨bs, l * 9 + 3, none⟩ = some (.int .i64 dk) := SC.out _ LA 3 _ rfl
          have c4 : wA.cell? ⟨bs, l * 9 + 3 + 1, none⟩ = some (.int .u64 (da : Int)) := SC.out _ LA 4 _ rfl
          have c5 : wA.cell? ⟨bs, l * 9 + 3 + 2, none⟩ = some (.bool dr) := SC.out _ LA 5 _ rfl
          have c6 : wA.cell? ⟨bs, l * 9 + 3 + 3, none⟩ = some (.bool dq) := SC.out _ LA 6 _ rfl
          have c7 : wA.cell? ⟨bs, l * 9 + 3 + 4, none⟩ = some (.bool dx) := SC.out _ LA 7 _ rfl
          have c8 : wA.cell? ⟨bs, l * 9 + 3 + 5, none⟩ = some (.int .i64 df) := SC.out _ LA 8 _ rfl
          obtain ⟨wB, hwB⟩ : ∃ wB, wB = wA.alloc (.cells #[.int .i64 dk, .int .u64 (da : Int), .bool dr, .bool dq, .bool dx, .int .i64 df] 62) := ⟨_, rfl⟩
          obtain ⟨bd, hbd⟩ : ∃ bd, bd = wA.heap.size := ⟨_, rfl⟩
          have kB : Kp wA wB := by rw [hwB]; exact (Kp.refl wA).alloc _
          have HB : Hid (LTb w wB bm bt p pm y (30000 + 8 * k + 4 + 4) M1 C1 E bs pg ∧ wB.heap[bl]? = some (.cells #[.int .u64 (gg : Int), .int .i64 (gx : Int), .bool dr, .bool dq, .bool dx, .int .i64 df, .int .i64 (l : Int)] 58 (0, 0)) ∧ wB.heap[bd]? = some (.cells #[.int .i64 dk, .int .u64 (da : Int), .bool dr, .bool dq, .bool dx, .int .i64 df] 62 (0, 0))) := ⟨LA.kp kB, (kB.block bl (Array.getElem?_eq_some_iff.1 RA).1).trans RA, by rw [hwB, hbd]; exact heap_alloc_new wA _⟩
          clear LA RA kB
          go_wp2_with fail
          rw [← hwB, ← hbd]
          clear hwB hbd c3 c4 c5 c6 c7 c8
          have kb : Nonempty (KeptBy wB) := KeptBy.some
          have s0 : ∀ P : KeptBy wB, P.v.cell? ⟨bs, l * 9, none⟩ = some (.int .i64 (l : Int)) := fun P => SC.out _ (HB.out.1.kp P.k) 0 _ rfl
          have s1 : ∀ P : KeptBy wB, P.v.cell? ⟨bs, l * 9 + 1, none⟩ = some (.int .u64 (PP : Int)) := fun P => SC.out _ (HB.out.1.kp P.k) 1 _ rfl
          have s2 : ∀ P : KeptBy wB, P.v.cell? ⟨bs, l * 9 + 2, none⟩ = some (.int .u64 (UU : Int)) := fun P => SC.out _ (HB.out.1.kp P.k) 2 _ rfl
          have s3 : ∀ P : KeptBy wB, P.v.cell? ⟨bs, l * 9 + 3, none⟩ = some (.int .i64 dk) := fun P => SC.out _ (HB.out.1.kp P.k) 3 _ rfl
          have s4 : ∀ P : KeptBy wB, P.v.cell? ⟨bs, l * 9 + 4, none⟩ = some (.int .u64 (da : Int)) := fun P => SC.out _ (HB.out.1.kp P.k) 4 _ rfl
          have s5 : ∀ P : KeptBy wB, P.v.cell? ⟨bs, l * 9 + 5, none⟩ = some (.bool dr) := fun P => SC.out _ (HB.out.1.kp P.k) 5 _ rfl
          have s6 : ∀ P : KeptBy wB, P.v.cell? ⟨bs, l * 9 + 6, none⟩ = some (.bool dq) := fun P => SC.out _ (HB.out.1.kp P.k) 6 _ rfl
          have s7 : ∀ P : KeptBy wB, P.v.cell? ⟨bs, l * 9 + 7, none⟩ = some (.bool dx) := fun P => SC.out _ (HB.out.1.kp P.k) 7 _ rfl
          have s8 : ∀ P : KeptBy wB, P.v.cell? ⟨bs, l * 9 + 8, none⟩ = some (.int .i64 df) := fun P => SC.out _ (HB.out.1.kp P.k) 8 _ rfl
          have g1 : ∀ P : KeptBy wB, P.v.cell? ⟨bl, 1, none⟩ = some (.int .i64 (gx : Int)) := fun P => by rw [cell_of_row _ _ 1 _ _ _ ((P.k.block bl (Array.getElem?_eq_some_iff.1 HB.out.2.1).1).trans HB.out.2.1)]; rfl
          have g2 : ∀ P : KeptBy wB, P.v.cell? ⟨bl, 2, none⟩ = some (.bool dr) := fun P => by rw [cell_of_row _ _ 2 _ _ _ ((P.k.block bl (Array.getElem?_eq_some_iff.1 HB.out.2.1).1).trans HB.out.2.1)]; rfl
          have g3 : ∀ P : KeptBy wB, P.v.cell? ⟨bl, 3, none⟩ = some (.bool dq) := fun P => by rw [cell_of_row _ _ 3 _ _ _ ((P.k.block bl (Array.getElem?_eq_some_iff.1 HB.out.2.1).1).trans HB.out.2.1)]; rfl
          have g4 : ∀ P : KeptBy wB, P.v.cell? ⟨bl, 4, none⟩ = some (.bool dx) := fun P => by rw [cell_of_row _ _ 4 _ _ _ ((P.k.block bl (Array.getElem?_eq_some_iff.1 HB.out.2.1).1).trans HB.out.2.1)]; rfl
          have g5 : ∀ P : KeptBy wB, P.v.cell? ⟨bl, 5, none⟩ = some (.int .i64 df) := fun P => by rw [cell_of_row _ _ 5 _ _ _ ((P.k.block bl (Array.getElem?_eq_some_iff.1 HB.out.2.1).1).trans HB.out.2.1)]; rfl
          have g6 : ∀ P : KeptBy wB, P.v.cell? ⟨bl, 6, none⟩ = some (.int .i64 (l : Int)) := fun P => by rw [cell_of_row _ _ 6 _ _ _ ((P.k.block bl (Array.getElem?_eq_some_iff.1 HB.out.2.1).1).trans HB.out.2.1)]; rfl
          have d2 : ∀ P : KeptBy wB, P.v.cell? ⟨bd, 2, none⟩ = some (.bool dr) := fun P => by rw [cell_of_row _ _ 2 _ _ _ ((P.k.block bd (Array.getElem?_eq_some_iff.1 HB.out.2.2).1).trans HB.out.2.2)]; rfl
          have d3 : ∀ P : KeptBy wB, P.v.cell? ⟨bd, 3, none⟩ = some (.bool dq) := fun P => by rw [cell_of_row _ _ 3 _ _ _ ((P.k.block bd (Array.getElem?_eq_some_iff.1 HB.out.2.2).1).trans HB.out.2.2)]; rfl
          have d4 : ∀ P : KeptBy wB, P.v.cell? ⟨bd, 4, none⟩ = some (.bool dx) := fun P => by rw [cell_of_row _ _ 4 _ _ _ ((P.k.block bd (Array.getElem?_eq_some_iff.1 HB.out.2.2).1).trans HB.out.2.2)]; rfl
          have d5 : ∀ P : KeptBy wB, P.v.cell? ⟨bd, 5, none⟩ = some (.int .i64 df) := fun P => by rw [cell_of_row _ _ 5 _ _ _ ((P.k.block bd (Array.getElem?_eq_some_iff.1 HB.out.2.2).1).trans HB.out.2.2)]; rfl
          have KO2 : Aside (∀ P : KeptBy wB, Calls Tryz.prog 19 #[.int .u64 (u : Int), .agg #[.int .i64 (l : Int), .int .u64 (PP : Int), .int .u64 (UU : Int), .int .i64 dk, .int .u64 (da : Int), .bool dr, .bool dq, .bool dx, .int .i64 df]] P.v fun e w' => e = .returned (.int .u64 (oN : Int)) ∧ Kp P.v w') := fun P => KO.out P.v
          have HJ : Hid (∀ v, Kp wB v → LTk w v bm bt p pm y (30000 + 8 * (k + 1)) M1 C1 E) := fun v kv => (HB.out.1.kp kv).tk (by omega)
          clear HB SC KO
          refine wp_region_kept mixed (by kernel_rfl) ?_
          repeat (go_big_quiet_step (first | exact rfl | (go_at_call 19; with_reducible refine Calls.kept_of (KO2.out _))))
          refine wpQuiet_nil ?_
          intro _ hw'
          obtain ⟨⟨wq, kq⟩, hw''⟩ := hw'
          subst hw''
          have HJ2 : Hid (LTk w _ bm bt p pm y (30000 + 8 * (k + 1)) M1 C1 E) := HJ.out _ kq
          clear HJ KO2 kq kb s0 s1 s2 s3 s4 s5 s6 s7 s8 g1 g2 g3 g4 g5 g6 d2 d3 d4 d5 hq
          go_wp2_with fail
          go_roundg (13 - (k + 1))
          case measure => omega
          case rel => exact ⟨k + 1, by go_num, by omega, by omega, HJ2⟩
      · have ek : k = 12 := by omega
        subst ek
        have HK : Hid (Kp w wr) := HI.out.k
        have cT := told_any wr (HT.out.2.kp HK.out)
        clear HI
        rw [show ((12 : Nat) : Int) = 12 from rfl]
        go_wp2_with fail
        with_reducible refine cT.mono ?_
        rintro e w6 ⟨rfl, K6⟩
        have HE : Hid (Kp w w6) := HK.out.trans K6
        clear cT K6
        go_wp2_with fail
        go_ret
        exact ⟨rfl, HE.out⟩
theorem walks13_law (na : Option Addr) (mc cap : Nat) (V : Nat → OpV) (a1 : Int) (w : World) (hO : Steps w na mc V) (hm : mc ≤ maxLen) (ha : (Lit.int .u64 a1).wf = true) (T : TAB w) :
    Calls Tryz.prog 4 #[.slice na mc cap, .int .u64 a1] w fun e w' => e = .returned (.bool true) ∧ Kp w w' := by
  have b := wf_word ha
  obtain ⟨n, rfl⟩ : ∃ n : Nat, a1 = n := ⟨a1.toNat, by omega⟩
  exact walks13_any na mc cap V n w hO hm (by omega) T

end Go.Proofs.YtanlcmdnhhdhaaaGreatDoor
