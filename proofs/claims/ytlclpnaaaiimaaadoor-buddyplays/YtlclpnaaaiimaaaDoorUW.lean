/- BuddyPlays: the walk. -/
import Derived.Test.YtlclpnaaaiimaaaDoorUV
namespace Go.Proofs.YtlclpnaaaiimaaaDoor
open Go.RowKit

theorem Dr.drewN7 {a b : World} {n : Nat} (h : Dr (a.drewN n) b) : ∃ m, b = a.drewN m := by
  obtain ⟨m, rfl⟩ := h
  exact ⟨n + m, by rw [World.drewN_drewN]⟩
set_option maxHeartbeats 16000000 in
set_option maxRecDepth 1000000 in
theorem bplays_main (lo n : Nat) (na : Option Addr) (m cap : Nat) (V : Nat → Int × Int × Int) (w : World) (St : Steps w na m V) (T : TAB w) (h1 : lo ≤ 1048576) (h2 : n ≤ 1048576 - lo) (h3 : n ≤ 1500) :
    Calls Tryd.prog 3 #[.int .i64 (lo : Int), .int .i64 (n : Int), .slice na m cap] w fun e w' => e = .returned (.bool true) ∧ Kp w w' := by
  have k1 := new_ok lo n w T h1 h2
  have k2 := fun w => rnew_ok lo n w h1 h2
  have ST : Aside (Steps w na m V) := St
  have HT : Hid (TAB w) := T
  have z1 : (n : Int) ≤ 1500 := by omega
  have z2 : (lo : Int) ≤ 1048576 := by omega
  clear St T h2
  go_enter Tryd.func3, Tryd.ntmps3
  go_wp2_with fail
  with_reducible refine k1.mono ?_
  rintro e w1 ⟨⟨p, U, rfl, B1, N1⟩, K1⟩
  obtain ⟨B, hB⟩ : ∃ B, B = w1.heap.size := ⟨_, rfl⟩
  have HB1 : Hid (BU w B U w1 p lo (lo + n) (ivl lo (lo + n)) ∧ B = w1.heap.size) := ⟨⟨B1, K1, fun k hk => ⟨N1 k hk, by rw [hB]; exact B1.own k hk⟩, by rw [hB]; exact Nat.le_refl _⟩, hB⟩
  clear k1 B1 N1 K1 hB
  go_wp2_with fail
  with_reducible refine (k2 _).mono ?_
  rintro e w2 ⟨⟨q, ob, rfl, R2, q1, o1⟩, K2⟩
  obtain ⟨b1, hb1⟩ : ∃ b1, b1 = w2.heap.size := ⟨_, rfl⟩
  have I0 : Hid (PI w B b1 U w2 p q ob lo n (.slice none 0 0) [] (ivl lo (lo + n))) := ⟨HB1.out.1.kps K2, R2, ⟨by have := HB1.out.2; omega, by have := R2.ql; omega⟩, ⟨by have := HB1.out.2; omega, by have := R2.on.lt; omega⟩, RL.nil _ _, fun x hx => (by cases hx), by omega⟩
  clear k2 R2 q1 o1 K2 hb1 HB1
  go_upto_block 0 with fail
  go_cut [11] (fun v11 wx => ∃ (Q : List (Nat × Nat)) (F : Nat → Bool), Hid (PI w B b1 U wx p q ob lo n v11 Q F))
  case first =>
    go_wp2_with fail
    go_loopg [11, 12] 61 (fun g v11 v12 wr => ∃ (i : Nat) (Q : List (Nat × Nat)) (F : Nat → Bool), v12 = .int .i64 (i : Int) ∧ i ≤ 60 ∧ 61 - i ≤ g ∧ Q.length ≤ i ∧ Hid (PI w B b1 U wr p q ob lo n v11 Q F))
    case atStart => exact ⟨0, [], _, rfl, by omega, by omega, by simp, I0⟩
    case round =>
      clear I0
      obtain ⟨i, Q, F, rfl, hi, hg, hQ, HI⟩ := hrel
      by_cases hlt : i < m ∧ i < 60
      · have y1 : (i : Int) < m := by omega
        have y2 : (i : Int) < 60 := by omega
        obtain ⟨⟨cb, co, rfl, d1, d2, d3, d4⟩, v1, v2, v3⟩ := ST.out i hlt.1
        have kw := HI.out.bu.kp
        have x0 := (kw.cell (p := ⟨cb, co + i * 3, none⟩) d1).trans d2
        have x1 := (kw.cell (p := ⟨cb, co + i * 3 + 1, none⟩) d1).trans d3
        have x2 := (kw.cell (p := ⟨cb, co + i * 3 + 2, none⟩) d1).trans d4
        have v2' := wf_int v2
        have v3' := wf_int v3
        clear kw d1 d2 d3 d4 v1 v2 v3
        generalize V i = vi at *
        obtain ⟨ck, cf, cr⟩ := vi
        simp only at x0 x1 x2 v2' v3'
        have HW : Hid ((-9223372036854775808 ≤ cf ∧ cf ≤ 9223372036854775807) ∧ (-9223372036854775808 ≤ cr ∧ cr ≤ 9223372036854775807)) := ⟨v2', v3'⟩
        clear v2' v3'
        go_upto_region 12 with fail
        obtain ⟨Bo, hBo⟩ : ∃ Bo, Bo = wr.heap.size := ⟨_, rfl⟩
        obtain ⟨W1, hW1⟩ : ∃ W1, W1 = wr.alloc (.cells #[.int .i64 ck, .int .i64 cf, .int .i64 cr] 33) := ⟨_, rfl⟩
        have hK : Kp wr W1 := by rw [hW1]; exact (Kp.refl wr).alloc _
        have hr : W1.heap[Bo]? = some (.cells #[.int .i64 ck, .int .i64 cf, .int .i64 cr] 33 (0, 0)) := by rw [hW1, hBo]; exact heap_alloc_new wr _
        have J1 : PJ w B b1 U W1 p q ob lo n u11 Q F Bo ck cf cr := ⟨HI.out.kps hK, by rw [cell_of_row _ _ 0 _ _ _ hr]; rfl, by rw [cell_of_row _ _ 1 _ _ _ hr]; rfl, by rw [cell_of_row _ _ 2 _ _ _ hr]; rfl, (Array.getElem?_eq_some_iff.1 hr).1, by rw [hBo]; exact HI.out.hb⟩
        have BN : Hid (∀ g, u11.ownBlock = some g → g ≠ Bo) := (show ∀ g, u11.ownBlock = some g → g ≠ Bo from fun g hg e => by have := (HI.out.tk.up g hg).2; omega)
        have HJ : Hid (PJ w B b1 U W1 p q ob lo n u11 Q F Bo ck cf cr) := J1
        have c0 := J1.c0
        have c1 := J1.c1
        have c2 := J1.c2
        rw [← hW1, ← hBo]
        clear hW1 hBo hK hr J1 HI x0 x1 x2
        obtain ⟨t, κ, g1, g2, g3, g4, g5⟩ := place_of ck 5 (by decide)
        rw [show ((5 : Nat) : Int) = 5 from rfl] at g1 g2 g3 g4
        have y3 : (κ : Int) < 5 := by omega
        go_wp2_with fail
        go_quiet (fail)
        rename_i nq
        have HJ2 : Hid (PJ w B b1 U (W1.drewN nq) p q ob lo n u11 Q F Bo ck cf cr) := HJ.out.kps ((Kp.refl W1).drewN nq)
        clear HJ c0 c1 c2 g1 g2 g3 g4
        generalize W1.drewN nq = w3 at *
        obtain ⟨nt, ct, htf, ht1, _⟩ := HJ2.out.pi.tk.form
        subst htf
        generalize hLn : Q.length = ql at *
        have HLN : Hid (Q.length = ql) := hLn
        have x1 : (ql : Int) ≤ 60 := by omega
        have x2 : (ql : Int) ≤ ct := by omega
        clear hLn
        obtain ⟨bt, hbt⟩ : ∃ bt : Bool, bt = decide (2 < κ ∧ 0 < ql) := ⟨_, rfl⟩
        have HBT : Hid (bt = decide (2 < κ ∧ 0 < ql)) := hbt
        clear hbt
        go_upto_region 14 with fail
        go_cut [94] (fun v94 wx => v94 = .bool bt ∧ wx = w3)
        case first =>
          by_cases hk2 : 2 < κ
          · have y4 : (2 : Int) < κ := by omega
            by_cases hq0 : 0 < ql
            · have y5 : (0 : Int) < ql := by omega
              have e : bt = true := by rw [HBT.out]; exact decide_eq_true ⟨hk2, hq0⟩
              subst e
              go_wp2_with fail
              go_meet
              case rel => exact ⟨by simp, rfl⟩
            · have e : bt = false := by rw [HBT.out]; exact decide_eq_false (fun z => hq0 z.2)
              have e0 : ql = 0 := by omega
              subst e
              subst e0
              go_wp2_with fail
              go_meet
              case rel => exact ⟨by simp, rfl⟩
          · have y4 : ¬ (2 : Int) < κ := by omega
            have e : bt = false := by rw [HBT.out]; exact decide_eq_false (fun z => hk2 z.1)
            subst e
            go_wp2_with fail
            go_meet
            case rel => exact ⟨by simp, rfl⟩
        case rest =>
         obtain ⟨rfl, hwc⟩ := hcut
         subst hwc
         go_upto_if 94 with fail
         go_cut [15, 16] (fun v15 v16 wx => ∃ (x y : Int) (k : Nat), v15 = .int .i64 x ∧ v16 = .int .i64 y ∧ wx = wc.drewN k ∧ Hid (-9223372036854775808 ≤ x ∧ x ≤ 9223372036854775807))
         case first =>
           cases hbt : bt
           · subst hbt
             go_wp2_with fail
             go_meet
             case rel => exact ⟨_, _, 0, rfl, rfl, rfl, HW.out.1⟩
           · have hq := of_decide_eq_true (HBT.out.symm.trans hbt)
             subst hbt
             have y4 : (2 : Int) < κ := by omega
             have y5 : (0 : Int) < ql := by omega
             have y6 : ¬ (ql : Int) = 0 := by omega
             obtain ⟨t2, k, g1, g2, g3, g4, g6⟩ := place_of cf ql hq.2
             have c1 := HJ2.out.c1
             have c2 := HJ2.out.c2
             obtain ⟨x, hx⟩ : ∃ x, Q[k]? = some x := ⟨Q[k]'(by have := HLN.out; omega), List.getElem?_eq_getElem (by have := HLN.out; omega)⟩
             obtain ⟨gb, rfl, _, _, q1, q2⟩ := HJ2.out.pi.tk.look hx
             obtain ⟨b2, b3⟩ := HJ2.out.pi.tv x (List.mem_of_getElem? hx)
             obtain ⟨xf, xo⟩ := x
             have q1' : wc.cell? ⟨gb, k * 2, none⟩ = some (.int .i64 (xf : Int)) := q1
             have q2' : wc.cell? ⟨gb, k * 2 + 1, none⟩ = some (.int .i64 (xo : Int)) := q2
             have y7 : (xf : Int) ≤ 1048576 := by have : xf ≤ 1048576 := b2; omega
             have y8 : (xo : Int) ≤ 9 := by have : xo ≤ 9 := b3; omega
             have y9 : (k : Int) < ql := by omega
             clear q1 q2 b2 b3 hx hq
             go_wp2_with fail
             go_quiet (fail)
             rename_i nq
             clear q1' q2' c1 g1 g2 g3 g4
             by_cases h4 : κ = 4 ∧ 0 < xo
             · obtain ⟨rfl, hxo⟩ := h4
               obtain ⟨yo, hyo⟩ : ∃ yo : Nat, xo = yo + 1 := ⟨xo - 1, by omega⟩
               obtain ⟨bb, hbb, hbb2⟩ := and_lim cr 1 (by omega)
               have hbb' : bits .and .i64 cr 1 = (bb : Int) := hbb
               have e1 : (2 : Int) ^ yo = ((2 ^ yo : Nat) : Int) := by push_cast; rfl
               have e2 := (pow_wrap (show yo < 10 by omega)).2
               obtain ⟨pw, hpw⟩ : ∃ pw : Nat, pw = 2 ^ yo := ⟨_, rfl⟩
               rw [← hpw] at e1 e2
               obtain ⟨sh, hsh⟩ : ∃ sh : Nat, sh = bb * pw := ⟨_, rfl⟩
               have e3 : (bb : Int) * (pw : Int) = (sh : Int) := by rw [hsh]; push_cast; rfl
               have e4 : (sh : Int) ≤ 1000 := by
                 have : bb * pw ≤ 1 * pw := Nat.mul_le_mul_right _ hbb2
                 omega
               have y10 : (0 : Int) < xo := by omega
               have y11 : (xo : Int) - 1 = (yo : Int) := by omega
               have y12 : (yo : Int) ≤ 9 := by omega
               have HX : Hid ((xf : Int) + sh ≤ 9223372036854775807 ∧ -9223372036854775808 ≤ (xf : Int) + sh) := by constructor <;> omega
               clear hbb hpw hsh hyo hbb2
               go_wp2_with fail
               go_meet
               case rel => exact ⟨_, _, nq, rfl, rfl, rfl, HX.out.2, HX.out.1⟩
             · have HX : Hid (-9223372036854775808 ≤ (xf : Int) ∧ (xf : Int) ≤ 9223372036854775807) := by constructor <;> omega
               by_cases e4 : κ = 4
               · subst e4
                 have e5 : xo = 0 := by omega
                 subst e5
                 go_wp2_with fail
                 go_meet
                 case rel => exact ⟨_, _, nq, rfl, rfl, rfl, HX⟩
               · have e5 : κ = 3 := by omega
                 subst e5
                 go_wp2_with fail
                 go_meet
                 case rel => exact ⟨_, _, nq, rfl, rfl, rfl, HX⟩
         case rest =>
           obtain ⟨x, y, kq, rfl, rfl, hwd, HX⟩ := hcut
           have HJ3 : Hid (PJ w B b1 U wc p q ob lo n (.slice nt ql ct) Q F Bo ck cf cr) := by
             show PJ w B b1 U wc p q ob lo n (.slice nt ql ct) Q F Bo ck cf cr
             rw [hwd]
             exact HJ2.out.kps ((Kp.refl _).drewN kq)
           clear hwd HJ2 HBT
           go_upto_if 133 with fail
           go_cut [11] (fun v11 wx => ∃ (Q' : List (Nat × Nat)) (F' : Nat → Bool), Q'.length ≤ i + 1 ∧ Hid (PJ w B b1 U wx p q ob lo n v11 Q' F' Bo ck cf cr))
           case first =>
             by_cases hk : κ < 2
             · have y4 : (κ : Int) < 2 := by omega
               have c2 := HJ3.out.c2
               by_cases hr : 0 ≤ cr ∧ cr ≤ 9
               · obtain ⟨o, rfl⟩ : ∃ o : Nat, cr = (o : Int) := ⟨cr.toNat, by omega⟩
                 have ho : o ≤ 9 := by omega
                 have y5 : (o : Int) ≤ 9 := by omega
                 clear hr HX HW
                 rcases tk_or F o with ⟨o', i', t⟩ | t
                 · obtain ⟨j, ej, hA, r1, r2, r3⟩ := t.place HJ3.out.pi.bu.bf
                   have k3 := take_ok HJ3.out.pi.bu.bf o o' i' t
                   have k4 : Aside (∀ w', RB w' q ob lo n F → Calls Tryd.prog 12 #[.pointer (some ⟨q, 0, none⟩), .int .i64 (o : Int)] w' fun e w'' => e = .returned (.tuple #[.int .i64 ((i' * 2 ^ o' : Nat) : Int), .int .i64 0]) ∧ RB w'' q ob lo n (subF F o (i' * 2 ^ o' / 2 ^ o)) ∧ Fr (fun k => k = ob) w' w'') := fun w' h => rtake_ok h o o' i' t
                   have hfl : i' * 2 ^ o' ≤ 1048576 := by
                     have := HJ3.out.pi.rb.hh
                     have := Nat.two_pow_pos o
                     rw [ej]
                     generalize j * 2 ^ o = q at *
                     generalize 2 ^ o = s at *
                     omega
                   clear t hA r1 r2 r3 ej
                   generalize subF F o (i' * 2 ^ o' / 2 ^ o) = F1 at *
                   generalize i' * 2 ^ o' = f at *
                   go_wp2_with fail
                   with_reducible refine k3.mono ?_
                   rintro e w4 ⟨rfl, B4, F4⟩
                   obtain ⟨R4, c2'⟩ := HJ3.out.mid F4
                   have k5 := k4.out w4 R4
                   have H4 : Hid (BF w4 U p lo (lo + n) F1 ∧ Fr U wc w4) := ⟨B4, F4⟩
                   clear k3 k4 B4 F4 R4 c2
                   go_wp2_with fail
                   with_reducible refine k5.mono ?_
                   rintro e w5 ⟨rfl, R5, F5⟩
                   have J5 := HJ3.out.step H4.out.1 H4.out.2 R5 F5
                   have c3 := J5.c2
                   obtain ⟨v', w6, q1, J6⟩ := J5.snoc BN.out f o hfl ho (by have := HLN.out; omega)
                   have HJ6 : Hid (PJ w B b1 U w6 p q ob lo n v' (Q ++ [(f, o)]) F1 Bo ck cf (o : Int)) := J6
                   clear k5 R5 F5 J5 J6 H4 HJ3 c2'
                   repeat' (first | ((with_reducible refine wp_append_of q1 (.tmp 158) (.tmp 163) ?_ ?_ ?_ ?_ ?_); rfl; rfl; rfl; rfl) | go_values | go_skip | go_guarded | go_step | go_upon | go_back | (simp only []) | (go_values <;> (try go_simp)) | (go_ite <;> go_prune <;> (try go_simp)))
                   go_meet
                   case rel => exact ⟨_, _, by have := HLN.out; simp; omega, HJ6⟩
                 · have k3 := take_no HJ3.out.pi.bu.bf o ho t
                   have k4 := rtake_no HJ3.out.pi.rb o ho t
                   clear t
                   go_wp2_with fail
                   with_reducible refine k3.mono ?_
                   rintro e w' ⟨rfl, rfl⟩
                   clear k3
                   go_wp2_with fail
                   with_reducible refine k4.mono ?_
                   rintro e w5 ⟨rfl, R5, F5⟩
                   have HJ6 : Hid (PJ w B b1 U w5 p q ob lo n (.slice nt ql ct) Q F Bo ck cf (o : Int)) := HJ3.out.step HJ3.out.pi.bu.bf (Fr.refl _ _) R5 F5
                   clear k4 R5 F5 HJ3 c2
                   go_wp2_with fail
                   go_meet
                   case rel => exact ⟨_, _, by have := HLN.out; omega, HJ6⟩
               · have k3 := fun w => take_arg p cr w hr
                 have k4 := fun w => rtake_arg q cr w hr
                 have HJ6 : Hid (PJ w B b1 U wc p q ob lo n (.slice nt ql ct) Q F Bo ck cf cr) := HJ3.out
                 clear hr HJ3
                 go_wp2_with fail
                 with_reducible refine (k3 _).mono ?_
                 rintro e w' ⟨rfl, rfl⟩
                 clear k3
                 go_wp2_with fail
                 with_reducible refine (k4 _).mono ?_
                 rintro e w' ⟨rfl, rfl⟩
                 clear k4
                 go_wp2_with fail
                 go_meet
                 case rel => exact ⟨_, _, by have := HLN.out; omega, HJ6⟩
             · have y4 : ¬ (κ : Int) < 2 := by omega
               have k3 := give_any HJ3.out.pi.bu.bf x y
               have k4 : Aside (∀ w', RB w' q ob lo n F → Calls Tryd.prog 14 #[.pointer (some ⟨q, 0, none⟩), .int .i64 x, .int .i64 y] w' fun e w'' => e = .returned (.int .i64 (gvR lo (lo + n) F x y)) ∧ RB w'' q ob lo n (gvF lo (lo + n) F x y) ∧ Fr (fun k => k = ob) w' w'') := fun w' h => rgive_any h x y HX.out
               generalize gvR lo (lo + n) F x y = rv at *
               generalize gvF lo (lo + n) F x y = F1 at *
               go_wp2_with fail
               with_reducible refine k3.mono ?_
               rintro e w4 ⟨rfl, B4, F4⟩
               have k5 := k4.out w4 (HJ3.out.mid F4).1
               have H4 : Hid (BF w4 U p lo (lo + n) F1 ∧ Fr U wc w4) := ⟨B4, F4⟩
               clear k3 k4 B4 F4
               go_wp2_with fail
               with_reducible refine k5.mono ?_
               rintro e w5 ⟨rfl, R5, F5⟩
               have HJ6 : Hid (PJ w B b1 U w5 p q ob lo n (.slice nt ql ct) Q F1 Bo ck cf cr) := HJ3.out.step H4.out.1 H4.out.2 R5 F5
               clear k5 R5 F5 H4 HJ3
               go_wp2_with fail
               go_meet
               case rel => exact ⟨_, _, by have := HLN.out; omega, HJ6⟩
           case rest =>
             obtain ⟨Q', F', hQ', HJ4⟩ := hcut
             have KD : Aside (∀ m, PJ w B b1 U (wc.drewN m) p q ob lo n u11 Q' F' Bo ck cf cr) := fun m => HJ4.out.kps ((Kp.refl wc).drewN m)
             have kA : ∀ m, Calls Tryd.prog 15 #[.pointer (some ⟨p, 0, none⟩)] (wc.drewN m) fun e w'' => e = .returned (.int .i64 (cnt F' (lo + n) : Int)) ∧ ∃ q, w'' = wc.drewN q := fun m => (free_any (KD.out m).pi.bu.bf).mono fun e w'' ⟨a, c⟩ => ⟨a, m, c⟩
             have kB : ∀ m, Calls Tryd.prog 16 #[.pointer (some ⟨q, 0, none⟩)] (wc.drewN m) fun e w'' => e = .returned (.int .i64 (cnt F' (lo + n) : Int)) ∧ ∃ q, w'' = wc.drewN q := fun m => (rfree_any (KD.out m).pi.rb).mono fun e w'' ⟨a, c⟩ => ⟨a, m, c⟩
             have kC : ∀ m, Calls Tryd.prog 17 #[.pointer (some ⟨p, 0, none⟩), .int .i64 cf] (wc.drewN m) fun e w'' => e = .returned (.bool (hasF F' cf)) ∧ ∃ q, w'' = wc.drewN q := fun m => (has_any (KD.out m).pi.bu.bf cf).mono fun e w'' ⟨a, c⟩ => ⟨a, c.drewN7⟩
             have kD : ∀ m, Calls Tryd.prog 18 #[.pointer (some ⟨q, 0, none⟩), .int .i64 cf] (wc.drewN m) fun e w'' => e = .returned (.bool (hasF F' cf)) ∧ ∃ q, w'' = wc.drewN q := fun m => (rhas_any (KD.out m).pi.rb cf HW.out.1.2).mono fun e w'' ⟨a, c⟩ => ⟨a, c.drewN7⟩
             have c1 := HJ4.out.c1
             generalize cnt F' (lo + n) = cn at *
             generalize hasF F' cf = hb at *
             clear HJ3 HJ4 BN HX
             go_wp2_with fail
             have be1 : decide ((cn : Int) = cn) = true := decide_eq_true rfl
             go_quiet (first | (go_at_call 15; go_must (exact kA _)) | (go_at_call 16; go_must (exact kB _)) | (go_at_call 17; go_must (exact kC _)) | (go_at_call 18; go_must (exact kD _)))
             have HI9 : Hid (PI w B b1 U (wc.drewN nq) p q ob lo n u11 Q' F') := (KD.out nq).pi
             clear KD kA kB kC kD c1 be1
             go_wp2
             go_roundg (61 - (i + 1))
             case measure => omega
             case rel => exact ⟨i + 1, Q', F', by go_num, by omega, by omega, hQ', HI9⟩
      · have NLT : Hid (¬ (i < m ∧ i < 60)) := hlt
        clear hlt
        by_cases hlt : (i : Int) < m
        · have y2 : ¬ (i : Int) < 60 := by have := NLT.out; omega
          go_wp2_with fail
          go_meet
          case rel => exact ⟨Q, F, HI⟩
        · go_wp2_with fail
          go_meet
          case rel => exact ⟨Q, F, HI⟩
  case rest =>
    obtain ⟨Q, F, HI⟩ := hcut
    have kt := told_any (HT.out.kp HI.out.bu.kp)
    have hL := len_dom F lo (lo + n)
    clear I0
    go_wp2_with fail
    with_reducible refine kt.mono ?_
    rintro e w7 ⟨rfl, K7⟩
    have I7 := HI.out.kps K7
    have k8 := runs_any I7.bu.bf
    have HI7 : Hid (PI w B b1 U w7 p q ob lo n u11 Q F) := I7
    clear kt K7 I7 HI
    go_wp2_with fail
    with_reducible refine k8.mono ?_
    rintro e w8 ⟨⟨v8, rfl, R8⟩, K8⟩
    have I8 := HI7.out.kps K8
    have k9 := rruns_any I8.rb
    have HI8 : Hid (Kp w w8 ∧ RL w8 w7.heap.size v8 (rl F (lo + n) lo)) := ⟨I8.bu.kp, R8⟩
    clear k8 K8 R8 I8 HI7
    go_wp2_with fail
    with_reducible refine k9.mono ?_
    rintro e w9 ⟨⟨v9, rfl, R9⟩, K9⟩
    have k10 := alike_any (HI8.out.2.kp K9) R9 (by omega)
    have HK9 : Hid (Kp w w9) := HI8.out.1.trans K9
    clear k9 K9 R9 HI8
    go_wp2_with fail
    with_reducible refine k10.mono ?_
    rintro e w10 ⟨rfl, D10⟩
    have HK10 : Hid (Kp w w10) := HK9.out.trans D10.kp
    clear k10 D10 HK9
    go_wp2
    go_ret
    exact ⟨rfl, HK10.out⟩
end Go.Proofs.YtlclpnaaaiimaaaDoor
