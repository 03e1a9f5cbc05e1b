/- DiskPlays: the walk. -/
import Derived.Test.YtcgfifihkbiioaaXD
import Derived.Deep.RegionHeld3
import Derived.Deep.CutRange
import Derived.Deep.DeepCutAuto
namespace Go.Proofs.Ytcgfifihkbiioaa
open Go.RowKit Go.Maps

/-- All but what came in, the step and the blocks from b to c. -/
def U3 (w : World) (B b c : Nat) : Nat → Prop := fun k => (w.heap.size ≤ k ∧ k ≠ B) ∧ ¬ (b ≤ k ∧ k < c)

set_option maxHeartbeats 16000000 in
set_option maxRecDepth 100000 in
theorem plays_main (N : Nat) (na : Option Addr) (m cap : Nat) (V : Nat → OpV) (w : World) (h2 : N ≤ 4096) (St : Steps w na m V) :
    Calls Try.prog 3 #[.int .i64 (N : Int), .slice na m cap] w fun e w' => e = .returned (.bool true) ∧ Kp w w' := by
  have k1 := dnew_ok N w h2
  have k2 := fun w => rnew_ok N w h2
  have ST : Aside (Steps w na m V) := St
  clear St
  go_enter Try.func3, Try.ntmps3
  go_wp2_with fail
  with_reducible refine k1.mono ?_
  rintro e w1 ⟨p, S, rfl, P1, K1, H1⟩
  have HP1 : Hid (DK w1 S p N (fun _ => none) [] ∧ Kp w w1 ∧ ∀ k, S k → w.heap.size ≤ k) := ⟨P1, K1, H1⟩
  clear P1 K1 H1 k1
  go_wp2_with fail
  with_reducible refine (k2 _).mono ?_
  rintro e w2 ⟨q, R, rfl, Q2, K2, H2⟩
  have T0 : Hid (Two (fun k => w.heap.size ≤ k) w2 p q N (fun _ => none) [] (fun _ => none) [] ∧ Kp w w2) := by
    have hs := HP1.out.2.1.size
    refine ⟨⟨S, R, HP1.out.1.kp K2, Q2, fun i hi ht => ?_, HP1.out.2.2, fun i hi => Nat.le_trans hs (H2 i hi)⟩, HP1.out.2.1.trans K2⟩
    have a := HP1.out.1.own i hi
    have b := H2 i ht
    omega
  clear Q2 K2 H2 k2 HP1
  go_wp2_with fail
  go_loopg [9] 61 (fun g v9 wr => ∃ (i : Nat) (T : Slots) (A : List Bool), v9 = .int .i64 (i : Int) ∧ i ≤ 60 ∧ 61 - i ≤ g ∧ Hid (Two (fun k => w.heap.size ≤ k) wr p q N T A T A ∧ Kp w wr))
  case atStart => exact ⟨0, _, _, rfl, by omega, by omega, T0⟩
  case round =>
    clear T0
    obtain ⟨i, T, A, rfl, i1, ig, T1⟩ := hrel
    by_cases hlt : i < m ∧ i < 60
    · have y1 : (i : Int) < m := by omega
      have y2 : (i : Int) < 60 := by omega
      obtain ⟨⟨b0, o0, rfl, hb0, hc⟩, hok⟩ := ST.out i hlt.1
      have kw := T1.out.2
      have cc : ∀ j u, (V i).cells[j]? = some u → wr.cell? ⟨b0, o0 + i * 6 + j, none⟩ = some u := fun j u hu => by
        rw [kw.cell (p := ⟨b0, o0 + i * 6 + j, none⟩) hb0, Nat.add_assoc]; exact hc j u hu
      have d0 := cc 0 _ rfl
      have d1 := cc 1 _ rfl
      have d2 := cc 2 _ rfl
      have d3 := cc 3 _ rfl
      have d4 := cc 4 _ rfl
      have d5 := cc 5 _ rfl
      rw [Nat.add_zero] at d0
      have OK : Hid ((V i).Ok w) := hok
      clear cc hc hok kw
      generalize V i = o at *
      go_upto_region 10 with fail
      obtain ⟨Bo, hBo⟩ : ∃ Bo, Bo = wr.heap.size := ⟨_, rfl⟩
      obtain ⟨W1, hW1⟩ : ∃ W1, W1 = wr.alloc (.cells #[.int .i64 o.kind, .int .i64 o.slot, .slice o.naA o.mA o.cA, .slice o.naB o.mB o.cB, .slice o.naF o.mF o.cF, .bool o.other] 34) := ⟨_, rfl⟩
      have hK : Kp wr W1 := by rw [hW1]; exact (Kp.refl wr).alloc _
      have R1 : Round w W1 p q N T A o Bo := ⟨(T1.out.1.cut (fun k hk hu => ⟨hu, by omega⟩)).kp hK, T1.out.2.trans hK, OK.out, by rw [hW1, hBo]; exact heap_alloc_new wr _, by rw [hBo]; exact T1.out.2.size⟩
      have e0 := R1.e0
      have HR : Hid (Round w W1 p q N T A o Bo) := R1
      rw [← hW1, ← hBo]
      clear hW1 hBo hK R1 T1 OK d0 d1 d2 d3 d4 d5
      obtain ⟨t, κ, g1, g2, g3, g4, g5⟩ := place_of o.kind 7 (by decide)
      rw [show ((7 : Nat) : Int) = 7 from rfl] at g1 g2 g3 g4
      iterate 19 (first | go_values | go_skip | go_guarded | go_step | go_upon | go_back)
      go_cut [11, 12, 13, 14] (fun s11 s12 s13 s14 wc => ∃ (r s : Int) (T' : Slots) (A' : List Bool), s11 = .int .i64 r ∧ s12 = .int .i64 r ∧ s13 = .int .i64 s ∧ s14 = .int .i64 s ∧ Hid (Round w wc p q N T' A' o Bo))
      case first =>
        have FU : Hid (∀ w', W1.heap.size ≤ w'.heap.size → Free (fun k => w.heap.size ≤ k ∧ k ≠ Bo) w') := (show ∀ w' : World, W1.heap.size ≤ w'.heap.size → Free (fun k => w.heap.size ≤ k ∧ k ≠ Bo) w' from fun w' hs => HR.out.free.kp hs)
        have ws := HR.out.ok.s
        have cs : κ = 0 ∨ κ = 1 ∨ κ = 2 ∨ κ = 3 ∨ κ = 4 ∨ κ = 5 ∨ κ = 6 := by omega
        have kd : Kp W1 W1.drew := (Kp.refl W1).drew
        rcases cs with rfl | rfl | rfl | rfl | rfl | rfl | rfl
        · as_aux_lemma =>
            have k1 := two_ptake HR.out.two (FU.out _ (Nat.le_refl _))
            go_wp2_with fail
            with_reducible refine k1.mono ?_
            rintro e w3 ⟨rfl, T3, F1⟩
            clear k1
            have k2 := two_qtake T3 (FU.out _ F1.size)
            have H3 : Hid (Fr (fun k => w.heap.size ≤ k ∧ k ≠ Bo) W1 w3) := F1
            clear T3 F1
            go_wp2_with fail
            with_reducible refine k2.mono ?_
            rintro e w4 ⟨rfl, T4, F2⟩
            have HN : Hid (Round w w4 p q N (tkT N T) A o Bo) := HR.out.next T4 (H3.out.trans F2)
            clear k2 T4 F2 H3
            go_wp2_with fail
            go_meet
            case rel => exact ⟨_, _, _, _, rfl, rfl, rfl, rfl, HN⟩
        · as_aux_lemma =>
            have k1 := two_pgive (HR.out.two.kp kd) (FU.out _ kd.size) o.slot ws
            have KS : Aside (∀ w', Fr (fun k => w.heap.size ≤ k ∧ k ≠ Bo) W1.drew w' → w'.cell? ⟨Bo, 1, none⟩ = some (.int .i64 o.slot)) := fun w' k =>
              (k.cell (a := ⟨Bo, 1, none⟩) HR.out.lt (fun x => x.2 rfl)).trans HR.out.e1
            have e1 := HR.out.e1
            go_wp2_with fail
            go_region_held3 (fun w' => w'.cell? ⟨Bo, 1, none⟩ = some (.int .i64 o.slot))
              (first | go_keep | exact KS.out _ (F1.trans F2) | exact KS.out _ F1)
              (first | (go_at_call 11; refine k1.mono ?_; rintro e w3 ⟨rfl, T3, F1⟩) | (go_at_call 12; refine (two_qgive T3 (FU.out _ (Nat.le_trans kd.size F1.size)) o.slot).mono ?_; rintro e w4 ⟨rfl, T4, F2⟩))
            have HN : Hid (Round w w4 p q N (gvT T o.slot) A o Bo) := HR.out.next T4 ((kd.fr _).trans (F1.trans F2))
            clear KS k1 T3 T4 F1 F2 e1
            go_wp2_with fail
            go_meet
            case rel => exact ⟨_, _, _, _, rfl, rfl, rfl, rfl, HN⟩
        · have okr := HR.out.ok.kp HR.out.kp
          have k1 := page_any o.naA o.naB o.mA o.cA o.mB o.cB o.fA o.fB W1 okr.nA okr.nB
          have HO : Hid (o.Ok W1) := okr
          have e2 := HR.out.e2
          have e3 := HR.out.e3
          clear okr
          go_wp2_with fail
          with_reducible refine k1.mono ?_
          rintro e w3 ⟨rfl, ⟨f0, B3⟩, Z3, K3⟩
          clear k1 e2 e3
          have R3 : Hid (Round w w3 p q N T A o Bo ∧ Kp W1 w3 ∧ BS w3 W1.heap.size 0 4096 f0 ∧ w3.heap.size = W1.heap.size + 1) := ⟨HR.out.kp' K3, K3, B3, Z3⟩
          have e3 := R3.out.1.e3
          have e5 := R3.out.1.e5
          clear B3 Z3 K3
          cases hb : o.other
          · as_aux_lemma =>
              rw [hb] at e5
              have hf := R3.out.2.2.1.byte
              obtain ⟨g1, c1, W4, r1, O4, K4⟩ := copy_any w3 W1.heap.size 0 4096 4096 f0 R3.out.2.2.1.lt R3.out.2.2.1.cells R3.out.2.2.1.byte (by omega)
              obtain ⟨g2, c2, W5, r2, O5, K5'⟩ := snoc_165 W4 w3.heap.size g1 4096 c1 f0 O4 K4.size (by omega)
              have K5 : Kp w3 W5 := K5' w3 (Nat.le_refl _) K4
              have hg1 : W1.heap.size ≤ g2 := by have := O5.facts.1; have := R3.out.2.1.size; omega
              have hg2 : g2 < W5.heap.size := O5.facts.2.1
              have hcp : 4096 + 1 ≤ c2 := O5.facts.2.2
              have hb1 : W1.heap.size ≤ W1.heap.size := Nat.le_refl _
              have hb2 : W1.heap.size < W5.heap.size := by have := R3.out.2.2.1.lt; have := K5.size; omega
              have hbg : W1.heap.size ≠ g2 := by have := O5.facts.1; have := R3.out.2.2.1.lt; omega
              have kd5 : Kp W5 W5.drew := (Kp.refl W5).drew
              obtain ⟨T5, FR5⟩ := HR.out.two2 ((R3.out.2.1.trans K5).trans kd5) hb1 hg1 hb2 hg2
              have S5 := (O5.src hf).kp kd5
              have KW5 : Hid (Kp w W5.drew) := ((HR.out.kp.trans R3.out.2.1).trans K5).trans kd5
              have SR : Aside (∀ w5, Fr (U2 w Bo W1.heap.size g2) W5.drew w5 → Src w5 (some ⟨W1.heap.size, 0, none⟩) 4096 g2 f0) := fun w5 k => fun j hj => ⟨W1.heap.size, 0, rfl, hbg, Nat.lt_of_lt_of_le hb2 k.size, (k.cell (a := ⟨W1.heap.size, 0 + j, none⟩) hb2 (fun x => x.2.1 rfl)).trans ((R3.out.2.2.1.kp (K5.trans kd5)).cell j hj)⟩
              have k4 := two_pwrite T5 FR5 o.slot ws (some ⟨g2, 0, none⟩) 4096 c2 f0 hf (fun _ => ⟨g2, 0, rfl, hg2, fun h => h.2.2 rfl, S5.cells⟩)
              have K5q : Aside (∀ w5, Two (U2 w Bo W1.heap.size g2) w5 p q N (wrT T A o.slot 4096 f0) (wrA T A o.slot 4096) T A → Fr (U2 w Bo W1.heap.size g2) W5.drew w5 → Calls Try.prog 15 #[.pointer (some ⟨q, 0, none⟩), .int .i64 o.slot, .slice (some ⟨W1.heap.size, 0, none⟩) 4096 4096] w5 fun e w' => e = .returned (.int .i64 (wrR T A o.slot 4096)) ∧ Two (U2 w Bo W1.heap.size g2) w' p q N (wrT T A o.slot 4096 f0) (wrA T A o.slot 4096) (wrT T A o.slot 4096 f0) (wrA T A o.slot 4096) ∧ Fr (U2 w Bo W1.heap.size g2) w5 w') := fun w5 t k =>
                two_qwrite t (FR5.kp k.size) o.slot (some ⟨W1.heap.size, 0, none⟩) 4096 4096 f0 hf (fun _ => ⟨W1.heap.size, 0, rfl, Nat.lt_of_lt_of_le hb2 k.size, fun h => h.2.1 rfl, fun i hi => by rw [k.cell (a := ⟨W1.heap.size, 0 + i, none⟩) hb2 (fun x => x.2.1 rfl)]; exact (R3.out.2.2.1.kp (K5.trans kd5)).cell i hi⟩)
              have hBl : Bo < W5.drew.heap.size := Nat.lt_of_lt_of_le R3.out.1.lt K5.size
              have KS : Aside (∀ w', Fr (U2 w Bo W1.heap.size g2) W5.drew w' → w'.cell? ⟨Bo, 1, none⟩ = some (.int .i64 o.slot)) := fun w' k =>
                (k.cell (a := ⟨Bo, 1, none⟩) hBl (fun x => x.1.2 rfl)).trans (R3.out.1.kp' (K5.trans kd5)).e1
              have e1 := (R3.out.1.kp' K5).e1
              have y4 : (4096 : Int) + 1 ≤ (c2 : Int) := by omega
              have y5 : (4096 : Int) ≤ (c2 : Int) := by omega
              have y6 : (0 : Int) ≤ (4096 : Int) + 1 := by omega
              have RW : Hid (W5.drew.heap[Bo]? = some (oRow o)) := (R3.out.1.kp' (K5.trans kd5)).row
              have HG : Hid (w.heap.size ≤ g2 ∧ Bo ≠ g2) := ⟨by have := HR.out.kp.size; omega, by have := HR.out.lt; omega⟩
              have S5h : Hid (BS W5.drew g2 0 4096 f0) := S5
              clear O4 K4 K5' O5 S5 T5 FR5
              repeat' (first | ((with_reducible refine wp_append_of r1 (.tmp 144) (.tmp 145) ?_ ?_ ?_ ?_ ?_); rfl; rfl; rfl; rfl) | ((with_reducible refine wp_append_of r2 (.tmp 146) (.tmp 147) ?_ ?_ ?_ ?_ ?_); rfl; rfl; rfl; rfl) | go_values | go_skip | go_guarded | go_step | go_upon | go_back | (simp only []) | (go_values <;> (try go_simp)) | (go_ite <;> go_prune <;> (try go_simp)))
              clear r1 r2
              go_region_held3 (fun w' => w'.cell? ⟨Bo, 1, none⟩ = some (.int .i64 o.slot))
                (first | go_keep | exact KS.out _ (F1.trans F2) | exact KS.out _ F1)
                (first | (go_at_call 14; refine k4.mono ?_; rintro e w6 ⟨rfl, T6, F1⟩) | (go_at_call 15; refine (K5q.out _ T6 F1).mono ?_; rintro e w7 ⟨rfl, T7, F2⟩))
              have F3 := F1.trans F2
              have I0 : Hid (InSt w w7 p q N (wrT T A o.slot 4096 f0) (wrA T A o.slot 4096) o Bo W1.heap.size g2 4096 0 (some ⟨W1.heap.size, 0, none⟩) f0) :=
                ⟨T7, F3.kp KW5.out (fun i hi => hi.1.1), (F3.block Bo hBl (fun x => x.1.2 rfl)).trans RW.out, ⟨_, S5h.out.fr F3 (fun x => x.2.2 rfl), fun _ _ _ => rfl⟩, SR.out _ F3⟩
              clear k4 K5q KS T6 T7 F1 F2 F3 K5 kd5 S5h SR RW KW5
              generalize wrT T A o.slot 4096 f0 = T' at *
              generalize wrA T A o.slot 4096 = A' at *
              generalize wrR T A o.slot 4096 = r' at *
              go_wp2_with fail
              go_loopg [21] (4096 + 1) (fun g v21 wq => ∃ k : Nat, v21 = .int .i64 (k : Int) ∧ k ≤ 4096 ∧ 4096 + 1 - k ≤ g ∧ Hid (InSt w wq p q N T' A' o Bo W1.heap.size g2 4096 k (some ⟨W1.heap.size, 0, none⟩) f0))
              case atStart => exact ⟨0, rfl, by omega, by omega, I0⟩
              case round =>
                clear I0
                obtain ⟨k, rfl, k1, kg, HQ⟩ := hrel
                by_cases hk : k < 4096
                · have z5 : (k : Int) < (4096 : Int) := by omega
                  obtain ⟨q1, q2, ⟨pb, po, pe, q3⟩, HQ2⟩ := HQ.out.dot hk HG.out.1 HG.out.2
                  cases pe
                  rw [Nat.zero_add] at q3
                  generalize f0 k = vb at q1 q3
                  clear HQ
                  go_wp2_with fail
                  go_region
                  go_wp2
                  go_roundg (4096 + 1 - (k + 1))
                  case measure => omega
                  case rel => exact ⟨k + 1, by go_num, by omega, by omega, HQ2⟩
                · have z5 : ¬ (k : Int) < (4096 : Int) := by omega
                  have HN : Hid (Round w wr p q N T' A' o Bo) := HQ.out.round HR.out.ok HR.out.up
                  clear HQ
                  go_wp2_with fail
                  go_meet
                  case rel => exact ⟨_, _, _, _, rfl, rfl, rfl, rfl, HN⟩
          · obtain ⟨n, hn1, hn2, hmn⟩ : ∃ n : Nat, n ≤ 100 ∧ n ≤ o.mB ∧ (if (100 : Int) < (o.mB : Int) then 100 else (o.mB : Int)) = (n : Int) := by
              by_cases c : 100 < o.mB
              · exact ⟨100, Nat.le_refl _, by omega, by rw [if_pos (by omega)]; rfl⟩
              · exact ⟨o.mB, by omega, Nat.le_refl _, by rw [if_neg (by omega)]⟩
            as_aux_lemma =>
              rw [hb] at e5
              have hf := fb_byte o.fB
              obtain ⟨g1, c1, W4, r1, O4, K4⟩ := copy_in w3 o.naB o.mB n o.cB o.fB (HO.out.nB.kp R3.out.2.1) hn2 HO.out.cB (by omega)
              obtain ⟨g2, c2, W5, r2, O5, K5'⟩ := snoc_165 W4 w3.heap.size g1 n c1 (fb o.fB) O4 K4.size (by omega)
              have K5 : Kp w3 W5 := K5' w3 (Nat.le_refl _) K4
              have hg1 : W1.heap.size ≤ g2 := by have := O5.facts.1; have := R3.out.2.1.size; omega
              have hg2 : g2 < W5.heap.size := O5.facts.2.1
              have hcp : n + 1 ≤ c2 := O5.facts.2.2
              have hb1 : W1.heap.size ≤ W1.heap.size := Nat.le_refl _
              have hb2 : W1.heap.size < W5.heap.size := by have := R3.out.2.2.1.lt; have := K5.size; omega
              have hbg : W1.heap.size ≠ g2 := by have := O5.facts.1; have := R3.out.2.2.1.lt; omega
              have kd5 : Kp W5 W5.drew := (Kp.refl W5).drew
              obtain ⟨T5, FR5⟩ := HR.out.two2 ((R3.out.2.1.trans K5).trans kd5) hb1 hg1 hb2 hg2
              have S5 := (O5.src hf).kp kd5
              have KW5 : Hid (Kp w W5.drew) := ((HR.out.kp.trans R3.out.2.1).trans K5).trans kd5
              have SR : Aside (∀ w5, Fr (U2 w Bo W1.heap.size g2) W5.drew w5 → Src w5 o.naB n g2 (fb o.fB)) := fun w5 k => (fun j hj => by
                have hB := HO.out.nB.kp ((R3.out.2.1.trans K5).trans kd5)
                obtain ⟨cb, co, q1, q2, q3⟩ := nsk_cells HR.out.ok.nB (show 0 < n by omega) hn2
                have kk : Kp w w5 := k.kp KW5.out (fun i hi => hi.1.1)
                exact ⟨cb, co, q1, by have := HR.out.kp.size; omega, Nat.lt_of_lt_of_le q2 kk.size, (kk.cell (p := ⟨cb, co + j, none⟩) q2).trans (q3 j hj)⟩)
              have k4 := two_pwrite T5 FR5 o.slot ws (some ⟨g2, 0, none⟩) n c2 (fb o.fB) hf (fun _ => ⟨g2, 0, rfl, hg2, fun h => h.2.2 rfl, S5.cells⟩)
              have K5q : Aside (∀ w5, Two (U2 w Bo W1.heap.size g2) w5 p q N (wrT T A o.slot n (fb o.fB)) (wrA T A o.slot n) T A → Fr (U2 w Bo W1.heap.size g2) W5.drew w5 → Calls Try.prog 15 #[.pointer (some ⟨q, 0, none⟩), .int .i64 o.slot, .slice o.naB n o.cB] w5 fun e w' => e = .returned (.int .i64 (wrR T A o.slot n)) ∧ Two (U2 w Bo W1.heap.size g2) w' p q N (wrT T A o.slot n (fb o.fB)) (wrA T A o.slot n) (wrT T A o.slot n (fb o.fB)) (wrA T A o.slot n) ∧ Fr (U2 w Bo W1.heap.size g2) w5 w') := fun w5 t k =>
                two_qwrite t (FR5.kp k.size) o.slot o.naB n o.cB (fb o.fB) hf (fun h => by omega)
              have hBl : Bo < W5.drew.heap.size := Nat.lt_of_lt_of_le R3.out.1.lt K5.size
              have KS : Aside (∀ w', Fr (U2 w Bo W1.heap.size g2) W5.drew w' → w'.cell? ⟨Bo, 1, none⟩ = some (.int .i64 o.slot)) := fun w' k =>
                (k.cell (a := ⟨Bo, 1, none⟩) hBl (fun x => x.1.2 rfl)).trans (R3.out.1.kp' (K5.trans kd5)).e1
              have e1 := (R3.out.1.kp' K5).e1
              have y4 : (n : Int) + 1 ≤ (c2 : Int) := by omega
              have y5 : (n : Int) ≤ (c2 : Int) := by omega
              have y6 : (0 : Int) ≤ (n : Int) + 1 := by omega
              have RW : Hid (W5.drew.heap[Bo]? = some (oRow o)) := (R3.out.1.kp' (K5.trans kd5)).row
              have HG : Hid (w.heap.size ≤ g2 ∧ Bo ≠ g2) := ⟨by have := HR.out.kp.size; omega, by have := HR.out.lt; omega⟩
              have S5h : Hid (BS W5.drew g2 0 n (fb o.fB)) := S5
              clear O4 K4 K5' O5 S5 T5 FR5
              have y8 : (n : Int) ≤ o.cB := by have := HO.out.lB; omega
              have y7 : (n : Int) ≤ 100 := by omega
              repeat' (first | ((with_reducible refine wp_append_of r1 (.tmp 144) (.tmp 145) ?_ ?_ ?_ ?_ ?_); rfl; rfl; rfl; rfl) | ((with_reducible refine wp_append_of r2 (.tmp 146) (.tmp 147) ?_ ?_ ?_ ?_ ?_); rfl; rfl; rfl; rfl) | go_values | go_skip | go_guarded | go_step | go_upon | go_back | (simp only []) | (go_values <;> (try go_simp)) | (go_ite <;> go_prune <;> (try go_simp)))
              clear r1 r2
              go_region_held3 (fun w' => w'.cell? ⟨Bo, 1, none⟩ = some (.int .i64 o.slot))
                (first | go_keep | exact KS.out _ (F1.trans F2) | exact KS.out _ F1)
                (first | (go_at_call 14; refine k4.mono ?_; rintro e w6 ⟨rfl, T6, F1⟩) | (go_at_call 15; refine (K5q.out _ T6 F1).mono ?_; rintro e w7 ⟨rfl, T7, F2⟩))
              have F3 := F1.trans F2
              have I0 : Hid (InSt w w7 p q N (wrT T A o.slot n (fb o.fB)) (wrA T A o.slot n) o Bo W1.heap.size g2 n 0 o.naB (fb o.fB)) :=
                ⟨T7, F3.kp KW5.out (fun i hi => hi.1.1), (F3.block Bo hBl (fun x => x.1.2 rfl)).trans RW.out, ⟨_, S5h.out.fr F3 (fun x => x.2.2 rfl), fun _ _ _ => rfl⟩, SR.out _ F3⟩
              clear k4 K5q KS T6 T7 F1 F2 F3 K5 kd5 S5h SR RW KW5
              generalize wrT T A o.slot n (fb o.fB) = T' at *
              generalize wrA T A o.slot n = A' at *
              generalize wrR T A o.slot n = r' at *
              generalize o.naB = nB at *
              go_wp2_with fail
              go_loopg [21] (n + 1) (fun g v21 wq => ∃ k : Nat, v21 = .int .i64 (k : Int) ∧ k ≤ n ∧ n + 1 - k ≤ g ∧ Hid (InSt w wq p q N T' A' o Bo W1.heap.size g2 n k nB (fb o.fB)))
              case atStart => exact ⟨0, rfl, by omega, by omega, I0⟩
              case round =>
                clear I0
                obtain ⟨k, rfl, k1, kg, HQ⟩ := hrel
                by_cases hk : k < n
                · have z5 : (k : Int) < (n : Int) := by omega
                  obtain ⟨q1, q2, ⟨pb, po, pe, q3⟩, HQ2⟩ := HQ.out.dot hk HG.out.1 HG.out.2
                  subst pe
                  generalize (fb o.fB) k = vb at q1 q3
                  clear HQ
                  go_wp2_with fail
                  go_region
                  go_wp2
                  go_roundg (n + 1 - (k + 1))
                  case measure => omega
                  case rel => exact ⟨k + 1, by go_num, by omega, by omega, HQ2⟩
                · have z5 : ¬ (k : Int) < (n : Int) := by omega
                  have HN : Hid (Round w wr p q N T' A' o Bo) := HQ.out.round HR.out.ok HR.out.up
                  clear HQ
                  go_wp2_with fail
                  go_meet
                  case rel => exact ⟨_, _, _, _, rfl, rfl, rfl, rfl, HN⟩
        · have okr := HR.out.ok.kp HR.out.kp
          have k1 := page_any o.naA o.naB o.mA o.cA o.mB o.cB o.fA o.fB W1 okr.nA okr.nB
          have HO : Hid (o.Ok W1) := okr
          have e2 := HR.out.e2
          have e3 := HR.out.e3
          clear okr
          go_wp2_with fail
          with_reducible refine k1.mono ?_
          rintro e w3 ⟨rfl, ⟨f0, B3⟩, Z3, K3⟩
          clear k1 e2 e3
          have R3 : Hid (Round w w3 p q N T A o Bo ∧ Kp W1 w3 ∧ BS w3 W1.heap.size 0 4096 f0 ∧ w3.heap.size = W1.heap.size + 1) := ⟨HR.out.kp' K3, K3, B3, Z3⟩
          have e3 := R3.out.1.e3
          have e5 := R3.out.1.e5
          clear B3 Z3 K3
          cases hb : o.other
          · as_aux_lemma =>
              rw [hb] at e5
              have hf := R3.out.2.2.1.byte
              obtain ⟨g1, c1, W4, r1, O4, K4⟩ := copy_any w3 W1.heap.size 0 4096 4096 f0 R3.out.2.2.1.lt R3.out.2.2.1.cells R3.out.2.2.1.byte (by omega)
              obtain ⟨g2, c2, W5, r2, O5, K5'⟩ := snoc_165 W4 w3.heap.size g1 4096 c1 f0 O4 K4.size (by omega)
              have K5 : Kp w3 W5 := K5' w3 (Nat.le_refl _) K4
              have hg1 : W1.heap.size ≤ g2 := by have := O5.facts.1; have := R3.out.2.1.size; omega
              have hg2 : g2 < W5.heap.size := O5.facts.2.1
              have hcp : 4096 + 1 ≤ c2 := O5.facts.2.2
              have hb1 : W1.heap.size ≤ W1.heap.size := Nat.le_refl _
              have hb2 : W1.heap.size < W5.heap.size := by have := R3.out.2.2.1.lt; have := K5.size; omega
              have hbg : W1.heap.size ≠ g2 := by have := O5.facts.1; have := R3.out.2.2.1.lt; omega
              have kd5 : Kp W5 W5.drew := (Kp.refl W5).drew
              obtain ⟨T5, FR5⟩ := HR.out.two2 ((R3.out.2.1.trans K5).trans kd5) hb1 hg1 hb2 hg2
              have S5 := (O5.src hf).kp kd5
              have KW5 : Hid (Kp w W5.drew) := ((HR.out.kp.trans R3.out.2.1).trans K5).trans kd5
              have SR : Aside (∀ w5, Fr (U2 w Bo W1.heap.size g2) W5.drew w5 → Src w5 (some ⟨W1.heap.size, 0, none⟩) 4096 g2 f0) := fun w5 k => fun j hj => ⟨W1.heap.size, 0, rfl, hbg, Nat.lt_of_lt_of_le hb2 k.size, (k.cell (a := ⟨W1.heap.size, 0 + j, none⟩) hb2 (fun x => x.2.1 rfl)).trans ((R3.out.2.2.1.kp (K5.trans kd5)).cell j hj)⟩
              have k4 := two_pwrite T5 FR5 o.slot ws (some ⟨g2, 0, none⟩) 4096 c2 f0 hf (fun _ => ⟨g2, 0, rfl, hg2, fun h => h.2.2 rfl, S5.cells⟩)
              have K5q : Aside (∀ w5, Two (U2 w Bo W1.heap.size g2) w5 p q N (wrT T A o.slot 4096 f0) (wrA T A o.slot 4096) T A → Fr (U2 w Bo W1.heap.size g2) W5.drew w5 → Calls Try.prog 15 #[.pointer (some ⟨q, 0, none⟩), .int .i64 o.slot, .slice (some ⟨W1.heap.size, 0, none⟩) 4096 4096] w5 fun e w' => e = .returned (.int .i64 (wrR T A o.slot 4096)) ∧ Two (U2 w Bo W1.heap.size g2) w' p q N (wrT T A o.slot 4096 f0) (wrA T A o.slot 4096) (wrT T A o.slot 4096 f0) (wrA T A o.slot 4096) ∧ Fr (U2 w Bo W1.heap.size g2) w5 w') := fun w5 t k =>
                two_qwrite t (FR5.kp k.size) o.slot (some ⟨W1.heap.size, 0, none⟩) 4096 4096 f0 hf (fun _ => ⟨W1.heap.size, 0, rfl, Nat.lt_of_lt_of_le hb2 k.size, fun h => h.2.1 rfl, fun i hi => by rw [k.cell (a := ⟨W1.heap.size, 0 + i, none⟩) hb2 (fun x => x.2.1 rfl)]; exact (R3.out.2.2.1.kp (K5.trans kd5)).cell i hi⟩)
              have hBl : Bo < W5.drew.heap.size := Nat.lt_of_lt_of_le R3.out.1.lt K5.size
              have KS : Aside (∀ w', Fr (U2 w Bo W1.heap.size g2) W5.drew w' → w'.cell? ⟨Bo, 1, none⟩ = some (.int .i64 o.slot)) := fun w' k =>
                (k.cell (a := ⟨Bo, 1, none⟩) hBl (fun x => x.1.2 rfl)).trans (R3.out.1.kp' (K5.trans kd5)).e1
              have e1 := (R3.out.1.kp' K5).e1
              have y4 : (4096 : Int) + 1 ≤ (c2 : Int) := by omega
              have y5 : (4096 : Int) ≤ (c2 : Int) := by omega
              have y6 : (0 : Int) ≤ (4096 : Int) + 1 := by omega
              have RW : Hid (W5.drew.heap[Bo]? = some (oRow o)) := (R3.out.1.kp' (K5.trans kd5)).row
              have HG : Hid (w.heap.size ≤ g2 ∧ Bo ≠ g2) := ⟨by have := HR.out.kp.size; omega, by have := HR.out.lt; omega⟩
              have S5h : Hid (BS W5.drew g2 0 4096 f0) := S5
              clear O4 K4 K5' O5 S5 T5 FR5
              repeat' (first | ((with_reducible refine wp_append_of r1 (.tmp 144) (.tmp 145) ?_ ?_ ?_ ?_ ?_); rfl; rfl; rfl; rfl) | ((with_reducible refine wp_append_of r2 (.tmp 146) (.tmp 147) ?_ ?_ ?_ ?_ ?_); rfl; rfl; rfl; rfl) | go_values | go_skip | go_guarded | go_step | go_upon | go_back | (simp only []) | (go_values <;> (try go_simp)) | (go_ite <;> go_prune <;> (try go_simp)))
              clear r1 r2
              go_region_held3 (fun w' => w'.cell? ⟨Bo, 1, none⟩ = some (.int .i64 o.slot))
                (first | go_keep | exact KS.out _ (F1.trans F2) | exact KS.out _ F1)
                (first | (go_at_call 14; refine k4.mono ?_; rintro e w6 ⟨rfl, T6, F1⟩) | (go_at_call 15; refine (K5q.out _ T6 F1).mono ?_; rintro e w7 ⟨rfl, T7, F2⟩))
              have F3 := F1.trans F2
              have I0 : Hid (InSt w w7 p q N (wrT T A o.slot 4096 f0) (wrA T A o.slot 4096) o Bo W1.heap.size g2 4096 0 (some ⟨W1.heap.size, 0, none⟩) f0) :=
                ⟨T7, F3.kp KW5.out (fun i hi => hi.1.1), (F3.block Bo hBl (fun x => x.1.2 rfl)).trans RW.out, ⟨_, S5h.out.fr F3 (fun x => x.2.2 rfl), fun _ _ _ => rfl⟩, SR.out _ F3⟩
              clear k4 K5q KS T6 T7 F1 F2 F3 K5 kd5 S5h SR RW KW5
              generalize wrT T A o.slot 4096 f0 = T' at *
              generalize wrA T A o.slot 4096 = A' at *
              generalize wrR T A o.slot 4096 = r' at *
              go_wp2_with fail
              go_loopg [21] (4096 + 1) (fun g v21 wq => ∃ k : Nat, v21 = .int .i64 (k : Int) ∧ k ≤ 4096 ∧ 4096 + 1 - k ≤ g ∧ Hid (InSt w wq p q N T' A' o Bo W1.heap.size g2 4096 k (some ⟨W1.heap.size, 0, none⟩) f0))
              case atStart => exact ⟨0, rfl, by omega, by omega, I0⟩
              case round =>
                clear I0
                obtain ⟨k, rfl, k1, kg, HQ⟩ := hrel
                by_cases hk : k < 4096
                · have z5 : (k : Int) < (4096 : Int) := by omega
                  obtain ⟨q1, q2, ⟨pb, po, pe, q3⟩, HQ2⟩ := HQ.out.dot hk HG.out.1 HG.out.2
                  cases pe
                  rw [Nat.zero_add] at q3
                  generalize f0 k = vb at q1 q3
                  clear HQ
                  go_wp2_with fail
                  go_region
                  go_wp2
                  go_roundg (4096 + 1 - (k + 1))
                  case measure => omega
                  case rel => exact ⟨k + 1, by go_num, by omega, by omega, HQ2⟩
                · have z5 : ¬ (k : Int) < (4096 : Int) := by omega
                  have HN : Hid (Round w wr p q N T' A' o Bo) := HQ.out.round HR.out.ok HR.out.up
                  clear HQ
                  go_wp2_with fail
                  go_meet
                  case rel => exact ⟨_, _, _, _, rfl, rfl, rfl, rfl, HN⟩
          · obtain ⟨n, hn1, hn2, hmn⟩ : ∃ n : Nat, n ≤ 100 ∧ n ≤ o.mB ∧ (if (100 : Int) < (o.mB : Int) then 100 else (o.mB : Int)) = (n : Int) := by
              by_cases c : 100 < o.mB
              · exact ⟨100, Nat.le_refl _, by omega, by rw [if_pos (by omega)]; rfl⟩
              · exact ⟨o.mB, by omega, Nat.le_refl _, by rw [if_neg (by omega)]⟩
            as_aux_lemma =>
              rw [hb] at e5
              have hf := fb_byte o.fB
              obtain ⟨g1, c1, W4, r1, O4, K4⟩ := copy_in w3 o.naB o.mB n o.cB o.fB (HO.out.nB.kp R3.out.2.1) hn2 HO.out.cB (by omega)
              obtain ⟨g2, c2, W5, r2, O5, K5'⟩ := snoc_165 W4 w3.heap.size g1 n c1 (fb o.fB) O4 K4.size (by omega)
              have K5 : Kp w3 W5 := K5' w3 (Nat.le_refl _) K4
              have hg1 : W1.heap.size ≤ g2 := by have := O5.facts.1; have := R3.out.2.1.size; omega
              have hg2 : g2 < W5.heap.size := O5.facts.2.1
              have hcp : n + 1 ≤ c2 := O5.facts.2.2
              have hb1 : W1.heap.size ≤ W1.heap.size := Nat.le_refl _
              have hb2 : W1.heap.size < W5.heap.size := by have := R3.out.2.2.1.lt; have := K5.size; omega
              have hbg : W1.heap.size ≠ g2 := by have := O5.facts.1; have := R3.out.2.2.1.lt; omega
              have kd5 : Kp W5 W5.drew := (Kp.refl W5).drew
              obtain ⟨T5, FR5⟩ := HR.out.two2 ((R3.out.2.1.trans K5).trans kd5) hb1 hg1 hb2 hg2
              have S5 := (O5.src hf).kp kd5
              have KW5 : Hid (Kp w W5.drew) := ((HR.out.kp.trans R3.out.2.1).trans K5).trans kd5
              have SR : Aside (∀ w5, Fr (U2 w Bo W1.heap.size g2) W5.drew w5 → Src w5 o.naB n g2 (fb o.fB)) := fun w5 k => (fun j hj => by
                have hB := HO.out.nB.kp ((R3.out.2.1.trans K5).trans kd5)
                obtain ⟨cb, co, q1, q2, q3⟩ := nsk_cells HR.out.ok.nB (show 0 < n by omega) hn2
                have kk : Kp w w5 := k.kp KW5.out (fun i hi => hi.1.1)
                exact ⟨cb, co, q1, by have := HR.out.kp.size; omega, Nat.lt_of_lt_of_le q2 kk.size, (kk.cell (p := ⟨cb, co + j, none⟩) q2).trans (q3 j hj)⟩)
              have k4 := two_pwrite T5 FR5 o.slot ws (some ⟨g2, 0, none⟩) n c2 (fb o.fB) hf (fun _ => ⟨g2, 0, rfl, hg2, fun h => h.2.2 rfl, S5.cells⟩)
              have K5q : Aside (∀ w5, Two (U2 w Bo W1.heap.size g2) w5 p q N (wrT T A o.slot n (fb o.fB)) (wrA T A o.slot n) T A → Fr (U2 w Bo W1.heap.size g2) W5.drew w5 → Calls Try.prog 15 #[.pointer (some ⟨q, 0, none⟩), .int .i64 o.slot, .slice o.naB n o.cB] w5 fun e w' => e = .returned (.int .i64 (wrR T A o.slot n)) ∧ Two (U2 w Bo W1.heap.size g2) w' p q N (wrT T A o.slot n (fb o.fB)) (wrA T A o.slot n) (wrT T A o.slot n (fb o.fB)) (wrA T A o.slot n) ∧ Fr (U2 w Bo W1.heap.size g2) w5 w') := fun w5 t k =>
                two_qwrite t (FR5.kp k.size) o.slot o.naB n o.cB (fb o.fB) hf (fun h => by omega)
              have hBl : Bo < W5.drew.heap.size := Nat.lt_of_lt_of_le R3.out.1.lt K5.size
              have KS : Aside (∀ w', Fr (U2 w Bo W1.heap.size g2) W5.drew w' → w'.cell? ⟨Bo, 1, none⟩ = some (.int .i64 o.slot)) := fun w' k =>
                (k.cell (a := ⟨Bo, 1, none⟩) hBl (fun x => x.1.2 rfl)).trans (R3.out.1.kp' (K5.trans kd5)).e1
              have e1 := (R3.out.1.kp' K5).e1
              have y4 : (n : Int) + 1 ≤ (c2 : Int) := by omega
              have y5 : (n : Int) ≤ (c2 : Int) := by omega
              have y6 : (0 : Int) ≤ (n : Int) + 1 := by omega
              have RW : Hid (W5.drew.heap[Bo]? = some (oRow o)) := (R3.out.1.kp' (K5.trans kd5)).row
              have HG : Hid (w.heap.size ≤ g2 ∧ Bo ≠ g2) := ⟨by have := HR.out.kp.size; omega, by have := HR.out.lt; omega⟩
              have S5h : Hid (BS W5.drew g2 0 n (fb o.fB)) := S5
              clear O4 K4 K5' O5 S5 T5 FR5
              have y8 : (n : Int) ≤ o.cB := by have := HO.out.lB; omega
              have y7 : (n : Int) ≤ 100 := by omega
              repeat' (first | ((with_reducible refine wp_append_of r1 (.tmp 144) (.tmp 145) ?_ ?_ ?_ ?_ ?_); rfl; rfl; rfl; rfl) | ((with_reducible refine wp_append_of r2 (.tmp 146) (.tmp 147) ?_ ?_ ?_ ?_ ?_); rfl; rfl; rfl; rfl) | go_values | go_skip | go_guarded | go_step | go_upon | go_back | (simp only []) | (go_values <;> (try go_simp)) | (go_ite <;> go_prune <;> (try go_simp)))
              clear r1 r2
              go_region_held3 (fun w' => w'.cell? ⟨Bo, 1, none⟩ = some (.int .i64 o.slot))
                (first | go_keep | exact KS.out _ (F1.trans F2) | exact KS.out _ F1)
                (first | (go_at_call 14; refine k4.mono ?_; rintro e w6 ⟨rfl, T6, F1⟩) | (go_at_call 15; refine (K5q.out _ T6 F1).mono ?_; rintro e w7 ⟨rfl, T7, F2⟩))
              have F3 := F1.trans F2
              have I0 : Hid (InSt w w7 p q N (wrT T A o.slot n (fb o.fB)) (wrA T A o.slot n) o Bo W1.heap.size g2 n 0 o.naB (fb o.fB)) :=
                ⟨T7, F3.kp KW5.out (fun i hi => hi.1.1), (F3.block Bo hBl (fun x => x.1.2 rfl)).trans RW.out, ⟨_, S5h.out.fr F3 (fun x => x.2.2 rfl), fun _ _ _ => rfl⟩, SR.out _ F3⟩
              clear k4 K5q KS T6 T7 F1 F2 F3 K5 kd5 S5h SR RW KW5
              generalize wrT T A o.slot n (fb o.fB) = T' at *
              generalize wrA T A o.slot n = A' at *
              generalize wrR T A o.slot n = r' at *
              generalize o.naB = nB at *
              go_wp2_with fail
              go_loopg [21] (n + 1) (fun g v21 wq => ∃ k : Nat, v21 = .int .i64 (k : Int) ∧ k ≤ n ∧ n + 1 - k ≤ g ∧ Hid (InSt w wq p q N T' A' o Bo W1.heap.size g2 n k nB (fb o.fB)))
              case atStart => exact ⟨0, rfl, by omega, by omega, I0⟩
              case round =>
                clear I0
                obtain ⟨k, rfl, k1, kg, HQ⟩ := hrel
                by_cases hk : k < n
                · have z5 : (k : Int) < (n : Int) := by omega
                  obtain ⟨q1, q2, ⟨pb, po, pe, q3⟩, HQ2⟩ := HQ.out.dot hk HG.out.1 HG.out.2
                  subst pe
                  generalize (fb o.fB) k = vb at q1 q3
                  clear HQ
                  go_wp2_with fail
                  go_region
                  go_wp2
                  go_roundg (n + 1 - (k + 1))
                  case measure => omega
                  case rel => exact ⟨k + 1, by go_num, by omega, by omega, HQ2⟩
                · have z5 : ¬ (k : Int) < (n : Int) := by omega
                  have HN : Hid (Round w wr p q N T' A' o Bo) := HQ.out.round HR.out.ok HR.out.up
                  clear HQ
                  go_wp2_with fail
                  go_meet
                  case rel => exact ⟨_, _, _, _, rfl, rfl, rfl, rfl, HN⟩
        · as_aux_lemma =>
            have k1 := two_pread HR.out.two o.slot ws
            have e1 := HR.out.e1
            go_wp2_with fail
            with_reducible refine k1.mono ?_
            rintro e w3 ⟨na1, cap1, rfl, D3, T3, F1⟩
            clear k1 e1
            have e1 := (F1.cell (a := ⟨Bo, 1, none⟩) HR.out.lt (fun x => x.2 rfl)).trans HR.out.e1
            have T3' : Two (U3 w Bo W1.heap.size w3.heap.size) w3 p q N T (rdA T A o.slot) T A := T3.cut (fun i _ hu => ⟨hu.1, by omega⟩)
            have FR3 : Free (U3 w Bo W1.heap.size w3.heap.size) w3 := fun k hk => ⟨FU.out _ F1.size k hk, by omega⟩
            have k2 := two_qread T3' FR3 o.slot
            have H3 : Hid (Told W1 w3 na1 (rdN T A o.slot) (rdF T o.slot) ∧ Fr (fun k => w.heap.size ≤ k ∧ k ≠ Bo) W1 w3) := ⟨D3, F1⟩
            clear D3 T3 T3' FR3 F1
            go_wp2_with fail
            with_reducible refine k2.mono ?_
            rintro e w4 ⟨na2, cap2, rfl, L4, T4, F2⟩
            clear k2
            have D4 : 0 < rdN T A o.slot → ∃ b, na1 = some ⟨b, 0, none⟩ ∧ (W1.heap.size ≤ b ∧ b < w3.heap.size) ∧ BS w4 b 0 (rdN T A o.slot) (rdF T o.slot) := fun h => by
              obtain ⟨b, b1, b2, b3⟩ := H3.out.1.2 h
              exact ⟨b, b1, ⟨b2, b3.lt⟩, b3.fr F2 (fun hu => hu.2 ⟨b2, b3.lt⟩)⟩
            have s1 := str_of (cap := cap1) (w := w4) H3.out.1.1 (fun h => by obtain ⟨b, b1, _, b3⟩ := D4 h; exact ⟨b, b1, b3⟩)
            have s2 := str_of (cap := cap2) (w := w4) L4.1 (fun h => by obtain ⟨b, b1, _, b3⟩ := L4.2 h; exact ⟨b, b1, b3⟩)
            have hn : rdN T A o.slot ≤ 4096 := by unfold rdN; split <;> omega
            have hw3 : W1.heap.size ≤ w3.heap.size := H3.out.2.size
            have FF : Fr (fun k => w.heap.size ≤ k ∧ k ≠ Bo) W1 w4 := H3.out.2.trans (F2.mono (fun i _ hu => hu.1))
            have R4 : Hid (Two (U3 w Bo W1.heap.size w3.heap.size) w4 p q N T (rdA T A o.slot) T (rdA T A o.slot) ∧ Kp w w4 ∧ w4.heap[Bo]? = some (oRow o)) := ⟨T4, FF.kp HR.out.kp (fun i hi => hi.1), (FF.block Bo HR.out.lt (fun x => x.2 rfl)).trans HR.out.row⟩
            have H4 : Hid (0 < rdN T A o.slot → ∃ b, na1 = some ⟨b, 0, none⟩ ∧ (W1.heap.size ≤ b ∧ b < w3.heap.size) ∧ ∃ f, BS w4 b 0 (rdN T A o.slot) f) := (show 0 < rdN T A o.slot → ∃ b, na1 = some ⟨b, 0, none⟩ ∧ (W1.heap.size ≤ b ∧ b < w3.heap.size) ∧ ∃ f, BS w4 b 0 (rdN T A o.slot) f from fun h => by
              obtain ⟨b, b1, b2, b3⟩ := D4 h
              exact ⟨b, b1, b2, _, b3⟩)
            clear L4 T4 F2 D4 FF H3 e1
            generalize strOf (rdF T o.slot) (rdN T A o.slot) = st at *
            generalize rdN T A o.slot = n at *
            generalize rdA T A o.slot = A' at *
            generalize rdR T A o.slot = r' at *
            have y4 : (n : Int) ≤ 4096 := by omega
            obtain ⟨bl8, hb8⟩ : ∃ b8 : Nat, 0 < n → na1 = some ⟨b8, 0, none⟩ ∧ (W1.heap.size ≤ b8 ∧ b8 < w3.heap.size) ∧ ∃ f, BS w4 b8 0 n f := by
              by_cases c : 0 < n
              · obtain ⟨b, hb⟩ := H4.out c
                exact ⟨b, fun _ => hb⟩
              · exact ⟨0, fun h => absurd h c⟩
            have H8 : Hid (0 < n → na1 = some ⟨bl8, 0, none⟩ ∧ (W1.heap.size ≤ bl8 ∧ bl8 < w3.heap.size) ∧ ∃ f, BS w4 bl8 0 n f) := hb8
            clear hb8 H4
            go_wp2_with fail
            go_loopg [26] (n + 1) (fun g v26 wq => ∃ k : Nat, v26 = .int .i64 (k : Int) ∧ k ≤ n ∧ n + 1 - k ≤ g ∧ Hid (Fr (fun z => z = bl8 ∧ 0 < n) w4 wq ∧ (0 < n → ∃ f, BS wq bl8 0 n f)))
            case atStart => exact ⟨0, rfl, by omega, by omega, ⟨Fr.refl _ _, fun h => (H8.out h).2.2⟩⟩
            case round =>
              obtain ⟨k, rfl, k1, kg, HQ⟩ := hrel
              by_cases hk : k < n
              · obtain rfl := (H8.out (by omega)).1
                obtain ⟨f, hf⟩ := HQ.out.2 (by omega)
                have y5 : (k : Int) < n := by omega
                have c1 := hf.cell k hk
                have c2 := hf.frz k hk
                have HQ2 : Hid (Fr (fun z => z = bl8 ∧ 0 < n) w4 (wr.setCell ⟨bl8, 0 + k, none⟩ (.int .u8 (221 : Nat))) ∧ (0 < n → ∃ f, BS (wr.setCell ⟨bl8, 0 + k, none⟩ (.int .u8 (221 : Nat))) bl8 0 n f)) := ⟨HQ.out.1.set _ _ ⟨rfl, by omega⟩, fun _ => ⟨_, hf.set k 221 hk (by decide)⟩⟩
                rw [Nat.zero_add] at c1 c2 HQ2
                rw [show (((221 : Nat)) : Int) = 221 from rfl] at HQ2
                generalize f k = b at c1
                clear hf HQ
                go_wp2
                go_roundg (n + 1 - (k + 1))
                case measure => omega
                case rel => exact ⟨k + 1, by go_num, by omega, by omega, HQ2⟩
              · have y5 : ¬ (k : Int) < n := by omega
                have HN : Hid (Round w wr p q N T A' o Bo) := by
                  have hB := HR.out.lt
                  have hKs := HR.out.kp.size
                  refine ⟨(R4.out.1.out HQ.out.1 (fun i hi e => ?_)).cut (fun _ _ h => h.1), HQ.out.1.kp R4.out.2.1 (fun i hi => ?_), HR.out.ok, (HQ.out.1.block Bo (Array.getElem?_eq_some_iff.1 R4.out.2.2).1 (fun e => ?_)).trans R4.out.2.2, HR.out.up⟩
                  · have := (H8.out e.2).2.1
                    exact hi.2 (by rw [e.1]; exact this)
                  · have := (H8.out hi.2).2.1
                    omega
                  · have := (H8.out e.2).2.1
                    omega
                clear HQ H8 R4
                go_wp2_with fail
                go_meet
                case rel => exact ⟨_, 0, _, _, rfl, rfl, rfl, rfl, HN⟩
        · as_aux_lemma =>
            have k1 := two_pread HR.out.two o.slot ws
            have e1 := HR.out.e1
            go_wp2_with fail
            with_reducible refine k1.mono ?_
            rintro e w3 ⟨na1, cap1, rfl, D3, T3, F1⟩
            clear k1 e1
            have e1 := (F1.cell (a := ⟨Bo, 1, none⟩) HR.out.lt (fun x => x.2 rfl)).trans HR.out.e1
            have T3' : Two (U3 w Bo W1.heap.size w3.heap.size) w3 p q N T (rdA T A o.slot) T A := T3.cut (fun i _ hu => ⟨hu.1, by omega⟩)
            have FR3 : Free (U3 w Bo W1.heap.size w3.heap.size) w3 := fun k hk => ⟨FU.out _ F1.size k hk, by omega⟩
            have k2 := two_qread T3' FR3 o.slot
            have H3 : Hid (Told W1 w3 na1 (rdN T A o.slot) (rdF T o.slot) ∧ Fr (fun k => w.heap.size ≤ k ∧ k ≠ Bo) W1 w3) := ⟨D3, F1⟩
            clear D3 T3 T3' FR3 F1
            go_wp2_with fail
            with_reducible refine k2.mono ?_
            rintro e w4 ⟨na2, cap2, rfl, L4, T4, F2⟩
            clear k2
            have D4 : 0 < rdN T A o.slot → ∃ b, na1 = some ⟨b, 0, none⟩ ∧ (W1.heap.size ≤ b ∧ b < w3.heap.size) ∧ BS w4 b 0 (rdN T A o.slot) (rdF T o.slot) := fun h => by
              obtain ⟨b, b1, b2, b3⟩ := H3.out.1.2 h
              exact ⟨b, b1, ⟨b2, b3.lt⟩, b3.fr F2 (fun hu => hu.2 ⟨b2, b3.lt⟩)⟩
            have s1 := str_of (cap := cap1) (w := w4) H3.out.1.1 (fun h => by obtain ⟨b, b1, _, b3⟩ := D4 h; exact ⟨b, b1, b3⟩)
            have s2 := str_of (cap := cap2) (w := w4) L4.1 (fun h => by obtain ⟨b, b1, _, b3⟩ := L4.2 h; exact ⟨b, b1, b3⟩)
            have hn : rdN T A o.slot ≤ 4096 := by unfold rdN; split <;> omega
            have hw3 : W1.heap.size ≤ w3.heap.size := H3.out.2.size
            have FF : Fr (fun k => w.heap.size ≤ k ∧ k ≠ Bo) W1 w4 := H3.out.2.trans (F2.mono (fun i _ hu => hu.1))
            have R4 : Hid (Two (U3 w Bo W1.heap.size w3.heap.size) w4 p q N T (rdA T A o.slot) T (rdA T A o.slot) ∧ Kp w w4 ∧ w4.heap[Bo]? = some (oRow o)) := ⟨T4, FF.kp HR.out.kp (fun i hi => hi.1), (FF.block Bo HR.out.lt (fun x => x.2 rfl)).trans HR.out.row⟩
            have H4 : Hid (0 < rdN T A o.slot → ∃ b, na1 = some ⟨b, 0, none⟩ ∧ (W1.heap.size ≤ b ∧ b < w3.heap.size) ∧ ∃ f, BS w4 b 0 (rdN T A o.slot) f) := (show 0 < rdN T A o.slot → ∃ b, na1 = some ⟨b, 0, none⟩ ∧ (W1.heap.size ≤ b ∧ b < w3.heap.size) ∧ ∃ f, BS w4 b 0 (rdN T A o.slot) f from fun h => by
              obtain ⟨b, b1, b2, b3⟩ := D4 h
              exact ⟨b, b1, b2, _, b3⟩)
            clear L4 T4 F2 D4 FF H3 e1
            generalize strOf (rdF T o.slot) (rdN T A o.slot) = st at *
            generalize rdN T A o.slot = n at *
            generalize rdA T A o.slot = A' at *
            generalize rdR T A o.slot = r' at *
            have y4 : (n : Int) ≤ 4096 := by omega
            obtain ⟨bl8, hb8⟩ : ∃ b8 : Nat, 0 < n → na1 = some ⟨b8, 0, none⟩ ∧ (W1.heap.size ≤ b8 ∧ b8 < w3.heap.size) ∧ ∃ f, BS w4 b8 0 n f := by
              by_cases c : 0 < n
              · obtain ⟨b, hb⟩ := H4.out c
                exact ⟨b, fun _ => hb⟩
              · exact ⟨0, fun h => absurd h c⟩
            have H8 : Hid (0 < n → na1 = some ⟨bl8, 0, none⟩ ∧ (W1.heap.size ≤ bl8 ∧ bl8 < w3.heap.size) ∧ ∃ f, BS w4 bl8 0 n f) := hb8
            clear hb8 H4
            go_wp2_with fail
            go_loopg [26] (n + 1) (fun g v26 wq => ∃ k : Nat, v26 = .int .i64 (k : Int) ∧ k ≤ n ∧ n + 1 - k ≤ g ∧ Hid (Fr (fun z => z = bl8 ∧ 0 < n) w4 wq ∧ (0 < n → ∃ f, BS wq bl8 0 n f)))
            case atStart => exact ⟨0, rfl, by omega, by omega, ⟨Fr.refl _ _, fun h => (H8.out h).2.2⟩⟩
            case round =>
              obtain ⟨k, rfl, k1, kg, HQ⟩ := hrel
              by_cases hk : k < n
              · obtain rfl := (H8.out (by omega)).1
                obtain ⟨f, hf⟩ := HQ.out.2 (by omega)
                have y5 : (k : Int) < n := by omega
                have c1 := hf.cell k hk
                have c2 := hf.frz k hk
                have HQ2 : Hid (Fr (fun z => z = bl8 ∧ 0 < n) w4 (wr.setCell ⟨bl8, 0 + k, none⟩ (.int .u8 (221 : Nat))) ∧ (0 < n → ∃ f, BS (wr.setCell ⟨bl8, 0 + k, none⟩ (.int .u8 (221 : Nat))) bl8 0 n f)) := ⟨HQ.out.1.set _ _ ⟨rfl, by omega⟩, fun _ => ⟨_, hf.set k 221 hk (by decide)⟩⟩
                rw [Nat.zero_add] at c1 c2 HQ2
                rw [show (((221 : Nat)) : Int) = 221 from rfl] at HQ2
                generalize f k = b at c1
                clear hf HQ
                go_wp2
                go_roundg (n + 1 - (k + 1))
                case measure => omega
                case rel => exact ⟨k + 1, by go_num, by omega, by omega, HQ2⟩
              · have y5 : ¬ (k : Int) < n := by omega
                have HN : Hid (Round w wr p q N T A' o Bo) := by
                  have hB := HR.out.lt
                  have hKs := HR.out.kp.size
                  refine ⟨(R4.out.1.out HQ.out.1 (fun i hi e => ?_)).cut (fun _ _ h => h.1), HQ.out.1.kp R4.out.2.1 (fun i hi => ?_), HR.out.ok, (HQ.out.1.block Bo (Array.getElem?_eq_some_iff.1 R4.out.2.2).1 (fun e => ?_)).trans R4.out.2.2, HR.out.up⟩
                  · have := (H8.out e.2).2.1
                    exact hi.2 (by rw [e.1]; exact this)
                  · have := (H8.out hi.2).2.1
                    omega
                  · have := (H8.out e.2).2.1
                    omega
                clear HQ H8 R4
                go_wp2_with fail
                go_meet
                case rel => exact ⟨_, 0, _, _, rfl, rfl, rfl, rfl, HN⟩
        · as_aux_lemma =>
            obtain ⟨n, hn1, hn2, hmn⟩ : ∃ n : Nat, n ≤ 30 ∧ n ≤ o.mF ∧ (if (30 : Int) < (o.mF : Int) then 30 else (o.mF : Int)) = (n : Int) := by
              by_cases c : 30 < o.mF
              · exact ⟨30, Nat.le_refl _, by omega, by rw [if_pos (by omega)]; rfl⟩
              · exact ⟨o.mF, by omega, Nat.le_refl _, by rw [if_neg (by omega)]⟩
            have okr := HR.out.ok.kp HR.out.kp
            have y8 : (n : Int) ≤ o.cF := by have := okr.lF; omega
            have y7 : (n : Int) ≤ 30 := by omega
            obtain ⟨g, c1, W3, r1, O3, K3⟩ := copyB W1 o.naF n o.cF o.fF (okr.nF.less hn2) (fun h => by have := okr.cF h; have := okr.lF; omega) (by omega)
            have e4 := HR.out.e4
            have kA : Kp W1 (W1.alloc (.cells #[] 4)) := (Kp.refl W1).alloc _
            have e4' := (kA.cell (p := ⟨Bo, 4, none⟩) HR.out.lt).trans HR.out.e4
            have hg1 : W1.heap.size ≤ g := O3.facts.1
            have hg2 : g < W3.heap.size := O3.facts.2.1
            obtain ⟨T3, FR3⟩ := HR.out.two2 K3 hg1 hg1 hg2 hg2
            have k4 := two_pfail T3 FR3 (some ⟨g, 0, none⟩) n c1 o.fF O3.ns (fun h => by cases h) (by omega)
            have H3 : Hid (OB W3 W1.heap.size g c1 (bl o.fF n) ∧ Free (U2 w Bo g g) W3 ∧ Kp W1 W3) := ⟨O3, FR3, K3⟩
            clear okr O3 K3 T3 FR3 kA
            repeat' (first | ((with_reducible refine wp_append_of r1 (.tmp 72) (.tmp 79) ?_ ?_ ?_ ?_ ?_); rfl; rfl; rfl; rfl) | go_values | go_skip | go_guarded | go_step | go_upon | go_back | (simp only []) | (go_values <;> (try go_simp)) | (go_ite <;> go_prune <;> (try go_simp)))
            clear r1 e4 e4'
            with_reducible refine k4.mono ?_
            rintro e w4 ⟨rfl, T4, F4⟩
            clear k4
            have O4 := H3.out.1.fr F4 (fun h => h.2.2 rfl)
            have k5 := two_qfail T4 (H3.out.2.1.fr F4) (some ⟨g, 0, none⟩) n c1 o.fF O4.ns (fun h => by cases h) (by omega)
            have H4 : Hid (Fr (U2 w Bo g g) W3 w4) := F4
            clear T4 F4 O4
            go_wp2_with fail
            with_reducible refine k5.mono ?_
            rintro e w5 ⟨rfl, T5, F5⟩
            have F45 := H4.out.trans F5
            have I0 : Hid (Two (U2 w Bo g g) w5 p q N T (bl o.fF n) T (bl o.fF n) ∧ Kp w w5 ∧ w5.heap[Bo]? = some (oRow o) ∧ ∃ l, l.length = n ∧ OB w5 W1.heap.size g c1 l) :=
              ⟨T5, F45.kp (HR.out.kp.trans H3.out.2.2) (fun i hi => hi.1.1), (F45.block Bo (Nat.lt_of_lt_of_le HR.out.lt H3.out.2.2.size) (fun x => x.1.2 rfl)).trans ((H3.out.2.2.block Bo HR.out.lt).trans HR.out.row), bl o.fF n, bl_len _ _, H3.out.1.fr F45 (fun h => h.2.2 rfl)⟩
            have HG : Hid (w.heap.size ≤ g ∧ Bo ≠ g) := ⟨by have := HR.out.kp.size; omega, by have := HR.out.lt; omega⟩
            clear k5 T5 F5 F45 H4 H3
            generalize bl o.fF n = A' at *
            go_wp2_with fail
            go_loopg [28] (n + 1) (fun gg v28 wq => ∃ k : Nat, v28 = .int .i64 (k : Int) ∧ k ≤ n ∧ n + 1 - k ≤ gg ∧ Hid (Two (U2 w Bo g g) wq p q N T A' T A' ∧ Kp w wq ∧ wq.heap[Bo]? = some (oRow o) ∧ ∃ l, l.length = n ∧ OB wq W1.heap.size g c1 l))
            case atStart => exact ⟨0, rfl, by omega, by omega, I0⟩
            case round =>
              clear I0
              obtain ⟨k, rfl, k1, kg, HQ⟩ := hrel
              by_cases hk : k < n
              · have z5 : (k : Int) < n := by omega
                obtain ⟨t2, kp2, row2, l, hl, ob⟩ := HQ.out
                obtain ⟨vb, hvb⟩ : ∃ vb, l[k]? = some vb := ⟨l[k], List.getElem?_eq_getElem (by omega)⟩
                have q1 := ob.cell k vb hvb
                have q2 := ob.frz k
                have HQ2 : Hid (Two (U2 w Bo g g) (wr.setCell ⟨g, k, none⟩ (.bool (!vb))) p q N T A' T A' ∧ Kp w (wr.setCell ⟨g, k, none⟩ (.bool (!vb))) ∧ (wr.setCell ⟨g, k, none⟩ (.bool (!vb))).heap[Bo]? = some (oRow o) ∧ ∃ l, l.length = n ∧ OB (wr.setCell ⟨g, k, none⟩ (.bool (!vb))) W1.heap.size g c1 l) :=
                  ⟨t2.out ((Fr.refl (fun z => z = g) wr).set ⟨g, k, none⟩ _ rfl) (fun i hi e => hi.2.2 e), kp2.set _ _ HG.out.1, (heap_setCell_other wr ⟨g, k, none⟩ Bo _ HG.out.2).trans row2, l.set k (!vb), by rw [List.length_set]; exact hl, ob.set k (!vb)⟩
                clear t2 kp2 row2 hl ob hvb HQ
                go_wp2
                go_roundg (n + 1 - (k + 1))
                case measure => omega
                case rel => exact ⟨k + 1, by go_num, by omega, by omega, HQ2⟩
              · have z5 : ¬ (k : Int) < n := by omega
                have HN : Hid (Round w wr p q N T A' o Bo) := ⟨HQ.out.1.cut (fun _ _ h => h.1), HQ.out.2.1, HR.out.ok, HQ.out.2.2.1, HR.out.up⟩
                clear HQ
                go_wp2_with fail
                go_meet
                case rel => exact ⟨0, 0, T, A', rfl, rfl, rfl, rfl, HN⟩
      case rest =>
        as_aux_lemma =>
          obtain ⟨r, s, T', A', rfl, rfl, rfl, rfl, HR2⟩ := hcut
          clear HR e0 g1 g2 g3 g4 g5
          obtain ⟨fr, nL, le, cL, cP, cQ, lP, lQ⟩ := HR2.out.tail
          have hne : Nonempty (KeptBy wc) := KeptBy.some
          go_wp2_with fail
          refine wp_region_kept mixed (by kernel_rfl) ?_
          repeat (go_big_quiet_step (first | (go_at_call 20; refine Calls.kept_of (cP _)) | (go_at_call 21; refine Calls.kept_of (cQ _)) | (go_at_call 22; refine Calls.kept_of (lP _))))
          refine wpQuiet_nil ?_
          intro _ hw'
          obtain ⟨⟨wq, kq⟩, hw''⟩ := hw'
          subst hw''
          have HT : Hid (Two (fun k => w.heap.size ≤ k) _ p q N T' A' T' A' ∧ Kp w _) := ⟨(HR2.out.two.kp kq).cut (fun _ _ h => h.1), HR2.out.kp.trans kq⟩
          clear HR2 cP cQ lP lQ kq hne
          go_wp2
          go_roundg (61 - (i + 1))
          case measure => omega
          case rel => exact ⟨i + 1, T', A', by go_num, by omega, by omega, HT⟩
    · as_aux_lemma =>
        have NLT : Hid (¬ (i < m ∧ i < 60)) := hlt
        clear hlt
        by_cases hlt : (i : Int) < m
        · have y2 : ¬ (i : Int) < 60 := by have := NLT.out; omega
          go_wp2_with fail
          with_reducible refine (told_any _).mono ?_
          rintro e w9 ⟨rfl, K9⟩
          have HK9 : Hid (Kp w w9) := T1.out.2.trans K9
          clear K9 T1
          go_wp2
          go_ret
          exact ⟨rfl, HK9.out⟩
        · go_wp2_with fail
          with_reducible refine (told_any _).mono ?_
          rintro e w9 ⟨rfl, K9⟩
          have HK9 : Hid (Kp w w9) := T1.out.2.trans K9
          clear K9 T1
          go_wp2
          go_ret
          exact ⟨rfl, HK9.out⟩

end Go.Proofs.Ytcgfifihkbiioaa
