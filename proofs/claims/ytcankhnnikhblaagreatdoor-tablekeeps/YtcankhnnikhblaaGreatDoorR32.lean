/- TableLacks: the walk. -/
import Derived.Test.YtcankhnnikhblaaGreatDoorR31
namespace Go.Proofs.YtcankhnnikhblaaGreatDoor
open Go.RowKit
set_option maxRecDepth 10000

section
variable {W w w' : World} {X Y : Nat → Prop} {bt p pm N pool o : Nat} {M : Nat → Nat → Nat} {C : Nat → Nat} {Z : Nat → Bool} {root : Nat} {E : Nat → Nat → DV}
theorem TS.moreF (h : TS W X w bt p pm N pool o M C Z root E) (k : Fr Y w w') (hY : ∀ i, Y i → W.heap.size ≤ i ∧ X i) (hb : ¬ Y bt) (b : Nat) (hb1 : w.heap.size ≤ b) (hb2 : b < w'.heap.size) : TS W (fun i => X i ∨ i = b) w' bt p pm N pool o M C Z root E := by
  have h' := h.frX k hY hb
  obtain ⟨ops, B, h1, h2, S, f⟩ := h.fw
  have t0 := f.t0
  refine ⟨⟨ops, B, h1, h2, S, f.fs.fr k (fun i hi c => (f.out i hi).2 (hY i c).2) (fun c => by have := (hY _ c).1; omega), h'.fw.kp, fun i hi => ⟨(f.out i hi).1, fun c => c.elim (f.out i hi).2 (fun c => by have := f.fs.own i hi; omega)⟩, fun i hi => hi.elim (fun hi => Nat.lt_of_lt_of_le (f.lt i hi) k.size) (fun c => by omega), f.t0⟩, h'.tx, .inl h'.xb, h'.bw, h'.tg⟩
end
/-- A table, and the list of what was mapped. -/
structure LJ (W wr : World) (bt p pm pool root : Nat) (v : Value) (o i : Nat) (M : Nat → Nat → Nat) (C : Nat → Nat) (E : Nat → Nat → DV) (L : List Nat) : Prop where
  ts : TS W (fun b => b = bt ∨ v.ownBlock = some b) wr bt p pm 2100 pool o M C (fun _ => false) root E
  ne : NE root E (fun _ _ => False)
  ls : LS E L
  ol : OL encU8 37 1 wr v L
  le : L.length ≤ i
  lo : ∀ b, v.ownBlock = some b → W.heap.size ≤ b ∧ b ≠ bt
section
variable {W wr u : World} {bt p pm pool root : Nat} {v : Value} {o i : Nat} {M : Nat → Nat → Nat} {C : Nat → Nat} {E : Nat → Nat → DV} {L : List Nat}
theorem LJ.kps (h : LJ W wr bt p pm pool root v o i M C E L) (k : Kp wr u) : LJ W u bt p pm pool root v o i M C E L := ⟨h.ts.kps k, h.ne, h.ls, OL.fr h.ol (k.fr (fun _ => False)) (fun _ _ => id), h.le, h.lo⟩
theorem LJ.same (h : LJ W wr bt p pm pool root v o i M C E L) {o' : Nat} {M' : Nat → Nat → Nat} (t : TS W (fun b => b = bt ∨ v.ownBlock = some b) u bt p pm 2100 pool o' M' C (fun _ => false) root E) (k : Fr (Out W (fun b => b = bt ∨ v.ownBlock = some b)) wr u) : LJ W u bt p pm pool root v o' i M' C E L := ⟨t, h.ne, h.ls, OL.fr h.ol k (fun _ hg c => c.2 (.inr hg)), h.le, h.lo⟩
theorem snoc_raw (hts : TS W (fun b => b = bt ∨ v.ownBlock = some b) wr bt p pm 2100 pool o M C (fun _ => false) root E) (hol : OL encU8 37 1 wr v L) (hlo : ∀ b, v.ownBlock = some b → W.heap.size ≤ b ∧ b ≠ bt) (pg : Nat) (le : L.length ≤ 1000) :
    ∃ na n cap u', (Builtin.append_ #[84, 84] 84 #[v, .slice (some ⟨wr.heap.size, 0, none⟩) 1 1]).run Tryz.prog (wr.alloc (.cells #[.int .u64 (pg : Int)] 37)) = .ok (.slice na n cap) u' ∧ n = (L ++ [pg]).length ∧ OL encU8 37 1 u' (.slice na n cap) (L ++ [pg]) ∧ TS W (fun b => b = bt ∨ (Value.slice na n cap).ownBlock = some b) u' bt p pm 2100 pool o M C (fun _ => false) root E ∧ ∀ b, (Value.slice na n cap).ownBlock = some b → W.heap.size ≤ b ∧ b ≠ bt := by
  obtain ⟨inf, hin, hz, hsz, hby⟩ := info_w64
  have ka : Kp wr (wr.alloc (.cells #[.int .u64 (pg : Int)] 37)) := (Kp.refl wr).alloc _
  have hts' := hts.kps ka
  have hol' : OL encU8 37 1 (wr.alloc (.cells #[.int .u64 (pg : Int)] 37)) v L := OL.fr hol (ka.fr (fun _ => False)) (fun _ _ => id)
  have hrow : (wr.alloc (.cells #[.int .u64 (pg : Int)] 37)).heap[wr.heap.size]? = some (.cells #[.int .u64 (pg : Int)] 37 (0, 0)) := heap_alloc_new wr _
  obtain ⟨v', u', r1, r2, r3, r4⟩ := OL.append encU8_ok (P := Tryz.prog) (t := 84) Tryz.underlying84 hin hz hsz rfl rfl hol' [pg] (some ⟨wr.heap.size, 0, none⟩) 1 1 rfl (.inr ⟨wr.heap.size, 0, rfl, fun j y hy => by
    rw [Nat.zero_add, cell_of_row _ _ j _ _ _ hrow]
    simpa [encU8] using hy⟩) (by simp; omega) hby 84
  have f1 : Fr (fun g => v.ownBlock = some g) (wr.alloc (.cells #[.int .u64 (pg : Int)] 37)) u' := Fr.grown r3 (fun g hg => hg)
  have hY : ∀ b, v.ownBlock = some b → W.heap.size ≤ b ∧ (b = bt ∨ v.ownBlock = some b) := fun b hb => ⟨(hlo b hb).1, .inr hb⟩
  have nb : ¬ v.ownBlock = some bt := fun c => (hlo bt c).2 rfl
  obtain ⟨na, cap, ev, _, hc⟩ := r2.form
  subst ev
  refine ⟨na, _, cap, u', r1, rfl, r2, ?_, ?_⟩
  · rcases r4 with e | e
    · rw [e]; exact hts'.frX f1 hY nb
    · rw [e]
      have hlt : (wr.alloc (.cells #[.int .u64 (pg : Int)] 37)).heap.size < u'.heap.size := by
        rcases hc with ⟨rfl, _⟩ | ⟨g, rfl, hg⟩
        · cases e
        · cases e; exact hg
      refine (hts'.moreF f1 hY nb _ (Nat.le_refl _) hlt).less (fun b hb => ?_) (.inl rfl)
      rcases hb with hb | hb
      · exact .inl (.inl hb)
      · exact .inr (Option.some.inj hb).symm
  · intro b hb
    rcases r4 with e | e
    · rw [e] at hb; exact hlo b hb
    · rw [e] at hb
      cases hb
      have s1 := hts'.fw.kp.size
      have s2 := hts'.tx.lt
      exact ⟨s1, by omega⟩
end
set_option maxHeartbeats 16000000 in
theorem lacks_walk (a0 : Int) (m0 r0 pool : Nat) (na : Option Addr) (m cap : Nat) (f : Nat → Int) (w : World) (NI : NSK .u64 w na m f) (T : TAB w)
    (e1 : bits .and .i64 a0 15 = (m0 : Int)) (e2 : (m0 : Int).tmod 12 = (r0 : Int)) (e3 : 1 + (r0 : Int) = (pool : Int)) (h1 : 1 ≤ pool) (h2 : pool ≤ 12) :
    Calls Tryz.prog 8 #[.int .i64 a0, .slice na m cap] w fun e w' => e = .returned (.bool true) ∧ Kp w w' := by
  have k1 := begun_any pool w T h1 (by omega)
  have q3 : ∀ p (w : World), (binOp .eql 27 (.pointer (some ⟨p, 0, none⟩)) (.pointer none)).run Tryz.prog w = .ok (.bool false) w := fun p w => by kernel_rfl
  have HN : Hid (NSK .u64 w na m f ∧ TAB w ∧ 1 ≤ pool ∧ pool ≤ 12) := ⟨NI, T, h1, h2⟩
  have e2' : (m0 : Int) % 12 = (r0 : Int) := by rw [← e2, Int.tmod_eq_emod_of_nonneg (by omega)]
  have z1 : (r0 : Int) ≤ 12 := by omega
  clear NI T h1 h2
  go_enter Tryz.func8, Tryz.ntmps8
  go_wp2_with fail
  with_reducible refine k1.mono ?_
  rintro e w1 ⟨pm, p, M, rfl, f1⟩
  obtain ⟨y, hy⟩ := tk_there (F := fT pool (fun _ => 0)) (hi := pool) (by rw [cntT_all]; have := HN.out.2.2.1; omega)
  have k2 := tnew_ok (Z := fun _ => false) f1 y hy (fun x => ⟨(fun c => by cases c), fun c => absurd rfl c⟩)
  clear k1 f1 hy e1 e2 e3 e2' z1
  go_wp2_with fail
  with_reducible refine k2.mono ?_
  rintro e w3 ⟨⟨bt, rfl, t3, hbt⟩, r3⟩
  have J0 : LJ w w3 bt p pm pool y (.slice none 0 0) (0 * 40) 0 (zerM M y) (putC (fun _ => 0) y 1) eN [] := ⟨(t3.less (fun b hb => .inr (hb.resolve_right (fun c => by cases c))) (.inl rfl)).le (by omega), NE.made y, LS.none, OL.nil _ _, Nat.le_refl _, (fun b hb => by cases hb)⟩
  have HJ : Hid (LJ w w3 bt p pm pool y (.slice none 0 0) (0 * 40) 0 (zerM M y) (putC (fun _ => 0) y 1) eN []) := J0
  clear k2 t3 r3 J0 hbt
  go_wp2_with fail
  go_loopg [10, 11] 21 (fun g v10 v11 wr => ∃ (i n cp : Nat) (nb : Option Addr) (M1 : Nat → Nat → Nat) (C1 : Nat → Nat) (E1 : Nat → Nat → DV) (L1 : List Nat), v11 = .int .i64 (i : Int) ∧ v10 = .slice nb n cp ∧ i ≤ 20 ∧ 21 - i ≤ g ∧ Hid (LJ w wr bt p pm pool y (.slice nb n cp) (i * 40) i M1 C1 E1 L1 ∧ n = L1.length))
  case atStart => exact ⟨0, 0, 0, none, _, _, _, _, rfl, rfl, by omega, by omega, HJ.out, rfl⟩
  case round =>
    clear HJ
    obtain ⟨i, n, cp, nb, M1, C1, E1, L1, rfl, rfl, hi, hg, HI⟩ := hrel
    by_cases ei : i < m ∧ i < 20
    · obtain ⟨⟨b0, o0, rfl, hbl, hcell⟩, hwf⟩ := HN.out.1 i ei.1
      have J := HI.out.1
      have cu : wr.cell? ⟨b0, o0 + i, none⟩ = some (.int .u64 (f i)) := by rw [Kp.cell J.ts.fw.kp (p := ⟨b0, o0 + i, none⟩) hbl]; exact hcell
      have hw := wf_word hwf
      obtain ⟨u, hu⟩ : ∃ u : Nat, f i = (u : Int) := ⟨(f i).toNat, by omega⟩
      rw [hu] at cu
      have kP := page_tab u wr
      have hpg := pgT_lt u
      generalize pgT u = pg at *
      have y1 : (i : Int) < m := by omega
      have y2 : (i : Int) < 20 := by omega
      have HP : Hid (pg < 268435456 ∧ i < 20) := ⟨hpg, ei.2⟩
      clear hcell hwf hw hu hbl J hpg ei
      go_wp2_with fail
      with_reducible refine kP.mono ?_
      rintro _ w1 ⟨rfl, K1⟩
      have J1 := HI.out.1.kps K1
      have kG := get_any J1.ts pg HP.out.1 (by have := HP.out.2; omega)
      obtain ⟨gv, hgv⟩ : ∃ gv, gv = getN E1 pg := ⟨_, rfl⟩
      obtain ⟨bG, hbG⟩ : ∃ bG, bG = decide ((enG E1 pg).k ≠ 0) := ⟨_, rfl⟩
      rw [← hgv, ← hbG] at kG
      have HB : Hid (bG = decide ((enG E1 pg).k ≠ 0)) := hbG
      have H1 : Hid (LJ w w1 bt p pm pool y (.slice nb n cp) (i * 40) i M1 C1 E1 L1 ∧ n = L1.length) := ⟨J1, HI.out.2⟩
      clear kP K1 J1 HI hgv hbG cu
      obtain ⟨gg, gx, gr, gq, ge, gf, gl⟩ := gv
      simp only [lvV] at kG
      go_wp2_with fail
      with_reducible refine kG.mono ?_
      rintro _ w2 ⟨rfl, t2, r2⟩
      have J2 : LJ w (w2.alloc (.cells #[.int .u64 (gg : Int), .int .i64 (gx : Int), .bool gr, .bool gq, .bool ge, .int .i64 gf, .int .i64 (gl : Int)] 58)) bt p pm pool y (.slice nb n cp) (i * 40 + 4) i M1 C1 E1 L1 := (H1.out.1.same t2 r2).kps ((Kp.refl w2).alloc _)
      have H2 : Hid (LJ w (w2.alloc (.cells #[.int .u64 (gg : Int), .int .i64 (gx : Int), .bool gr, .bool gq, .bool ge, .int .i64 gf, .int .i64 (gl : Int)] 58)) bt p pm pool y (.slice nb n cp) (i * 40 + 4) i M1 C1 E1 L1 ∧ n = L1.length) := ⟨J2, H1.out.2⟩
      have kN := need_any J2.ts pg HP.out.1 (by have := HP.out.2; omega)
      obtain ⟨nd, hnd⟩ : ∃ nd, nd = needN E1 pg := ⟨_, rfl⟩
      rw [← hnd] at kN
      have HND : Hid (nd = needN E1 pg) := hnd
      clear kG t2 r2 J2 H1 hnd
      go_wp2_with fail
      with_reducible refine kN.mono ?_
      rintro _ w3 ⟨rfl, t3, r3⟩
      have J3 := H2.out.1.same t3 r3
      have kF := wfree_any J3.ts.fw
      obtain ⟨fr, hfr⟩ : ∃ fr, fr = cnt (fT pool C1) pool := ⟨_, rfl⟩
      obtain ⟨fp, hfp⟩ : ∃ fp, fp = cnt (fP pool 2100 C1) 2100 := ⟨_, rfl⟩
      rw [← hfr, ← hfp] at kF
      have HFR : Hid (fr = cnt (fT pool C1) pool) := hfr
      have H3 : Hid (LJ w w3 bt p pm pool y (.slice nb n cp) (i * 40 + 4 + 4) i M1 C1 E1 L1 ∧ n = L1.length) := ⟨J3, H2.out.2⟩
      clear kN t3 r3 J3 H2 hfr hfp
      go_wp2_with fail
      with_reducible refine kF.mono ?_
      rintro _ w4 ⟨rfl, D4⟩
      have J4 := H3.out.1.kps D4.kp
      have kT := tcount_any J4.ts
      obtain ⟨tn, htn⟩ : ∃ tn, tn = cnt (ownC C1 (fun _ => false)) pool := ⟨_, rfl⟩
      rw [← htn] at kT
      have HTN : Hid (tn = cnt (ownC C1 (fun _ => false)) pool) := htn
      have H4 : Hid (LJ w w4 bt p pm pool y (.slice nb n cp) (i * 40 + 4 + 4) i M1 C1 E1 L1 ∧ n = L1.length) := ⟨J4, H3.out.2⟩
      clear kF D4 J4 H3 htn
      go_wp2_with fail
      with_reducible refine kT.mono ?_
      rintro _ w5 ⟨rfl, K5⟩
      have J5 := H4.out.1.kps K5
      have kM := map_any J5.ts J5.ne pg (100 + (i : Int)) true false false 0 (by have := HP.out.2; omega)
      obtain ⟨rr, hrr⟩ : ∃ rr, rr = mapR 2100 pool C1 E1 pg (100 + (i : Int)) true false 0 := ⟨_, rfl⟩
      rw [← hrr] at kM
      have HRR : Hid (rr = plR pool C1 E1 pg 3) := by
        show rr = plR pool C1 E1 pg 3
        rw [hrr]
        unfold mapR
        have := HP.out
        rw [if_neg (by unfold hasN; simp; omega), if_neg (by decide)]
      have H5 : Hid (LJ w w5 bt p pm pool y (.slice nb n cp) (i * 40 + 4 + 4) i M1 C1 E1 L1 ∧ n = L1.length) := ⟨J5, H4.out.2⟩
      clear kT K5 J5 H4 hrr
      go_wp2_with fail
      with_reducible refine kM.mono ?_
      rintro _ w6 ⟨rfl, C2, E2, ⟨⟨M2, t6, _⟩, ne6, r6⟩, a6, b6⟩
      have kF := wfree_any t6.fw
      obtain ⟨fr2, hfr2⟩ : ∃ fr2, fr2 = cnt (fT pool C2) pool := ⟨_, rfl⟩
      obtain ⟨fp2, hfp2⟩ : ∃ fp2, fp2 = cnt (fP pool 2100 C2) 2100 := ⟨_, rfl⟩
      rw [← hfr2, ← hfp2] at kF
      have HFR2 : Hid (fr2 = cnt (fT pool C2) pool) := hfr2
      have H6 : Hid ((TS w (fun b => b = bt ∨ (Value.slice nb n cp).ownBlock = some b) w6 bt p pm 2100 pool (i * 40 + 4 + 4 + 12) M2 C2 (fun _ => false) y E2 ∧ NE y E2 (fun _ _ => False) ∧ OL encU8 37 1 w6 (.slice nb n cp) L1) ∧ (rr ≠ 0 → C2 = C1 ∧ E2 = E1) ∧ (rr = 0 → cnt (fT pool C2) pool + (3 - lvG E1 pg) = cnt (fT pool C1) pool ∧ ∀ a b, a ≤ 3 → lfD E2 a b = if a = 3 ∧ b = qn pg 3 then ⟨3, (100 + (i : Int)).toNat * 4096, true, false, false, 0⟩ else lfD E1 a b)) := ⟨⟨t6, ne6, OL.fr H5.out.1.ol r6 (fun g hg c => c.2 (.inr hg))⟩, a6, b6⟩
      clear kM t6 ne6 r6 a6 b6 hfr2 hfp2
      go_wp2_with fail
      with_reducible refine kF.mono ?_
      rintro _ w7 ⟨rfl, D7⟩
      have key : (bG = true ∧ rr = 22 ∧ nd = 0 ∧ fr2 = fr ∧ C2 = C1 ∧ E2 = E1) ∨ (bG = false ∧ rr = 11 ∧ fr < nd ∧ fr2 = fr ∧ C2 = C1 ∧ E2 = E1) ∨ (bG = false ∧ rr = 0 ∧ nd ≤ fr ∧ fr2 + nd = fr ∧ pg ∉ L1 ∧ cnt (ownC C2 (fun _ => false)) pool = tn + nd) := by
        obtain ⟨_, q1, q2⟩ := H6.out
        have e1 := HRR.out
        have e2 := HND.out
        have e3 := HB.out
        have e4 := HFR.out
        have e5 := HFR2.out
        have e6 := HTN.out
        have l3 := lvG_le E1 pg
        unfold plR at e1
        unfold needN at e2
        by_cases c : (enG E1 pg).k ≠ 0
        · rw [if_pos (.inl c)] at e1
          rw [if_pos c] at e2
          rw [decide_eq_true c] at e3
          obtain ⟨x1, x2⟩ := q1 (by rw [e1]; decide)
          exact .inl ⟨e3, e1, e2, by rw [e5, x1, e4], x1, x2⟩
        · rw [if_neg (fun c' => c'.elim c (fun c' => by omega))] at e1
          rw [if_neg c] at e2
          rw [decide_eq_false c] at e3
          by_cases c2 : cnt (fT pool C1) pool < 3 - lvG E1 pg
          · rw [if_pos c2] at e1
            obtain ⟨x1, x2⟩ := q1 (by rw [e1]; decide)
            exact .inr (.inl ⟨e3, e1, by omega, by rw [e5, x1, e4], x1, x2⟩)
          · rw [if_neg c2] at e1
            obtain ⟨x1, x2⟩ := q2 e1
            have a1 := cnt_alone pool C1
            have a2 := cnt_alone pool C2
            refine .inr (.inr ⟨e3, e1, by omega, by omega, fun c3 => c ((H5.out.1.ls.mapped H5.out.1.ts.tg).2 c3), by omega⟩)
      have bnd : fr ≤ 12 ∧ nd ≤ 3 ∧ tn ≤ 12 := by
        have a1 := cnt_alone pool C1
        have := HN.out.2.2.2
        have e4 := HFR.out
        have e6 := HTN.out
        have e2 := HND.out
        refine ⟨by omega, ?_, by omega⟩
        unfold needN at e2
        split at e2 <;> omega
      obtain ⟨⟨t6, ne6, ol6⟩, _, b6⟩ := H6.out
      have J5 := H5.out.1
      have nL := H5.out.2
      have t7 := t6.kps D7.kp
      have ol7 : OL encU8 37 1 w7 (.slice nb n cp) L1 := OL.fr ol6 (D7.kp.fr (fun _ => False)) (fun _ _ => id)
      rcases key with ⟨rfl, rfl, rfl, rfl, rfl, rfl⟩ | ⟨rfl, rfl, hlt, rfl, rfl, rfl⟩ | ⟨rfl, rfl, hle, hsum, hnin, hown⟩
      · have H8 : Hid (LJ w w7 bt p pm pool y (.slice nb n cp) ((i + 1) * 40) (i + 1) M2 C2 E2 L1 ∧ n = L1.length) := ⟨⟨t7.le (by omega), ne6, J5.ls, ol7, by have := J5.le; omega, J5.lo⟩, nL⟩
        clear t6 ne6 ol6 b6 J5 nL t7 ol7 H6 H5 HFR HFR2 HTN HND HRR HB D7 kF bnd
        rw [show ((0 : Nat) : Int) = 0 from rfl]
        go_wp2_with fail
        go_roundg (21 - (i + 1))
        case measure => omega
        case rel => exact ⟨i + 1, n, cp, nb, M2, C2, E2, L1, by go_num, rfl, by have := HP.out.2; omega, by omega, H8⟩
      · have kT := tcount_any t7
        rw [← HTN.out] at kT
        have H8 : Hid (LJ w w7 bt p pm pool y (.slice nb n cp) ((i + 1) * 40) (i + 1) M2 C2 E2 L1 ∧ n = L1.length) := ⟨⟨t7.le (by omega), ne6, J5.ls, ol7, by have := J5.le; omega, J5.lo⟩, nL⟩
        have z3 : (fr2 : Int) < nd := by omega
        clear t6 ne6 ol6 b6 J5 nL t7 ol7 H6 H5 HFR HFR2 HTN HND HRR HB D7 kF bnd hlt
        go_wp2_with fail
        with_reducible refine kT.mono ?_
        rintro _ w8 ⟨rfl, K8⟩
        have H9 : Hid (LJ w w8 bt p pm pool y (.slice nb n cp) ((i + 1) * 40) (i + 1) M2 C2 E2 L1 ∧ n = L1.length) := ⟨H8.out.1.kps K8, H8.out.2⟩
        clear kT H8 K8
        go_wp2_with fail
        go_roundg (21 - (i + 1))
        case measure => omega
        case rel => exact ⟨i + 1, n, cp, nb, M2, C2, E2, L1, by go_num, rfl, by have := HP.out.2; omega, by omega, H9⟩
      · have kT := tcount_any t7
        rw [hown] at kT
        obtain ⟨x1, x2⟩ := b6 rfl
        rw [qn_three] at x2
        have ls2 : LS E2 (L1 ++ [pg]) := J5.ls.map (d := ⟨3, (100 + (i : Int)).toNat * 4096, true, false, false, 0⟩) rfl hnin HP.out.1 x2
        have lo5 := J5.lo
        have le5 := J5.le
        have H8 : Hid (TS w (fun b => b = bt ∨ (Value.slice nb n cp).ownBlock = some b) w7 bt p pm 2100 pool (i * 40 + 4 + 4 + 12) M2 C2 (fun _ => false) y E2 ∧ NE y E2 (fun _ _ => False) ∧ OL encU8 37 1 w7 (.slice nb n cp) L1 ∧ LS E2 (L1 ++ [pg]) ∧ L1.length ≤ i ∧ ∀ b, (Value.slice nb n cp).ownBlock = some b → w.heap.size ≤ b ∧ b ≠ bt) := ⟨t7, ne6, ol7, ls2, le5, lo5⟩
        have z3 : ¬ (fr : Int) < nd := by omega
        have z4 : (fr : Int) - nd = fr2 := by omega
        have z5 : (tn : Int) + nd = ((tn + nd : Nat) : Int) := by omega
        generalize tn + nd = tn2 at *
        have z6 : (fr : Int) ≤ 12 := by omega
        have z7 : (nd : Int) ≤ 3 := by omega
        have z8 : (tn : Int) ≤ 12 := by omega
        clear t6 ne6 ol6 b6 J5 nL t7 ol7 H6 H5 HFR HFR2 HTN HND HRR HB D7 kF bnd hle hsum hnin hown x1 x2 ls2 lo5 le5
        go_wp2_with fail
        with_reducible refine kT.mono ?_
        rintro _ w8 ⟨rfl, K8⟩
        obtain ⟨t8, ne8, ol8, ls8, le8, lo8⟩ := H8.out
        obtain ⟨nb', n', cp', u', r1, hn', ol', ts', lo'⟩ := snoc_raw (t8.kps K8) (OL.fr ol8 (K8.fr (fun _ => False)) (fun _ _ => id)) lo8 pg (by have := HP.out.2; omega)
        have H9 : Hid (LJ w u' bt p pm pool y (.slice nb' n' cp') ((i + 1) * 40) (i + 1) M2 C2 E2 (L1 ++ [pg]) ∧ n' = (L1 ++ [pg]).length) := ⟨⟨ts'.le (by omega), ne8, ls8, ol', by rw [List.length_append]; simp; omega, lo'⟩, hn'⟩
        clear kT H8 K8 t8 ne8 ol8 ls8 le8 lo8 ol' ts' lo' hn'
        repeat' (first | ((with_reducible refine wp_append_of r1 (.tmp 108) (.tmp 110) ?_ ?_ ?_ ?_ ?_); rfl; rfl; rfl; rfl) | go_values | go_skip | go_guarded | go_step | go_upon | go_back | (simp only []) | (go_values <;> (try go_simp)) | (go_ite <;> go_prune <;> (try go_simp)))
        go_roundg (21 - (i + 1))
        case measure => omega
        case rel => exact ⟨i + 1, n', cp', nb', M2, C2, E2, L1 ++ [pg], by go_num, rfl, by have := HP.out.2; omega, by omega, H9⟩
    · have J := HI.out.1
      have nL := HI.out.2
      have kL := leaves_any J.ts
      have len := J.ls.len J.ts.tg
      have le := J.le
      have KL : Aside (Calls Tryz.prog 32 #[.pointer (some ⟨bt, 0, none⟩)] wr fun e w' => (∃ nv cv, e = .returned (.slice nv n cv)) ∧ Kp wr w') := kL.mono fun e w' ⟨⟨v, e1, e2⟩, e3, _⟩ => ⟨by
        obtain ⟨nv, cv, ev, _⟩ := e2.form
        rw [len, ← nL] at ev
        exact ⟨nv, cv, by rw [e1, ev]⟩, e3⟩
      have HE : Hid (LJ w wr bt p pm pool y (.slice nb n cp) (i * 40) i M1 C1 E1 L1 ∧ n = L1.length) := ⟨J, nL⟩
      have z2 : (n : Int) ≤ 20 := by omega
      have hor : (¬ (i : Int) < m) ∨ ((i : Int) < m ∧ ¬ (i : Int) < 20) := by omega
      clear J nL kL len le HI ei
      rcases hor with y1 | ⟨y1, y2⟩
      all_goals
        go_wp2_with fail
        with_reducible refine KL.out.mono ?_
        rintro _ w1 ⟨⟨nv, cv, rfl⟩, K1⟩
        have H1 : Hid (LJ w w1 bt p pm pool y (.slice nb n cp) (i * 40) i M1 C1 E1 L1 ∧ n = L1.length) := ⟨HE.out.1.kps K1, HE.out.2⟩
        clear KL K1 HE
        go_wp2_with fail
        go_loopg [23] 22 (fun gg v23 wx => ∃ j : Nat, v23 = .int .i64 (j : Int) ∧ j ≤ n ∧ 21 - j ≤ gg ∧ Hid (LJ w wx bt p pm pool y (.slice nb n cp) (i * 40 + 4 * j) i M1 C1 E1 L1 ∧ n = L1.length))
        case atStart => exact ⟨0, rfl, by omega, by omega, H1.out⟩
        case round =>
          obtain ⟨j, rfl, hj, hgg, HX⟩ := hrel
          by_cases ej : j < n
          · have jl : j < L1.length := by have := HX.out.2; omega
            have hin : L1[j] ∈ L1 := List.getElem_mem jl
            have plt := HX.out.1.ls.lt _ hin
            have mk := (HX.out.1.ls.mapped HX.out.1.ts.tg (page := L1[j])).2 hin
            have kG := get_any HX.out.1.ts (L1[j]) plt (by have := HX.out.2; omega)
            rw [decide_eq_true mk] at kG
            have fm := HX.out.1.ol.form
            obtain ⟨b1, hb1, cu⟩ : ∃ b1, nb = some ⟨b1, 0, none⟩ ∧ wr.cell? ⟨b1, j, none⟩ = some (.int .u64 (L1[j] : Int)) := by
              obtain ⟨na', cap', ev, _, hc⟩ := fm
              cases ev
              rcases hc with ⟨_, _, c⟩ | ⟨g', rfl, hg'⟩
              · rw [c] at jl; cases jl
              · refine ⟨g', rfl, ?_⟩
                have := OL.cell encU8_ok HX.out.1.ol (i := j) (j := 0) (x := L1[j]) (List.getElem?_eq_getElem jl) rfl
                simpa using this
            subst hb1
            have yj : (j : Int) < n := by omega
            generalize getN E1 L1[j] = gv at *
            generalize L1[j] = pg at *
            obtain ⟨gg', gx, gr, gq, ge, gf, gl⟩ := gv
            simp only [lvV] at kG
            clear jl hin plt mk fm
            go_wp2_with fail
            with_reducible refine kG.mono ?_
            rintro _ w2 ⟨rfl, t2, r2⟩
            have H2 : Hid (LJ w (w2.alloc (.cells #[.int .u64 (gg' : Int), .int .i64 (gx : Int), .bool gr, .bool gq, .bool ge, .int .i64 gf, .int .i64 (gl : Int)] 58)) bt p pm pool y (.slice (some ⟨b1, 0, none⟩) n cp) (i * 40 + 4 * (j + 1)) i M1 C1 E1 L1 ∧ n = L1.length) := ⟨((HX.out.1.same t2 r2).kps ((Kp.refl w2).alloc _)), HX.out.2⟩
            clear kG t2 r2 HX cu
            go_wp2_with fail
            go_roundg (21 - (j + 1))
            case measure => omega
            case rel => exact ⟨j + 1, by go_num, by omega, by omega, H2⟩
          · have ek : j = n := by omega
            subst ek
            have kt := told_any wr (HN.out.2.1.kp HX.out.1.ts.fw.kp)
            have HK : Hid (Kp w wr) := HX.out.1.ts.fw.kp
            clear HX H1
            go_wp2_with fail
            with_reducible refine kt.mono ?_
            rintro _ w2 ⟨rfl, K2⟩
            clear kt
            go_wp2
            go_ret
            exact ⟨rfl, HK.out.trans K2⟩
theorem lacks_any (a0 : Int) (na : Option Addr) (m cap : Nat) (f : Nat → Int) (w : World) (NI : NSK .u64 w na m f) (T : TAB w) :
    Calls Tryz.prog 8 #[.int .i64 a0, .slice na m cap] w fun e w' => e = .returned (.bool true) ∧ Kp w w' := by
  obtain ⟨m0, h0, h1⟩ := and_lim a0 15 (by decide)
  have e2 : (m0 : Int).tmod 12 = ((m0 % 12 : Nat) : Int) := by rw [Int.tmod_eq_emod_of_nonneg (by omega)]; omega
  exact lacks_walk a0 m0 (m0 % 12) (1 + m0 % 12) na m cap f w NI T h0 e2 (by omega) (by omega) (by omega)
end Go.Proofs.YtcankhnnikhblaaGreatDoor
