/- Tables: it tells lists of words. -/
import Derived.Test.YtcbciehffgaapaaZA
import Derived.Test.YtcbciehffgaapaaZ7
import Derived.Deep.DeepCutAuto
import Derived.Deep.CutBlock
namespace Go.Proofs.Ytcbciehffgaapaa
open Go.RowKit
set_option linter.unusedVariables false

theorem denc_lt (s l k : Int) (a : Nat) (r q x : Bool) (f : Int) : dencN s l k a r q x f < 18446744073709551616 := by
  unfold dencN
  by_cases h : dchk s l k a r q x f = 0
  · rw [if_pos h]
    obtain ⟨u, rfl, h1, _⟩ := dec_back h
    exact h1
  · rw [if_neg h]; decide

/-- The result. -/
theorem res_w {w : World} {b : Nat} {va vx : Value} {fn : Func} {c : Tmp} {tmps : Array Value} (hf : fn.results = #[.cell c 26]) (hc : tmps.getD c undef = .pointer (some ⟨b, 0, none⟩)) (h : w.heap[b]? = some (.cells #[va, vx] 26)) :
    (results fn tmps).run Try.prog w = .ok (.agg #[va, vx]) w := by
  have hc' : tmps[c]?.getD undef = .pointer (some ⟨b, 0, none⟩) := by simpa using hc
  have hl : (loadVar 26 ⟨b, 0, none⟩).run Try.prog w = .ok (.agg #[va, vx]) w := run_loadVar_row w b _ 26 _ _ _ h Try.underlying26 rfl (by kernel_rfl)
  simp [results, hf, hc', asAddr, hl]


set_option maxHeartbeats 8000000 in
set_option maxRecDepth 10000 in
theorem tables_any (s : Int) (hs : 1 ≤ s ∧ s ≤ 2) (root u : Nat) (hr : root < 18446744073709551616) (hu : u < 18446744073709551616) (levels : Int) (naD naR : Option Addr) (nD cD nR cR : Nat) (V : Nat → DV) (fR : Nat → Int) (w : World) (HD : DS w naD nD V) (HR : NSK .u64 w naR nR fR) :
    Calls Try.prog 8 #[.int .i64 s, .int .u64 (root : Int), .int .u64 (u : Int), .slice naD nD cD, .slice naR nR cR, .int .i64 levels] w fun e w' => ∃ va vx A X, e = .returned (.agg #[va, vx]) ∧ UW w' va A ∧ UW w' vx X ∧ A.length ≤ 4 ∧ X.length ≤ 4 ∧ (∀ y ∈ X, y < 18446744073709551616) ∧ Kp w w' := by
  obtain ⟨w1, hw1⟩ : ∃ w1, w1 = (w.alloc (.cells #[.slice none 0 0, .slice none 0 0] 26)).alloc (.cells #[.slice none 0 0, .slice none 0 0] 26) := ⟨_, rfl⟩
  have T1 : TB w w.heap.size (.slice none 0 0) (.slice none 0 0) [] [] w1 := by
    rw [hw1]
    refine ⟨((Kp.refl w).alloc _).alloc _, Nat.le_refl _, (((Kp.refl _).alloc _).block w.heap.size (by simp)).trans (heap_alloc_new w _), ?_, OL.nil _ _, OL.nil _ _, (fun g h => by cases h), (fun g h => by cases h), (fun g h => by cases h), (fun y h => by cases h), by decide, by decide⟩
    have := heap_alloc_new (w.alloc (.cells #[.slice none 0 0, .slice none 0 0] 26)) (.cells #[.slice none 0 0, .slice none 0 0] 26)
    simpa using this
  have HT1 : Hid (TB w w.heap.size (.slice none 0 0) (.slice none 0 0) [] [] w1) := T1
  have HDS : Hid (DS w naD nD V) := HD
  have HRS : Hid (NSK .u64 w naR nR fR) := HR
  clear T1 HD HR
  go_enter Try.func8, Try.ntmps8
  go_wp2_with fail
  rw [← hw1]
  clear hw1
  go_loopg [14, 15] 5 (fun g v14 v15 wr => ∃ (l t : Nat) (va vx : Value) (A X : List Nat), v14 = .int .u64 (t : Int) ∧ v15 = .int .i64 (l : Int) ∧ l ≤ 4 ∧ 5 - l ≤ g ∧ t < 18446744073709551616 ∧ Hid (TB w w.heap.size va vx A X wr ∧ A.length = l ∧ X.length = l))
  case atStart => exact ⟨0, root, _, _, [], [], rfl, rfl, by decide, by decide, hr, HT1.out, rfl, rfl⟩
  case round =>
    obtain ⟨l, t, va, vx, A, X, rfl, rfl, l1, lg, ht, HT⟩ := hrel
    by_cases c4 : l < 4
    · by_cases cD : l < nD
      · obtain ⟨⟨bd, od, rfl, hbd, d0, d1, d2, d3, d4, d5⟩, hda⟩ := HDS.out l cD
        have y1 : (l : Int) < 4 := by omega
        have y2 : (l : Int) < (nD : Int) := by omega
        obtain ⟨k', a', r', q', x', f', hc', cN⟩ := near_any s l (V l).k (V l).a (V l).r (V l).q (V l).x (V l).f (isPl_iff.2 (by omega)) hda
        have ha' : a' < 18446744073709551616 := by have := (chk_ok hc').2.2.2.2.1; have := top_le s; omega
        have e0 := (HT.out.1.kp.cell (p := ⟨bd, od + l * 6, none⟩) hbd).trans d0
        have e1 := (HT.out.1.kp.cell (p := ⟨bd, od + l * 6 + 1, none⟩) hbd).trans d1
        have e2 := (HT.out.1.kp.cell (p := ⟨bd, od + l * 6 + 2, none⟩) hbd).trans d2
        have e3 := (HT.out.1.kp.cell (p := ⟨bd, od + l * 6 + 3, none⟩) hbd).trans d3
        have e4 := (HT.out.1.kp.cell (p := ⟨bd, od + l * 6 + 4, none⟩) hbd).trans d4
        have e5 := (HT.out.1.kp.cell (p := ⟨bd, od + l * 6 + 5, none⟩) hbd).trans d5
        have CN : Aside (∀ w, Calls Try.prog 17 #[.int .i64 s, .int .i64 (l : Int), .agg #[.int .i64 (V l).k, .int .u64 ((V l).a : Int), .bool (V l).r, .bool (V l).q, .bool (V l).x, .int .i64 (V l).f]] w fun e w' => e = .returned (.agg #[.int .i64 k', .int .u64 (a' : Int), .bool r', .bool q', .bool x', .int .i64 f']) ∧ Kp w w') := cN
        have HLA : Hid (A.length ≤ 3 ∧ A.length = l) := ⟨by have := HT.out.2.1; omega, HT.out.2.1⟩
        have HLX : Hid (X.length ≤ 3 ∧ X.length = l) := ⟨by have := HT.out.2.2; omega, HT.out.2.2⟩
        obtain ⟨m, em, hm⟩ := bits_word .andNot (a' : Int) 4095
        obtain ⟨kk, hkk⟩ : ∃ kk : Nat, kk = 39 - 9 * l := ⟨_, rfl⟩
        have ek : (39 : Int) - 9 * (l : Int) = (kk : Int) := by omega
        have ek2 : (kk : Int) ≤ 39 := by omega
        have ea : bits .and .u64 ((u : Int) / 2 ^ kk) 511 = (fieldN u kk 9 : Nat) := field_and u kk 9 hu (by decide)
        have ef : (fieldN u kk 9 : Int) < 512 := by have := field_lt u kk 9; omega
        obtain ⟨p, ep, hp⟩ := wrap_word ((t : Int) + (fieldN u kk 9 : Int) * 8)
        generalize fieldN u kk 9 = ff at *
        clear d0 d1 d2 d3 d4 d5 hc' cN hkk hp hda
        generalize V l = d at *
        obtain ⟨dk, da, dr, dq, dx, df⟩ := d
        go_wp2_with fail
        with_reducible refine (CN.out _).mono ?_
        rintro e w2 ⟨rfl, K2⟩
        have HT2 : Hid (TB w w.heap.size va vx A X w2) := HT.out.1.keep K2
        have HV2 : Hid (UW w2 va A ∧ UW w2 vx X ∧ w.heap.size + 1 < w2.heap.size) := ⟨HT2.out.a, HT2.out.x, lt_of_row HT2.out.r13⟩
        clear HT K2 CN e0 e1 e2 e3 e4 e5
        by_cases cl : (l : Int) < levels
        · have y4 : ¬ levels ≤ (l : Int) := by omega
          have y5 : decide (levels ≤ (l : Int)) = false := decide_eq_false y4
          by_cases c3 : l < 3
          · have y3 : (l : Int) < 3 := by omega
            by_cases cR : l < nR
            · have y6 : (l : Int) < (nR : Int) := by omega
              skip
              go_wp2_with fail
              obtain ⟨w3, hw3⟩ : ∃ w3, w3 = w2.alloc (.cells #[.int .i64 1, .int .u64 (m : Int), .bool false, .bool false, .bool false, .int .i64 0] 48) := ⟨_, rfl⟩
              have B3 : BX w3 w2.heap.size 1 (m : Int) false false false 0 := by rw [hw3]; exact BX.made w2 1 (m : Int) false false false 0
              have T3 : TB w w.heap.size va vx A X w3 := HT2.out.keep (by rw [hw3]; exact (Kp.refl _).alloc _)
              have cE : Aside (∀ w, Calls Try.prog 23 #[.int .i64 s, .int .i64 (l : Int), .agg #[.int .i64 1, .int .u64 (m : Int), .bool false, .bool false, .bool false, .int .i64 0]] w fun e w' => e = .returned (.tuple #[.int .u64 (dencN s l 1 m false false false 0 : Nat), .int .i64 (dchk s l 1 m false false false 0)]) ∧ Kp w w') := fun w => rencode_any s l 1 m false false false 0 w
              have hxx := denc_lt s l 1 m false false false 0
              generalize dencN s l 1 m false false false 0 = xx at *
              generalize dchk s l 1 m false false false 0 = ee at *
              rw [← hw3]
              clear hw3 HT2
              with_reducible refine (cE.out _).mono ?_
              rintro e w4 ⟨rfl, K4⟩
              have HB4 : Hid (BX w4 w2.heap.size 1 (m : Int) false false false 0) := B3.kp K4
              have HT4 : Hid (TB w w.heap.size va vx A X w4) := T3.keep K4
              have b1 := HB4.out.c1
              clear B3 T3 K4 cE
              go_upto_region 13 with fail
              refine two_appends (b := w.heap.size) (p := p) (x := xx) ⟨rfl, ⟨_, rfl, rfl, rfl, rfl⟩, ⟨_, rfl, rfl, rfl, rfl⟩, ⟨_, rfl, rfl, rfl, rfl⟩, ⟨_, rfl, rfl, rfl, rfl⟩, ⟨_, rfl, rfl, rfl, rfl, rfl⟩, ⟨_, rfl, rfl, rfl, rfl⟩, ⟨_, rfl, rfl, rfl, rfl⟩, ⟨_, rfl, rfl, rfl, rfl⟩, ⟨_, rfl, rfl, rfl, rfl⟩, ⟨_, rfl, rfl, rfl, rfl, rfl⟩, ⟨_, rfl, rfl, rfl, rfl⟩, ⟨_, rfl, rfl, rfl, rfl⟩, ⟨_, rfl, rfl, rfl, rfl⟩, ⟨_, rfl, rfl, rfl, rfl⟩, (fun t h => ready_dep (e := ⟨0, .data⟩) h rfl (by simp) rfl), (fun t h => ready_dep (e := ⟨2, .data⟩) h rfl (by simp) rfl), (fun t h => ⟨ready_dep (e := ⟨1, .data⟩) h rfl (by simp) rfl, ready_dep (e := ⟨3, .data⟩) h rfl (by simp) rfl⟩), (fun t h => ready_dep (e := ⟨5, .data⟩) h rfl (by simp) rfl), (fun t h => ready_dep (e := ⟨7, .data⟩) h rfl (by simp) rfl), (fun t h => ⟨ready_dep (e := ⟨6, .data⟩) h rfl (by simp) rfl, ready_dep (e := ⟨8, .data⟩) h rfl (by simp) rfl⟩), (fun t h => ⟨ready_dep (e := ⟨10, .data⟩) h rfl (by simp) rfl, ready_dep (e := ⟨4, .data⟩) h rfl (by simp) rfl⟩), (fun t h => ⟨ready_dep (e := ⟨12, .data⟩) h rfl (by simp) rfl, ready_dep (e := ⟨9, .data⟩) h rfl (by simp) rfl⟩), (fun t hs hr => ready_all (by kernel_rfl) hs hr)⟩ HT4.out (by have := HLA.out; omega) (by have := HLX.out; omega) hxx (show (93 : Nat) ≤ 96 by decide) rfl rfl rfl ?_
              intro uu va2 vx2 w5 T5 F5
              have nb : ∀ g, va.ownBlock = some g ∨ vx.ownBlock = some g → g < w2.heap.size := fun g e => by
                rcases e with e | e
                · exact HV2.out.1.lt e
                · exact HV2.out.2.1.lt e
              have b2 : w5.cell? ⟨w2.heap.size, 1, none⟩ = some (.int .u64 (m : Int)) := (F5.cell (a := ⟨w2.heap.size, 1, none⟩) HB4.out.lt (fun e => by
                rcases e with e | e
                · have e : w2.heap.size = w.heap.size + 1 := e; have := HV2.out.2.2; omega
                · exact absurd (nb _ e) (Nat.lt_irrefl _))).trans b1
              have HT5 : Hid (TB w w.heap.size va2 vx2 (A ++ [p]) (X ++ [xx]) w5) := T5
              clear T5 F5 nb b1 HB4 HT4
              simp only [layA, lays, List.setIfInBounds_toArray, List.set_cons_succ, List.set_cons_zero, Nat.reduceAdd]
              go_wp2
              go_roundg (5 - (l + 1))
              case measure => omega
              case rel => exact ⟨l + 1, m, va2, vx2, A ++ [p], X ++ [xx], rfl, by go_num, by omega, by omega, by omega, HT5.out, by rw [List.length_append, HLA.out.2]; rfl, by rw [List.length_append, HLX.out.2]; rfl⟩
            · have y6 : ¬ (l : Int) < (nR : Int) := by omega
              skip
              go_wp2_with fail
              obtain ⟨w3, hw3⟩ : ∃ w3, w3 = w2.alloc (.cells #[.int .i64 1, .int .u64 (m : Int), .bool false, .bool false, .bool false, .int .i64 0] 48) := ⟨_, rfl⟩
              have B3 : BX w3 w2.heap.size 1 (m : Int) false false false 0 := by rw [hw3]; exact BX.made w2 1 (m : Int) false false false 0
              have T3 : TB w w.heap.size va vx A X w3 := HT2.out.keep (by rw [hw3]; exact (Kp.refl _).alloc _)
              have cE : Aside (∀ w, Calls Try.prog 23 #[.int .i64 s, .int .i64 (l : Int), .agg #[.int .i64 1, .int .u64 (m : Int), .bool false, .bool false, .bool false, .int .i64 0]] w fun e w' => e = .returned (.tuple #[.int .u64 (dencN s l 1 m false false false 0 : Nat), .int .i64 (dchk s l 1 m false false false 0)]) ∧ Kp w w') := fun w => rencode_any s l 1 m false false false 0 w
              have hxx := denc_lt s l 1 m false false false 0
              generalize dencN s l 1 m false false false 0 = xx at *
              generalize dchk s l 1 m false false false 0 = ee at *
              rw [← hw3]
              clear hw3 HT2
              with_reducible refine (cE.out _).mono ?_
              rintro e w4 ⟨rfl, K4⟩
              have HB4 : Hid (BX w4 w2.heap.size 1 (m : Int) false false false 0) := B3.kp K4
              have HT4 : Hid (TB w w.heap.size va vx A X w4) := T3.keep K4
              have b1 := HB4.out.c1
              clear B3 T3 K4 cE
              go_upto_region 13 with fail
              refine two_appends (b := w.heap.size) (p := p) (x := xx) ⟨rfl, ⟨_, rfl, rfl, rfl, rfl⟩, ⟨_, rfl, rfl, rfl, rfl⟩, ⟨_, rfl, rfl, rfl, rfl⟩, ⟨_, rfl, rfl, rfl, rfl⟩, ⟨_, rfl, rfl, rfl, rfl, rfl⟩, ⟨_, rfl, rfl, rfl, rfl⟩, ⟨_, rfl, rfl, rfl, rfl⟩, ⟨_, rfl, rfl, rfl, rfl⟩, ⟨_, rfl, rfl, rfl, rfl⟩, ⟨_, rfl, rfl, rfl, rfl, rfl⟩, ⟨_, rfl, rfl, rfl, rfl⟩, ⟨_, rfl, rfl, rfl, rfl⟩, ⟨_, rfl, rfl, rfl, rfl⟩, ⟨_, rfl, rfl, rfl, rfl⟩, (fun t h => ready_dep (e := ⟨0, .data⟩) h rfl (by simp) rfl), (fun t h => ready_dep (e := ⟨2, .data⟩) h rfl (by simp) rfl), (fun t h => ⟨ready_dep (e := ⟨1, .data⟩) h rfl (by simp) rfl, ready_dep (e := ⟨3, .data⟩) h rfl (by simp) rfl⟩), (fun t h => ready_dep (e := ⟨5, .data⟩) h rfl (by simp) rfl), (fun t h => ready_dep (e := ⟨7, .data⟩) h rfl (by simp) rfl), (fun t h => ⟨ready_dep (e := ⟨6, .data⟩) h rfl (by simp) rfl, ready_dep (e := ⟨8, .data⟩) h rfl (by simp) rfl⟩), (fun t h => ⟨ready_dep (e := ⟨10, .data⟩) h rfl (by simp) rfl, ready_dep (e := ⟨4, .data⟩) h rfl (by simp) rfl⟩), (fun t h => ⟨ready_dep (e := ⟨12, .data⟩) h rfl (by simp) rfl, ready_dep (e := ⟨9, .data⟩) h rfl (by simp) rfl⟩), (fun t hs hr => ready_all (by kernel_rfl) hs hr)⟩ HT4.out (by have := HLA.out; omega) (by have := HLX.out; omega) hxx (show (93 : Nat) ≤ 96 by decide) rfl rfl rfl ?_
              intro uu va2 vx2 w5 T5 F5
              have nb : ∀ g, va.ownBlock = some g ∨ vx.ownBlock = some g → g < w2.heap.size := fun g e => by
                rcases e with e | e
                · exact HV2.out.1.lt e
                · exact HV2.out.2.1.lt e
              have b2 : w5.cell? ⟨w2.heap.size, 1, none⟩ = some (.int .u64 (m : Int)) := (F5.cell (a := ⟨w2.heap.size, 1, none⟩) HB4.out.lt (fun e => by
                rcases e with e | e
                · have e : w2.heap.size = w.heap.size + 1 := e; have := HV2.out.2.2; omega
                · exact absurd (nb _ e) (Nat.lt_irrefl _))).trans b1
              have HT5 : Hid (TB w w.heap.size va2 vx2 (A ++ [p]) (X ++ [xx]) w5) := T5
              clear T5 F5 nb b1 HB4 HT4
              simp only [layA, lays, List.setIfInBounds_toArray, List.set_cons_succ, List.set_cons_zero, Nat.reduceAdd]
              go_wp2
              go_roundg (5 - (l + 1))
              case measure => omega
              case rel => exact ⟨l + 1, m, va2, vx2, A ++ [p], X ++ [xx], rfl, by go_num, by omega, by omega, by omega, HT5.out, by rw [List.length_append, HLA.out.2]; rfl, by rw [List.length_append, HLX.out.2]; rfl⟩
          · have y3 : ¬ (l : Int) < 3 := by omega
            by_cases cR : l < nR
            · have y6 : (l : Int) < (nR : Int) := by omega
              go_wp2_with fail
              obtain ⟨w3, hw3⟩ : ∃ w3, w3 = w2.alloc (.cells #[.int .i64 k', .int .u64 (a' : Int), .bool r', .bool q', .bool x', .int .i64 f'] 48) := ⟨_, rfl⟩
              have B3 : BX w3 w2.heap.size k' (a' : Int) r' q' x' f' := by rw [hw3]; exact BX.made w2 k' (a' : Int) r' q' x' f'
              have T3 : TB w w.heap.size va vx A X w3 := HT2.out.keep (by rw [hw3]; exact (Kp.refl _).alloc _)
              have cE : Aside (∀ w, Calls Try.prog 23 #[.int .i64 s, .int .i64 (l : Int), .agg #[.int .i64 k', .int .u64 (a' : Int), .bool r', .bool q', .bool x', .int .i64 f']] w fun e w' => e = .returned (.tuple #[.int .u64 (dencN s l k' a' r' q' x' f' : Nat), .int .i64 (dchk s l k' a' r' q' x' f')]) ∧ Kp w w') := fun w => rencode_any s l k' a' r' q' x' f' w
              have hxx := denc_lt s l k' a' r' q' x' f'
              generalize dencN s l k' a' r' q' x' f' = xx at *
              generalize dchk s l k' a' r' q' x' f' = ee at *
              rw [← hw3]
              clear hw3 HT2
              with_reducible refine (cE.out _).mono ?_
              rintro e w4 ⟨rfl, K4⟩
              have HB4 : Hid (BX w4 w2.heap.size k' (a' : Int) r' q' x' f') := B3.kp K4
              have HT4 : Hid (TB w w.heap.size va vx A X w4) := T3.keep K4
              have b1 := HB4.out.c1
              clear B3 T3 K4 cE
              go_upto_region 13 with fail
              refine two_appends (b := w.heap.size) (p := p) (x := xx) ⟨rfl, ⟨_, rfl, rfl, rfl, rfl⟩, ⟨_, rfl, rfl, rfl, rfl⟩, ⟨_, rfl, rfl, rfl, rfl⟩, ⟨_, rfl, rfl, rfl, rfl⟩, ⟨_, rfl, rfl, rfl, rfl, rfl⟩, ⟨_, rfl, rfl, rfl, rfl⟩, ⟨_, rfl, rfl, rfl, rfl⟩, ⟨_, rfl, rfl, rfl, rfl⟩, ⟨_, rfl, rfl, rfl, rfl⟩, ⟨_, rfl, rfl, rfl, rfl, rfl⟩, ⟨_, rfl, rfl, rfl, rfl⟩, ⟨_, rfl, rfl, rfl, rfl⟩, ⟨_, rfl, rfl, rfl, rfl⟩, ⟨_, rfl, rfl, rfl, rfl⟩, (fun t h => ready_dep (e := ⟨0, .data⟩) h rfl (by simp) rfl), (fun t h => ready_dep (e := ⟨2, .data⟩) h rfl (by simp) rfl), (fun t h => ⟨ready_dep (e := ⟨1, .data⟩) h rfl (by simp) rfl, ready_dep (e := ⟨3, .data⟩) h rfl (by simp) rfl⟩), (fun t h => ready_dep (e := ⟨5, .data⟩) h rfl (by simp) rfl), (fun t h => ready_dep (e := ⟨7, .data⟩) h rfl (by simp) rfl), (fun t h => ⟨ready_dep (e := ⟨6, .data⟩) h rfl (by simp) rfl, ready_dep (e := ⟨8, .data⟩) h rfl (by simp) rfl⟩), (fun t h => ⟨ready_dep (e := ⟨10, .data⟩) h rfl (by simp) rfl, ready_dep (e := ⟨4, .data⟩) h rfl (by simp) rfl⟩), (fun t h => ⟨ready_dep (e := ⟨12, .data⟩) h rfl (by simp) rfl, ready_dep (e := ⟨9, .data⟩) h rfl (by simp) rfl⟩), (fun t hs hr => ready_all (by kernel_rfl) hs hr)⟩ HT4.out (by have := HLA.out; omega) (by have := HLX.out; omega) hxx (show (93 : Nat) ≤ 96 by decide) rfl rfl rfl ?_
              intro uu va2 vx2 w5 T5 F5
              have nb : ∀ g, va.ownBlock = some g ∨ vx.ownBlock = some g → g < w2.heap.size := fun g e => by
                rcases e with e | e
                · exact HV2.out.1.lt e
                · exact HV2.out.2.1.lt e
              have b2 : w5.cell? ⟨w2.heap.size, 1, none⟩ = some (.int .u64 (a' : Int)) := (F5.cell (a := ⟨w2.heap.size, 1, none⟩) HB4.out.lt (fun e => by
                rcases e with e | e
                · have e : w2.heap.size = w.heap.size + 1 := e; have := HV2.out.2.2; omega
                · exact absurd (nb _ e) (Nat.lt_irrefl _))).trans b1
              have HT5 : Hid (TB w w.heap.size va2 vx2 (A ++ [p]) (X ++ [xx]) w5) := T5
              clear T5 F5 nb b1 HB4 HT4
              simp only [layA, lays, List.setIfInBounds_toArray, List.set_cons_succ, List.set_cons_zero, Nat.reduceAdd]
              go_wp2
              go_roundg (5 - (l + 1))
              case measure => omega
              case rel => exact ⟨l + 1, a', va2, vx2, A ++ [p], X ++ [xx], rfl, by go_num, by omega, by omega, by omega, HT5.out, by rw [List.length_append, HLA.out.2]; rfl, by rw [List.length_append, HLX.out.2]; rfl⟩
            · have y6 : ¬ (l : Int) < (nR : Int) := by omega
              go_wp2_with fail
              obtain ⟨w3, hw3⟩ : ∃ w3, w3 = w2.alloc (.cells #[.int .i64 k', .int .u64 (a' : Int), .bool r', .bool q', .bool x', .int .i64 f'] 48) := ⟨_, rfl⟩
              have B3 : BX w3 w2.heap.size k' (a' : Int) r' q' x' f' := by rw [hw3]; exact BX.made w2 k' (a' : Int) r' q' x' f'
              have T3 : TB w w.heap.size va vx A X w3 := HT2.out.keep (by rw [hw3]; exact (Kp.refl _).alloc _)
              have cE : Aside (∀ w, Calls Try.prog 23 #[.int .i64 s, .int .i64 (l : Int), .agg #[.int .i64 k', .int .u64 (a' : Int), .bool r', .bool q', .bool x', .int .i64 f']] w fun e w' => e = .returned (.tuple #[.int .u64 (dencN s l k' a' r' q' x' f' : Nat), .int .i64 (dchk s l k' a' r' q' x' f')]) ∧ Kp w w') := fun w => rencode_any s l k' a' r' q' x' f' w
              have hxx := denc_lt s l k' a' r' q' x' f'
              generalize dencN s l k' a' r' q' x' f' = xx at *
              generalize dchk s l k' a' r' q' x' f' = ee at *
              rw [← hw3]
              clear hw3 HT2
              with_reducible refine (cE.out _).mono ?_
              rintro e w4 ⟨rfl, K4⟩
              have HB4 : Hid (BX w4 w2.heap.size k' (a' : Int) r' q' x' f') := B3.kp K4
              have HT4 : Hid (TB w w.heap.size va vx A X w4) := T3.keep K4
              have b1 := HB4.out.c1
              clear B3 T3 K4 cE
              go_upto_region 13 with fail
              refine two_appends (b := w.heap.size) (p := p) (x := xx) ⟨rfl, ⟨_, rfl, rfl, rfl, rfl⟩, ⟨_, rfl, rfl, rfl, rfl⟩, ⟨_, rfl, rfl, rfl, rfl⟩, ⟨_, rfl, rfl, rfl, rfl⟩, ⟨_, rfl, rfl, rfl, rfl, rfl⟩, ⟨_, rfl, rfl, rfl, rfl⟩, ⟨_, rfl, rfl, rfl, rfl⟩, ⟨_, rfl, rfl, rfl, rfl⟩, ⟨_, rfl, rfl, rfl, rfl⟩, ⟨_, rfl, rfl, rfl, rfl, rfl⟩, ⟨_, rfl, rfl, rfl, rfl⟩, ⟨_, rfl, rfl, rfl, rfl⟩, ⟨_, rfl, rfl, rfl, rfl⟩, ⟨_, rfl, rfl, rfl, rfl⟩, (fun t h => ready_dep (e := ⟨0, .data⟩) h rfl (by simp) rfl), (fun t h => ready_dep (e := ⟨2, .data⟩) h rfl (by simp) rfl), (fun t h => ⟨ready_dep (e := ⟨1, .data⟩) h rfl (by simp) rfl, ready_dep (e := ⟨3, .data⟩) h rfl (by simp) rfl⟩), (fun t h => ready_dep (e := ⟨5, .data⟩) h rfl (by simp) rfl), (fun t h => ready_dep (e := ⟨7, .data⟩) h rfl (by simp) rfl), (fun t h => ⟨ready_dep (e := ⟨6, .data⟩) h rfl (by simp) rfl, ready_dep (e := ⟨8, .data⟩) h rfl (by simp) rfl⟩), (fun t h => ⟨ready_dep (e := ⟨10, .data⟩) h rfl (by simp) rfl, ready_dep (e := ⟨4, .data⟩) h rfl (by simp) rfl⟩), (fun t h => ⟨ready_dep (e := ⟨12, .data⟩) h rfl (by simp) rfl, ready_dep (e := ⟨9, .data⟩) h rfl (by simp) rfl⟩), (fun t hs hr => ready_all (by kernel_rfl) hs hr)⟩ HT4.out (by have := HLA.out; omega) (by have := HLX.out; omega) hxx (show (93 : Nat) ≤ 96 by decide) rfl rfl rfl ?_
              intro uu va2 vx2 w5 T5 F5
              have nb : ∀ g, va.ownBlock = some g ∨ vx.ownBlock = some g → g < w2.heap.size := fun g e => by
                rcases e with e | e
                · exact HV2.out.1.lt e
                · exact HV2.out.2.1.lt e
              have b2 : w5.cell? ⟨w2.heap.size, 1, none⟩ = some (.int .u64 (a' : Int)) := (F5.cell (a := ⟨w2.heap.size, 1, none⟩) HB4.out.lt (fun e => by
                rcases e with e | e
                · have e : w2.heap.size = w.heap.size + 1 := e; have := HV2.out.2.2; omega
                · exact absurd (nb _ e) (Nat.lt_irrefl _))).trans b1
              have HT5 : Hid (TB w w.heap.size va2 vx2 (A ++ [p]) (X ++ [xx]) w5) := T5
              clear T5 F5 nb b1 HB4 HT4
              simp only [layA, lays, List.setIfInBounds_toArray, List.set_cons_succ, List.set_cons_zero, Nat.reduceAdd]
              go_wp2
              go_roundg (5 - (l + 1))
              case measure => omega
              case rel => exact ⟨l + 1, a', va2, vx2, A ++ [p], X ++ [xx], rfl, by go_num, by omega, by omega, by omega, HT5.out, by rw [List.length_append, HLA.out.2]; rfl, by rw [List.length_append, HLX.out.2]; rfl⟩
        · by_cases cR : l < nR
          · have y3 : (l : Int) < (nR : Int) := by omega
            have y4 : levels ≤ (l : Int) := by omega
            go_wp2_with fail
            obtain ⟨w3, hw3⟩ : ∃ w3, w3 = w2.alloc (.cells #[.int .i64 k', .int .u64 (a' : Int), .bool r', .bool q', .bool x', .int .i64 f'] 48) := ⟨_, rfl⟩
            have B3 : BX w3 w2.heap.size k' (a' : Int) r' q' x' f' := by rw [hw3]; exact BX.made w2 k' (a' : Int) r' q' x' f'
            have T3 : TB w w.heap.size va vx A X w3 := HT2.out.keep (by rw [hw3]; exact (Kp.refl _).alloc _)
            have cE : Aside (∀ w, Calls Try.prog 23 #[.int .i64 s, .int .i64 (l : Int), .agg #[.int .i64 k', .int .u64 (a' : Int), .bool r', .bool q', .bool x', .int .i64 f']] w fun e w' => e = .returned (.tuple #[.int .u64 (dencN s l k' a' r' q' x' f' : Nat), .int .i64 (dchk s l k' a' r' q' x' f')]) ∧ Kp w w') := fun w => rencode_any s l k' a' r' q' x' f' w
            have hxx := denc_lt s l k' a' r' q' x' f'
            generalize dencN s l k' a' r' q' x' f' = xx at *
            generalize dchk s l k' a' r' q' x' f' = ee at *
            rw [← hw3]
            clear hw3 HT2
            with_reducible refine (cE.out _).mono ?_
            rintro e w4 ⟨rfl, K4⟩
            have HB4 : Hid (BX w4 w2.heap.size k' (a' : Int) r' q' x' f') := B3.kp K4
            have HT4 : Hid (TB w w.heap.size va vx A X w4) := T3.keep K4
            have b1 := HB4.out.c1
            clear B3 T3 K4 cE
            obtain ⟨⟨br, or, hnr, hbr, r0⟩, hrw⟩ := HRS.out l cR
            subst hnr
            have r1 := (HT4.out.kp.cell (p := ⟨br, or + l, none⟩) hbr).trans r0
            obtain ⟨xy, ex, hxy⟩ := bits_word .xor (xx : Int) (fR l)
            clear r0 hrw hxx
            go_upto_region 13 with fail
            refine two_appends (b := w.heap.size) (p := p) (x := xy) ⟨rfl, ⟨_, rfl, rfl, rfl, rfl⟩, ⟨_, rfl, rfl, rfl, rfl⟩, ⟨_, rfl, rfl, rfl, rfl⟩, ⟨_, rfl, rfl, rfl, rfl⟩, ⟨_, rfl, rfl, rfl, rfl, rfl⟩, ⟨_, rfl, rfl, rfl, rfl⟩, ⟨_, rfl, rfl, rfl, rfl⟩, ⟨_, rfl, rfl, rfl, rfl⟩, ⟨_, rfl, rfl, rfl, rfl⟩, ⟨_, rfl, rfl, rfl, rfl, rfl⟩, ⟨_, rfl, rfl, rfl, rfl⟩, ⟨_, rfl, rfl, rfl, rfl⟩, ⟨_, rfl, rfl, rfl, rfl⟩, ⟨_, rfl, rfl, rfl, rfl⟩, (fun t h => ready_dep (e := ⟨0, .data⟩) h rfl (by simp) rfl), (fun t h => ready_dep (e := ⟨2, .data⟩) h rfl (by simp) rfl), (fun t h => ⟨ready_dep (e := ⟨1, .data⟩) h rfl (by simp) rfl, ready_dep (e := ⟨3, .data⟩) h rfl (by simp) rfl⟩), (fun t h => ready_dep (e := ⟨5, .data⟩) h rfl (by simp) rfl), (fun t h => ready_dep (e := ⟨7, .data⟩) h rfl (by simp) rfl), (fun t h => ⟨ready_dep (e := ⟨6, .data⟩) h rfl (by simp) rfl, ready_dep (e := ⟨8, .data⟩) h rfl (by simp) rfl⟩), (fun t h => ⟨ready_dep (e := ⟨10, .data⟩) h rfl (by simp) rfl, ready_dep (e := ⟨4, .data⟩) h rfl (by simp) rfl⟩), (fun t h => ⟨ready_dep (e := ⟨12, .data⟩) h rfl (by simp) rfl, ready_dep (e := ⟨9, .data⟩) h rfl (by simp) rfl⟩), (fun t hs hr => ready_all (by kernel_rfl) hs hr)⟩ HT4.out (by have := HLA.out; omega) (by have := HLX.out; omega) hxy (show (93 : Nat) ≤ 96 by decide) rfl rfl rfl ?_
            intro uu va2 vx2 w5 T5 F5
            have nb : ∀ g, va.ownBlock = some g ∨ vx.ownBlock = some g → g < w2.heap.size := fun g e => by
              rcases e with e | e
              · exact HV2.out.1.lt e
              · exact HV2.out.2.1.lt e
            have b2 : w5.cell? ⟨w2.heap.size, 1, none⟩ = some (.int .u64 (a' : Int)) := (F5.cell (a := ⟨w2.heap.size, 1, none⟩) HB4.out.lt (fun e => by
              rcases e with e | e
              · have e : w2.heap.size = w.heap.size + 1 := e; have := HV2.out.2.2; omega
              · exact absurd (nb _ e) (Nat.lt_irrefl _))).trans b1
            have HT5 : Hid (TB w w.heap.size va2 vx2 (A ++ [p]) (X ++ [xy]) w5) := T5
            clear T5 F5 nb b1 HB4 HT4
            simp only [layA, lays, List.setIfInBounds_toArray, List.set_cons_succ, List.set_cons_zero, Nat.reduceAdd]
            go_wp2
            go_roundg (5 - (l + 1))
            case measure => omega
            case rel => exact ⟨l + 1, a', va2, vx2, A ++ [p], X ++ [xy], rfl, by go_num, by omega, by omega, by omega, HT5.out, by rw [List.length_append, HLA.out.2]; rfl, by rw [List.length_append, HLX.out.2]; rfl⟩
          · have y3 : ¬ (l : Int) < (nR : Int) := by omega
            go_wp2_with fail
            obtain ⟨w3, hw3⟩ : ∃ w3, w3 = w2.alloc (.cells #[.int .i64 k', .int .u64 (a' : Int), .bool r', .bool q', .bool x', .int .i64 f'] 48) := ⟨_, rfl⟩
            have B3 : BX w3 w2.heap.size k' (a' : Int) r' q' x' f' := by rw [hw3]; exact BX.made w2 k' (a' : Int) r' q' x' f'
            have T3 : TB w w.heap.size va vx A X w3 := HT2.out.keep (by rw [hw3]; exact (Kp.refl _).alloc _)
            have cE : Aside (∀ w, Calls Try.prog 23 #[.int .i64 s, .int .i64 (l : Int), .agg #[.int .i64 k', .int .u64 (a' : Int), .bool r', .bool q', .bool x', .int .i64 f']] w fun e w' => e = .returned (.tuple #[.int .u64 (dencN s l k' a' r' q' x' f' : Nat), .int .i64 (dchk s l k' a' r' q' x' f')]) ∧ Kp w w') := fun w => rencode_any s l k' a' r' q' x' f' w
            have hxx := denc_lt s l k' a' r' q' x' f'
            generalize dencN s l k' a' r' q' x' f' = xx at *
            generalize dchk s l k' a' r' q' x' f' = ee at *
            rw [← hw3]
            clear hw3 HT2
            with_reducible refine (cE.out _).mono ?_
            rintro e w4 ⟨rfl, K4⟩
            have HB4 : Hid (BX w4 w2.heap.size k' (a' : Int) r' q' x' f') := B3.kp K4
            have HT4 : Hid (TB w w.heap.size va vx A X w4) := T3.keep K4
            have b1 := HB4.out.c1
            clear B3 T3 K4 cE
            go_upto_region 13 with fail
            refine two_appends (b := w.heap.size) (p := p) (x := xx) ⟨rfl, ⟨_, rfl, rfl, rfl, rfl⟩, ⟨_, rfl, rfl, rfl, rfl⟩, ⟨_, rfl, rfl, rfl, rfl⟩, ⟨_, rfl, rfl, rfl, rfl⟩, ⟨_, rfl, rfl, rfl, rfl, rfl⟩, ⟨_, rfl, rfl, rfl, rfl⟩, ⟨_, rfl, rfl, rfl, rfl⟩, ⟨_, rfl, rfl, rfl, rfl⟩, ⟨_, rfl, rfl, rfl, rfl⟩, ⟨_, rfl, rfl, rfl, rfl, rfl⟩, ⟨_, rfl, rfl, rfl, rfl⟩, ⟨_, rfl, rfl, rfl, rfl⟩, ⟨_, rfl, rfl, rfl, rfl⟩, ⟨_, rfl, rfl, rfl, rfl⟩, (fun t h => ready_dep (e := ⟨0, .data⟩) h rfl (by simp) rfl), (fun t h => ready_dep (e := ⟨2, .data⟩) h rfl (by simp) rfl), (fun t h => ⟨ready_dep (e := ⟨1, .data⟩) h rfl (by simp) rfl, ready_dep (e := ⟨3, .data⟩) h rfl (by simp) rfl⟩), (fun t h => ready_dep (e := ⟨5, .data⟩) h rfl (by simp) rfl), (fun t h => ready_dep (e := ⟨7, .data⟩) h rfl (by simp) rfl), (fun t h => ⟨ready_dep (e := ⟨6, .data⟩) h rfl (by simp) rfl, ready_dep (e := ⟨8, .data⟩) h rfl (by simp) rfl⟩), (fun t h => ⟨ready_dep (e := ⟨10, .data⟩) h rfl (by simp) rfl, ready_dep (e := ⟨4, .data⟩) h rfl (by simp) rfl⟩), (fun t h => ⟨ready_dep (e := ⟨12, .data⟩) h rfl (by simp) rfl, ready_dep (e := ⟨9, .data⟩) h rfl (by simp) rfl⟩), (fun t hs hr => ready_all (by kernel_rfl) hs hr)⟩ HT4.out (by have := HLA.out; omega) (by have := HLX.out; omega) hxx (show (93 : Nat) ≤ 96 by decide) rfl rfl rfl ?_
            intro uu va2 vx2 w5 T5 F5
            have nb : ∀ g, va.ownBlock = some g ∨ vx.ownBlock = some g → g < w2.heap.size := fun g e => by
              rcases e with e | e
              · exact HV2.out.1.lt e
              · exact HV2.out.2.1.lt e
            have b2 : w5.cell? ⟨w2.heap.size, 1, none⟩ = some (.int .u64 (a' : Int)) := (F5.cell (a := ⟨w2.heap.size, 1, none⟩) HB4.out.lt (fun e => by
              rcases e with e | e
              · have e : w2.heap.size = w.heap.size + 1 := e; have := HV2.out.2.2; omega
              · exact absurd (nb _ e) (Nat.lt_irrefl _))).trans b1
            have HT5 : Hid (TB w w.heap.size va2 vx2 (A ++ [p]) (X ++ [xx]) w5) := T5
            clear T5 F5 nb b1 HB4 HT4
            simp only [layA, lays, List.setIfInBounds_toArray, List.set_cons_succ, List.set_cons_zero, Nat.reduceAdd]
            go_wp2
            go_roundg (5 - (l + 1))
            case measure => omega
            case rel => exact ⟨l + 1, a', va2, vx2, A ++ [p], X ++ [xx], rfl, by go_num, by omega, by omega, by omega, HT5.out, by rw [List.length_append, HLA.out.2]; rfl, by rw [List.length_append, HLX.out.2]; rfl⟩
      · have y1 : (l : Int) < 4 := by omega
        have y2 : ¬ (l : Int) < (nD : Int) := by omega
        have r1 := HT.out.1.r12
        have r2 := HT.out.1.r13
        have c0 : wr.cell? ⟨w.heap.size + 1, 0, none⟩ = some va := by rw [cell_of_row _ _ 0 _ _ _ r2]; rfl
        have c1 : wr.cell? ⟨w.heap.size + 1, 1, none⟩ = some vx := by rw [cell_of_row _ _ 1 _ _ _ r2]; rfl
        have q0 : wr.cell? ⟨w.heap.size, 0, none⟩ = some (.slice none 0 0) := by rw [cell_of_row _ _ 0 _ _ _ r1]; rfl
        have q1 : wr.cell? ⟨w.heap.size, 1, none⟩ = some (.slice none 0 0) := by rw [cell_of_row _ _ 1 _ _ _ r1]; rfl
        have f0 : wr.frozen? ⟨w.heap.size, 0, none⟩ = false := frozen_of_row _ _ 0 _ _ r1
        have f1 : wr.frozen? ⟨w.heap.size, 1, none⟩ = false := frozen_of_row _ _ 1 _ _ r1
        obtain ⟨na, n1, ca, rfl⟩ := HT.out.1.a.shape
        obtain ⟨nx, n2, cx, rfl⟩ := HT.out.1.x.shape
        clear r2
        go_wp2
        have x1 := heap_setCell_same _ w.heap.size 1 _ _ (.slice nx n2 cx) (heap_setCell_same wr w.heap.size 0 _ _ (.slice na n1 ca) r1)
        have FF : Fr (· = w.heap.size) wr ((wr.setCell ⟨w.heap.size, 0, none⟩ (.slice na n1 ca)).setCell ⟨w.heap.size, 1, none⟩ (.slice nx n2 cx)) := ((Fr.refl (· = w.heap.size) wr).set ⟨w.heap.size, 0, none⟩ _ rfl).set ⟨w.heap.size, 1, none⟩ _ rfl
        refine bodyPost_ret (res_w rfl rfl x1) rfl ?_
        have hA := HT.out.1.a.fr FF (fun g e e' => by have := HT.out.1.fa g e; omega)
        have hX := HT.out.1.x.fr FF (fun g e e' => by have := HT.out.1.fx g e; omega)
        have hK := FF.kp HT.out.1.kp (fun i e => by omega)
        exact ⟨_, _, rfl, A, hA, X, hX, HT.out.1.la, HT.out.1.lx, HT.out.1.wx, hK⟩
    · have y1 : ¬ (l : Int) < 4 := by omega
      have r1 := HT.out.1.r12
      have r2 := HT.out.1.r13
      have c0 : wr.cell? ⟨w.heap.size + 1, 0, none⟩ = some va := by rw [cell_of_row _ _ 0 _ _ _ r2]; rfl
      have c1 : wr.cell? ⟨w.heap.size + 1, 1, none⟩ = some vx := by rw [cell_of_row _ _ 1 _ _ _ r2]; rfl
      have q0 : wr.cell? ⟨w.heap.size, 0, none⟩ = some (.slice none 0 0) := by rw [cell_of_row _ _ 0 _ _ _ r1]; rfl
      have q1 : wr.cell? ⟨w.heap.size, 1, none⟩ = some (.slice none 0 0) := by rw [cell_of_row _ _ 1 _ _ _ r1]; rfl
      have f0 : wr.frozen? ⟨w.heap.size, 0, none⟩ = false := frozen_of_row _ _ 0 _ _ r1
      have f1 : wr.frozen? ⟨w.heap.size, 1, none⟩ = false := frozen_of_row _ _ 1 _ _ r1
      obtain ⟨na, n1, ca, rfl⟩ := HT.out.1.a.shape
      obtain ⟨nx, n2, cx, rfl⟩ := HT.out.1.x.shape
      clear r2
      go_wp2
      have x1 := heap_setCell_same _ w.heap.size 1 _ _ (.slice nx n2 cx) (heap_setCell_same wr w.heap.size 0 _ _ (.slice na n1 ca) r1)
      have FF : Fr (· = w.heap.size) wr ((wr.setCell ⟨w.heap.size, 0, none⟩ (.slice na n1 ca)).setCell ⟨w.heap.size, 1, none⟩ (.slice nx n2 cx)) := ((Fr.refl (· = w.heap.size) wr).set ⟨w.heap.size, 0, none⟩ _ rfl).set ⟨w.heap.size, 1, none⟩ _ rfl
      refine bodyPost_ret (res_w rfl rfl x1) rfl ?_
      have hA := HT.out.1.a.fr FF (fun g e e' => by have := HT.out.1.fa g e; omega)
      have hX := HT.out.1.x.fr FF (fun g e e' => by have := HT.out.1.fx g e; omega)
      have hK := FF.kp HT.out.1.kp (fun i e => by omega)
      exact ⟨_, _, rfl, A, hA, X, hX, HT.out.1.la, HT.out.1.lx, HT.out.1.wx, hK⟩

end Go.Proofs.Ytcbciehffgaapaa
