/- demesnelaw13: TablePlays. -/
import Derived.Test.YtanlcmdnhhdhaaaGreatDoorJ46
import Derived.Test.YtanlcmdnhhdhaaaGreatDoorJ31
import Derived.Test.YtanlcmdnhhdhaaaGreatDoorJ05
import Derived.Deep.CutBlock
import Derived.Deep.DeepCutAuto
import Derived.Deep.RegionHeld3
namespace Go.Proofs.YtanlcmdnhhdhaaaGreatDoor
open Go.RowKit
set_option maxRecDepth 10000

theorem tk_gone {F : Nat → Bool} {hi : Nat} (dom : ∀ k, F k = true → k < hi) (h : cnt F hi = 0) : TkR F 0 none := by
  obtain ⟨r, hr⟩ := tkr_ex F 0
  cases r with
  | none => exact hr
  | some x =>
    have f := hr.blk.2 x (Nat.le_refl _) (by have : (2 : Nat) ^ 0 = 1 := rfl; omega)
    rw [(cnt_zero hi).1 h x (dom x f)] at f
    cases f
theorem new_twoP {M : Nat → Nat → Nat} {P y1 y2 : Nat} {root : Nat} {E : Nat → Nat → DV} (t : TG M (putC (fun _ => 0) y1 1) P (fun _ => false) root E) (hy : putC (fun _ => 0) y1 1 y2 = 0) : ∃ Za, TG (zerM M y2) (putC (putC (fun _ => 0) y1 1) y2 1) P Za root E ∧ DJ (putC (putC (fun _ => 0) y1 1) y2 1) Za (fun x => decide (x = y1)) := by
  have ne : y1 ≠ y2 := fun c => by subst c; rw [putC_same] at hy; cases hy
  refine ⟨_, t.other (M' := zerM M y2) (C' := putC (putC (fun _ => 0) y1 1) y2 1) (fun x h1 _ => ?_), fun x hx => ?_⟩
  · have e : x = y1 := Decidable.byContradiction fun c => h1 (by rw [putC_other _ _ c])
    subst e
    exact ⟨fun i _ => by unfold zerM; rw [if_neg ne], putC_other _ _ ne⟩
  · unfold oZ
    rw [decide_eq_true hx]
    by_cases c : x = y1
    · subst c
      rw [putC_same]
      simp
    · rw [putC_other (fun _ => 0) 1 c]
      show (true && !(decide ((0 : Nat) ≠ 0) && !false)) = !decide (x = y1)
      rw [decide_eq_false c]
      rfl
/-- The two arrays. -/
def ARR (w : World) (b9 b10 : Nat) (t0 t1 r0 r1 : Option Addr) : Prop := w.heap[b9]? = some (.cells #[.pointer t0, .pointer t1] 28 (0, 0)) ∧ w.heap[b10]? = some (.cells #[.pointer r0, .pointer r1] 30 (0, 0))
theorem ARR.kp {w w' : World} {b9 b10 : Nat} {t0 t1 r0 r1 : Option Addr} (h : ARR w b9 b10 t0 t1 r0 r1) (k : Kp w w') : ARR w' b9 b10 t0 t1 r0 r1 := ⟨(k.block b9 (Array.getElem?_eq_some_iff.1 h.1).1).trans h.1, (k.block b10 (Array.getElem?_eq_some_iff.1 h.2).1).trans h.2⟩
theorem ARR.fr {w w' : World} {S : Nat → Prop} {b9 b10 : Nat} {t0 t1 r0 r1 : Option Addr} (h : ARR w b9 b10 t0 t1 r0 r1) (k : Fr S w w') (h9 : ¬ S b9) (h10 : ¬ S b10) : ARR w' b9 b10 t0 t1 r0 r1 := ⟨(k.block b9 (Array.getElem?_eq_some_iff.1 h.1).1 h9).trans h.1, (k.block b10 (Array.getElem?_eq_some_iff.1 h.2).1 h10).trans h.2⟩
theorem ARR.cells {w : World} {b9 b10 : Nat} {t0 t1 r0 r1 : Option Addr} (h : ARR w b9 b10 t0 t1 r0 r1) : w.cell? ⟨b9, 0, none⟩ = some (.pointer t0) ∧ w.cell? ⟨b9, 1, none⟩ = some (.pointer t1) ∧ w.cell? ⟨b10, 0, none⟩ = some (.pointer r0) ∧ w.cell? ⟨b10, 1, none⟩ = some (.pointer r1) := by
  refine ⟨?_, ?_, ?_, ?_⟩
  · rw [cell_of_row _ _ 0 _ _ _ h.1]; rfl
  · rw [cell_of_row _ _ 1 _ _ _ h.1]; rfl
  · rw [cell_of_row _ _ 0 _ _ _ h.2]; rfl
  · rw [cell_of_row _ _ 1 _ _ _ h.2]; rfl
theorem ARR.fz {w : World} {b9 b10 : Nat} {t0 t1 r0 r1 : Option Addr} (h : ARR w b9 b10 t0 t1 r0 r1) (j : Nat) : w.frozen? ⟨b9, j, none⟩ = false ∧ w.frozen? ⟨b10, j, none⟩ = false := ⟨frozen_of_row w b9 j _ _ h.1, frozen_of_row w b10 j _ _ h.2⟩
theorem ARR.put0 {w : World} {b9 b10 : Nat} {t0 t1 r0 r1 : Option Addr} (h : ARR w b9 b10 t0 t1 r0 r1) (hn : b9 ≠ b10) (t r : Option Addr) : ARR ((w.setCell ⟨b9, 0, none⟩ (.pointer t)).setCell ⟨b10, 0, none⟩ (.pointer r)) b9 b10 t t1 r r1 := by
  have a : (w.setCell ⟨b9, 0, none⟩ (.pointer t)).heap[b9]? = some (.cells #[.pointer t, .pointer t1] 28 (0, 0)) := heap_setCell_same w b9 0 _ _ _ h.1
  have b : (w.setCell ⟨b9, 0, none⟩ (.pointer t)).heap[b10]? = some (.cells #[.pointer r0, .pointer r1] 30 (0, 0)) := (heap_setCell_other w ⟨b9, 0, none⟩ b10 _ (fun c => hn c.symm)).trans h.2
  exact ⟨(heap_setCell_other _ ⟨b10, 0, none⟩ b9 _ hn).trans a, heap_setCell_same _ b10 0 _ _ _ b⟩
theorem ARR.put1 {w : World} {b9 b10 : Nat} {t0 t1 r0 r1 : Option Addr} (h : ARR w b9 b10 t0 t1 r0 r1) (hn : b9 ≠ b10) (t r : Option Addr) : ARR ((w.setCell ⟨b9, 1, none⟩ (.pointer t)).setCell ⟨b10, 1, none⟩ (.pointer r)) b9 b10 t0 t r0 r := by
  have a : (w.setCell ⟨b9, 1, none⟩ (.pointer t)).heap[b9]? = some (.cells #[.pointer t0, .pointer t] 28 (0, 0)) := heap_setCell_same w b9 1 _ _ _ h.1
  have b : (w.setCell ⟨b9, 1, none⟩ (.pointer t)).heap[b10]? = some (.cells #[.pointer r0, .pointer r1] 30 (0, 0)) := (heap_setCell_other w ⟨b9, 1, none⟩ b10 _ (fun c => hn c.symm)).trans h.2
  exact ⟨(heap_setCell_other _ ⟨b10, 1, none⟩ b9 _ hn).trans a, heap_setCell_same _ b10 1 _ _ _ b⟩
theorem ARR.mid {w : World} {b9 b10 : Nat} {t0 t1 r0 r1 : Option Addr} (h : ARR w b9 b10 t0 t1 r0 r1) (hn : b9 ≠ b10) (k : Nat) (v : Value) : (w.setCell ⟨b9, k, none⟩ v).cell? ⟨b10, 0, none⟩ = some (.pointer r0) ∧ (w.setCell ⟨b9, k, none⟩ v).cell? ⟨b10, 1, none⟩ = some (.pointer r1) ∧ ∀ j, (w.setCell ⟨b9, k, none⟩ v).frozen? ⟨b10, j, none⟩ = false := by
  have b : (w.setCell ⟨b9, k, none⟩ v).heap[b10]? = some (.cells #[.pointer r0, .pointer r1] 30 (0, 0)) := (heap_setCell_other w ⟨b9, k, none⟩ b10 _ (fun c => hn c.symm)).trans h.2
  refine ⟨?_, ?_, fun j => frozen_of_row _ b10 j _ _ b⟩
  · rw [cell_of_row _ _ 0 _ _ _ b]; rfl
  · rw [cell_of_row _ _ 1 _ _ _ b]; rfl
def PTR (b : Nat) : Option Addr := some ⟨b, 0, none⟩
/-- Nothing is made. -/
def ST0 (W : World) (p pm P bf b9 b10 : Nat) (u : World) : Prop := ∃ M, FW W (fun j => ((False ∨ j = bf) ∨ j = b9) ∨ j = b10) u p pm 2100 P 0 M (fun _ => 0) ∧ u.heap[bf]? = some (.cells #[.int .i64 (P : Int)] 3 (0, 0)) ∧ ARR u b9 b10 none none none none
/-- The first one is. -/
def ST1 (W : World) (p pm P bf b9 b10 : Nat) (u : World) : Prop := ∃ X M y ba bra, TS W X u ba p pm 2100 P 0 (zerM M y) (putC (fun _ => 0) y 1) (fun _ => false) y eN ∧ RQ u bra bf (.slice none 0 0) [] ((P : Int) - 1) false ∧ ARR u b9 b10 (PTR ba) none (PTR bra) none ∧ (X bf ∧ X b9 ∧ X b10 ∧ X bra) ∧ (b10 < ba ∧ b10 < bra ∧ ba ≠ bra) ∧ cnt (fT P (putC (fun _ => 0) y 1)) P + 1 = P
/-- Both are, or the pool has no more. -/
def ST2 (W : World) (p pm P bf b9 b10 : Nat) (u : World) : Prop := ∃ ba bra bb brb pr, TPS W u (fun j => j = b9 ∨ j = b10) p pm P ba bra bb brb bf pr 0 u ∧ ARR u b9 b10 (PTR ba) (if pr then PTR bb else none) (PTR bra) (if pr then PTR brb else none)
def STi (W : World) (p pm P bf b9 b10 i : Nat) (u : World) : Prop := if i = 0 then ST0 W p pm P bf b9 b10 u else if i = 1 then ST1 W p pm P bf b9 b10 u else ST2 W p pm P bf b9 b10 u
theorem RL.none : RL eN [] := ⟨List.Pairwise.nil, fun _ => ⟨fun c => absurd c List.not_mem_nil, fun ⟨_, _, _, hk, _⟩ => absurd rfl hk⟩⟩
set_option maxHeartbeats 8000000 in
theorem rnew_no {w : World} {bf : Nat} {fr : Int} (hf : w.heap[bf]? = some (.cells #[.int .i64 fr] 3 (0, 0))) (h1 : fr < 1) :
    Calls Tryz.prog 8 #[.int .i64 2100, .pointer (some ⟨bf, 0, none⟩)] w fun e w' => e = .returned (.tuple #[.pointer none, .int .i64 11]) ∧ w' = w := by
  have cf : w.cell? ⟨bf, 0, none⟩ = some (.int .i64 fr) := by rw [cell_of_row w bf 0 _ _ _ hf]; rfl
  clear hf
  go_enter Tryz.func8, Tryz.ntmps8
  go_wp2
  go_ret2
  exact ⟨rfl, rfl⟩
set_option maxHeartbeats 16000000 in
theorem plays13_any (a0 : Int) (na : Option Addr) (mc cap : Nat) (V : Nat → OpV) (w : World) (hO : Steps w na mc V) (hm : mc ≤ maxLen) (T : TAB w) :
    Calls Tryz.prog 3 #[.int .i64 a0, .slice na mc cap] w fun e w' => e = .returned (.bool true) ∧ Kp w w' := by
  obtain ⟨d, hd, ld⟩ := and_lim a0 63 (by decide)
  rw [show ((63 : Nat) : Int) = 63 from rfl] at hd
  obtain ⟨P, hP, P1, P2⟩ : ∃ P : Nat, 1 + (d : Int).tmod 40 = (P : Int) ∧ 1 ≤ P ∧ P ≤ 40 := ⟨1 + d % 40, by rw [Int.tmod_eq_emod_of_nonneg (by omega)]; omega, by omega, by omega⟩
  have k1 := begun_any P w T P1 (by omega)
  have HT : Hid (Steps w na mc V ∧ TAB w) := ⟨hO, T⟩
  have HP : Hid (1 ≤ P ∧ P ≤ 40) := ⟨P1, P2⟩
  have y0 : (mc : Int) ≤ 9223372036854775807 := by unfold maxLen at hm; omega
  have y1 : (P : Int) ≤ 40 := by omega
  have y2 : (d : Int) ≤ 63 := by omega
  obtain ⟨dm, hdm⟩ : ∃ dm, (d : Int).tmod 40 = dm := ⟨_, rfl⟩
  rw [hdm] at hP
  have y3 : dm ≤ 39 := by omega
  have y4 : 0 ≤ dm := by omega
  clear hO hm T ld P1 P2
  go_enter Tryz.func3, Tryz.ntmps3
  go_wp2_with fail
  with_reducible refine k1.mono ?_
  rintro e w1 ⟨pm, p, M, rfl, f1⟩
  obtain ⟨bf, hbf⟩ : ∃ b, b = w1.heap.size := ⟨_, rfl⟩
  obtain ⟨b9, hb9⟩ : ∃ b, b = w1.heap.size + 1 := ⟨_, rfl⟩
  obtain ⟨b10, hb10⟩ : ∃ b, b = w1.heap.size + 1 + 1 := ⟨_, rfl⟩
  obtain ⟨w2, hw2⟩ : ∃ w2, w2 = w1.alloc (.cells #[.int .i64 (P : Int)] 3) := ⟨_, rfl⟩
  obtain ⟨w3, hw3⟩ : ∃ w3, w3 = w2.alloc (.cells #[.pointer none, .pointer none] 28) := ⟨_, rfl⟩
  obtain ⟨w4, hw4⟩ : ∃ w4, w4 = w3.alloc (.cells #[.pointer none, .pointer none] 30) := ⟨_, rfl⟩
  have I0 : Hid (ST0 w p pm P bf b9 b10 w4 ∧ (w.heap.size ≤ bf ∧ bf < b9 ∧ b9 < b10)) := by
    have s2 : w2.heap.size = w1.heap.size + 1 := by rw [hw2]; simp
    have s3 : w3.heap.size = w2.heap.size + 1 := by rw [hw3]; simp
    have s4 : w4.heap.size = w3.heap.size + 1 := by rw [hw4]; simp
    have k2 : Kp w1 w2 := by rw [hw2]; exact (Kp.refl w1).alloc _
    have k3 : Kp w2 w3 := by rw [hw3]; exact (Kp.refl w2).alloc _
    have k4 : Kp w3 w4 := by rw [hw4]; exact (Kp.refl w3).alloc _
    have r2 : w2.heap[bf]? = some (.cells #[.int .i64 (P : Int)] 3 (0, 0)) := by rw [hw2, hbf]; exact heap_alloc_new w1 _
    have r3 : w3.heap[b9]? = some (.cells #[.pointer none, .pointer none] 28 (0, 0)) := by rw [hw3, show b9 = w2.heap.size by omega]; exact heap_alloc_new w2 _
    have r4 : w4.heap[b10]? = some (.cells #[.pointer none, .pointer none] 30 (0, 0)) := by rw [hw4, show b10 = w3.heap.size by omega]; exact heap_alloc_new w3 _
    have sw := f1.kp.size
    exact ⟨⟨M, ((f1.more k2 bf (by omega) (by omega)).more k3 b9 (by omega) (by omega)).more k4 b10 (by omega) (by omega), ((k3.trans k4).block bf (by omega)).trans r2, (k4.block b9 (by omega)).trans r3, r4⟩, by omega, by omega, by omega⟩
  clear k1 f1
  go_upto_block 0 with fail
  rw [← hw2, ← hw3, ← hw4, ← hb10, ← hb9, ← hbf]
  clear hw2 hw3 hw4 hb10 hb9 hbf
  have HB : Hid (w.heap.size ≤ bf ∧ bf < b9 ∧ b9 < b10) := I0.out.2
  go_cut [] (fun wx => Hid (ST2 w p pm P bf b9 b10 wx))
  case first =>
    go_wp2_with fail
    go_loopg [11] 3 (fun gk v11 wr => ∃ (i : Nat), v11 = .int .i64 (i : Int) ∧ i ≤ 2 ∧ 3 - i ≤ gk ∧ Hid (STi w p pm P bf b9 b10 i wr))
    case atStart => exact ⟨0, rfl, by omega, by omega, (show STi w p pm P bf b9 b10 0 w4 from I0.out.1)⟩
    case round =>
      clear I0
      obtain ⟨i, rfl, hi, hgk, HI⟩ := hrel
      rcases (by omega : i = 0 ∨ i = 1 ∨ i = 2) with rfl | rfl | rfl
      · have h0 : ST0 w p pm P bf b9 b10 wr := HI.out
        obtain ⟨M0, fw, hf, ar⟩ := h0
        obtain ⟨y, hy⟩ := tk_there (F := fT P (fun _ => 0)) (hi := P) (by rw [cntT_all]; exact HP.out.1)
        have HC : Hid (cnt (fT P (putC (fun _ => 0) y 1)) P + 1 = P) := by have := cnt_take (C := fun _ => 0) hy.free.1 rfl; rw [cntT_all] at this; exact this
        have k2 := tnew_ok (Z := fun _ => false) fw y hy (fun x => ⟨(fun c => by cases c), fun c => absurd rfl c⟩)
        have HF : Hid (wr.heap[bf]? = some (.cells #[.int .i64 (P : Int)] 3 (0, 0)) ∧ ARR wr b9 b10 none none none none) := ⟨hf, ar⟩
        rw [show ((0 : Nat) : Int) = 0 from rfl]
        clear HI fw hf ar hy
        go_wp2_with fail
        with_reducible refine k2.mono ?_
        rintro e w5 ⟨⟨ba, rfl, t5, hba⟩, r5⟩
        have lf := (Array.getElem?_eq_some_iff.1 HF.out.1).1
        have l9 := (Array.getElem?_eq_some_iff.1 HF.out.2.1).1
        have l10 := (Array.getElem?_eq_some_iff.1 HF.out.2.2).1
        have f5 : w5.heap[bf]? = some (.cells #[.int .i64 (P : Int)] 3 (0, 0)) := (r5.block bf lf (fun c => c.2 (.inl (.inl (.inr rfl))))).trans HF.out.1
        have a5 := HF.out.2.fr r5 (fun c => c.2 (.inl (.inr rfl))) (fun c => c.2 (.inr rfl))
        have k3 := rnew_ok f5 (by have := HP.out.1; omega) (by omega)
        have H5 : Hid (TS w (fun i => (((False ∨ i = bf) ∨ i = b9) ∨ i = b10) ∨ i = ba) w5 ba p pm 2100 P 0 (zerM M0 y) (putC (fun _ => 0) y 1) (fun _ => false) y eN ∧ ARR w5 b9 b10 none none none none ∧ wr.heap.size ≤ ba ∧ b10 < wr.heap.size ∧ bf < wr.heap.size) := ⟨t5, a5, hba, l10, lf⟩
        clear k2 t5 r5 hba lf l9 l10 f5 a5 HF
        go_wp2_with fail
        with_reducible refine k3.mono ?_
        rintro e w6 ⟨⟨bra, rfl, rq, hbra⟩, f6⟩
        obtain ⟨t5, a5, g1, g2, g3⟩ := H5.out
        have l5 := t5.tx.lt
        have sb := HB.out
        have t6 : TS w (fun i => ((((False ∨ i = bf) ∨ i = b9) ∨ i = b10) ∨ i = ba) ∨ i = bra) w6 ba p pm 2100 P 0 (zerM M0 y) (putC (fun _ => 0) y 1) (fun _ => false) y eN := t5.wide f6 (fun i hi => ⟨by have hi : i = bf := hi; omega, by have hi : i = bf := hi; exact .inl (.inl (.inl (.inr hi)))⟩) (fun c => by have c : ba = bf := c; omega) (fun i hi => hi.imp id (fun c => by rw [c]; exact ⟨hbra, rq.lt⟩)) (.inl (.inr rfl))
        have a6 := a5.fr f6 (fun c => by have c : b9 = bf := c; omega) (fun c => by have c : b10 = bf := c; omega)
        have c6 := a6.cells
        obtain ⟨q0, q1, q2, q3⟩ := c6
        have z9 := (a6.fz 0).1
        have z10 := (a6.fz 0).2
        have md := a6.mid (by omega) 0 (.pointer (some ⟨ba, 0, none⟩))
        have m0 := md.1
        have m1 := md.2.2 0
        have a7 := a6.put0 (by omega) (PTR ba) (PTR bra)
        have f7 : Fr (fun j => j = b9 ∨ j = b10) w6 ((w6.setCell ⟨b9, 0, none⟩ (.pointer (PTR ba))).setCell ⟨b10, 0, none⟩ (.pointer (PTR bra))) := ((Fr.refl _ w6).set _ _ (.inl rfl)).set _ _ (.inr rfl)
        have H7 : Hid (ST1 w p pm P bf b9 b10 ((w6.setCell ⟨b9, 0, none⟩ (.pointer (some ⟨ba, 0, none⟩))).setCell ⟨b10, 0, none⟩ (.pointer (some ⟨bra, 0, none⟩)))) := by
          refine ⟨_, M0, y, ba, bra, t6.wide f7 (fun i hi => ?_) (fun c => ?_) (fun i hi => .inl hi) (.inl (.inr rfl)), rq.fr f7 (fun c => ?_) (fun c => ?_) (fun b hb => by cases hb), a7, ⟨.inl (.inl (.inl (.inl (.inr rfl)))), .inl (.inl (.inl (.inr rfl))), .inl (.inl (.inr rfl)), .inr rfl⟩, ⟨by omega, by omega, by omega⟩, HC.out⟩
          · rcases hi with hi | hi
            · exact ⟨by omega, .inl (.inl (.inl (.inr hi)))⟩
            · exact ⟨by omega, .inl (.inl (.inr hi))⟩
          · rcases c with c | c <;> omega
          · rcases c with c | c <;> omega
          · rcases c with c | c <;> omega
        clear md k3 rq hbra f6 H5 t5 a5 g1 g2 g3 l5 sb t6 a6 a7 f7 HC
        go_wp2_with fail
        go_roundg (3 - 1)
        case measure => omega
        case rel => exact ⟨1, rfl, by omega, by omega, (show STi w p pm P bf b9 b10 1 _ from H7.out)⟩
      · have h1 : ST1 w p pm P bf b9 b10 wr := HI.out
        obtain ⟨X, M1, y, ba, bra, t1, rq, ar, ⟨xf, x9, x10, xr⟩, ⟨o1, o2, o3⟩, hc⟩ := h1
        rw [show ((1 : Nat) : Int) = 1 from rfl]
        clear HI
        by_cases hP2 : 2 ≤ P
        · obtain ⟨y2, hy2⟩ := tk_there (F := fT P (putC (fun _ => 0) y 1)) (hi := P) (by omega)
          have k2 := tnew_ok (Z := fun x => decide (x = y)) t1.fw y2 hy2 (fun x => ⟨fun c => by have c := of_decide_eq_true c; subst c; rw [putC_same]; decide, fun c => decide_eq_true (Decidable.byContradiction fun d => c (by rw [putC_other _ _ d]))⟩)
          have hc2 : cnt (fT P (putC (putC (fun _ => 0) y 1) y2 1)) P + 1 = cnt (fT P (putC (fun _ => 0) y 1)) P := cnt_take (C := putC (fun _ => 0) y 1) hy2.free.1 hy2.free.2
          have H1 : Hid (TS w X wr ba p pm 2100 P 0 (zerM M1 y) (putC (fun _ => 0) y 1) (fun _ => false) y eN ∧ RQ wr bra bf (.slice none 0 0) [] ((P : Int) - 1) false ∧ ARR wr b9 b10 (PTR ba) none (PTR bra) none ∧ (X bf ∧ X b9 ∧ X b10 ∧ X bra) ∧ (b10 < ba ∧ b10 < bra ∧ ba ≠ bra) ∧ cnt (fT P (putC (fun _ => 0) y 1)) P + 1 = P ∧ cnt (fT P (putC (putC (fun _ => 0) y 1) y2 1)) P + 1 = cnt (fT P (putC (fun _ => 0) y 1)) P ∧ putC (fun _ => 0) y 1 y2 = 0 ∧ 2 ≤ P) := ⟨t1, rq, ar, ⟨xf, x9, x10, xr⟩, ⟨o1, o2, o3⟩, hc, hc2, hy2.free.2, hP2⟩
          clear t1 rq ar xf x9 x10 xr o1 o2 o3 hc hc2 hy2 hP2
          go_wp2_with fail
          with_reducible refine k2.mono ?_
          rintro e w5 ⟨⟨bb, rfl, t5, hbb⟩, r5⟩
          have rq5 := H1.out.2.1.fr r5 (fun c => c.2 H1.out.2.2.2.1.2.2.2) (fun c => c.2 H1.out.2.2.2.1.1) (fun b hb => by cases hb)
          have a5 := H1.out.2.2.1.fr r5 (fun c => c.2 H1.out.2.2.2.1.2.1) (fun c => c.2 H1.out.2.2.2.1.2.2.1)
          have tx5 := H1.out.1.tx.fr r5 (fun c => c.2 H1.out.1.xb)
          have k3 := rnew_ok rq5.f (by have := H1.out.2.2.2.2.2.2.2.2; omega) (by have := HP.out.2; omega)
          have H5 : Hid (TS w (fun i => X i ∨ i = bb) w5 bb p pm 2100 P 0 (zerM (zerM M1 y) y2) (putC (putC (fun _ => 0) y 1) y2 1) (fun x => decide (x = y)) y2 eN ∧ RQ w5 bra bf (.slice none 0 0) [] ((P : Int) - 1) false ∧ ARR w5 b9 b10 (PTR ba) none (PTR bra) none ∧ TX w5 ba p y ∧ wr.heap.size ≤ bb) := ⟨t5, rq5, a5, tx5, hbb⟩
          clear k2 t5 r5 hbb rq5 a5 tx5
          go_wp2_with fail
          with_reducible refine k3.mono ?_
          rintro e w6 ⟨⟨brb, rfl, rqb, hbrb⟩, f6⟩
          obtain ⟨t1, rq1, ar1, ⟨xf, x9, x10, xr⟩, ⟨o1, o2, o3⟩, hc, hc2, hy2, hP2⟩ := H1.out
          obtain ⟨t5, rq5, a5, tx5, g1⟩ := H5.out
          have l5 := t5.tx.lt
          have lr := rq1.lt
          have lf := rq1.ltf
          have la := t1.tx.lt
          have l9 := (Array.getElem?_eq_some_iff.1 ar1.1).1
          have l10 := (Array.getElem?_eq_some_iff.1 ar1.2).1
          have sb := HB.out
          have nf1 := rq1.ne
          have t6 : TS w (fun i => (X i ∨ i = bb) ∨ i = brb) w6 bb p pm 2100 P 0 (zerM (zerM M1 y) y2) (putC (putC (fun _ => 0) y 1) y2 1) (fun x => decide (x = y)) y2 eN := t5.wide f6 (fun i hi => ⟨by have hi : i = bf := hi; omega, by have hi : i = bf := hi; rw [hi]; exact .inl xf⟩) (fun c => by have c : bb = bf := c; omega) (fun i hi => hi.imp id (fun c => by rw [c]; exact ⟨hbrb, rqb.lt⟩)) (.inl (.inr rfl))
          have a6 := a5.fr f6 (fun c => by have c : b9 = bf := c; omega) (fun c => by have c : b10 = bf := c; omega)
          have b6 : w6.heap[bra]? = w5.heap[bra]? := f6.block bra rq5.lt (fun c => by have c : bra = bf := c; omega)
          have tx6 := tx5.fr f6 (fun c => by have c : ba = bf := c; omega)
          obtain ⟨q0, q1, q2, q3⟩ := a6.cells
          have z9 := (a6.fz 1).1
          have md := a6.mid (by omega) 1 (.pointer (some ⟨bb, 0, none⟩))
          have m0 := md.2.1
          have m1 := md.2.2 1
          have a7 := a6.put1 (by omega) (PTR bb) (PTR brb)
          obtain ⟨w7, hw7⟩ : ∃ w7, w7 = (w6.setCell ⟨b9, 1, none⟩ (.pointer (PTR bb))).setCell ⟨b10, 1, none⟩ (.pointer (PTR brb)) := ⟨_, rfl⟩
          have f7 : Fr (fun j => j = b9 ∨ j = b10) w6 w7 := by rw [hw7]; exact ((Fr.refl _ w6).set _ _ (.inl rfl)).set _ _ (.inr rfl)
          rw [← hw7] at a7
          have l6 := t6.tx.lt
          have t7 := t6.wide (X' := fun i => (X i ∨ i = bb) ∨ i = brb) f7 (fun i hi => hi.elim (fun hi => ⟨by omega, by rw [hi]; exact .inl (.inl x9)⟩) (fun hi => ⟨by omega, by rw [hi]; exact .inl (.inl x10)⟩)) (fun c => by rcases c with c | c <;> omega) (fun i hi => .inl hi) (.inl (.inr rfl))
          have tx7 := tx6.fr f7 (fun c => by rcases c with c | c <;> omega)
          have rqb7 := rqb.fr f7 (fun c => by rcases c with c | c <;> omega) (fun c => by rcases c with c | c <;> omega) (fun b hb => by cases hb)
          have lw := f6.size
          have rqa7 : RQ w7 bra bf (.slice none 0 0) [] ((P : Int) - 1 - 1) false := ⟨((f7.block bra (Nat.lt_of_lt_of_le rq5.lt lw) (fun c => by rcases c with c | c <;> omega)).trans b6).trans rq5.b, rqb7.f, OL.nil _ _, (fun b hb => by cases hb), nf1, (fun v hv => by cases hv)⟩
          have H7 : Hid (ST2 w p pm P bf b9 b10 w7) := by
            obtain ⟨Za, tga, dj⟩ := new_twoP t1.tg hy2
            have s5 : w5.heap.size ≤ brb := hbrb
            have bwa := t1.bw
            have bwb := t5.bw
            refine ⟨ba, bra, bb, brb, true, ⟨_, _, _, Za, _, .slice none 0 0, .slice none 0 0, (P : Int) - 1 - 1, t7.fw, by omega, ⟨fun j hj => ?_, fun j hj => ?_, .inl ⟨y, eN, [], tx7, tga, NE.made y, rqa7, RL.none, by simp⟩⟩, fun _ => ⟨fun j hj => ?_, fun j hj => ?_, .inl ⟨y2, eN, [], t7.tx, t7.tg, NE.made y2, rqb7, RL.none, by simp⟩⟩, dj, fun _ j hj => ?_, fun j hj => ?_, fun _ j hj => ?_⟩, a7⟩
            · rcases hj with hj | hj | hj | hj
              · rw [hj]; exact ⟨bwa, .inl (.inl t1.xb)⟩
              · rw [hj]; exact ⟨by omega, .inl (.inl xr)⟩
              · rw [hj]; exact ⟨by omega, .inl (.inl xf)⟩
              · cases hj
            · rcases hj with hj | hj | hj
              · omega
              · omega
              · cases hj
            · rcases hj with hj | hj | hj | hj
              · rw [hj]; exact ⟨bwb, .inl (.inr rfl)⟩
              · rw [hj]; exact ⟨by omega, .inr rfl⟩
              · rw [hj]; exact ⟨by omega, .inl (.inl xf)⟩
              · cases hj
            · rcases hj with hj | hj | hj
              · omega
              · omega
              · cases hj
            · rcases hj with hj | hj | hj
              · exact ⟨by omega, by omega, by omega, fun c => by cases c⟩
              · exact ⟨by omega, by omega, by omega, fun c => by cases c⟩
              · cases hj
            · rcases hj with hj | hj
              · exact ⟨by rw [hj]; exact .inl (.inl x9), rfl, by omega, by omega, by omega, fun c => by cases c⟩
              · exact ⟨by rw [hj]; exact .inl (.inl x10), rfl, by omega, by omega, by omega, fun c => by cases c⟩
            · rcases hj with hj | hj
              · exact ⟨by omega, by omega, fun c => by cases c⟩
              · exact ⟨by omega, by omega, fun c => by cases c⟩
          rw [hw7] at H7
          unfold PTR at H7
          clear md k3 rqb hbrb f6 H5 t1 rq1 ar1 xf x9 x10 xr o1 o2 o3 hc hc2 hy2 hP2 t5 rq5 a5 tx5 g1 l5 lr lf la l9 l10 sb nf1 t6 a6 b6 tx6 a7 hw7 f7 l6 t7 tx7 rqb7 lw rqa7 H1
          go_wp2_with fail
          go_roundg (3 - 2)
          case measure => omega
          case rel => exact ⟨2, rfl, by omega, by omega, (show STi w p pm P bf b9 b10 2 _ from H7.out)⟩
        · have eP : P = 1 := by have := HP.out.1; omega
          have k2 := tnew_no t1.fw (tk_gone (fT_dom P _) (by omega))
          have H1 : Hid (TS w X wr ba p pm 2100 P 0 (zerM M1 y) (putC (fun _ => 0) y 1) (fun _ => false) y eN ∧ RQ wr bra bf (.slice none 0 0) [] ((P : Int) - 1) false ∧ ARR wr b9 b10 (PTR ba) none (PTR bra) none ∧ (X bf ∧ X b9 ∧ X b10 ∧ X bra) ∧ (b10 < ba ∧ b10 < bra ∧ ba ≠ bra) ∧ cnt (fT P (putC (fun _ => 0) y 1)) P + 1 = P ∧ P = 1) := ⟨t1, rq, ar, ⟨xf, x9, x10, xr⟩, ⟨o1, o2, o3⟩, hc, eP⟩
          clear t1 rq ar xf x9 x10 xr o1 o2 o3 hc hP2 eP
          go_wp2_with fail
          with_reducible refine k2.mono ?_
          rintro e w5 ⟨rfl, fw5, r5⟩
          have rq5 := H1.out.2.1.fr r5 (fun c => c.2 H1.out.2.2.2.1.2.2.2) (fun c => c.2 H1.out.2.2.2.1.1) (fun b hb => by cases hb)
          have a5 := H1.out.2.2.1.fr r5 (fun c => c.2 H1.out.2.2.2.1.2.1) (fun c => c.2 H1.out.2.2.2.1.2.2.1)
          have k3 := rnew_no rq5.f (by have := H1.out.2.2.2.2.2.2; omega)
          have t5 : TS w X w5 ba p pm 2100 P 0 (zerM M1 y) (putC (fun _ => 0) y 1) (fun _ => false) y eN := ⟨fw5, H1.out.1.tx.fr r5 (fun c => c.2 H1.out.1.xb), H1.out.1.xb, H1.out.1.bw, H1.out.1.tg⟩
          have H5 : Hid (TS w X w5 ba p pm 2100 P 0 (zerM M1 y) (putC (fun _ => 0) y 1) (fun _ => false) y eN ∧ RQ w5 bra bf (.slice none 0 0) [] ((P : Int) - 1) false ∧ ARR w5 b9 b10 (PTR ba) none (PTR bra) none) := ⟨t5, rq5, a5⟩
          clear k2 t5 fw5 r5 rq5 a5
          go_wp2_with fail
          with_reducible refine k3.mono ?_
          rintro e w6 ⟨rfl, rfl⟩
          obtain ⟨t1, rq1, ar1, ⟨xf, x9, x10, xr⟩, ⟨o1, o2, o3⟩, hc, eP⟩ := H1.out
          obtain ⟨t5, rq5, a6⟩ := H5.out
          have sb := HB.out
          have nf1 := rq1.ne
          have lf := rq5.ltf
          have la := t5.tx.lt
          have l9 := (Array.getElem?_eq_some_iff.1 a6.1).1
          have l10 := (Array.getElem?_eq_some_iff.1 a6.2).1
          obtain ⟨q0, q1, q2, q3⟩ := a6.cells
          have z9 := (a6.fz 1).1
          have md := a6.mid (by omega) 1 (.pointer none)
          have m0 := md.2.1
          have m1 := md.2.2 1
          have a7 := a6.put1 (by omega) none none
          obtain ⟨w7, hw7⟩ : ∃ w7, w7 = (w6.setCell ⟨b9, 1, none⟩ (.pointer none)).setCell ⟨b10, 1, none⟩ (.pointer none) := ⟨_, rfl⟩
          have f7 : Fr (fun j => j = b9 ∨ j = b10) w6 w7 := by rw [hw7]; exact ((Fr.refl _ w6).set _ _ (.inl rfl)).set _ _ (.inr rfl)
          rw [← hw7] at a7
          have t7 := t5.wide (X' := X) f7 (fun i hi => hi.elim (fun hi => ⟨by omega, by rw [hi]; exact x9⟩) (fun hi => ⟨by omega, by rw [hi]; exact x10⟩)) (fun c => by rcases c with c | c <;> omega) (fun i hi => .inl hi) t5.xb
          have rq7 := rq5.fr f7 (fun c => by rcases c with c | c <;> omega) (fun c => by rcases c with c | c <;> omega) (fun b hb => by cases hb)
          have H7 : Hid (ST2 w p pm P bf b9 b10 w7) := by
            have bwa := t5.bw
            refine ⟨ba, bra, 0, 0, false, ⟨X, _, _, fun _ => false, fun x => decide (putC (fun _ => 0) y 1 x ≠ 0), .slice none 0 0, .slice none 0 0, (P : Int) - 1, t7.fw, by omega, ⟨fun j hj => ?_, fun j hj => ?_, .inl ⟨y, eN, [], t7.tx, t7.tg, NE.made y, rq7, RL.none, by simp⟩⟩, (fun c => by cases c), (fun x hx => by rw [decide_eq_true hx]; rfl), (fun c => by cases c), fun j hj => ?_, (fun c => by cases c)⟩, a7⟩
            · rcases hj with hj | hj | hj | hj
              · rw [hj]; exact ⟨bwa, t5.xb⟩
              · rw [hj]; exact ⟨by omega, xr⟩
              · rw [hj]; exact ⟨by omega, xf⟩
              · cases hj
            · rcases hj with hj | hj | hj
              · omega
              · omega
              · cases hj
            · rcases hj with hj | hj
              · exact ⟨by rw [hj]; exact x9, rfl, by omega, by omega, by omega, fun c => by cases c⟩
              · exact ⟨by rw [hj]; exact x10, rfl, by omega, by omega, by omega, fun c => by cases c⟩
          rw [hw7] at H7
          clear md k3 H5 t1 rq1 ar1 xf x9 x10 xr o1 o2 o3 hc eP t5 rq5 lf la l9 l10 sb nf1 a6 a7 hw7 f7 t7 rq7 H1
          go_wp2_with fail
          go_roundg (3 - 2)
          case measure => omega
          case rel => exact ⟨2, rfl, by omega, by omega, (show STi w p pm P bf b9 b10 2 _ from H7.out)⟩
      · have H2 : Hid (ST2 w p pm P bf b9 b10 wr) := (show ST2 w p pm P bf b9 b10 wr from HI.out)
        rw [show ((2 : Nat) : Int) = 2 from rfl]
        clear HI
        go_wp2_with fail
        go_meet
        case rel => exact H2
  case rest =>
    obtain ⟨ba, bra, bb, brb, pr, h0, a0'⟩ := (hcut : ST2 w p pm P bf b9 b10 wc)
    obtain ⟨w0, hw0⟩ : ∃ w0, w0 = wc := ⟨_, rfl⟩
    have HI0 : Hid (TPS w w0 (fun j => j = b9 ∨ j = b10) p pm P ba bra bb brb bf pr 0 wc) := by rw [hw0]; exact h0
    have HA : Hid (ARR w0 b9 b10 (PTR ba) (if pr then PTR bb else none) (PTR bra) (if pr then PTR brb else none)) := by rw [hw0]; exact a0'
    have AT : Hid (∀ i u, TPS w w0 (fun j => j = b9 ∨ j = b10) p pm P ba bra bb brb bf pr i u → ARR u b9 b10 (PTR ba) (if pr then PTR bb else none) (PTR bra) (if pr then PTR brb else none)) := fun i u h => ⟨(h.y (.inl rfl)).trans HA.out.1, (h.y (.inr rfl)).trans HA.out.2⟩
    clear I0 h0 a0' HA hw0
    go_upto_block 2 with fail
    go_cut [] (fun wx => Hid (TPS w w0 (fun j => j = b9 ∨ j = b10) p pm P ba bra bb brb bf pr 40 wx))
    case first =>
      go_wp2_with fail
      go_loopg [16] 41 (fun gk v16 wr => ∃ (i : Nat), v16 = .int .i64 (i : Int) ∧ i ≤ 40 ∧ 41 - i ≤ gk ∧ Hid (TPS w w0 (fun j => j = b9 ∨ j = b10) p pm P ba bra bb brb bf pr i wr))
      case atStart => exact ⟨0, rfl, by omega, by omega, HI0⟩
      case round =>
        clear HI0
        obtain ⟨i, rfl, hi, hgk, HI⟩ := hrel
        by_cases hlt : i < mc ∧ i < 40
        · have z1 : (i : Int) < mc := by omega
          have z2 : (i : Int) < 40 := by omega
          obtain ⟨⟨cb, co, rfl, d1, d2⟩, wo⟩ := HT.out.1 i hlt.1
          obtain ⟨o, ho⟩ : ∃ o, o = V i := ⟨_, rfl⟩
          rw [← ho] at d2 wo
          have o1 := (HI.out.k.cell (p := ⟨cb, co + i * 8 + 1, none⟩) d1).trans (d2 1 _ rfl)
          obtain ⟨z, hz, lz⟩ := and_lim (o.fm / 16) 1 (by decide)
          rw [show ((1 : Nat) : Int) = 1 from rfl] at hz
          clear ho
          rcases (by omega : z = 0 ∨ z = 1) with rfl | rfl
          · rw [show ((0 : Nat) : Int) = 0 from rfl] at hz
            cases pr
            · obtain ⟨q0, q1, q2, q3⟩ := (AT.out _ _ HI.out).cells
              have q0 : wr.cell? ⟨b9, 0, none⟩ = some (.pointer (some ⟨ba, 0, none⟩)) := q0
              have q2 : wr.cell? ⟨b10, 0, none⟩ = some (.pointer (some ⟨bra, 0, none⟩)) := q2
              have q1 : wr.cell? ⟨b9, 1, none⟩ = some (.pointer none) := q1
              have q3 : wr.cell? ⟨b10, 1, none⟩ = some (.pointer none) := q3
              have HC : Hid (∀ j u, TPS w w0 (fun j => j = b9 ∨ j = b10) p pm P ba bra bb brb bf false j u → u.cell? ⟨b9, 0, none⟩ = some (.pointer (some ⟨ba, 0, none⟩)) ∧ u.cell? ⟨b10, 0, none⟩ = some (.pointer (some ⟨bra, 0, none⟩)) ∧ u.cell? ⟨cb, co + i * 8, none⟩ = some (.int .i64 o.kd) ∧ u.cell? ⟨cb, co + i * 8 + 1, none⟩ = some (.int .i64 o.fm) ∧ u.cell? ⟨cb, co + i * 8 + 2, none⟩ = some (.int .i64 o.sf) ∧ u.cell? ⟨cb, co + i * 8 + 3, none⟩ = some (.int .u64 (o.pg : Int)) ∧ u.cell? ⟨cb, co + i * 8 + 4, none⟩ = some (.bool o.r) ∧ u.cell? ⟨cb, co + i * 8 + 5, none⟩ = some (.bool o.q) ∧ u.cell? ⟨cb, co + i * 8 + 6, none⟩ = some (.bool o.x) ∧ u.cell? ⟨cb, co + i * 8 + 7, none⟩ = some (.bool o.raw)) := fun j u h => ⟨(AT.out j u h).cells.1, (AT.out j u h).cells.2.2.1, (h.k.cell (p := ⟨cb, co + i * 8 + 0, none⟩) d1).trans (d2 0 _ rfl), (h.k.cell (p := ⟨cb, co + i * 8 + 1, none⟩) d1).trans (d2 1 _ rfl), (h.k.cell (p := ⟨cb, co + i * 8 + 2, none⟩) d1).trans (d2 2 _ rfl), (h.k.cell (p := ⟨cb, co + i * 8 + 3, none⟩) d1).trans (d2 3 _ rfl), (h.k.cell (p := ⟨cb, co + i * 8 + 4, none⟩) d1).trans (d2 4 _ rfl), (h.k.cell (p := ⟨cb, co + i * 8 + 5, none⟩) d1).trans (d2 5 _ rfl), (h.k.cell (p := ⟨cb, co + i * 8 + 6, none⟩) d1).trans (d2 6 _ rfl), (h.k.cell (p := ⟨cb, co + i * 8 + 7, none⟩) d1).trans (d2 7 _ rfl)⟩
              have LD : TPS w w0 (fun j => j = b9 ∨ j = b10) p pm P ba bra bb brb bf false i wr.drew := HI.out.kp (Kp.refl wr).drew
              have cS := LD.step (by omega) (by have := HP.out.2; omega) o wo
              clear HI d2 wo
              go_wp2_with fail
              go_region_held3 (fun v => v.cell? ⟨b9, 0, none⟩ = some (.pointer (some ⟨ba, 0, none⟩)) ∧ v.cell? ⟨b10, 0, none⟩ = some (.pointer (some ⟨bra, 0, none⟩)) ∧ v.cell? ⟨cb, co + i * 8, none⟩ = some (.int .i64 o.kd) ∧ v.cell? ⟨cb, co + i * 8 + 1, none⟩ = some (.int .i64 o.fm) ∧ v.cell? ⟨cb, co + i * 8 + 2, none⟩ = some (.int .i64 o.sf) ∧ v.cell? ⟨cb, co + i * 8 + 3, none⟩ = some (.int .u64 (o.pg : Int)) ∧ v.cell? ⟨cb, co + i * 8 + 4, none⟩ = some (.bool o.r) ∧ v.cell? ⟨cb, co + i * 8 + 5, none⟩ = some (.bool o.q) ∧ v.cell? ⟨cb, co + i * 8 + 6, none⟩ = some (.bool o.x) ∧ v.cell? ⟨cb, co + i * 8 + 7, none⟩ = some (.bool o.raw))
                (first | exact HC.out _ _ T6 | exact HC.out _ _ LD)
                (first | (go_at_call 9; with_reducible refine cS.mono ?_; rintro e w6 ⟨rfl, T6'⟩; have T6 : TPS w w0 (fun j => j = b9 ∨ j = b10) p pm P ba bra bb brb bf false (i + 1) w6 := T6'))
              obtain ⟨f1, f2, hf, cF⟩ := T6.free
              have H6 : Hid (TPS w w0 (fun j => j = b9 ∨ j = b10) p pm P ba bra bb brb bf false (i + 1) w6 ∧ w6.heap[bf]? = some (.cells #[.int .i64 (f2 : Int)] 3 (0, 0))) := ⟨T6, hf⟩
              clear cS LD T6 T6' hf q0 q1 q2 q3 o1 HC
              go_wp2_with fail
              with_reducible refine cF.mono ?_
              rintro e w7 ⟨rfl, k7⟩
              have f7 := (k7.block bf (Array.getElem?_eq_some_iff.1 H6.out.2).1).trans H6.out.2
              have cf : w7.cell? ⟨bf, 0, none⟩ = some (.int .i64 (f2 : Int)) := by rw [cell_of_row _ _ 0 _ _ _ f7]; rfl
              have HJ : Hid (TPS w w0 (fun j => j = b9 ∨ j = b10) p pm P ba bra bb brb bf false (i + 1) w7) := H6.out.1.kp k7
              have e0 : ((f2 : Int) != (f2 : Int)) = false := bne_self_eq_false _
              clear cF k7 f7 H6
              go_wp2_with fail
              go_roundg (41 - (i + 1))
              case measure => omega
              case rel => exact ⟨i + 1, by go_num, by omega, by omega, HJ⟩
            · obtain ⟨q0, q1, q2, q3⟩ := (AT.out _ _ HI.out).cells
              have q0 : wr.cell? ⟨b9, 0, none⟩ = some (.pointer (some ⟨ba, 0, none⟩)) := q0
              have q2 : wr.cell? ⟨b10, 0, none⟩ = some (.pointer (some ⟨bra, 0, none⟩)) := q2
              have q1 : wr.cell? ⟨b9, 1, none⟩ = some (.pointer (some ⟨bb, 0, none⟩)) := q1
              have q3 : wr.cell? ⟨b10, 1, none⟩ = some (.pointer (some ⟨brb, 0, none⟩)) := q3
              have HC : Hid (∀ j u, TPS w w0 (fun j => j = b9 ∨ j = b10) p pm P ba bra bb brb bf true j u → u.cell? ⟨b9, 0, none⟩ = some (.pointer (some ⟨ba, 0, none⟩)) ∧ u.cell? ⟨b10, 0, none⟩ = some (.pointer (some ⟨bra, 0, none⟩)) ∧ u.cell? ⟨cb, co + i * 8, none⟩ = some (.int .i64 o.kd) ∧ u.cell? ⟨cb, co + i * 8 + 1, none⟩ = some (.int .i64 o.fm) ∧ u.cell? ⟨cb, co + i * 8 + 2, none⟩ = some (.int .i64 o.sf) ∧ u.cell? ⟨cb, co + i * 8 + 3, none⟩ = some (.int .u64 (o.pg : Int)) ∧ u.cell? ⟨cb, co + i * 8 + 4, none⟩ = some (.bool o.r) ∧ u.cell? ⟨cb, co + i * 8 + 5, none⟩ = some (.bool o.q) ∧ u.cell? ⟨cb, co + i * 8 + 6, none⟩ = some (.bool o.x) ∧ u.cell? ⟨cb, co + i * 8 + 7, none⟩ = some (.bool o.raw)) := fun j u h => ⟨(AT.out j u h).cells.1, (AT.out j u h).cells.2.2.1, (h.k.cell (p := ⟨cb, co + i * 8 + 0, none⟩) d1).trans (d2 0 _ rfl), (h.k.cell (p := ⟨cb, co + i * 8 + 1, none⟩) d1).trans (d2 1 _ rfl), (h.k.cell (p := ⟨cb, co + i * 8 + 2, none⟩) d1).trans (d2 2 _ rfl), (h.k.cell (p := ⟨cb, co + i * 8 + 3, none⟩) d1).trans (d2 3 _ rfl), (h.k.cell (p := ⟨cb, co + i * 8 + 4, none⟩) d1).trans (d2 4 _ rfl), (h.k.cell (p := ⟨cb, co + i * 8 + 5, none⟩) d1).trans (d2 5 _ rfl), (h.k.cell (p := ⟨cb, co + i * 8 + 6, none⟩) d1).trans (d2 6 _ rfl), (h.k.cell (p := ⟨cb, co + i * 8 + 7, none⟩) d1).trans (d2 7 _ rfl)⟩
              have LD : TPS w w0 (fun j => j = b9 ∨ j = b10) p pm P ba bra bb brb bf true i wr.drew := HI.out.kp (Kp.refl wr).drew
              have cS := LD.step (by omega) (by have := HP.out.2; omega) o wo
              clear HI d2 wo
              go_wp2_with fail
              go_region_held3 (fun v => v.cell? ⟨b9, 0, none⟩ = some (.pointer (some ⟨ba, 0, none⟩)) ∧ v.cell? ⟨b10, 0, none⟩ = some (.pointer (some ⟨bra, 0, none⟩)) ∧ v.cell? ⟨cb, co + i * 8, none⟩ = some (.int .i64 o.kd) ∧ v.cell? ⟨cb, co + i * 8 + 1, none⟩ = some (.int .i64 o.fm) ∧ v.cell? ⟨cb, co + i * 8 + 2, none⟩ = some (.int .i64 o.sf) ∧ v.cell? ⟨cb, co + i * 8 + 3, none⟩ = some (.int .u64 (o.pg : Int)) ∧ v.cell? ⟨cb, co + i * 8 + 4, none⟩ = some (.bool o.r) ∧ v.cell? ⟨cb, co + i * 8 + 5, none⟩ = some (.bool o.q) ∧ v.cell? ⟨cb, co + i * 8 + 6, none⟩ = some (.bool o.x) ∧ v.cell? ⟨cb, co + i * 8 + 7, none⟩ = some (.bool o.raw))
                (first | exact HC.out _ _ T6 | exact HC.out _ _ LD)
                (first | (go_at_call 9; with_reducible refine cS.mono ?_; rintro e w6 ⟨rfl, T6'⟩; have T6 : TPS w w0 (fun j => j = b9 ∨ j = b10) p pm P ba bra bb brb bf true (i + 1) w6 := T6'))
              obtain ⟨f1, f2, hf, cF⟩ := T6.free
              have H6 : Hid (TPS w w0 (fun j => j = b9 ∨ j = b10) p pm P ba bra bb brb bf true (i + 1) w6 ∧ w6.heap[bf]? = some (.cells #[.int .i64 (f2 : Int)] 3 (0, 0))) := ⟨T6, hf⟩
              clear cS LD T6 T6' hf q0 q1 q2 q3 o1 HC
              go_wp2_with fail
              with_reducible refine cF.mono ?_
              rintro e w7 ⟨rfl, k7⟩
              have f7 := (k7.block bf (Array.getElem?_eq_some_iff.1 H6.out.2).1).trans H6.out.2
              have cf : w7.cell? ⟨bf, 0, none⟩ = some (.int .i64 (f2 : Int)) := by rw [cell_of_row _ _ 0 _ _ _ f7]; rfl
              have HJ : Hid (TPS w w0 (fun j => j = b9 ∨ j = b10) p pm P ba bra bb brb bf true (i + 1) w7) := H6.out.1.kp k7
              have e0 : ((f2 : Int) != (f2 : Int)) = false := bne_self_eq_false _
              clear cF k7 f7 H6
              go_wp2_with fail
              go_roundg (41 - (i + 1))
              case measure => omega
              case rel => exact ⟨i + 1, by go_num, by omega, by omega, HJ⟩
          · rw [show ((1 : Nat) : Int) = 1 from rfl] at hz
            cases pr
            · obtain ⟨q0, q1, q2, q3⟩ := (AT.out _ _ HI.out).cells
              have q0 : wr.cell? ⟨b9, 0, none⟩ = some (.pointer (some ⟨ba, 0, none⟩)) := q0
              have q2 : wr.cell? ⟨b10, 0, none⟩ = some (.pointer (some ⟨bra, 0, none⟩)) := q2
              have q1 : wr.cell? ⟨b9, 1, none⟩ = some (.pointer none) := q1
              have q3 : wr.cell? ⟨b10, 1, none⟩ = some (.pointer none) := q3
              have HC : Hid (∀ j u, TPS w w0 (fun j => j = b9 ∨ j = b10) p pm P ba bra bb brb bf false j u → u.cell? ⟨b9, 0, none⟩ = some (.pointer (some ⟨ba, 0, none⟩)) ∧ u.cell? ⟨b10, 0, none⟩ = some (.pointer (some ⟨bra, 0, none⟩)) ∧ u.cell? ⟨cb, co + i * 8, none⟩ = some (.int .i64 o.kd) ∧ u.cell? ⟨cb, co + i * 8 + 1, none⟩ = some (.int .i64 o.fm) ∧ u.cell? ⟨cb, co + i * 8 + 2, none⟩ = some (.int .i64 o.sf) ∧ u.cell? ⟨cb, co + i * 8 + 3, none⟩ = some (.int .u64 (o.pg : Int)) ∧ u.cell? ⟨cb, co + i * 8 + 4, none⟩ = some (.bool o.r) ∧ u.cell? ⟨cb, co + i * 8 + 5, none⟩ = some (.bool o.q) ∧ u.cell? ⟨cb, co + i * 8 + 6, none⟩ = some (.bool o.x) ∧ u.cell? ⟨cb, co + i * 8 + 7, none⟩ = some (.bool o.raw)) := fun j u h => ⟨(AT.out j u h).cells.1, (AT.out j u h).cells.2.2.1, (h.k.cell (p := ⟨cb, co + i * 8 + 0, none⟩) d1).trans (d2 0 _ rfl), (h.k.cell (p := ⟨cb, co + i * 8 + 1, none⟩) d1).trans (d2 1 _ rfl), (h.k.cell (p := ⟨cb, co + i * 8 + 2, none⟩) d1).trans (d2 2 _ rfl), (h.k.cell (p := ⟨cb, co + i * 8 + 3, none⟩) d1).trans (d2 3 _ rfl), (h.k.cell (p := ⟨cb, co + i * 8 + 4, none⟩) d1).trans (d2 4 _ rfl), (h.k.cell (p := ⟨cb, co + i * 8 + 5, none⟩) d1).trans (d2 5 _ rfl), (h.k.cell (p := ⟨cb, co + i * 8 + 6, none⟩) d1).trans (d2 6 _ rfl), (h.k.cell (p := ⟨cb, co + i * 8 + 7, none⟩) d1).trans (d2 7 _ rfl)⟩
              have LD : TPS w w0 (fun j => j = b9 ∨ j = b10) p pm P ba bra bb brb bf false i wr.drew := HI.out.kp (Kp.refl wr).drew
              have cS := LD.step (by omega) (by have := HP.out.2; omega) o wo
              clear HI d2 wo
              go_wp2_with fail
              go_region_held3 (fun v => v.cell? ⟨b9, 0, none⟩ = some (.pointer (some ⟨ba, 0, none⟩)) ∧ v.cell? ⟨b10, 0, none⟩ = some (.pointer (some ⟨bra, 0, none⟩)) ∧ v.cell? ⟨cb, co + i * 8, none⟩ = some (.int .i64 o.kd) ∧ v.cell? ⟨cb, co + i * 8 + 1, none⟩ = some (.int .i64 o.fm) ∧ v.cell? ⟨cb, co + i * 8 + 2, none⟩ = some (.int .i64 o.sf) ∧ v.cell? ⟨cb, co + i * 8 + 3, none⟩ = some (.int .u64 (o.pg : Int)) ∧ v.cell? ⟨cb, co + i * 8 + 4, none⟩ = some (.bool o.r) ∧ v.cell? ⟨cb, co + i * 8 + 5, none⟩ = some (.bool o.q) ∧ v.cell? ⟨cb, co + i * 8 + 6, none⟩ = some (.bool o.x) ∧ v.cell? ⟨cb, co + i * 8 + 7, none⟩ = some (.bool o.raw))
                (first | exact HC.out _ _ T6 | exact HC.out _ _ LD)
                (first | (go_at_call 9; with_reducible refine cS.mono ?_; rintro e w6 ⟨rfl, T6'⟩; have T6 : TPS w w0 (fun j => j = b9 ∨ j = b10) p pm P ba bra bb brb bf false (i + 1) w6 := T6'))
              obtain ⟨f1, f2, hf, cF⟩ := T6.free
              have H6 : Hid (TPS w w0 (fun j => j = b9 ∨ j = b10) p pm P ba bra bb brb bf false (i + 1) w6 ∧ w6.heap[bf]? = some (.cells #[.int .i64 (f2 : Int)] 3 (0, 0))) := ⟨T6, hf⟩
              clear cS LD T6 T6' hf q0 q1 q2 q3 o1 HC
              go_wp2_with fail
              with_reducible refine cF.mono ?_
              rintro e w7 ⟨rfl, k7⟩
              have f7 := (k7.block bf (Array.getElem?_eq_some_iff.1 H6.out.2).1).trans H6.out.2
              have cf : w7.cell? ⟨bf, 0, none⟩ = some (.int .i64 (f2 : Int)) := by rw [cell_of_row _ _ 0 _ _ _ f7]; rfl
              have HJ : Hid (TPS w w0 (fun j => j = b9 ∨ j = b10) p pm P ba bra bb brb bf false (i + 1) w7) := H6.out.1.kp k7
              have e0 : ((f2 : Int) != (f2 : Int)) = false := bne_self_eq_false _
              clear cF k7 f7 H6
              go_wp2_with fail
              go_roundg (41 - (i + 1))
              case measure => omega
              case rel => exact ⟨i + 1, by go_num, by omega, by omega, HJ⟩
            · obtain ⟨q0, q1, q2, q3⟩ := (AT.out _ _ HI.out).cells
              have q0 : wr.cell? ⟨b9, 0, none⟩ = some (.pointer (some ⟨ba, 0, none⟩)) := q0
              have q2 : wr.cell? ⟨b10, 0, none⟩ = some (.pointer (some ⟨bra, 0, none⟩)) := q2
              have q1 : wr.cell? ⟨b9, 1, none⟩ = some (.pointer (some ⟨bb, 0, none⟩)) := q1
              have q3 : wr.cell? ⟨b10, 1, none⟩ = some (.pointer (some ⟨brb, 0, none⟩)) := q3
              have HC : Hid (∀ j u, TPS w w0 (fun j => j = b9 ∨ j = b10) p pm P ba bra bb brb bf true j u → u.cell? ⟨b9, 1, none⟩ = some (.pointer (some ⟨bb, 0, none⟩)) ∧ u.cell? ⟨b10, 1, none⟩ = some (.pointer (some ⟨brb, 0, none⟩)) ∧ u.cell? ⟨cb, co + i * 8, none⟩ = some (.int .i64 o.kd) ∧ u.cell? ⟨cb, co + i * 8 + 1, none⟩ = some (.int .i64 o.fm) ∧ u.cell? ⟨cb, co + i * 8 + 2, none⟩ = some (.int .i64 o.sf) ∧ u.cell? ⟨cb, co + i * 8 + 3, none⟩ = some (.int .u64 (o.pg : Int)) ∧ u.cell? ⟨cb, co + i * 8 + 4, none⟩ = some (.bool o.r) ∧ u.cell? ⟨cb, co + i * 8 + 5, none⟩ = some (.bool o.q) ∧ u.cell? ⟨cb, co + i * 8 + 6, none⟩ = some (.bool o.x) ∧ u.cell? ⟨cb, co + i * 8 + 7, none⟩ = some (.bool o.raw)) := fun j u h => ⟨(AT.out j u h).cells.2.1, (AT.out j u h).cells.2.2.2, (h.k.cell (p := ⟨cb, co + i * 8 + 0, none⟩) d1).trans (d2 0 _ rfl), (h.k.cell (p := ⟨cb, co + i * 8 + 1, none⟩) d1).trans (d2 1 _ rfl), (h.k.cell (p := ⟨cb, co + i * 8 + 2, none⟩) d1).trans (d2 2 _ rfl), (h.k.cell (p := ⟨cb, co + i * 8 + 3, none⟩) d1).trans (d2 3 _ rfl), (h.k.cell (p := ⟨cb, co + i * 8 + 4, none⟩) d1).trans (d2 4 _ rfl), (h.k.cell (p := ⟨cb, co + i * 8 + 5, none⟩) d1).trans (d2 5 _ rfl), (h.k.cell (p := ⟨cb, co + i * 8 + 6, none⟩) d1).trans (d2 6 _ rfl), (h.k.cell (p := ⟨cb, co + i * 8 + 7, none⟩) d1).trans (d2 7 _ rfl)⟩
              have LD : TPS w w0 (fun j => j = b9 ∨ j = b10) p pm P ba bra bb brb bf true i wr.drew := HI.out.kp (Kp.refl wr).drew
              have cS := LD.swap.step (by omega) (by have := HP.out.2; omega) o wo
              clear HI d2 wo
              go_wp2_with fail
              go_region_held3 (fun v => v.cell? ⟨b9, 1, none⟩ = some (.pointer (some ⟨bb, 0, none⟩)) ∧ v.cell? ⟨b10, 1, none⟩ = some (.pointer (some ⟨brb, 0, none⟩)) ∧ v.cell? ⟨cb, co + i * 8, none⟩ = some (.int .i64 o.kd) ∧ v.cell? ⟨cb, co + i * 8 + 1, none⟩ = some (.int .i64 o.fm) ∧ v.cell? ⟨cb, co + i * 8 + 2, none⟩ = some (.int .i64 o.sf) ∧ v.cell? ⟨cb, co + i * 8 + 3, none⟩ = some (.int .u64 (o.pg : Int)) ∧ v.cell? ⟨cb, co + i * 8 + 4, none⟩ = some (.bool o.r) ∧ v.cell? ⟨cb, co + i * 8 + 5, none⟩ = some (.bool o.q) ∧ v.cell? ⟨cb, co + i * 8 + 6, none⟩ = some (.bool o.x) ∧ v.cell? ⟨cb, co + i * 8 + 7, none⟩ = some (.bool o.raw))
                (first | exact HC.out _ _ T6 | exact HC.out _ _ LD)
                (first | (go_at_call 9; with_reducible refine cS.mono ?_; rintro e w6 ⟨rfl, T6'⟩; have T6 : TPS w w0 (fun j => j = b9 ∨ j = b10) p pm P ba bra bb brb bf true (i + 1) w6 := T6'.swap))
              obtain ⟨f1, f2, hf, cF⟩ := T6.free
              have H6 : Hid (TPS w w0 (fun j => j = b9 ∨ j = b10) p pm P ba bra bb brb bf true (i + 1) w6 ∧ w6.heap[bf]? = some (.cells #[.int .i64 (f2 : Int)] 3 (0, 0))) := ⟨T6, hf⟩
              clear cS LD T6 T6' hf q0 q1 q2 q3 o1 HC
              go_wp2_with fail
              with_reducible refine cF.mono ?_
              rintro e w7 ⟨rfl, k7⟩
              have f7 := (k7.block bf (Array.getElem?_eq_some_iff.1 H6.out.2).1).trans H6.out.2
              have cf : w7.cell? ⟨bf, 0, none⟩ = some (.int .i64 (f2 : Int)) := by rw [cell_of_row _ _ 0 _ _ _ f7]; rfl
              have HJ : Hid (TPS w w0 (fun j => j = b9 ∨ j = b10) p pm P ba bra bb brb bf true (i + 1) w7) := H6.out.1.kp k7
              have e0 : ((f2 : Int) != (f2 : Int)) = false := bne_self_eq_false _
              clear cF k7 f7 H6
              go_wp2_with fail
              go_roundg (41 - (i + 1))
              case measure => omega
              case rel => exact ⟨i + 1, by go_num, by omega, by omega, HJ⟩
        · have HJ : Hid (TPS w w0 (fun j => j = b9 ∨ j = b10) p pm P ba bra bb brb bf pr 40 wr) := HI.out.mono hi
          clear HI
          by_cases hm : i < mc
          · have ei : i = 40 := by omega
            subst ei
            have z1 : (40 : Int) < mc := by omega
            rw [show ((40 : Nat) : Int) = 40 from rfl]
            go_wp2_with fail
            go_meet
            case rel => exact HJ
          · have z1 : ¬ (i : Int) < mc := by omega
            go_wp2_with fail
            go_meet
            case rel => exact HJ
    case rest =>
      have HI1 : Hid (TPS w w0 (fun j => j = b9 ∨ j = b10) p pm P ba bra bb brb bf pr 40 wc) := hcut
      clear hcut HI0
      go_wp2_with fail
      go_loopg [20] 3 (fun gk v20 wr => ∃ (i : Nat), v20 = .int .i64 (i : Int) ∧ i ≤ 2 ∧ 3 - i ≤ gk ∧ Hid (TPS w w0 (fun j => j = b9 ∨ j = b10) p pm P ba bra bb brb bf pr 40 wr))
      case atStart => exact ⟨0, rfl, by omega, by omega, HI1⟩
      case round =>
        clear HI1
        obtain ⟨i, rfl, hi, hgk, HI⟩ := hrel
        rcases (by omega : i = 0 ∨ i = 1 ∨ i = 2) with rfl | rfl | rfl
        · cases pr
          · obtain ⟨q0, q1, q2, q3⟩ := (AT.out _ _ HI.out).cells
            have q0 : wr.cell? ⟨b9, 0, none⟩ = some (.pointer (some ⟨ba, 0, none⟩)) := q0
            have q2 : wr.cell? ⟨b10, 0, none⟩ = some (.pointer (some ⟨bra, 0, none⟩)) := q2
            have q1 : wr.cell? ⟨b9, 1, none⟩ = some (.pointer none) := q1
            have q3 : wr.cell? ⟨b10, 1, none⟩ = some (.pointer none) := q3
            have HC : Hid (∀ u, TPS w w0 (fun j => j = b9 ∨ j = b10) p pm P ba bra bb brb bf false 40 u → u.cell? ⟨b9, 0, none⟩ = some (.pointer (some ⟨ba, 0, none⟩)) ∧ u.cell? ⟨b9, 1, none⟩ = some (.pointer none) ∧ u.cell? ⟨b10, 0, none⟩ = some (.pointer (some ⟨bra, 0, none⟩)) ∧ u.cell? ⟨b10, 1, none⟩ = some (.pointer none)) := fun u h => (AT.out 40 u h).cells
            have H0 : Hid (TPS w w0 (fun j => j = b9 ∨ j = b10) p pm P ba bra bb brb bf false 40 wr) := HI.out
            have LD : TPS w w0 (fun j => j = b9 ∨ j = b10) p pm P ba bra bb brb bf false 40 wr.drew := HI.out.kp (Kp.refl wr).drew
            have cS := LD.same (by omega)
            rw [show ((0 : Nat) : Int) = 0 from rfl]
            clear HI H0
            go_wp2_with fail
            go_region_held3 (fun v => v.cell? ⟨b9, 0, none⟩ = some (.pointer (some ⟨ba, 0, none⟩)) ∧ v.cell? ⟨b9, 1, none⟩ = some (.pointer none) ∧ v.cell? ⟨b10, 0, none⟩ = some (.pointer (some ⟨bra, 0, none⟩)) ∧ v.cell? ⟨b10, 1, none⟩ = some (.pointer none))
              (first | exact HC.out _ T6 | exact HC.out _ LD)
              (first | (go_at_call 11; with_reducible refine cS.mono ?_; rintro e w6 ⟨rfl, T6'⟩; have T6 : TPS w w0 (fun j => j = b9 ∨ j = b10) p pm P ba bra bb brb bf false 40 w6 := T6'))
            have HJ : Hid (TPS w w0 (fun j => j = b9 ∨ j = b10) p pm P ba bra bb brb bf false 40 w6) := T6
            clear cS LD T6 T6' q0 q1 q2 q3 HC
            go_wp2_with fail
            go_roundg (3 - 1)
            case measure => omega
            case rel => exact ⟨1, rfl, by omega, by omega, HJ⟩
          · obtain ⟨q0, q1, q2, q3⟩ := (AT.out _ _ HI.out).cells
            have q0 : wr.cell? ⟨b9, 0, none⟩ = some (.pointer (some ⟨ba, 0, none⟩)) := q0
            have q2 : wr.cell? ⟨b10, 0, none⟩ = some (.pointer (some ⟨bra, 0, none⟩)) := q2
            have q1 : wr.cell? ⟨b9, 1, none⟩ = some (.pointer (some ⟨bb, 0, none⟩)) := q1
            have q3 : wr.cell? ⟨b10, 1, none⟩ = some (.pointer (some ⟨brb, 0, none⟩)) := q3
            have HC : Hid (∀ u, TPS w w0 (fun j => j = b9 ∨ j = b10) p pm P ba bra bb brb bf true 40 u → u.cell? ⟨b9, 0, none⟩ = some (.pointer (some ⟨ba, 0, none⟩)) ∧ u.cell? ⟨b9, 1, none⟩ = some (.pointer (some ⟨bb, 0, none⟩)) ∧ u.cell? ⟨b10, 0, none⟩ = some (.pointer (some ⟨bra, 0, none⟩)) ∧ u.cell? ⟨b10, 1, none⟩ = some (.pointer (some ⟨brb, 0, none⟩))) := fun u h => (AT.out 40 u h).cells
            have H0 : Hid (TPS w w0 (fun j => j = b9 ∨ j = b10) p pm P ba bra bb brb bf true 40 wr) := HI.out
            have LD : TPS w w0 (fun j => j = b9 ∨ j = b10) p pm P ba bra bb brb bf true 40 wr.drew := HI.out.kp (Kp.refl wr).drew
            have cS := LD.same (by omega)
            rw [show ((0 : Nat) : Int) = 0 from rfl]
            clear HI H0
            go_wp2_with fail
            go_region_held3 (fun v => v.cell? ⟨b9, 0, none⟩ = some (.pointer (some ⟨ba, 0, none⟩)) ∧ v.cell? ⟨b9, 1, none⟩ = some (.pointer (some ⟨bb, 0, none⟩)) ∧ v.cell? ⟨b10, 0, none⟩ = some (.pointer (some ⟨bra, 0, none⟩)) ∧ v.cell? ⟨b10, 1, none⟩ = some (.pointer (some ⟨brb, 0, none⟩)))
              (first | exact HC.out _ T6 | exact HC.out _ LD)
              (first | (go_at_call 11; with_reducible refine cS.mono ?_; rintro e w6 ⟨rfl, T6'⟩; have T6 : TPS w w0 (fun j => j = b9 ∨ j = b10) p pm P ba bra bb brb bf true 40 w6 := T6'))
            have HJ : Hid (TPS w w0 (fun j => j = b9 ∨ j = b10) p pm P ba bra bb brb bf true 40 w6) := T6
            clear cS LD T6 T6' q0 q1 q2 q3 HC
            go_wp2_with fail
            go_roundg (3 - 1)
            case measure => omega
            case rel => exact ⟨1, rfl, by omega, by omega, HJ⟩
        · cases pr
          · obtain ⟨q0, q1, q2, q3⟩ := (AT.out _ _ HI.out).cells
            have q0 : wr.cell? ⟨b9, 0, none⟩ = some (.pointer (some ⟨ba, 0, none⟩)) := q0
            have q2 : wr.cell? ⟨b10, 0, none⟩ = some (.pointer (some ⟨bra, 0, none⟩)) := q2
            have q1 : wr.cell? ⟨b9, 1, none⟩ = some (.pointer none) := q1
            have q3 : wr.cell? ⟨b10, 1, none⟩ = some (.pointer none) := q3
            have HC : Hid (∀ u, TPS w w0 (fun j => j = b9 ∨ j = b10) p pm P ba bra bb brb bf false 40 u → u.cell? ⟨b9, 0, none⟩ = some (.pointer (some ⟨ba, 0, none⟩)) ∧ u.cell? ⟨b9, 1, none⟩ = some (.pointer none) ∧ u.cell? ⟨b10, 0, none⟩ = some (.pointer (some ⟨bra, 0, none⟩)) ∧ u.cell? ⟨b10, 1, none⟩ = some (.pointer none)) := fun u h => (AT.out 40 u h).cells
            have H0 : Hid (TPS w w0 (fun j => j = b9 ∨ j = b10) p pm P ba bra bb brb bf false 40 wr) := HI.out
            rw [show ((1 : Nat) : Int) = 1 from rfl]
            clear HI
            go_wp2_with fail
            go_quiet (fail)
            have HJ : Hid (∀ v, Kp wr v → TPS w w0 (fun j => j = b9 ∨ j = b10) p pm P ba bra bb brb bf false 40 v) := fun v k => H0.out.kp k
            clear q0 q1 q2 q3 HC
            go_wp2_with fail
            go_roundg (3 - 2)
            case measure => omega
            case rel => exact ⟨2, rfl, by omega, by omega, HJ.out _ ((Kp.refl wr).drewN nq)⟩
          · obtain ⟨q0, q1, q2, q3⟩ := (AT.out _ _ HI.out).cells
            have q0 : wr.cell? ⟨b9, 0, none⟩ = some (.pointer (some ⟨ba, 0, none⟩)) := q0
            have q2 : wr.cell? ⟨b10, 0, none⟩ = some (.pointer (some ⟨bra, 0, none⟩)) := q2
            have q1 : wr.cell? ⟨b9, 1, none⟩ = some (.pointer (some ⟨bb, 0, none⟩)) := q1
            have q3 : wr.cell? ⟨b10, 1, none⟩ = some (.pointer (some ⟨brb, 0, none⟩)) := q3
            have HC : Hid (∀ u, TPS w w0 (fun j => j = b9 ∨ j = b10) p pm P ba bra bb brb bf true 40 u → u.cell? ⟨b9, 0, none⟩ = some (.pointer (some ⟨ba, 0, none⟩)) ∧ u.cell? ⟨b9, 1, none⟩ = some (.pointer (some ⟨bb, 0, none⟩)) ∧ u.cell? ⟨b10, 0, none⟩ = some (.pointer (some ⟨bra, 0, none⟩)) ∧ u.cell? ⟨b10, 1, none⟩ = some (.pointer (some ⟨brb, 0, none⟩))) := fun u h => (AT.out 40 u h).cells
            have H0 : Hid (TPS w w0 (fun j => j = b9 ∨ j = b10) p pm P ba bra bb brb bf true 40 wr) := HI.out
            have LD : TPS w w0 (fun j => j = b9 ∨ j = b10) p pm P ba bra bb brb bf true 40 wr.drew := HI.out.kp (Kp.refl wr).drew
            have cS := LD.swap.same (by omega)
            rw [show ((1 : Nat) : Int) = 1 from rfl]
            clear HI H0
            go_wp2_with fail
            go_region_held3 (fun v => v.cell? ⟨b9, 0, none⟩ = some (.pointer (some ⟨ba, 0, none⟩)) ∧ v.cell? ⟨b9, 1, none⟩ = some (.pointer (some ⟨bb, 0, none⟩)) ∧ v.cell? ⟨b10, 0, none⟩ = some (.pointer (some ⟨bra, 0, none⟩)) ∧ v.cell? ⟨b10, 1, none⟩ = some (.pointer (some ⟨brb, 0, none⟩)))
              (first | exact HC.out _ T6 | exact HC.out _ LD)
              (first | (go_at_call 11; with_reducible refine cS.mono ?_; rintro e w6 ⟨rfl, T6'⟩; have T6 : TPS w w0 (fun j => j = b9 ∨ j = b10) p pm P ba bra bb brb bf true 40 w6 := T6'.swap))
            have HJ : Hid (TPS w w0 (fun j => j = b9 ∨ j = b10) p pm P ba bra bb brb bf true 40 w6) := T6
            clear cS LD T6 T6' q0 q1 q2 q3 HC
            go_wp2_with fail
            go_roundg (3 - 2)
            case measure => omega
            case rel => exact ⟨2, rfl, by omega, by omega, HJ⟩
        · have HK : Hid (Kp w wr) := HI.out.k
          have cT := told_any wr (HT.out.2.kp HK.out)
          rw [show ((2 : Nat) : Int) = 2 from rfl]
          clear HI AT
          go_wp2_with fail
          with_reducible refine cT.mono ?_
          rintro e w8 ⟨rfl, k8⟩
          have HE : Hid (Kp w w8) := HK.out.trans k8
          clear cT k8
          go_wp2_with fail
          go_ret
          exact ⟨rfl, HE.out⟩

end Go.Proofs.YtanlcmdnhhdhaaaGreatDoor
