/- Joined: R28, R29, R30. -/
import Derived.Test.YtcankhnnikhblaaGreatDoorJRE
import Derived.Test.YtcankhnnikhblaaGreatDoorJRF
import Derived.Test.YtcankhnnikhblaaGreatDoorJRD
/- stage2: New, Free; a memory, its frames. -/
namespace Go.Proofs.YtcankhnnikhblaaGreatDoor
open Go.RowKit
set_option maxRecDepth 10000

/-- No entry at all. -/
def eN : Nat → Nat → DV := fun _ _ => dN
theorem tbl_eN {root l j x : Nat} (h : tbl root eN l j = some x) : l = 0 ∧ j = 0 ∧ x = root := by
  cases l with
  | zero =>
    have h' : (if j = 0 then some root else none) = some x := h
    by_cases c : j = 0
    · rw [if_pos c] at h'; cases h'; exact ⟨rfl, c, rfl⟩
    · rw [if_neg c] at h'; cases h'
  | succ n =>
    rw [tbl_succ, if_neg (by show ¬ (0 : Int) = 1; decide)] at h
    cases h
theorem TG.made {M : Nat → Nat → Nat} {C : Nat → Nat} {pool y : Nat} {Z : Nat → Bool} (hy : y < pool) (hC : C y = 0) (hZ : ∀ x, Z x = true ↔ C x ≠ 0) : TG (zerM M y) (putC C y 1) pool Z y eN where
  ok _ _ hl := okD_none hl
  blk _ _ _ h := by cases h
  up _ _ _ h := absurd rfl h
  two _ h := absurd rfl h
  one l j l' j' x _ _ h h' := by
    obtain ⟨rfl, rfl, _⟩ := tbl_eN h
    obtain ⟨rfl, rfl, _⟩ := tbl_eN h'
    exact ⟨rfl, rfl⟩
  wd l j x i _ h hi := by
    obtain ⟨_, _, rfl⟩ := tbl_eN h
    unfold zerM
    rw [if_pos rfl]; rfl
  mine l j x _ h := by
    obtain ⟨_, _, rfl⟩ := tbl_eN h
    refine ⟨hy, by unfold putC; rw [if_pos rfl], ?_⟩
    cases e : Z x
    · rfl
    · exact absurd hC ((hZ x).1 e)
  all x hx hc hz := by
    by_cases c : x = y
    · exact ⟨0, 0, by omega, by rw [c]; rfl⟩
    · unfold putC at hc
      rw [if_neg c] at hc
      rw [(hZ x).2 hc] at hz
      cases hz
  oth x hx := by
    unfold putC
    split
    · decide
    · exact (hZ x).1 hx
theorem NE.made (root : Nat) : NE root eN (fun _ _ => False) := fun l j x h1 _ _ h => by
  have := (tbl_eN h).1
  omega
theorem tnew_nil (w : World) : Calls Tryz.prog 10 #[.pointer none] w fun e w' => e = .returned (.tuple #[.pointer none, .int .i64 1]) ∧ w' = w := by
  go_enter Tryz.func10, Tryz.ntmps10
  go_wp2
  go_ret2
  exact ⟨rfl, rfl⟩
section
variable {W w w' : World} {X Y : Nat → Prop} {bt p pm N pool o : Nat} {M : Nat → Nat → Nat} {C : Nat → Nat} {Z : Nat → Bool} {root : Nat} {E : Nat → Nat → DV}
set_option maxHeartbeats 4000000 in
theorem tnew_ok (h : FW W X w p pm N pool o M C) (y : Nat) (hy : TkR (fT pool C) 0 (some y)) (hZ : ∀ x, Z x = true ↔ C x ≠ 0) :
    Calls Tryz.prog 10 #[.pointer (some ⟨p, 0, none⟩)] w fun e w' => (∃ bt, e = .returned (.tuple #[.pointer (some ⟨bt, 0, none⟩), .int .i64 0]) ∧ TS W (fun i => X i ∨ i = bt) w' bt p pm N pool o (zerM M y) (putC C y 1) Z y eN ∧ w.heap.size ≤ bt) ∧ Fr (Out W X) w w' := by
  have k1 := wtable_some h y hy
  have fy := hy.free
  have hn := h.nums
  have k2 := fun v => addrOf_any y v (by omega)
  have q0 := eql_frames p
  have HH : Hid (TG (zerM M y) (putC C y 1) pool Z y eN ∧ W.heap.size ≤ w.heap.size) := ⟨TG.made fy.1 fy.2 hZ, h.kp.size⟩
  clear h hy fy hn hZ
  obtain ⟨ya, hya⟩ : ∃ ya, ya = y * 4096 := ⟨_, rfl⟩
  rw [← hya] at k2
  have HY : Hid (ya = y * 4096) := hya
  clear hya
  go_enter Tryz.func10, Tryz.ntmps10
  go_wp2_with fail
  with_reducible refine k1.mono ?_
  rintro e w1 ⟨rfl, f1, r1⟩
  have H1 : Hid (FW W X w1 p pm N pool o (zerM M y) (putC C y 1) ∧ Fr (Out W X) w w1) := ⟨f1, r1⟩
  clear k1 f1 r1
  go_wp2_with (go_at_call 37; with_reducible refine (k2 _).mono ?_; rintro _ w' ⟨rfl, rfl⟩)
  go_ret2
  obtain ⟨f1, r1⟩ := H1.out
  have ka : Kp w' (w'.alloc (.cells #[.pointer (some ⟨p, 0, none⟩), .int .u64 (ya : Int)] 93)) := (Kp.refl w').alloc _
  refine ⟨⟨w'.heap.size, rfl, ⟨f1.more ka w'.heap.size (Nat.le_refl _) (by simp), ?_, .inr rfl, ?_, HH.out.1⟩, r1.size⟩, r1.trans (ka.fr _)⟩
  · show (w'.alloc _).heap[w'.heap.size]? = _
    rw [← HY.out]
    exact heap_alloc_new w' _
  · have := HH.out.2
    have := r1.size
    omega
set_option maxHeartbeats 4000000 in
theorem tnew_no (h : FW W X w p pm N pool o M C) (hy : TkR (fT pool C) 0 none) :
    Calls Tryz.prog 10 #[.pointer (some ⟨p, 0, none⟩)] w fun e w' => e = .returned (.tuple #[.pointer none, .int .i64 11]) ∧ FW W X w' p pm N pool o M C ∧ Fr (Out W X) w w' := by
  have k1 := wtable_none h hy
  have q0 := eql_frames p
  clear h hy
  go_enter Tryz.func10, Tryz.ntmps10
  go_wp2_with fail
  with_reducible refine k1.mono ?_
  rintro e w1 ⟨rfl, f1, r1⟩
  have H1 : Hid (FW W X w1 p pm N pool o M C ∧ Fr (Out W X) w w1) := ⟨f1, r1⟩
  clear k1 f1 r1
  go_wp2
  go_ret2
  exact ⟨rfl, H1.out⟩
end
set_option maxHeartbeats 4000000 in
theorem begun_any (pool : Nat) (w : World) (T : TAB w) (h1 : 1 ≤ pool) (h2 : pool ≤ 64) :
    Calls Tryz.prog 9 #[.int .i64 (pool : Int)] w fun e w' => ∃ pm p M, e = .returned (.tuple #[.pointer (some ⟨pm, 0, none⟩), .pointer (some ⟨p, 0, none⟩), .bool true]) ∧ FW w (fun _ => False) w' p pm 2100 pool 0 M (fun _ => 0) := by
  have k1 := new_ok 2100 w (by omega) (by omega)
  rw [show ((2100 : Nat) : Int) = 2100 from rfl] at k1
  have HT : Hid (TAB w ∧ 1 ≤ pool ∧ pool ≤ 64) := ⟨T, h1, h2⟩
  have q1 : ∀ pm (w : World), (binOp .eql 23 (.pointer (some ⟨pm, 0, none⟩)) (.pointer none)).run Tryz.prog w = .ok (.bool false) w := fun pm w => by kernel_rfl
  have q2 : ∀ p (w : World), (binOp .neq 24 (.pointer (some ⟨p, 0, none⟩)) (.pointer none)).run Tryz.prog w = .ok (.bool true) w := fun p w => by kernel_rfl
  clear T h1 h2
  go_enter Tryz.func9, Tryz.ntmps9
  go_wp2_with fail
  with_reducible refine k1.mono ?_
  rintro e w1 ⟨pm, M, rfl, m, kk, mn⟩
  have k3 := knew_ok m kk HT.out.1 mn pool HT.out.2.1 (by have := HT.out.2.2; omega) (by have := HT.out.2.2; omega)
  clear m kk mn k1
  go_wp2_with fail
  with_reducible refine k3.mono ?_
  rintro e w2 ⟨⟨p, rfl, f2⟩, _⟩
  have F2 : Hid (FK w (fun _ => False) w2 p pm 2100 pool 0 (fun _ => z0) (fun _ => 0)) := f2
  clear f2 k3
  go_wp2
  refine bodyPost_ret (by simp [results, Tryz.results9, go_sem]; rfl) rfl ?_
  exact ⟨pm, p, wM (fun _ => z0), rfl, ⟨0, fun _ => z0, Nat.le_refl _, rfl, F2.out⟩⟩
end Go.Proofs.YtcankhnnikhblaaGreatDoor

/- stage2: Free. -/
namespace Go.Proofs.YtcankhnnikhblaaGreatDoor
open Go.RowKit
set_option maxRecDepth 10000

theorem row_two {w : World} {b : Nat} {t : TypeId} {a0 a1 : Value} (c0 c1 : Value) (h : w.heap[b]? = some (.cells #[a0, a1] t (0, 0))) : ((w.setCell ⟨b, 0, none⟩ c0).setCell ⟨b, 1, none⟩ c1).heap[b]? = some (.cells #[c0, c1] t (0, 0)) := by
  have h0 : (w.setCell ⟨b, 0, none⟩ c0).heap[b]? = some (.cells #[c0, a1] t (0, 0)) := heap_setCell_same _ b 0 _ _ c0 h
  exact heap_setCell_same _ b 1 _ _ c1 h0
/-- The counts without the tables' own frames. -/
def offC (C : Nat → Nat) (L : List Nat) : Nat → Nat := fun x => if x * 4096 ∈ L then 0 else C x
section
variable {W w w' : World} {X Y : Nat → Prop} {bt p pm N pool o : Nat} {M : Nat → Nat → Nat} {C : Nat → Nat} {Z : Nat → Bool} {root : Nat} {E : Nat → Nat → DV}
set_option maxHeartbeats 8000000 in
theorem tfree_any (h : TS W X w bt p pm N pool o M C Z root E) :
    Calls Tryz.prog 33 #[.pointer (some ⟨bt, 0, none⟩)] w fun e w' => e = .returned (.int .i64 0) ∧ (∃ M', FW W X w' p pm N pool o M' (offC C (tabsA root E)) ∧ Ot Z M C M' (offC C (tabsA root E))) ∧ TXn w' bt ∧ Fr (fun k => Out W X k ∨ k = bt) w w' := by
  have k1 := tables_any h
  have c0 := h.tx.c0
  have q0 := eql_frames p
  have HH : Hid (TS W X w bt p pm N pool o M C Z root E ∧ (tabsA root E).Pairwise (· ≠ ·) ∧ ∀ a ∈ tabsA root E, ∃ x, a = x * 4096 ∧ x < pool ∧ C x = 1 ∧ Z x = false) := ⟨h, h.tg.tabs_apart, fun a ha => by
    obtain ⟨l, j, x, hl, e, rfl⟩ := (h.tg.tabs_mem a).1 ha
    exact ⟨x, rfl, h.tg.mine l j x hl e⟩⟩
  clear h
  generalize tabsA root E = L at *
  go_enter Tryz.func33, Tryz.ntmps33
  go_wp2_with fail
  with_reducible refine k1.mono ?_
  rintro e w1 ⟨⟨g, n, cap, rfl, H1⟩, K1⟩
  have T1 := HH.out.1.more (w' := w1) K1 g H1.out.2.2.1 (by
    obtain ⟨na, cp, e, _, hc⟩ := H1.out.2.1.form
    cases e
    rcases hc with ⟨c, _⟩ | ⟨g', c, hg⟩
    · cases c
    · cases c; exact hg)
  have z1 : (n : Int) ≤ 268960771 := by have := H1.out.1; have := H1.out.2.2.2; omega
  have HT : Hid (FT W (fun i => X i ∨ i = g) w1 bt p pm N pool o M C root ∧ Kp w w1 ∧ W.heap.size ≤ g) := ⟨T1.ft, K1, by have := HH.out.1.fw.kp.size; have := H1.out.2.2.1; omega⟩
  clear k1 T1 K1 c0
  go_wp2_with fail
  go_loopg [13] (n + 1) (fun gg v13 wr => ∃ k : Nat, v13 = .int .i64 (k : Int) ∧ k ≤ n ∧ n + 1 - k ≤ gg ∧ Hid ((∃ M1, FT W (fun i => X i ∨ i = g) wr bt p pm N pool o M1 (offC C (L.take k)) root ∧ Ot Z M C M1 (offC C (L.take k))) ∧ OL encU8 37 1 wr (.slice (some ⟨g, 0, none⟩) n cap) L ∧ Fr (Out W X) w wr))
  case atStart =>
    refine ⟨0, rfl, by omega, by omega, ⟨M, ?_, ?_⟩, H1.out.2.1, HT.out.2.1.fr _⟩
    · have e0 : offC C (L.take 0) = C := by funext x; unfold offC; rw [if_neg (by simp)]
      rw [e0]; exact HT.out.1
    · have e0 : offC C (L.take 0) = C := by funext x; unfold offC; rw [if_neg (by simp)]
      rw [e0]; exact Ot.refl _ _ _
  case round =>
    obtain ⟨k, rfl, hk, hg, HI⟩ := hrel
    have hn := H1.out.1
    by_cases e : k < n
    · obtain ⟨⟨M1, F1, O1⟩, L1, R1⟩ := HI.out
      have hkL : k < L.length := by omega
      obtain ⟨x, hx, xp, xc, xz⟩ := HH.out.2.2 (L[k]) (List.getElem_mem hkL)
      have cu : wr.cell? ⟨g, k, none⟩ = some (.int .u64 ((x * 4096 : Nat) : Int)) := by
        have := OL.cell encU8_ok L1 (i := k) (j := 0) (x := L[k]) (List.getElem?_eq_getElem hkL) rfl
        rw [hx] at this
        simpa using this
      have nin : ¬ x * 4096 ∈ L.take k := by
        rw [← hx]
        intro c
        obtain ⟨i, hi, e2⟩ := List.getElem_of_mem c
        rw [List.getElem_take] at e2
        have hik : i < k := by simp at hi; omega
        exact (List.pairwise_iff_getElem.1 HH.out.2.1 i k (by omega) hkL hik) e2
      have c1 : offC C (L.take k) x = 1 := by unfold offC; rw [if_neg nin]; exact xc
      have e3 : putC (offC C (L.take k)) x 0 = offC C (L.take (k + 1)) := by
        funext y
        unfold putC offC
        rw [List.take_succ_eq_append_getElem hkL, hx]
        by_cases c : y = x
        · subst c; rw [if_pos rfl, if_pos (by simp)]
        · rw [if_neg c]
          by_cases c2 : y * 4096 ∈ L.take k
          · rw [if_pos c2, if_pos (by simp [c2])]
          · rw [if_neg c2, if_neg (by simp [c2]; omega)]
      have KD : Aside (∀ v, Kp wr v → Calls Tryz.prog 74 #[.pointer (some ⟨p, 0, none⟩), .int .i64 (x : Int)] v fun e w' => e = .returned (.tuple #[.int .i64 0, .int .i64 0]) ∧ w'.cell? ⟨bt, 0, none⟩ = some (.pointer (some ⟨p, 0, none⟩)) ∧ Hid ((∃ M1, FT W (fun i => X i ∨ i = g) w' bt p pm N pool o M1 (offC C (L.take (k + 1))) root ∧ Ot Z M C M1 (offC C (L.take (k + 1)))) ∧ OL encU8 37 1 w' (.slice (some ⟨g, 0, none⟩) n cap) L ∧ Fr (Out W X) w w')) := fun v kv => (wdrop_one (F1.kps kv).fw x xp c1).mono fun e w' ⟨e1, e2, e3'⟩ => by
        rw [e3] at e2
        have ft := (F1.kps kv).next e2 e3'
        refine ⟨e1, ft.tx.c0, ⟨_, ft, O1.trans fun z hz => ⟨fun i _ => ?_, ?_⟩⟩, OL.fr L1 ((kv.fr _).trans e3') (fun b hb c => c.2 (.inr (by cases hb; rfl))), (R1.trans (kv.fr _)).trans (e3'.less fun _ => .inl)⟩
        · unfold zerM
          rw [if_neg (fun c => by rw [c, xz] at hz; cases hz)]
        · rw [← e3]
          unfold putC
          rw [if_neg (fun c => by rw [c, xz] at hz; cases hz)]
      have kf := fun v => frameOf_any (x * 4096) v (by have := HH.out.1.fw.nums; omega)
      rw [Nat.mul_div_cancel _ (by decide)] at kf
      have c0 := F1.tx.c0
      have kd := fun v kv => KD.out v kv
      have y1 : (k : Int) < n := by omega
      have C0 : Aside (wr.cell? ⟨bt, 0, none⟩ = some (.pointer (some ⟨p, 0, none⟩))) := c0
      clear F1 O1 L1 R1 HI hkL hx xp xc xz nin c1 e3 KD hn
      generalize x * 4096 = xa at *
      go_wp2_with fail
      go_region_held3 (fun v => v.cell? ⟨bt, 0, none⟩ = some (.pointer (some ⟨p, 0, none⟩))) (first | exact c0 | exact d0 | go_keep)
        (first | (go_at_call 70; with_reducible refine (kf _).mono ?_; rintro _ w' ⟨rfl, rfl⟩) | (go_at_call 74; with_reducible refine (kd _ (by first | exact Kp.refl _ | exact (Kp.refl _).drew | exact (Kp.refl _).drewN _)).mono ?_; rintro _ w2 ⟨rfl, d0, H2⟩))
      go_wp2_with fail
      go_roundg (n + 1 - (k + 1))
      case measure => omega
      case rel => exact ⟨k + 1, by go_num, by omega, by omega, H2⟩
    · have ek : k = n := by omega
      subst ek
      obtain ⟨⟨M1, F1, O1⟩, L1, R1⟩ := HI.out
      have t0 := F1.tx.c0
      have t1 := F1.tx.c1
      have fz0 := frozen_of_row wr bt 0 _ _ F1.tx
      have fz1 := frozen_of_row wr bt 1 _ _ F1.tx
      rw [List.take_of_length_le (by omega)] at F1 O1
      have HF : Hid ((∃ M1, FT W (fun i => X i ∨ i = g) wr bt p pm N pool o M1 (offC C L) root ∧ Ot Z M C M1 (offC C L)) ∧ Fr (Out W X) w wr) := ⟨⟨M1, F1, O1⟩, R1⟩
      clear F1 O1 L1 R1 HI hn
      generalize root * 4096 = ra at t1
      go_wp2
      go_ret
      obtain ⟨⟨M1, F1, O1⟩, R1⟩ := HF.out
      have kf : Fr (· = bt) wr ((wr.setCell ⟨bt, 0, none⟩ (.pointer none)).setCell ⟨bt, 1, none⟩ (.int .u64 0)) := ((Fr.refl (· = bt) wr).set ⟨bt, 0, none⟩ _ rfl).set ⟨bt, 1, none⟩ _ rfl
      refine ⟨rfl, ⟨M1, ?_, O1⟩, row_two _ _ F1.tx, ?_⟩
      · exact (F1.fw.frX kf (fun i c => ⟨by rw [c]; exact F1.bw, by rw [c]; exact F1.xb⟩)).less (fun _ => .inl)
      · exact (R1.mono (fun i _ hi => .inl hi)).trans (kf.mono (fun i _ hi => .inr hi))
end
end Go.Proofs.YtcankhnnikhblaaGreatDoor

/- stage2: told. -/
namespace Go.Proofs.YtcankhnnikhblaaGreatDoor
open Go.RowKit
set_option maxRecDepth 10000

theorem cntT_all (pool : Nat) : cnt (fT pool (fun _ => 0)) pool = pool := by
  have := cnt_step (F := fT pool (fun _ => 0)) (a := 0) (b := pool) (Nat.zero_le _) (fun k _ h => (fT_iff ..).2 ⟨h, rfl⟩)
  rw [this]; show 0 + (pool - 0) = pool; omega
theorem lvG_eN (page : Nat) : lvG eN page = 0 := by unfold lvG; rw [if_pos (by show ¬ (0 : Int) = 1; decide)]
theorem enG_eN (page : Nat) : enG eN page = dN := rfl
/-- No leaf: the root alone. -/
theorem TG.bare {M : Nat → Nat → Nat} {C : Nat → Nat} {pool root : Nat} {Z : Nat → Bool} {E : Nat → Nat → DV} (h : TG M C pool Z root E) (ne : NE root E (fun _ _ => False)) (hl : ∀ l j, l ≤ 3 → lfD E l j = dN) : (tabsA root E).length = 1 := by
  have noT : ∀ n l j, l + n = 3 → (E l j).k = 0 := fun n => by
    induction n with
    | zero =>
      intro l j e
      obtain rfl : l = 3 := by omega
      have := hl 3 j (by omega)
      rw [h.lf3] at this
      rw [this]; rfl
    | succ n ih =>
      intro l j e
      by_cases c : (E l j).k = 1
      · obtain ⟨i, hi, hk⟩ := ne (l + 1) j ((E l j).a / 4096) (by omega) (by omega) (fun c => c) (by rw [tbl_succ, if_pos c])
        exact absurd (ih (l + 1) _ (by omega)) hk
      · have := hl l j (by omega)
        unfold lfD at this
        rw [if_neg c] at this
        rw [this]; rfl
  have e : trv E visT deepA 4 0 0 = [] := by
    rw [List.eq_nil_iff_forall_not_mem]
    intro x hx
    obtain ⟨m, e, a1, a2, _⟩ := (mem_trv h x).1 hx
    exact a2 (noT (3 - m) m e (by omega))
  unfold tabsA
  rw [h.trvT, e]
  rfl
section
variable {W w w' : World} {X : Nat → Prop} {b : Nat} {r q x : Bool}
theorem PX.frO (h : PX w b r q x) (k : Fr (Out W X) w w') (hb : X b) : PX w' b r q x := (k.block b h.lt (fun c => c.2 hb)).trans h
theorem LB.frO {v : LV} (h : LB w b v) (k : Fr (Out W X) w w') (hb : X b) : LB w' b v := h.fr k (fun c => c.2 hb)
end
theorem root_gone {w : World} {b : Nat} (h : TXn w b) : Calls Tryz.prog 18 #[.pointer (some ⟨b, 0, none⟩)] w fun e w' => e = .returned (.int .u64 0) ∧ w' = w := by
  have c1 := h.c1
  clear h
  go_enter Tryz.func18, Tryz.ntmps18
  go_wp2
  go_ret
  exact ⟨rfl, rfl⟩
set_option maxHeartbeats 8000000 in
theorem told_any (w : World) (T : TAB w) : Calls Tryz.prog 15 #[] w fun e w' => e = .returned (.bool true) ∧ Kp w w' := by
  have k1 := begun_any 8 w T (by omega) (by omega)
  rw [show ((8 : Nat) : Int) = 8 from rfl] at k1
  have q3 : ∀ p (w : World), (binOp .eql 27 (.pointer (some ⟨p, 0, none⟩)) (.pointer none)).run Tryz.prog w = .ok (.bool false) w := fun p w => by kernel_rfl
  clear T
  go_enter Tryz.func15, Tryz.ntmps15
  go_wp2_with fail
  with_reducible refine k1.mono ?_
  rintro e w1 ⟨pm, p, M, rfl, f1⟩
  have kn := tnew_nil
  obtain ⟨y, hy⟩ := tk_there (F := fT 8 (fun _ => 0)) (hi := 8) (by rw [cntT_all]; omega)
  have k2 := tnew_ok (Z := fun _ => false) f1 y hy (fun x => ⟨(fun c => by cases c), fun c => absurd rfl c⟩)
  have fy := hy.free
  have HC : Hid (cnt (fT 8 (putC (fun _ => 0) y 1)) 8 + 1 = 8) := by have := cnt_take (C := fun _ => 0) fy.1 rfl; rw [cntT_all] at this; exact this
  clear k1 f1 hy fy
  go_wp2_with fail
  with_reducible refine (kn _).mono ?_
  rintro e w' ⟨rfl, rfl⟩
  go_wp2_with fail
  with_reducible refine k2.mono ?_
  rintro e w3 ⟨⟨bt, rfl, t3, hbt⟩, r3⟩
  have k4 : Kp w3 (w3.alloc (.cells #[.bool true, .bool true, .bool false] 39)) := (Kp.refl w3).alloc _
  have t4 := t3.more k4 w3.heap.size (Nat.le_refl _) (by simp)
  have P4 : PX (w3.alloc (.cells #[.bool true, .bool true, .bool false] 39)) w3.heap.size true true false := heap_alloc_new w3 _
  have kN := need_any t4 0 (by omega) (by omega)
  rw [show needN eN 0 = 3 from by unfold needN; rw [enG_eN, lvG_eN, if_neg (by decide)], show ((3 : Nat) : Int) = 3 from rfl, show ((0 : Nat) : Int) = 0 from rfl] at kN
  have HP : Hid (PX (w3.alloc (.cells #[.bool true, .bool true, .bool false] 39)) w3.heap.size true true false) := P4
  clear k2 t3 r3 kn t4 k4 P4 hbt
  generalize hbp : w3.heap.size = bp at *
  go_wp2_with fail
  with_reducible refine kN.mono ?_
  rintro e w5 ⟨rfl, t5, r5⟩
  have P5 := HP.out.frO r5 (.inr rfl)
  have kM := map_any t5 (NE.made y) 0 9 true true false 0 (by omega)
  have eR : mapR 2100 8 (putC (fun _ => 0) y 1) eN 0 9 true true 0 = 0 := by
    unfold mapR plR
    rw [if_neg (by decide), if_neg (by decide), enG_eN, lvG_eN, if_neg (by simp [dN]), if_neg (by have := HC.out; omega)]
  rw [eR, show ((0 : Nat) : Int) = 0 from rfl] at kM
  have HP5 : Hid (PX w5 bp true true false) := P5
  have p0 := P5.c0
  have p1 := P5.c1
  have p2 := P5.c2
  clear kN t5 r5 P5 HP
  go_wp2_with fail
  with_reducible refine kM.mono ?_
  rintro e w6 ⟨rfl, C6, E6, a6, _, b6⟩
  obtain ⟨n6, l6⟩ := b6 rfl
  obtain ⟨⟨M6, t6, _⟩, ne6, r6⟩ := a6
  have P6 := HP5.out.frO r6 (.inr rfl)
  have lf3 : lfD E6 3 0 = ⟨3, 36864, true, true, false, 0⟩ := by rw [l6 3 0 (by omega), if_pos ⟨rfl, rfl⟩]; rfl
  have pg := t6.tg.pg (page := 0)
  have pd : pgD E6 0 = ⟨3, 36864, true, true, false, 0⟩ := by unfold pgD; rw [lf3, if_pos (by decide)]
  have pl : pgL E6 0 = 3 := by unfold pgL; rw [lf3, if_pos (by decide)]
  have ek : (enG E6 0).k ≠ 0 := pg.1.2 (by rw [pd]; decide)
  obtain ⟨een, elv⟩ := pg.2 ek
  rw [pd] at een
  rw [pl] at elv
  have kG := get_any t6 0 (by omega) (by omega)
  have eg : getN E6 0 = ⟨0, 9, true, true, false, 0, 3⟩ := by unfold getN; rw [if_pos ek, een, elv]; rfl
  rw [eg, decide_eq_true ek, show ((0 : Nat) : Int) = 0 from rfl] at kG
  have HG : Hid ((enG E6 0).k = 3 ∧ (enG E6 0).a / 4096 = 9 ∧ lvG E6 0 = 3 ∧ NE y E6 (fun _ _ => False) ∧ cnt (fT 8 C6) 8 + (3 - lvG eN 0) = cnt (fT 8 (putC (fun _ => 0) y 1)) 8 ∧ ∀ a b, a ≤ 3 → lfD E6 a b = if a = 3 ∧ b = qn 0 3 then ⟨3, Int.toNat 9 * 4096, true, true, false, 0⟩ else lfD eN a b) := ⟨by rw [een], by rw [een]; rfl, elv, ne6, n6, l6⟩
  have HP6 : Hid (PX w6 bp true true false) := P6
  clear kM n6 l6 t6 ne6 r6 P6 lf3 pg pd pl ek een elv eg eR p0 p1 p2 HP5 b6
  go_wp2_with fail
  with_reducible refine kG.mono ?_
  rintro e w7 ⟨rfl, t7, r7⟩
  have kb : Kp w7 (w7.alloc (.cells #[.int .u64 0, .int .i64 9, .bool true, .bool true, .bool false, .int .i64 0, .int .i64 3] 58)) := (Kp.refl w7).alloc _
  have t8 := t7.more kb w7.heap.size (Nat.le_refl _) (by simp)
  have P8 := (HP6.out.frO r7 (.inr rfl)).kp kb
  have B8 : LB (w7.alloc (.cells #[.int .u64 0, .int .i64 9, .bool true, .bool true, .bool false, .int .i64 0, .int .i64 3] 58)) w7.heap.size ⟨0, 9, true, true, false, 0, 3⟩ := heap_alloc_new w7 _
  have kT := tcount_any t8
  have e4 : cnt (ownC C6 (fun _ => false)) 8 = 4 := by
    have := cnt_alone 8 C6
    have := HG.out.2.2.2.2.1
    have := HC.out
    rw [lvG_eN] at *
    omega
  rw [e4, show ((4 : Nat) : Int) = 4 from rfl] at kT
  have H8 : Hid (TS w (fun i => ((False ∨ i = bt) ∨ i = bp) ∨ i = w7.heap.size) (w7.alloc (.cells #[.int .u64 0, .int .i64 9, .bool true, .bool true, .bool false, .int .i64 0, .int .i64 3] 58)) bt p pm 2100 8 (0 + 4 + 12 + 4) M6 C6 (fun _ => false) y E6 ∧ PX (w7.alloc (.cells #[.int .u64 0, .int .i64 9, .bool true, .bool true, .bool false, .int .i64 0, .int .i64 3] 58)) bp true true false ∧ LB (w7.alloc (.cells #[.int .u64 0, .int .i64 9, .bool true, .bool true, .bool false, .int .i64 0, .int .i64 3] 58)) w7.heap.size ⟨0, 9, true, true, false, 0, 3⟩) := ⟨t8, P8, B8⟩
  clear kG t7 r7 HP6 kb t8 P8 B8 e4
  unfold lvV
  simp only
  rw [show ((0 : Nat) : Int) = 0 from rfl, show ((9 : Nat) : Int) = 9 from rfl, show ((3 : Nat) : Int) = 3 from rfl]
  go_wp2_with fail
  with_reducible refine kT.mono ?_
  rintro e w9 ⟨rfl, K9⟩
  have t9 := H8.out.1.kps K9
  have P9 := H8.out.2.1.kp K9
  have B9 := H8.out.2.2.kp K9
  obtain ⟨g1, g2, g3, g4, g5, g6⟩ := HG.out
  have kU := unmap_page t9 g4 0 (by omega) (by omega) g1 g3
  rw [g2, show ((9 : Nat) : Int) = 9 from rfl, show ((0 : Nat) : Int) = 0 from rfl] at kU
  have H9 : Hid (PX w9 bp true true false ∧ LB w9 w7.heap.size ⟨0, 9, true, true, false, 0, 3⟩) := ⟨P9, B9⟩
  have H6 : Hid (∀ a b, a ≤ 3 → lfD E6 a b = if a = 3 ∧ b = qn 0 3 then ⟨3, Int.toNat 9 * 4096, true, true, false, 0⟩ else lfD eN a b) := g6
  clear kT H8 t9 P9 B9 g1 g2 g3 g4 g5 g6 HG HC K9
  generalize w7.heap.size = bl at *
  go_wp2_with fail
  with_reducible refine kU.mono ?_
  rintro e w10 ⟨rfl, C10, E10, ⟨⟨M10, t10, _⟩, ne10, r10⟩, l10⟩
  have P10 := H9.out.1.frO r10 (.inl (.inr rfl))
  have B10 := H9.out.2.frO r10 (.inr rfl)
  have b1 : (tabsA y E10).length = 1 := t10.tg.bare ne10 fun l j hl => by
    rw [l10 l j hl]
    by_cases c : l = 3 ∧ j = 0
    · rw [if_pos c]
    · rw [if_neg c, H6.out l j hl, if_neg (by rw [qn_three]; exact c)]; rfl
  have kT := tcount_any t10
  rw [← t10.tg.tabs_len, b1, show ((1 : Nat) : Int) = 1 from rfl] at kT
  have H10 : Hid (TS w (fun i => ((False ∨ i = bt) ∨ i = bp) ∨ i = bl) w10 bt p pm 2100 8 (0 + 4 + 12 + 4 + 8) M10 C10 (fun _ => false) y E10 ∧ PX w10 bp true true false) := ⟨t10, P10⟩
  have p0 := P10.c0
  have p1 := P10.c1
  have p2 := P10.c2
  have v0 := B10.c0
  have v1 := B10.c1
  have v2 := B10.c2
  have v3 := B10.c3
  have v4 := B10.c4
  have v5 := B10.c5
  have v6 := B10.c6
  simp only at v0 v1 v2 v3 v4 v5 v6
  rw [show ((0 : Nat) : Int) = 0 from rfl] at v0
  rw [show ((9 : Nat) : Int) = 9 from rfl] at v1
  rw [show ((3 : Nat) : Int) = 3 from rfl] at v6
  have hq : ∀ w : World, (binOp .eql 58 (.agg #[.int .u64 0, .int .i64 9, .bool true, .bool true, .bool false, .int .i64 0, .int .i64 3]) (.agg #[.int .u64 0, .int .i64 9, .bool true, .bool true, .bool false, .int .i64 0, .int .i64 3])).run Tryz.prog w = .ok (.bool true) w := fun w => by kernel_rfl
  clear kU H9 H6 t10 ne10 r10 l10 P10 B10 b1
  go_wp2_with fail
  with_reducible refine kT.mono ?_
  rintro e w11 ⟨rfl, K11⟩
  have t11 := H10.out.1.kps K11
  have P11 := H10.out.2.kp K11
  have kF := map_far t11.ft 268435456 9 true true false 0 (by omega)
  rw [show ((268435456 : Nat) : Int) = 268435456 from rfl] at kF
  have p0 := P11.c0
  have p1 := P11.c1
  have p2 := P11.c2
  have H11 : Hid (TS w (fun i => ((False ∨ i = bt) ∨ i = bp) ∨ i = bl) w11 bt p pm 2100 8 (0 + 4 + 12 + 4 + 8) M10 C10 (fun _ => false) y E10) := t11
  clear kT H10 t11 P11 K11 v0 v1 v2 v3 v4 v5 v6 hq
  go_wp2_with fail
  with_reducible refine kF.mono ?_
  rintro e w12 ⟨rfl, K12⟩
  have kR := tfree_any (H11.out.kps K12)
  clear kF H11 K12 p0 p1 p2
  go_wp2_with fail
  with_reducible refine kR.mono ?_
  rintro e w13 ⟨rfl, ⟨M13, f13, _⟩, x13, _⟩
  have kO := root_gone x13
  have HK : Hid (Kp w w13) := f13.kp
  clear kR f13 x13
  go_wp2_with (go_at_call 18; with_reducible refine kO.mono ?_; rintro _ w' ⟨rfl, rfl⟩)
  go_ret
  exact ⟨rfl, HK.out⟩
end Go.Proofs.YtcankhnnikhblaaGreatDoor
