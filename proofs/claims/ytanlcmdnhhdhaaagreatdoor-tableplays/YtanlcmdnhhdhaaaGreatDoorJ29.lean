/- Joined: R24, R28, R29, R62. -/
import Derived.Test.YtanlcmdnhhdhaaaGreatDoorJ28
import Derived.Test.YtanlcmdnhhdhaaaGreatDoorJ24
import Derived.Test.YtanlcmdnhhdhaaaGreatDoorJ26
/- stage2: Leaves, tables, Tables. -/
namespace Go.Proofs.YtanlcmdnhhdhaaaGreatDoor
open Go.RowKit
set_option maxRecDepth 10000

section
variable {W w w0 : World} {X Y : Nat → Prop} {bt p pm N pool o : Nat} {M : Nat → Nat → Nat} {C : Nat → Nat} {Z : Nat → Bool} {root : Nat} {E : Nat → Nat → DV}
set_option maxHeartbeats 4000000 in
theorem leaves_any (T : TS W X w bt p pm N pool o M C Z root E) :
    Calls Tryz.prog 20 #[.pointer (some ⟨bt, 0, none⟩)] w fun e w' => (∃ v, e = .returned v ∧ OL encL 58 7 w' v (lvsA E)) ∧ Kp w w' ∧ (lvsA E).length ≤ 268960770 := by
  have I0 : IL7 w.heap.size w [] (fun b => b = w.heap.size) (w.alloc (.cells #[.slice none 0 0] 70)) := ⟨⟨.slice none 0 0, heap_alloc_new w _, OL.nil _ _, (fun b hb => .inl hb), (fun b hb => by cases hb)⟩, rfl, Nat.le_refl _, (Kp.refl w).alloc _⟩
  have k1 := each_any T (visitL w.heap.size w) [] _ _ I0 (by simp)
  rw [List.nil_append] at k1
  unfold lvsA
  generalize trv E visL deepA 4 0 0 = LL at *
  have KE : Aside (Calls Tryz.prog 58 #[.pointer (some ⟨bt, 0, none⟩), .func (.func 59) #[] #[.pointer (some ⟨w.heap.size, 0, none⟩)]] (w.alloc (.cells #[.slice none 0 0] 70)) fun e w' => e = .returned (.tuple #[]) ∧ ∃ na n cap, w'.cell? ⟨w.heap.size, 0, none⟩ = some (.slice na n cap) ∧ Hid (OL encL 58 7 w' (.slice na n cap) (LL) ∧ Kp w w' ∧ (LL).length ≤ 268960770)) := k1.mono fun e w' ⟨e1, ⟨S', e2, e3, e4⟩, e5⟩ => ⟨e1, by
    obtain ⟨v, a1, a2, _⟩ := e2.v
    obtain ⟨na, cap, ev, _⟩ := a2.form
    subst ev
    exact ⟨na, _, cap, by rw [cell_of_row w' _ 0 _ _ _ a1]; rfl, a2, e2.kp, e5⟩⟩
  have hmf : ∀ (fn : Fn) (first cap : Array Value) (w : World), (Instr.makeFunc fn first cap).run Tryz.prog w = .ok (.func fn first cap) w := fun _ _ _ _ => rfl
  clear k1 I0 T
  go_enter Tryz.func20, Tryz.ntmps20
  go_wp2_with fail
  with_reducible refine KE.out.mono ?_
  rintro e w1 ⟨rfl, na, n, cap, c1, H1⟩
  clear KE
  go_wp2
  go_ret
  exact ⟨⟨_, rfl, H1.out.1⟩, H1.out.2⟩
set_option maxHeartbeats 4000000 in
theorem tables_any (T : TS W X w bt p pm N pool o M C Z root E) :
    Calls Tryz.prog 66 #[.pointer (some ⟨bt, 0, none⟩)] w fun e w' => (∃ g n cap, e = .returned (.slice (some ⟨g, 0, none⟩) n cap) ∧ Hid (n = (tabsA root E).length ∧ OL encU8 37 1 w' (.slice (some ⟨g, 0, none⟩) n cap) (tabsA root E) ∧ w.heap.size ≤ g ∧ (tabsA root E).length ≤ 268960771)) ∧ Kp w w' := by
  obtain ⟨w1, hw1⟩ : ∃ w1, w1 = w.alloc (.cells #[.int .u64 ((root * 4096 : Nat) : Int)] 37) := ⟨_, rfl⟩
  have e1 : w1.heap.size = w.heap.size + 1 := by rw [hw1]; simp
  have k0 : Kp w w1 := by rw [hw1]; exact (Kp.refl w).alloc _
  have O1 : OL encU8 37 1 w1 (.slice (some ⟨w.heap.size, 0, none⟩) 1 1) [root * 4096] := by rw [hw1]; exact World.ownsRow_lit w #[.int .u64 ((root * 4096 : Nat) : Int)] 1 (Nat.zero_le _) (by unfold maxLen; decide) rfl
  have k2 : Kp w1 (w1.alloc (.cells #[.slice (some ⟨w.heap.size, 0, none⟩) 1 1] 100)) := (Kp.refl w1).alloc _
  have I0 : IT1 (w.heap.size + 1) w [root * 4096] (fun b => b = w.heap.size + 1 ∨ b = w.heap.size) (w1.alloc (.cells #[.slice (some ⟨w.heap.size, 0, none⟩) 1 1] 100)) := ⟨⟨.slice (some ⟨w.heap.size, 0, none⟩) 1 1, by rw [← e1]; exact heap_alloc_new w1 _, OL.fr O1 (k2.fr (fun _ => False)) (fun _ _ => id), (fun b hb => hb.imp id (fun c => by rw [c]; rfl)), (fun b hb => by cases hb; exact ⟨.inr rfl, (by show w.heap.size ≠ w.heap.size + 1; omega), Nat.le_refl _⟩)⟩, .inl rfl, by omega, k0.trans k2⟩
  have k1 := each_any T (visitT (w.heap.size + 1) w) _ _ _ I0 (by simp)
  rw [List.singleton_append] at k1
  unfold tabsA
  generalize trv E visT deepT 4 0 0 = TT at *
  obtain ⟨LL, hll⟩ : ∃ LL, LL = root * 4096 :: TT := ⟨_, rfl⟩
  have hl2 : LL.length = TT.length + 1 := by rw [hll]; rfl
  rw [← hll] at k1 ⊢
  clear hll
  rw [hw1] at k1
  have KE : Aside (Calls Tryz.prog 58 #[.pointer (some ⟨bt, 0, none⟩), .func (.func 99) #[] #[.pointer (some ⟨w.heap.size + 1, 0, none⟩)]] ((w.alloc (.cells #[.int .u64 ((root * 4096 : Nat) : Int)] 37)).alloc (.cells #[.slice (some ⟨w.heap.size, 0, none⟩) 1 1] 100)) fun e w' => e = .returned (.tuple #[]) ∧ ∃ g n cap, w'.cell? ⟨w.heap.size + 1, 0, none⟩ = some (.slice (some ⟨g, 0, none⟩) n cap) ∧ Hid ((n = (LL).length ∧ OL encU8 37 1 w' (.slice (some ⟨g, 0, none⟩) n cap) (LL) ∧ w.heap.size ≤ g ∧ (LL).length ≤ 268960771) ∧ Kp w w')) := k1.mono fun e w' ⟨e1, ⟨S', e2, e3, e4⟩, e5⟩ => ⟨e1, by
    obtain ⟨v, a1, a2, a3, a4⟩ := e2.v
    obtain ⟨na, cap, ev, _, hc⟩ := a2.form
    subst ev
    rcases hc with ⟨_, _, c⟩ | ⟨g, rfl, hg⟩
    · rw [c] at hl2; simp at hl2
    · exact ⟨g, _, cap, by rw [cell_of_row w' _ 0 _ _ _ a1]; rfl, ⟨rfl, a2, (a4 g rfl).2.2, by omega⟩, e2.kp⟩⟩
  have c0 := T.tx.c0
  have c1 := T.tx.c1
  have q0 := eql_frames p
  have hmf : ∀ (fn : Fn) (first cap : Array Value) (w : World), (Instr.makeFunc fn first cap).run Tryz.prog w = .ok (.func fn first cap) w := fun _ _ _ _ => rfl
  clear k1 I0 T O1 k0 k2 hw1 e1
  generalize hra : root * 4096 = ra at *
  clear hra
  go_enter Tryz.func66, Tryz.ntmps66
  go_wp2_with fail
  with_reducible refine KE.out.mono ?_
  rintro e w1 ⟨rfl, g, n, cap, c1, H1⟩
  clear KE
  go_wp2
  go_ret
  exact ⟨⟨_, _, _, rfl, H1.out.1⟩, H1.out.2⟩
set_option maxHeartbeats 4000000 in
theorem tcount_any (T : TS W X w bt p pm N pool o M C Z root E) :
    Calls Tryz.prog 24 #[.pointer (some ⟨bt, 0, none⟩)] w fun e w' => e = .returned (.int .i64 (cnt (ownC C Z) pool : Nat)) ∧ Kp w w' := by
  have k1 := tables_any T
  have HL : Hid ((tabsA root E).length = cnt (ownC C Z) pool) := T.tg.tabs_len
  clear T
  generalize tabsA root E = LL at *
  go_enter Tryz.func24, Tryz.ntmps24
  go_wp2_with fail
  with_reducible refine k1.mono ?_
  rintro e w1 ⟨⟨g, n, cap, rfl, H1⟩, K1⟩
  have z1 : (n : Int) ≤ 268960771 := by have := H1.out.1; have := H1.out.2.2.2; omega
  clear k1
  go_wp2
  go_ret
  exact ⟨by rw [← HL.out, ← H1.out.1]; rfl, K1⟩
end
end Go.Proofs.YtanlcmdnhhdhaaaGreatDoor

/- stage2: New, Free; a memory, its frames. -/
namespace Go.Proofs.YtanlcmdnhhdhaaaGreatDoor
open Go.RowKit
set_option maxRecDepth 10000

/-- No entry at all. -/
def eN : Nat → Nat → DV := fun _ _ => dN
theorem tbl_eN {root l j x : Nat} (h : tbl root eN l j = some x) : l = 0 ∧ j = 0 ∧ x = root := by
  cases l with
  | zero =>
    have h' : (if j = 0 then some root else none) = some x := h
    by_cases c : j = 0
    · rw [if_pos c] at h'; cases h'; exact ⟨rfl, c, rfl⟩
    · rw [if_neg c] at h'; cases h'
  | succ n =>
    rw [tbl_succ, if_neg (by show ¬ (0 : Int) = 1; decide)] at h
    cases h
theorem TG.made {M : Nat → Nat → Nat} {C : Nat → Nat} {pool y : Nat} {Z : Nat → Bool} (hy : y < pool) (hC : C y = 0) (hZ : ∀ x, Z x = true ↔ C x ≠ 0) : TG (zerM M y) (putC C y 1) pool Z y eN where
  ok _ _ hl := okD_none hl
  blk _ _ _ h := by cases h
  up _ _ _ h := absurd rfl h
  two _ h := absurd rfl h
  one l j l' j' x _ _ h h' := by
    obtain ⟨rfl, rfl, _⟩ := tbl_eN h
    obtain ⟨rfl, rfl, _⟩ := tbl_eN h'
    exact ⟨rfl, rfl⟩
  wd l j x i _ h hi := by
    obtain ⟨_, _, rfl⟩ := tbl_eN h
    unfold zerM
    rw [if_pos rfl]; rfl
  mine l j x _ h := by
    obtain ⟨_, _, rfl⟩ := tbl_eN h
    refine ⟨hy, by unfold putC; rw [if_pos rfl], ?_⟩
    cases e : Z x
    · rfl
    · exact absurd hC ((hZ x).1 e)
  all x hx hc hz := by
    by_cases c : x = y
    · exact ⟨0, 0, by omega, by rw [c]; rfl⟩
    · unfold putC at hc
      rw [if_neg c] at hc
      rw [(hZ x).2 hc] at hz
      cases hz
  oth x hx := by
    unfold putC
    split
    · decide
    · exact (hZ x).1 hx
theorem NE.made (root : Nat) : NE root eN (fun _ _ => False) := fun l j x h1 _ _ h => by
  have := (tbl_eN h).1
  omega
theorem tnew_nil (w : World) : Calls Tryz.prog 7 #[.pointer none] w fun e w' => e = .returned (.tuple #[.pointer none, .int .i64 1]) ∧ w' = w := by
  go_enter Tryz.func7, Tryz.ntmps7
  go_wp2
  go_ret2
  exact ⟨rfl, rfl⟩
section
variable {W w w' : World} {X Y : Nat → Prop} {bt p pm N pool o : Nat} {M : Nat → Nat → Nat} {C : Nat → Nat} {Z : Nat → Bool} {root : Nat} {E : Nat → Nat → DV}
set_option maxHeartbeats 4000000 in
theorem tnew_ok (h : FW W X w p pm N pool o M C) (y : Nat) (hy : TkR (fT pool C) 0 (some y)) (hZ : ∀ x, Z x = true ↔ C x ≠ 0) :
    Calls Tryz.prog 7 #[.pointer (some ⟨p, 0, none⟩)] w fun e w' => (∃ bt, e = .returned (.tuple #[.pointer (some ⟨bt, 0, none⟩), .int .i64 0]) ∧ TS W (fun i => X i ∨ i = bt) w' bt p pm N pool o (zerM M y) (putC C y 1) Z y eN ∧ w.heap.size ≤ bt) ∧ Fr (Out W X) w w' := by
  have k1 := wtable_some h y hy
  have fy := hy.free
  have hn := h.nums
  have k2 := fun v => addrOf_any y v (by omega)
  have q0 := eql_frames p
  have HH : Hid (TG (zerM M y) (putC C y 1) pool Z y eN ∧ W.heap.size ≤ w.heap.size) := ⟨TG.made fy.1 fy.2 hZ, h.kp.size⟩
  clear h hy fy hn hZ
  obtain ⟨ya, hya⟩ : ∃ ya, ya = y * 4096 := ⟨_, rfl⟩
  rw [← hya] at k2
  have HY : Hid (ya = y * 4096) := hya
  clear hya
  go_enter Tryz.func7, Tryz.ntmps7
  go_wp2_with fail
  with_reducible refine k1.mono ?_
  rintro e w1 ⟨rfl, f1, r1⟩
  have H1 : Hid (FW W X w1 p pm N pool o (zerM M y) (putC C y 1) ∧ Fr (Out W X) w w1) := ⟨f1, r1⟩
  clear k1 f1 r1
  go_wp2_with (go_at_call 29; with_reducible refine (k2 _).mono ?_; rintro _ w' ⟨rfl, rfl⟩)
  go_ret2
  obtain ⟨f1, r1⟩ := H1.out
  have ka : Kp w' (w'.alloc (.cells #[.pointer (some ⟨p, 0, none⟩), .int .u64 (ya : Int)] 86)) := (Kp.refl w').alloc _
  refine ⟨⟨w'.heap.size, rfl, ⟨f1.more ka w'.heap.size (Nat.le_refl _) (by simp), ?_, .inr rfl, ?_, HH.out.1⟩, r1.size⟩, r1.trans (ka.fr _)⟩
  · show (w'.alloc _).heap[w'.heap.size]? = _
    rw [← HY.out]
    exact heap_alloc_new w' _
  · have := HH.out.2
    have := r1.size
    omega
set_option maxHeartbeats 4000000 in
theorem tnew_no (h : FW W X w p pm N pool o M C) (hy : TkR (fT pool C) 0 none) :
    Calls Tryz.prog 7 #[.pointer (some ⟨p, 0, none⟩)] w fun e w' => e = .returned (.tuple #[.pointer none, .int .i64 11]) ∧ FW W X w' p pm N pool o M C ∧ Fr (Out W X) w w' := by
  have k1 := wtable_none h hy
  have q0 := eql_frames p
  clear h hy
  go_enter Tryz.func7, Tryz.ntmps7
  go_wp2_with fail
  with_reducible refine k1.mono ?_
  rintro e w1 ⟨rfl, f1, r1⟩
  have H1 : Hid (FW W X w1 p pm N pool o M C ∧ Fr (Out W X) w w1) := ⟨f1, r1⟩
  clear k1 f1 r1
  go_wp2
  go_ret2
  exact ⟨rfl, H1.out⟩
end
set_option maxHeartbeats 4000000 in
theorem begun_any (pool : Nat) (w : World) (T : TAB w) (h1 : 1 ≤ pool) (h2 : pool ≤ 64) :
    Calls Tryz.prog 6 #[.int .i64 (pool : Int)] w fun e w' => ∃ pm p M, e = .returned (.tuple #[.pointer (some ⟨pm, 0, none⟩), .pointer (some ⟨p, 0, none⟩), .bool true]) ∧ FW w (fun _ => False) w' p pm 2100 pool 0 M (fun _ => 0) := by
  have k1 := new_ok 2100 w (by omega) (by omega)
  rw [show ((2100 : Nat) : Int) = 2100 from rfl] at k1
  have HT : Hid (TAB w ∧ 1 ≤ pool ∧ pool ≤ 64) := ⟨T, h1, h2⟩
  have q1 : ∀ pm (w : World), (binOp .eql 23 (.pointer (some ⟨pm, 0, none⟩)) (.pointer none)).run Tryz.prog w = .ok (.bool false) w := fun pm w => by kernel_rfl
  have q2 : ∀ p (w : World), (binOp .neq 24 (.pointer (some ⟨p, 0, none⟩)) (.pointer none)).run Tryz.prog w = .ok (.bool true) w := fun p w => by kernel_rfl
  clear T h1 h2
  go_enter Tryz.func6, Tryz.ntmps6
  go_wp2_with fail
  with_reducible refine k1.mono ?_
  rintro e w1 ⟨pm, M, rfl, m, kk, mn⟩
  have k3 := knew_ok m kk HT.out.1 mn pool HT.out.2.1 (by have := HT.out.2.2; omega) (by have := HT.out.2.2; omega)
  clear m kk mn k1
  go_wp2_with fail
  with_reducible refine k3.mono ?_
  rintro e w2 ⟨⟨p, rfl, f2⟩, _⟩
  have F2 : Hid (FK w (fun _ => False) w2 p pm 2100 pool 0 (fun _ => z0) (fun _ => 0)) := f2
  clear f2 k3
  go_wp2
  refine bodyPost_ret (by simp [results, Tryz.results6, go_sem]; rfl) rfl ?_
  exact ⟨pm, p, wM (fun _ => z0), rfl, ⟨0, fun _ => z0, Nat.le_refl _, rfl, F2.out⟩⟩
end Go.Proofs.YtanlcmdnhhdhaaaGreatDoor

/- stage2: Free. -/
namespace Go.Proofs.YtanlcmdnhhdhaaaGreatDoor
open Go.RowKit
set_option maxRecDepth 10000

theorem row_two {w : World} {b : Nat} {t : TypeId} {a0 a1 : Value} (c0 c1 : Value) (h : w.heap[b]? = some (.cells #[a0, a1] t (0, 0))) : ((w.setCell ⟨b, 0, none⟩ c0).setCell ⟨b, 1, none⟩ c1).heap[b]? = some (.cells #[c0, c1] t (0, 0)) := by
  have h0 : (w.setCell ⟨b, 0, none⟩ c0).heap[b]? = some (.cells #[c0, a1] t (0, 0)) := heap_setCell_same _ b 0 _ _ c0 h
  exact heap_setCell_same _ b 1 _ _ c1 h0
/-- The counts without the tables' own frames. -/
def offC (C : Nat → Nat) (L : List Nat) : Nat → Nat := fun x => if x * 4096 ∈ L then 0 else C x
section
variable {W w w' : World} {X Y : Nat → Prop} {bt p pm N pool o : Nat} {M : Nat → Nat → Nat} {C : Nat → Nat} {Z : Nat → Bool} {root : Nat} {E : Nat → Nat → DV}
set_option maxHeartbeats 8000000 in
theorem tfree_any (h : TS W X w bt p pm N pool o M C Z root E) :
    Calls Tryz.prog 25 #[.pointer (some ⟨bt, 0, none⟩)] w fun e w' => e = .returned (.int .i64 0) ∧ (∃ M', FW W X w' p pm N pool o M' (offC C (tabsA root E)) ∧ Ot Z M C M' (offC C (tabsA root E))) ∧ TXn w' bt ∧ Fr (fun k => Out W X k ∨ k = bt) w w' := by
  have k1 := tables_any h
  have c0 := h.tx.c0
  have q0 := eql_frames p
  have HH : Hid (TS W X w bt p pm N pool o M C Z root E ∧ (tabsA root E).Pairwise (· ≠ ·) ∧ ∀ a ∈ tabsA root E, ∃ x, a = x * 4096 ∧ x < pool ∧ C x = 1 ∧ Z x = false) := ⟨h, h.tg.tabs_apart, fun a ha => by
    obtain ⟨l, j, x, hl, e, rfl⟩ := (h.tg.tabs_mem a).1 ha
    exact ⟨x, rfl, h.tg.mine l j x hl e⟩⟩
  clear h
  generalize tabsA root E = L at *
  go_enter Tryz.func25, Tryz.ntmps25
  go_wp2_with fail
  with_reducible refine k1.mono ?_
  rintro e w1 ⟨⟨g, n, cap, rfl, H1⟩, K1⟩
  have T1 := HH.out.1.more (w' := w1) K1 g H1.out.2.2.1 (by
    obtain ⟨na, cp, e, _, hc⟩ := H1.out.2.1.form
    cases e
    rcases hc with ⟨c, _⟩ | ⟨g', c, hg⟩
    · cases c
    · cases c; exact hg)
  have z1 : (n : Int) ≤ 268960771 := by have := H1.out.1; have := H1.out.2.2.2; omega
  have HT : Hid (FT W (fun i => X i ∨ i = g) w1 bt p pm N pool o M C root ∧ Kp w w1 ∧ W.heap.size ≤ g) := ⟨T1.ft, K1, by have := HH.out.1.fw.kp.size; have := H1.out.2.2.1; omega⟩
  clear k1 T1 K1 c0
  go_wp2_with fail
  go_loopg [13] (n + 1) (fun gg v13 wr => ∃ k : Nat, v13 = .int .i64 (k : Int) ∧ k ≤ n ∧ n + 1 - k ≤ gg ∧ Hid ((∃ M1, FT W (fun i => X i ∨ i = g) wr bt p pm N pool o M1 (offC C (L.take k)) root ∧ Ot Z M C M1 (offC C (L.take k))) ∧ OL encU8 37 1 wr (.slice (some ⟨g, 0, none⟩) n cap) L ∧ Fr (Out W X) w wr))
  case atStart =>
    refine ⟨0, rfl, by omega, by omega, ⟨M, ?_, ?_⟩, H1.out.2.1, HT.out.2.1.fr _⟩
    · have e0 : offC C (L.take 0) = C := by funext x; unfold offC; rw [if_neg (by simp)]
      rw [e0]; exact HT.out.1
    · have e0 : offC C (L.take 0) = C := by funext x; unfold offC; rw [if_neg (by simp)]
      rw [e0]; exact Ot.refl _ _ _
  case round =>
    obtain ⟨k, rfl, hk, hg, HI⟩ := hrel
    have hn := H1.out.1
    by_cases e : k < n
    · obtain ⟨⟨M1, F1, O1⟩, L1, R1⟩ := HI.out
      have hkL : k < L.length := by omega
      obtain ⟨x, hx, xp, xc, xz⟩ := HH.out.2.2 (L[k]) (List.getElem_mem hkL)
      have cu : wr.cell? ⟨g, k, none⟩ = some (.int .u64 ((x * 4096 : Nat) : Int)) := by
        have := OL.cell encU8_ok L1 (i := k) (j := 0) (x := L[k]) (List.getElem?_eq_getElem hkL) rfl
        rw [hx] at this
        simpa using this
      have nin : ¬ x * 4096 ∈ L.take k := by
        rw [← hx]
        intro c
        obtain ⟨i, hi, e2⟩ := List.getElem_of_mem c
        rw [List.getElem_take] at e2
        have hik : i < k := by simp at hi; omega
        exact (List.pairwise_iff_getElem.1 HH.out.2.1 i k (by omega) hkL hik) e2
      have c1 : offC C (L.take k) x = 1 := by unfold offC; rw [if_neg nin]; exact xc
      have e3 : putC (offC C (L.take k)) x 0 = offC C (L.take (k + 1)) := by
        funext y
        unfold putC offC
        rw [List.take_succ_eq_append_getElem hkL, hx]
        by_cases c : y = x
        · subst c; rw [if_pos rfl, if_pos (by simp)]
        · rw [if_neg c]
          by_cases c2 : y * 4096 ∈ L.take k
          · rw [if_pos c2, if_pos (by simp [c2])]
          · rw [if_neg c2, if_neg (by simp [c2]; omega)]
      have KD : Aside (∀ v, Kp wr v → Calls Tryz.prog 67 #[.pointer (some ⟨p, 0, none⟩), .int .i64 (x : Int)] v fun e w' => e = .returned (.tuple #[.int .i64 0, .int .i64 0]) ∧ w'.cell? ⟨bt, 0, none⟩ = some (.pointer (some ⟨p, 0, none⟩)) ∧ Hid ((∃ M1, FT W (fun i => X i ∨ i = g) w' bt p pm N pool o M1 (offC C (L.take (k + 1))) root ∧ Ot Z M C M1 (offC C (L.take (k + 1)))) ∧ OL encU8 37 1 w' (.slice (some ⟨g, 0, none⟩) n cap) L ∧ Fr (Out W X) w w')) := fun v kv => (wdrop_one (F1.kps kv).fw x xp c1).mono fun e w' ⟨e1, e2, e3'⟩ => by
        rw [e3] at e2
        have ft := (F1.kps kv).next e2 e3'
        refine ⟨e1, ft.tx.c0, ⟨_, ft, O1.trans fun z hz => ⟨fun i _ => ?_, ?_⟩⟩, OL.fr L1 ((kv.fr _).trans e3') (fun b hb c => c.2 (.inr (by cases hb; rfl))), (R1.trans (kv.fr _)).trans (e3'.less fun _ => .inl)⟩
        · unfold zerM
          rw [if_neg (fun c => by rw [c, xz] at hz; cases hz)]
        · rw [← e3]
          unfold putC
          rw [if_neg (fun c => by rw [c, xz] at hz; cases hz)]
      have kf := fun v => frameOf_any (x * 4096) v (by have := HH.out.1.fw.nums; omega)
      rw [Nat.mul_div_cancel _ (by decide)] at kf
      have c0 := F1.tx.c0
      have kd := fun v kv => KD.out v kv
      have y1 : (k : Int) < n := by omega
      have C0 : Aside (wr.cell? ⟨bt, 0, none⟩ = some (.pointer (some ⟨p, 0, none⟩))) := c0
      clear F1 O1 L1 R1 HI hkL hx xp xc xz nin c1 e3 KD hn
      generalize x * 4096 = xa at *
      go_wp2_with fail
      go_region_held3 (fun v => v.cell? ⟨bt, 0, none⟩ = some (.pointer (some ⟨p, 0, none⟩))) (first | exact c0 | exact d0 | go_keep)
        (first | (go_at_call 65; with_reducible refine (kf _).mono ?_; rintro _ w' ⟨rfl, rfl⟩) | (go_at_call 67; with_reducible refine (kd _ (by first | exact Kp.refl _ | exact (Kp.refl _).drew | exact (Kp.refl _).drewN _)).mono ?_; rintro _ w2 ⟨rfl, d0, H2⟩))
      go_wp2_with fail
      go_roundg (n + 1 - (k + 1))
      case measure => omega
      case rel => exact ⟨k + 1, by go_num, by omega, by omega, H2⟩
    · have ek : k = n := by omega
      subst ek
      obtain ⟨⟨M1, F1, O1⟩, L1, R1⟩ := HI.out
      have t0 := F1.tx.c0
      have t1 := F1.tx.c1
      have fz0 := frozen_of_row wr bt 0 _ _ F1.tx
      have fz1 := frozen_of_row wr bt 1 _ _ F1.tx
      rw [List.take_of_length_le (by omega)] at F1 O1
      have HF : Hid ((∃ M1, FT W (fun i => X i ∨ i = g) wr bt p pm N pool o M1 (offC C L) root ∧ Ot Z M C M1 (offC C L)) ∧ Fr (Out W X) w wr) := ⟨⟨M1, F1, O1⟩, R1⟩
      clear F1 O1 L1 R1 HI hn
      generalize root * 4096 = ra at t1
      go_wp2
      go_ret
      obtain ⟨⟨M1, F1, O1⟩, R1⟩ := HF.out
      have kf : Fr (· = bt) wr ((wr.setCell ⟨bt, 0, none⟩ (.pointer none)).setCell ⟨bt, 1, none⟩ (.int .u64 0)) := ((Fr.refl (· = bt) wr).set ⟨bt, 0, none⟩ _ rfl).set ⟨bt, 1, none⟩ _ rfl
      refine ⟨rfl, ⟨M1, ?_, O1⟩, row_two _ _ F1.tx, ?_⟩
      · exact (F1.fw.frX kf (fun i c => ⟨by rw [c]; exact F1.bw, by rw [c]; exact F1.xb⟩)).less (fun _ => .inl)
      · exact (R1.mono (fun i _ hi => .inl hi)).trans (kf.mono (fun i _ hi => .inr hi))
end
end Go.Proofs.YtanlcmdnhhdhaaaGreatDoor

/- stage2: pages that have no way, and tables that are gone: Unmap, Split, Join, Protect, Free; Protect and Join, refused. -/
namespace Go.Proofs.YtanlcmdnhhdhaaaGreatDoor
open Go.RowKit
set_option maxRecDepth 10000

set_option maxHeartbeats 4000000 in
theorem single_nw {w : World} {b page : Nat} (h : NW w b page) : Calls Tryz.prog 63 #[.pointer (some ⟨b, 0, none⟩), .int .u64 (page : Int)] w fun e w' => e = .returned (.tuple #[.slice none 0 0, .int .i64 23]) ∧ w' = w := by
  have k1 := way_no h
  clear h
  go_enter Tryz.func63, Tryz.ntmps63
  go_wp2_with (go_at_call 54; with_reducible refine k1.mono ?_; rintro e w' ⟨rfl, rfl⟩)
  go_ret2
  exact ⟨rfl, rfl⟩
set_option maxHeartbeats 4000000 in
theorem unmap_nw {w : World} {b page : Nat} (h : NW w b page) : Calls Tryz.prog 23 #[.pointer (some ⟨b, 0, none⟩), .int .u64 (page : Int)] w fun e w' => e = .returned (.tuple #[.int .i64 0, .int .i64 23]) ∧ w' = w := by
  have k1 := single_nw h
  clear h
  go_enter Tryz.func23, Tryz.ntmps23
  go_wp2_with (go_at_call 63; with_reducible refine k1.mono ?_; rintro e w' ⟨rfl, rfl⟩)
  go_ret2
  exact ⟨rfl, rfl⟩
set_option maxHeartbeats 4000000 in
theorem split_nw {w : World} {b page : Nat} (h : NW w b page) : Calls Tryz.prog 36 #[.pointer (some ⟨b, 0, none⟩), .int .u64 (page : Int)] w fun e w' => e = .returned (.int .i64 23) ∧ w' = w := by
  have k1 := way_no h
  clear h
  go_enter Tryz.func36, Tryz.ntmps36
  go_wp2_with (go_at_call 54; with_reducible refine k1.mono ?_; rintro e w' ⟨rfl, rfl⟩)
  go_ret
  exact ⟨rfl, rfl⟩
set_option maxHeartbeats 4000000 in
theorem join_nw {w : World} {b page : Nat} (h : NW w b page) : Calls Tryz.prog 38 #[.pointer (some ⟨b, 0, none⟩), .int .u64 (page : Int)] w fun e w' => e = .returned (.int .i64 23) ∧ w' = w := by
  have k1 := way_no h
  clear h
  go_enter Tryz.func38, Tryz.ntmps38
  go_wp2_with (go_at_call 54; with_reducible refine k1.mono ?_; rintro e w' ⟨rfl, rfl⟩)
  go_ret
  exact ⟨rfl, rfl⟩
set_option maxHeartbeats 4000000 in
theorem protect_gone {w : World} {b : Nat} (h : TXn w b) (page : Nat) (r q x : Bool) (s : Int) : Calls Tryz.prog 34 #[.pointer (some ⟨b, 0, none⟩), .int .u64 (page : Int), .agg #[.bool r, .bool q, .bool x], .int .i64 s] w fun e w' => e = .returned (.int .i64 23) ∧ Kp w w' := by
  have hk := fun ob => h.kp ((Kp.refl w).alloc ob)
  have c0 := fun ob => (hk ob).c0
  have k1 := fun ob => way_no (page := page) (.inl (hk ob))
  clear h hk
  go_enter Tryz.func34, Tryz.ntmps34
  go_wp2_with (go_at_call 54; with_reducible refine (k1 _).mono ?_; rintro e w' ⟨rfl, rfl⟩)
  go_ret
  exact ⟨rfl, (Kp.refl _).alloc _⟩
set_option maxHeartbeats 4000000 in
theorem free_gone {w : World} {b : Nat} (h : TXn w b) : Calls Tryz.prog 25 #[.pointer (some ⟨b, 0, none⟩)] w fun e w' => e = .returned (.int .i64 23) ∧ w' = w := by
  have c0 := h.c0
  clear h
  go_enter Tryz.func25, Tryz.ntmps25
  go_wp2
  go_ret
  exact ⟨rfl, rfl⟩
set_option maxHeartbeats 4000000 in
theorem protect_arg {w : World} {b p root : Nat} (h : TX w b p root) (page : Nat) (r q x : Bool) (s : Int) (hc : canB r q s = false) : Calls Tryz.prog 34 #[.pointer (some ⟨b, 0, none⟩), .int .u64 (page : Int), .agg #[.bool r, .bool q, .bool x], .int .i64 s] w fun e w' => e = .returned (.int .i64 1) ∧ Kp w w' := by
  have c0 := fun ob => (h.kp ((Kp.refl w).alloc ob)).c0
  have kc := canBe_any r q x s
  rw [hc] at kc
  have q0 := eql_frames p
  clear h hc
  go_enter Tryz.func34, Tryz.ntmps34
  go_wp2_with fail
  with_reducible refine (kc _).mono ?_
  rintro e w1 ⟨rfl, K1⟩
  clear kc c0
  go_wp2
  go_ret
  exact ⟨rfl, ((Kp.refl _).alloc _).trans K1⟩
set_option maxHeartbeats 4000000 in
theorem protect_far {w : World} {b p root : Nat} (h : TX w b p root) (page : Nat) (r q x : Bool) (s : Int) (hc : canB r q s = true) (hp : 268435456 ≤ page) : Calls Tryz.prog 34 #[.pointer (some ⟨b, 0, none⟩), .int .u64 (page : Int), .agg #[.bool r, .bool q, .bool x], .int .i64 s] w fun e w' => e = .returned (.int .i64 23) ∧ Kp w w' := by
  have c0 := fun ob => (h.kp ((Kp.refl w).alloc ob)).c0
  have KW : Aside (∀ u, Kp w u → Calls Tryz.prog 54 #[.pointer (some ⟨b, 0, none⟩), .int .u64 (page : Int)] u fun e w' => e = .returned (.tuple #[.slice none 0 0, .bool false]) ∧ w' = u) := fun u k => way_no (.inr ⟨⟨p, root, h.kp k⟩, hp⟩)
  have kc := canBe_any r q x s
  rw [hc] at kc
  have q0 := eql_frames p
  clear h hc hp
  go_enter Tryz.func34, Tryz.ntmps34
  go_wp2_with fail
  with_reducible refine (kc _).mono ?_
  rintro e w1 ⟨rfl, K1⟩
  have K2 : Kp w w1 := ((Kp.refl _).alloc _).trans K1
  have kw := KW.out w1 K2
  have HK : Hid (Kp w w1) := K2
  clear kc c0 K1 K2 KW
  go_wp2_with (go_at_call 54; with_reducible refine kw.mono ?_; rintro e w' ⟨rfl, rfl⟩)
  go_ret
  exact ⟨rfl, HK.out⟩
section
variable {W w w' : World} {X Y : Nat → Prop} {bt p pm N pool o : Nat} {M : Nat → Nat → Nat} {C : Nat → Nat} {Z : Nat → Bool} {root : Nat} {E : Nat → Nat → DV}
set_option maxHeartbeats 4000000 in
theorem protect_none (h : TS W X w bt p pm N pool o M C Z root E) (page : Nat) (r q x : Bool) (s : Int) (hp : page < 268435456) (ho : o < 2000000000000000000) (hc : canB r q s = true) (hk : (enG E page).k = 0) :
    Calls Tryz.prog 34 #[.pointer (some ⟨bt, 0, none⟩), .int .u64 (page : Int), .agg #[.bool r, .bool q, .bool x], .int .i64 s] w fun e w' => e = .returned (.int .i64 23) ∧ TS W X w' bt p pm N pool (o + 4) M C Z root E ∧ Fr (Out W X) w w' := by
  have c0 := fun ob => (h.tx.kp ((Kp.refl w).alloc ob)).c0
  have KW : Aside (∀ u, Kp w u → Calls Tryz.prog 54 #[.pointer (some ⟨bt, 0, none⟩), .int .u64 (page : Int)] u fun e w' => e = .returned (.tuple #[.slice (some ⟨u.heap.size, 0, none⟩) (lvG E page + 1) 4, .bool false]) ∧ Hid (TS W X w' bt p pm N pool (o + 4) M C Z root E ∧ Fr (Out W X) w w')) := fun u k => by
    have k1 := way_any (h.kps k) page hp (by omega)
    rw [decide_eq_false (by simpa using hk)] at k1
    exact k1.mono fun e w' ⟨e1, _, e3, e4⟩ => ⟨e1, e3.less (fun _ => .inl) h.xb, (k.fr _).trans e4⟩
  have kc := canBe_any r q x s
  rw [hc] at kc
  have q0 := eql_frames p
  clear h hc hp ho hk
  generalize lvG E page = l at *
  go_enter Tryz.func34, Tryz.ntmps34
  go_wp2_with fail
  with_reducible refine (kc _).mono ?_
  rintro e w1 ⟨rfl, K1⟩
  have kw := KW.out w1 (((Kp.refl _).alloc _).trans K1)
  clear kc c0 K1 KW
  go_wp2_with fail
  with_reducible refine kw.mono ?_
  rintro e w2 ⟨rfl, H2⟩
  clear kw
  go_wp2
  go_ret
  exact ⟨rfl, H2.out⟩
end
end Go.Proofs.YtanlcmdnhhdhaaaGreatDoor
