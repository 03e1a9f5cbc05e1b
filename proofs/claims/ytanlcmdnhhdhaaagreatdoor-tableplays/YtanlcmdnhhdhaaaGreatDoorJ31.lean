/- Joined: R64, R30, R31, R32, R4A. -/
import Derived.Test.YtanlcmdnhhdhaaaGreatDoorJ30
import Derived.Test.YtanlcmdnhhdhaaaGreatDoorJ29
/- stage2: each of the table's calls, for every page. -/
namespace Go.Proofs.YtanlcmdnhhdhaaaGreatDoor
open Go.RowKit
set_option maxRecDepth 10000

section
variable {W w w' : World} {X Y : Nat → Prop} {bt p pm N pool o o' : Nat} {M : Nat → Nat → Nat} {C C' : Nat → Nat} {Z : Nat → Bool} {root : Nat} {E E' : Nat → Nat → DV}
theorem AC.le (h : AC W X w w' bt p pm N pool o M C Z root C' E') (ho : o ≤ o') : AC W X w w' bt p pm N pool o' M C Z root C' E' := by
  obtain ⟨M', a, b⟩ := h.ts
  exact ⟨⟨M', a.le ho, b⟩, h.ne, h.fr⟩
theorem AC.idle (h : TS W X w bt p pm N pool o M C Z root E) (ne : NE root E (fun _ _ => False)) (k : Kp w w') (ho : o ≤ o') : AC W X w w' bt p pm N pool o' M C Z root C E := AC.same ne (h.kps k) ho (k.fr _)
theorem TS.nw (h : TS W X w bt p pm N pool o M C Z root E) {page : Nat} (hp : ¬ page < 268435456) : NW w bt page := .inr ⟨⟨p, root, h.tx⟩, by omega⟩
/-- What a page is told to be. -/
def isP (E : Nat → Nat → DV) (page : Nat) : Bool := decide (page < 268435456) && decide ((enG E page).k ≠ 0)
def getP (E : Nat → Nat → DV) (page : Nat) : LV := if page < 268435456 then getN E page else lvZ
def needP (E : Nat → Nat → DV) (page : Nat) : Nat := if page < 268435456 then needN E page else 0
theorem pget_any (h : TS W X w bt p pm N pool o M C Z root E) (page : Nat) (ho : o < 2000000000000000000) :
    Calls Tryz.prog 18 #[.pointer (some ⟨bt, 0, none⟩), .int .u64 (page : Int)] w fun e w' => e = .returned (.tuple #[lvV (getP E page), .bool (isP E page)]) ∧ TS W X w' bt p pm N pool (o + 4) M C Z root E ∧ Fr (Out W X) w w' := by
  unfold getP isP
  by_cases c : page < 268435456
  · rw [if_pos c, decide_eq_true c, Bool.true_and]
    exact get_any h page c (by omega)
  · rw [if_neg c, decide_eq_false c, Bool.false_and]
    exact (get_no (h.nw c)).mono fun e w' ⟨e1, e2⟩ => ⟨e1, (h.kps e2).le (by omega), e2.fr _⟩
theorem pneed_any (h : TS W X w bt p pm N pool o M C Z root E) (page : Nat) (ho : o < 2000000000000000000) :
    Calls Tryz.prog 42 #[.pointer (some ⟨bt, 0, none⟩), .int .u64 (page : Int)] w fun e w' => e = .returned (.int .i64 (needP E page : Nat)) ∧ TS W X w' bt p pm N pool (o + 4) M C Z root E ∧ Fr (Out W X) w w' := by
  unfold needP
  by_cases c : page < 268435456
  · rw [if_pos c]
    exact need_any h page c (by omega)
  · rw [if_neg c]
    exact (need_no (h.nw c)).mono fun e w' ⟨e1, e2⟩ => ⟨e1, by rw [e2]; exact h.le (by omega), by rw [e2]; exact Fr.refl _ _⟩
/-- Unmap. -/
def unR (pool : Nat) (C : Nat → Nat) (E : Nat → Nat → DV) (page : Nat) : Int := if isP E page = false then 23 else if (enG E page).k = 2 ∧ spR pool C ≠ 0 then 11 else 0
def UnP (pool : Nat) (C : Nat → Nat) (Z : Nat → Bool) (root : Nat) (E E' : Nat → Nat → DV) (page fx : Nat) : Prop := ∃ M1 C1 E1, TG M1 C1 pool Z root E1 ∧ LR pool C C1 E E1 page ∧ fx = (enG E1 page).a / 4096 ∧ ∀ l j, l ≤ 3 → lfD E' l j = if l = 3 ∧ j = page then dN else lfD E1 l j
theorem punmap_any (h : TS W X w bt p pm N pool o M C Z root E) (ne : NE root E (fun _ _ => False)) (page : Nat) (ho : o < 2000000000000000000) :
    Calls Tryz.prog 23 #[.pointer (some ⟨bt, 0, none⟩), .int .u64 (page : Int)] w fun e w' => ∃ fx : Nat, e = .returned (.tuple #[.int .i64 (fx : Int), .int .i64 (unR pool C E page)]) ∧ ∃ C' E', AC W X w w' bt p pm N pool (o + 600) M C Z root C' E' ∧ (unR pool C E page ≠ 0 → fx = 0 ∧ C' = C ∧ E' = E) ∧ (unR pool C E page = 0 → UnP pool C Z root E E' page fx) := by
  unfold unR isP
  by_cases c : page < 268435456
  · rw [decide_eq_true c, Bool.true_and]
    by_cases c2 : (enG E page).k = 0
    · rw [if_pos (decide_eq_false (fun a => a c2))]
      exact (unmap_no h ne page c ho c2).mono fun e w' ⟨e1, e2⟩ => ⟨0, e1, C, E, e2.le (by omega), fun _ => ⟨rfl, rfl, rfl⟩, fun a => by cases a⟩
    · rw [if_neg (by rw [decide_eq_true c2]; decide)]
      by_cases c3 : (enG E page).k = 2 ∧ spR pool C ≠ 0
      · rw [if_pos c3]
        exact (unmap_full h ne page c ho c3.1 c3.2).mono fun e w' ⟨e1, e2⟩ => ⟨0, e1, C, E, e2.le (by omega), fun _ => ⟨rfl, rfl, rfl⟩, fun a => by cases a⟩
      · rw [if_neg c3]
        refine (unmap_ok h ne page c ho c2 (fun a => Decidable.byContradiction fun b => c3 ⟨a, b⟩)).mono ?_
        rintro e w' ⟨C1, E1, e1, C', E', ac, lr, l2, M1, g1⟩
        exact ⟨_, e1, C', E', ac.le (by omega), fun a => absurd rfl a, fun _ => ⟨M1, C1, E1, g1, lr, rfl, l2⟩⟩
  · rw [decide_eq_false c, Bool.false_and, if_pos rfl]
    exact (unmap_nw (h.nw c)).mono fun e w' ⟨e1, e2⟩ => ⟨0, e1, C, E, AC.idle h ne (by rw [e2]; exact Kp.refl _) (by omega), fun _ => ⟨rfl, rfl, rfl⟩, fun a => by cases a⟩
/-- Split. -/
def spP (pool : Nat) (C : Nat → Nat) (E : Nat → Nat → DV) (page : Nat) : Int := if isP E page = false then 23 else if (enG E page).k = 3 then 20 else spR pool C
theorem psplit_any (h : TS W X w bt p pm N pool o M C Z root E) (ne : NE root E (fun _ _ => False)) (page : Nat) (ho : o < 2000000000000000000) :
    Calls Tryz.prog 36 #[.pointer (some ⟨bt, 0, none⟩), .int .u64 (page : Int)] w fun e w' => e = .returned (.int .i64 (spP pool C E page)) ∧ ∃ C' E', AC W X w w' bt p pm N pool (o + 600) M C Z root C' E' ∧ (spP pool C E page ≠ 0 → C' = C ∧ E' = E) ∧ (spP pool C E page = 0 → cnt (fT pool C') pool + 1 = cnt (fT pool C) pool ∧ SpL E E' (page / 512)) := by
  by_cases c : page < 268435456
  · have e0 : spP pool C E page = splR pool C E page := by
      unfold spP splR isP
      rw [decide_eq_true c, Bool.true_and]
      by_cases c2 : (enG E page).k = 0
      · rw [if_pos (decide_eq_false (fun a => a c2)), if_pos c2]
      · rw [if_neg (by rw [decide_eq_true c2]; decide), if_neg c2]
    rw [e0]
    refine (tsplit_any h ne page c ho).mono ?_
    rintro e w' ⟨e1, C', E', ac, a1, a2⟩
    exact ⟨e1, C', E', ac.le (by omega), a1, a2⟩
  · have e0 : spP pool C E page = 23 := by unfold spP isP; rw [decide_eq_false c, Bool.false_and, if_pos rfl]
    rw [e0]
    exact (split_nw (h.nw c)).mono fun e w' ⟨e1, e2⟩ => ⟨e1, C, E, AC.idle h ne (by rw [e2]; exact Kp.refl _) (by omega), fun _ => ⟨rfl, rfl⟩, fun a => by cases a⟩
/-- Join. -/
theorem pjoin_any (h : TS W X w bt p pm N pool o M C Z root E) (ne : NE root E (fun _ _ => False)) (page : Nat) (ho : o < 2000000000000000000) :
    Calls Tryz.prog 38 #[.pointer (some ⟨bt, 0, none⟩), .int .u64 (page : Int)] w fun e w' => ∃ rr : Int, e = .returned (.int .i64 rr) ∧ ∃ C' E', AC W X w w' bt p pm N pool (o + 600) M C Z root C' E' ∧ ((rr = 23 ∧ isP E page = false ∧ C' = C ∧ E' = E) ∨ (rr = 20 ∧ isP E page = true ∧ ((enG E page).k = 2 ∨ ((enG E page).k = 3 ∧ ¬ joinB E page)) ∧ C' = C ∧ E' = E) ∨ (rr = 0 ∧ isP E page = true ∧ (enG E page).k = 3 ∧ joinB E page ∧ cnt (fT pool C') pool = cnt (fT pool C) pool + 1 ∧ JnL E E' (page / 512) (bkD (E 3 (512 * (page / 512)))))) := by
  by_cases c : page < 268435456
  · by_cases c2 : (enG E page).k = 0
    · exact (join_none h page c ho c2).mono fun e w' ⟨e1, e2, e3⟩ => ⟨23, e1, C, E, AC.same ne e2 (by omega) e3, .inl ⟨rfl, by unfold isP; rw [show decide ((enG E page).k ≠ 0) = false from decide_eq_false (fun a => a c2), Bool.and_false], rfl, rfl⟩⟩
    · have is : isP E page = true := by unfold isP; rw [decide_eq_true c, decide_eq_true c2]; rfl
      rcases h.tg.leafK c2 with ⟨k2, _⟩ | ⟨k3, _⟩
      · exact (join_block h page c ho k2).mono fun e w' ⟨e1, e2, e3⟩ => ⟨20, e1, C, E, AC.same ne e2 (by omega) e3, .inr (.inl ⟨rfl, is, .inl k2, rfl, rfl⟩)⟩
      · refine (join_three h ne page c ho k3).mono ?_
        rintro e w' ⟨t, e1, ht, C', E', ac, hf, hg⟩
        cases t
        · obtain ⟨rfl, rfl⟩ := hf rfl
          exact ⟨20, e1, C', E', ac.le (by omega), .inr (.inl ⟨rfl, is, .inr ⟨k3, fun a => by cases ht.2 a⟩, rfl, rfl⟩)⟩
        · obtain ⟨a1, a2⟩ := hg rfl
          exact ⟨0, e1, C', E', ac.le (by omega), .inr (.inr ⟨rfl, is, k3, ht.1 rfl, a1, a2⟩)⟩
  · exact (join_nw (h.nw c)).mono fun e w' ⟨e1, e2⟩ => ⟨23, e1, C, E, AC.idle h ne (by rw [e2]; exact Kp.refl _) (by omega), .inl ⟨rfl, by unfold isP; rw [decide_eq_false c, Bool.false_and], rfl, rfl⟩⟩
/-- Protect. -/
def prR (pool : Nat) (C : Nat → Nat) (E : Nat → Nat → DV) (page : Nat) (r q x : Bool) (s : Int) : Int := if canB r q s = false then 1 else if isP E page = false then 23 else if same4 (enG E page) r q x s = true then 0 else if (enG E page).k = 2 ∧ spR pool C ≠ 0 then 11 else 0
theorem pprot_any (h : TS W X w bt p pm N pool o M C Z root E) (ne : NE root E (fun _ _ => False)) (page : Nat) (r q x : Bool) (s : Int) (ho : o < 2000000000000000000) :
    Calls Tryz.prog 34 #[.pointer (some ⟨bt, 0, none⟩), .int .u64 (page : Int), .agg #[.bool r, .bool q, .bool x], .int .i64 s] w fun e w' => e = .returned (.int .i64 (prR pool C E page r q x s)) ∧ ∃ C' E', AC W X w w' bt p pm N pool (o + 600) M C Z root C' E' ∧ (prR pool C E page r q x s ≠ 0 → C' = C ∧ E' = E) ∧ (prR pool C E page r q x s = 0 → (same4 (enG E page) r q x s = true ∧ C' = C ∧ E' = E) ∨ ∃ M1 E1, same4 (enG E page) r q x s = false ∧ TG M1 C' pool Z root E1 ∧ LR pool C C' E E1 page ∧ ∀ a b, a ≤ 3 → lfD E' a b = if a = 3 ∧ b = page then ⟨3, (enG E1 page).a, r, q, x, s⟩ else lfD E1 a b) := by
  unfold prR
  by_cases c0 : canB r q s = false
  · rw [if_pos c0]
    exact (protect_arg h.tx page r q x s c0).mono fun e w' ⟨e1, e2⟩ => ⟨e1, C, E, AC.idle h ne e2 (by omega), fun _ => ⟨rfl, rfl⟩, fun a => by cases a⟩
  · rw [if_neg c0]
    have hc : canB r q s = true := by simpa using c0
    unfold isP
    by_cases c : page < 268435456
    · rw [decide_eq_true c, Bool.true_and]
      by_cases c2 : (enG E page).k = 0
      · rw [if_pos (decide_eq_false (fun a => a c2))]
        exact (protect_none h page r q x s c ho hc c2).mono fun e w' ⟨e1, e2, e3⟩ => ⟨e1, C, E, AC.same ne e2 (by omega) e3, fun _ => ⟨rfl, rfl⟩, fun a => by cases a⟩
      · rw [if_neg (by rw [decide_eq_true c2]; decide)]
        by_cases c3 : same4 (enG E page) r q x s = true
        · rw [if_pos c3]
          exact (protect_same h page r q x s c ho hc c2 c3).mono fun e w' ⟨e1, e2, e3⟩ => ⟨e1, C, E, AC.same ne e2 (by omega) e3, fun a => absurd rfl a, fun _ => .inl ⟨c3, rfl, rfl⟩⟩
        · rw [if_neg c3]
          have ns : same4 (enG E page) r q x s = false := by simpa using c3
          by_cases c4 : (enG E page).k = 2 ∧ spR pool C ≠ 0
          · rw [if_pos c4]
            exact (protect_full h ne page r q x s c ho hc c4.1 ns c4.2).mono fun e w' ⟨e1, e2⟩ => ⟨e1, C, E, e2.le (by omega), fun _ => ⟨rfl, rfl⟩, fun a => by cases a⟩
          · rw [if_neg c4]
            refine (protect_ok h ne page r q x s c ho hc c2 ns (fun a => Decidable.byContradiction fun b => c4 ⟨a, b⟩)).mono ?_
            rintro e w' ⟨e1, C', E1, E', ac, lr, l2, M1, g1⟩
            exact ⟨e1, C', E', ac.le (by omega), fun a => absurd rfl a, fun _ => .inr ⟨M1, E1, ns, g1, lr, l2⟩⟩
    · rw [decide_eq_false c, Bool.false_and, if_pos rfl]
      exact (protect_far h.tx page r q x s hc (by omega)).mono fun e w' ⟨e1, e2⟩ => ⟨e1, C, E, AC.idle h ne e2 (by omega), fun _ => ⟨rfl, rfl⟩, fun a => by cases a⟩
end
end Go.Proofs.YtanlcmdnhhdhaaaGreatDoor

/- stage2: told. -/
namespace Go.Proofs.YtanlcmdnhhdhaaaGreatDoor
open Go.RowKit
set_option maxRecDepth 10000

theorem cntT_all (pool : Nat) : cnt (fT pool (fun _ => 0)) pool = pool := by
  have := cnt_step (F := fT pool (fun _ => 0)) (a := 0) (b := pool) (Nat.zero_le _) (fun k _ h => (fT_iff ..).2 ⟨h, rfl⟩)
  rw [this]; show 0 + (pool - 0) = pool; omega
theorem lvG_eN (page : Nat) : lvG eN page = 0 := by unfold lvG; rw [if_pos (by show ¬ (0 : Int) = 1; decide)]
theorem enG_eN (page : Nat) : enG eN page = dN := rfl
/-- No leaf: the root alone. -/
theorem TG.bare {M : Nat → Nat → Nat} {C : Nat → Nat} {pool root : Nat} {Z : Nat → Bool} {E : Nat → Nat → DV} (h : TG M C pool Z root E) (ne : NE root E (fun _ _ => False)) (hl : ∀ l j, l ≤ 3 → lfD E l j = dN) : (tabsA root E).length = 1 := by
  have noT : ∀ n l j, l + n = 3 → (E l j).k = 0 := fun n => by
    induction n with
    | zero =>
      intro l j e
      obtain rfl : l = 3 := by omega
      have := hl 3 j (by omega)
      rw [h.lf3] at this
      rw [this]; rfl
    | succ n ih =>
      intro l j e
      by_cases c : (E l j).k = 1
      · obtain ⟨i, hi, hk⟩ := ne (l + 1) j ((E l j).a / 4096) (by omega) (by omega) (fun c => c) (by rw [tbl_succ, if_pos c])
        exact absurd (ih (l + 1) _ (by omega)) hk
      · have := hl l j (by omega)
        unfold lfD at this
        rw [if_neg c] at this
        rw [this]; rfl
  have e : trv E visT deepA 4 0 0 = [] := by
    rw [List.eq_nil_iff_forall_not_mem]
    intro x hx
    obtain ⟨m, e, a1, a2, _⟩ := (mem_trv h x).1 hx
    exact a2 (noT (3 - m) m e (by omega))
  unfold tabsA
  rw [h.trvT, e]
  rfl
section
variable {W w w' : World} {X : Nat → Prop} {b : Nat} {r q x : Bool}
theorem PX.frO (h : PX w b r q x) (k : Fr (Out W X) w w') (hb : X b) : PX w' b r q x := (k.block b h.lt (fun c => c.2 hb)).trans h
theorem LB.frO {v : LV} (h : LB w b v) (k : Fr (Out W X) w w') (hb : X b) : LB w' b v := h.fr k (fun c => c.2 hb)
end
theorem root_gone {w : World} {b : Nat} (h : TXn w b) : Calls Tryz.prog 15 #[.pointer (some ⟨b, 0, none⟩)] w fun e w' => e = .returned (.int .u64 0) ∧ w' = w := by
  have c1 := h.c1
  clear h
  go_enter Tryz.func15, Tryz.ntmps15
  go_wp2
  go_ret
  exact ⟨rfl, rfl⟩
set_option maxHeartbeats 8000000 in
theorem told_any (w : World) (T : TAB w) : Calls Tryz.prog 12 #[] w fun e w' => e = .returned (.bool true) ∧ Kp w w' := by
  have k1 := begun_any 8 w T (by omega) (by omega)
  rw [show ((8 : Nat) : Int) = 8 from rfl] at k1
  have q3 : ∀ p (w : World), (binOp .eql 27 (.pointer (some ⟨p, 0, none⟩)) (.pointer none)).run Tryz.prog w = .ok (.bool false) w := fun p w => by kernel_rfl
  clear T
  go_enter Tryz.func12, Tryz.ntmps12
  go_wp2_with fail
  with_reducible refine k1.mono ?_
  rintro e w1 ⟨pm, p, M, rfl, f1⟩
  have kn := tnew_nil
  obtain ⟨y, hy⟩ := tk_there (F := fT 8 (fun _ => 0)) (hi := 8) (by rw [cntT_all]; omega)
  have k2 := tnew_ok (Z := fun _ => false) f1 y hy (fun x => ⟨(fun c => by cases c), fun c => absurd rfl c⟩)
  have fy := hy.free
  have HC : Hid (cnt (fT 8 (putC (fun _ => 0) y 1)) 8 + 1 = 8) := by have := cnt_take (C := fun _ => 0) fy.1 rfl; rw [cntT_all] at this; exact this
  clear k1 f1 hy fy
  go_wp2_with fail
  with_reducible refine (kn _).mono ?_
  rintro e w' ⟨rfl, rfl⟩
  go_wp2_with fail
  with_reducible refine k2.mono ?_
  rintro e w3 ⟨⟨bt, rfl, t3, hbt⟩, r3⟩
  have k4 : Kp w3 (w3.alloc (.cells #[.bool true, .bool true, .bool false] 39)) := (Kp.refl w3).alloc _
  have t4 := t3.more k4 w3.heap.size (Nat.le_refl _) (by simp)
  have P4 : PX (w3.alloc (.cells #[.bool true, .bool true, .bool false] 39)) w3.heap.size true true false := heap_alloc_new w3 _
  have kN := need_any t4 0 (by omega) (by omega)
  rw [show needN eN 0 = 3 from by unfold needN; rw [enG_eN, lvG_eN, if_neg (by decide)], show ((3 : Nat) : Int) = 3 from rfl, show ((0 : Nat) : Int) = 0 from rfl] at kN
  have HP : Hid (PX (w3.alloc (.cells #[.bool true, .bool true, .bool false] 39)) w3.heap.size true true false) := P4
  clear k2 t3 r3 kn t4 k4 P4 hbt
  generalize hbp : w3.heap.size = bp at *
  go_wp2_with fail
  with_reducible refine kN.mono ?_
  rintro e w5 ⟨rfl, t5, r5⟩
  have P5 := HP.out.frO r5 (.inr rfl)
  have kM := map_any t5 (NE.made y) 0 9 true true false 0 (by omega)
  have eR : mapR 2100 8 (putC (fun _ => 0) y 1) eN 0 9 true true 0 = 0 := by
    unfold mapR plR
    rw [if_neg (by decide), if_neg (by decide), enG_eN, lvG_eN, if_neg (by simp [dN]), if_neg (by have := HC.out; omega)]
  rw [eR, show ((0 : Nat) : Int) = 0 from rfl] at kM
  have HP5 : Hid (PX w5 bp true true false) := P5
  have p0 := P5.c0
  have p1 := P5.c1
  have p2 := P5.c2
  clear kN t5 r5 P5 HP
  go_wp2_with fail
  with_reducible refine kM.mono ?_
  rintro e w6 ⟨rfl, C6, E6, a6, _, b6⟩
  obtain ⟨n6, l6⟩ := b6 rfl
  obtain ⟨⟨M6, t6, _⟩, ne6, r6⟩ := a6
  have P6 := HP5.out.frO r6 (.inr rfl)
  have lf3 : lfD E6 3 0 = ⟨3, 36864, true, true, false, 0⟩ := by rw [l6 3 0 (by omega), if_pos ⟨rfl, rfl⟩]; rfl
  have pg := t6.tg.pg (page := 0)
  have pd : pgD E6 0 = ⟨3, 36864, true, true, false, 0⟩ := by unfold pgD; rw [lf3, if_pos (by decide)]
  have pl : pgL E6 0 = 3 := by unfold pgL; rw [lf3, if_pos (by decide)]
  have ek : (enG E6 0).k ≠ 0 := pg.1.2 (by rw [pd]; decide)
  obtain ⟨een, elv⟩ := pg.2 ek
  rw [pd] at een
  rw [pl] at elv
  have kG := get_any t6 0 (by omega) (by omega)
  have eg : getN E6 0 = ⟨0, 9, true, true, false, 0, 3⟩ := by unfold getN; rw [if_pos ek, een, elv]; rfl
  rw [eg, decide_eq_true ek, show ((0 : Nat) : Int) = 0 from rfl] at kG
  have HG : Hid ((enG E6 0).k = 3 ∧ (enG E6 0).a / 4096 = 9 ∧ lvG E6 0 = 3 ∧ NE y E6 (fun _ _ => False) ∧ cnt (fT 8 C6) 8 + (3 - lvG eN 0) = cnt (fT 8 (putC (fun _ => 0) y 1)) 8 ∧ ∀ a b, a ≤ 3 → lfD E6 a b = if a = 3 ∧ b = qn 0 3 then ⟨3, Int.toNat 9 * 4096, true, true, false, 0⟩ else lfD eN a b) := ⟨by rw [een], by rw [een]; rfl, elv, ne6, n6, l6⟩
  have HP6 : Hid (PX w6 bp true true false) := P6
  clear kM n6 l6 t6 ne6 r6 P6 lf3 pg pd pl ek een elv eg eR p0 p1 p2 HP5 b6
  go_wp2_with fail
  with_reducible refine kG.mono ?_
  rintro e w7 ⟨rfl, t7, r7⟩
  have kb : Kp w7 (w7.alloc (.cells #[.int .u64 0, .int .i64 9, .bool true, .bool true, .bool false, .int .i64 0, .int .i64 3] 58)) := (Kp.refl w7).alloc _
  have t8 := t7.more kb w7.heap.size (Nat.le_refl _) (by simp)
  have P8 := (HP6.out.frO r7 (.inr rfl)).kp kb
  have B8 : LB (w7.alloc (.cells #[.int .u64 0, .int .i64 9, .bool true, .bool true, .bool false, .int .i64 0, .int .i64 3] 58)) w7.heap.size ⟨0, 9, true, true, false, 0, 3⟩ := heap_alloc_new w7 _
  have kT := tcount_any t8
  have e4 : cnt (ownC C6 (fun _ => false)) 8 = 4 := by
    have := cnt_alone 8 C6
    have := HG.out.2.2.2.2.1
    have := HC.out
    rw [lvG_eN] at *
    omega
  rw [e4, show ((4 : Nat) : Int) = 4 from rfl] at kT
  have H8 : Hid (TS w (fun i => ((False ∨ i = bt) ∨ i = bp) ∨ i = w7.heap.size) (w7.alloc (.cells #[.int .u64 0, .int .i64 9, .bool true, .bool true, .bool false, .int .i64 0, .int .i64 3] 58)) bt p pm 2100 8 (0 + 4 + 12 + 4) M6 C6 (fun _ => false) y E6 ∧ PX (w7.alloc (.cells #[.int .u64 0, .int .i64 9, .bool true, .bool true, .bool false, .int .i64 0, .int .i64 3] 58)) bp true true false ∧ LB (w7.alloc (.cells #[.int .u64 0, .int .i64 9, .bool true, .bool true, .bool false, .int .i64 0, .int .i64 3] 58)) w7.heap.size ⟨0, 9, true, true, false, 0, 3⟩) := ⟨t8, P8, B8⟩
  clear kG t7 r7 HP6 kb t8 P8 B8 e4
  unfold lvV
  simp only
  rw [show ((0 : Nat) : Int) = 0 from rfl, show ((9 : Nat) : Int) = 9 from rfl, show ((3 : Nat) : Int) = 3 from rfl]
  go_wp2_with fail
  with_reducible refine kT.mono ?_
  rintro e w9 ⟨rfl, K9⟩
  have t9 := H8.out.1.kps K9
  have P9 := H8.out.2.1.kp K9
  have B9 := H8.out.2.2.kp K9
  obtain ⟨g1, g2, g3, g4, g5, g6⟩ := HG.out
  have kU := unmap_page t9 g4 0 (by omega) (by omega) g1 g3
  rw [g2, show ((9 : Nat) : Int) = 9 from rfl, show ((0 : Nat) : Int) = 0 from rfl] at kU
  have H9 : Hid (PX w9 bp true true false ∧ LB w9 w7.heap.size ⟨0, 9, true, true, false, 0, 3⟩) := ⟨P9, B9⟩
  have H6 : Hid (∀ a b, a ≤ 3 → lfD E6 a b = if a = 3 ∧ b = qn 0 3 then ⟨3, Int.toNat 9 * 4096, true, true, false, 0⟩ else lfD eN a b) := g6
  clear kT H8 t9 P9 B9 g1 g2 g3 g4 g5 g6 HG HC K9
  generalize w7.heap.size = bl at *
  go_wp2_with fail
  with_reducible refine kU.mono ?_
  rintro e w10 ⟨rfl, C10, E10, ⟨⟨M10, t10, _⟩, ne10, r10⟩, l10⟩
  have P10 := H9.out.1.frO r10 (.inl (.inr rfl))
  have B10 := H9.out.2.frO r10 (.inr rfl)
  have b1 : (tabsA y E10).length = 1 := t10.tg.bare ne10 fun l j hl => by
    rw [l10 l j hl]
    by_cases c : l = 3 ∧ j = 0
    · rw [if_pos c]
    · rw [if_neg c, H6.out l j hl, if_neg (by rw [qn_three]; exact c)]; rfl
  have kT := tcount_any t10
  rw [← t10.tg.tabs_len, b1, show ((1 : Nat) : Int) = 1 from rfl] at kT
  have H10 : Hid (TS w (fun i => ((False ∨ i = bt) ∨ i = bp) ∨ i = bl) w10 bt p pm 2100 8 (0 + 4 + 12 + 4 + 8) M10 C10 (fun _ => false) y E10 ∧ PX w10 bp true true false) := ⟨t10, P10⟩
  have p0 := P10.c0
  have p1 := P10.c1
  have p2 := P10.c2
  have v0 := B10.c0
  have v1 := B10.c1
  have v2 := B10.c2
  have v3 := B10.c3
  have v4 := B10.c4
  have v5 := B10.c5
  have v6 := B10.c6
  simp only at v0 v1 v2 v3 v4 v5 v6
  rw [show ((0 : Nat) : Int) = 0 from rfl] at v0
  rw [show ((9 : Nat) : Int) = 9 from rfl] at v1
  rw [show ((3 : Nat) : Int) = 3 from rfl] at v6
  have hq : ∀ w : World, (binOp .eql 58 (.agg #[.int .u64 0, .int .i64 9, .bool true, .bool true, .bool false, .int .i64 0, .int .i64 3]) (.agg #[.int .u64 0, .int .i64 9, .bool true, .bool true, .bool false, .int .i64 0, .int .i64 3])).run Tryz.prog w = .ok (.bool true) w := fun w => by kernel_rfl
  clear kU H9 H6 t10 ne10 r10 l10 P10 B10 b1
  go_wp2_with fail
  with_reducible refine kT.mono ?_
  rintro e w11 ⟨rfl, K11⟩
  have t11 := H10.out.1.kps K11
  have P11 := H10.out.2.kp K11
  have kF := map_far t11.ft 268435456 9 true true false 0 (by omega)
  rw [show ((268435456 : Nat) : Int) = 268435456 from rfl] at kF
  have p0 := P11.c0
  have p1 := P11.c1
  have p2 := P11.c2
  have H11 : Hid (TS w (fun i => ((False ∨ i = bt) ∨ i = bp) ∨ i = bl) w11 bt p pm 2100 8 (0 + 4 + 12 + 4 + 8) M10 C10 (fun _ => false) y E10) := t11
  clear kT H10 t11 P11 K11 v0 v1 v2 v3 v4 v5 v6 hq
  go_wp2_with fail
  with_reducible refine kF.mono ?_
  rintro e w12 ⟨rfl, K12⟩
  have kR := tfree_any (H11.out.kps K12)
  clear kF H11 K12 p0 p1 p2
  go_wp2_with fail
  with_reducible refine kR.mono ?_
  rintro e w13 ⟨rfl, ⟨M13, f13, _⟩, x13, _⟩
  have kO := root_gone x13
  have HK : Hid (Kp w w13) := f13.kp
  clear kR f13 x13
  go_wp2_with (go_at_call 15; with_reducible refine kO.mono ?_; rintro _ w' ⟨rfl, rfl⟩)
  go_ret
  exact ⟨rfl, HK.out⟩
end Go.Proofs.YtanlcmdnhhdhaaaGreatDoor

/- TableLacks: the ground. -/
namespace Go.Proofs.YtanlcmdnhhdhaaaGreatDoor
open Go.RowKit
set_option maxRecDepth 10000

/-- Few pages. -/
def pgT (n : Nat) : Nat := [0, 1, 2, 511, 512, 513, 1023, 262144, 262145, 134217733, 268435455, 1024].getD (n % 12) 0
theorem pgT_lt (n : Nat) : pgT n < 268435456 := by
  unfold pgT
  have h := Nat.mod_lt n (show 0 < 12 by decide)
  generalize n % 12 = m at *
  rcases (by omega : m = 0 ∨ m = 1 ∨ m = 2 ∨ m = 3 ∨ m = 4 ∨ m = 5 ∨ m = 6 ∨ m = 7 ∨ m = 8 ∨ m = 9 ∨ m = 10 ∨ m = 11) with rfl | rfl | rfl | rfl | rfl | rfl | rfl | rfl | rfl | rfl | rfl | rfl <;> decide
set_option maxHeartbeats 4000000 in
theorem page_tab (n : Nat) (w : World) : Calls Tryz.prog 13 #[.int .u64 (n : Int)] w fun e w' => e = .returned (.int .u64 (pgT n : Nat)) ∧ Kp w w' := by
  unfold pgT
  have h := Nat.mod_lt n (show 0 < 12 by decide)
  obtain ⟨m, hm⟩ : ∃ m, m = n % 12 := ⟨_, rfl⟩
  rcases (by omega : m = 0 ∨ m = 1 ∨ m = 2 ∨ m = 3 ∨ m = 4 ∨ m = 5 ∨ m = 6 ∨ m = 7 ∨ m = 8 ∨ m = 9 ∨ m = 10 ∨ m = 11) with rfl | rfl | rfl | rfl | rfl | rfl | rfl | rfl | rfl | rfl | rfl | rfl
  · have e1 : (n : Int) % 12 = 0 := by omega
    have e2 : (n : Int).tmod 12 = 0 := by rw [Int.tmod_eq_emod_of_nonneg (by omega)]; exact e1
    rw [← hm]
    clear h hm
    go_enter Tryz.func13, Tryz.ntmps13
    go_wp2
    go_ret
    exact ⟨rfl, (Kp.refl _).alloc _⟩
  · have e1 : (n : Int) % 12 = 1 := by omega
    have e2 : (n : Int).tmod 12 = 1 := by rw [Int.tmod_eq_emod_of_nonneg (by omega)]; exact e1
    rw [← hm]
    clear h hm
    go_enter Tryz.func13, Tryz.ntmps13
    go_wp2
    go_ret
    exact ⟨rfl, (Kp.refl _).alloc _⟩
  · have e1 : (n : Int) % 12 = 2 := by omega
    have e2 : (n : Int).tmod 12 = 2 := by rw [Int.tmod_eq_emod_of_nonneg (by omega)]; exact e1
    rw [← hm]
    clear h hm
    go_enter Tryz.func13, Tryz.ntmps13
    go_wp2
    go_ret
    exact ⟨rfl, (Kp.refl _).alloc _⟩
  · have e1 : (n : Int) % 12 = 3 := by omega
    have e2 : (n : Int).tmod 12 = 3 := by rw [Int.tmod_eq_emod_of_nonneg (by omega)]; exact e1
    rw [← hm]
    clear h hm
    go_enter Tryz.func13, Tryz.ntmps13
    go_wp2
    go_ret
    exact ⟨rfl, (Kp.refl _).alloc _⟩
  · have e1 : (n : Int) % 12 = 4 := by omega
    have e2 : (n : Int).tmod 12 = 4 := by rw [Int.tmod_eq_emod_of_nonneg (by omega)]; exact e1
    rw [← hm]
    clear h hm
    go_enter Tryz.func13, Tryz.ntmps13
    go_wp2
    go_ret
    exact ⟨rfl, (Kp.refl _).alloc _⟩
  · have e1 : (n : Int) % 12 = 5 := by omega
    have e2 : (n : Int).tmod 12 = 5 := by rw [Int.tmod_eq_emod_of_nonneg (by omega)]; exact e1
    rw [← hm]
    clear h hm
    go_enter Tryz.func13, Tryz.ntmps13
    go_wp2
    go_ret
    exact ⟨rfl, (Kp.refl _).alloc _⟩
  · have e1 : (n : Int) % 12 = 6 := by omega
    have e2 : (n : Int).tmod 12 = 6 := by rw [Int.tmod_eq_emod_of_nonneg (by omega)]; exact e1
    rw [← hm]
    clear h hm
    go_enter Tryz.func13, Tryz.ntmps13
    go_wp2
    go_ret
    exact ⟨rfl, (Kp.refl _).alloc _⟩
  · have e1 : (n : Int) % 12 = 7 := by omega
    have e2 : (n : Int).tmod 12 = 7 := by rw [Int.tmod_eq_emod_of_nonneg (by omega)]; exact e1
    rw [← hm]
    clear h hm
    go_enter Tryz.func13, Tryz.ntmps13
    go_wp2
    go_ret
    exact ⟨rfl, (Kp.refl _).alloc _⟩
  · have e1 : (n : Int) % 12 = 8 := by omega
    have e2 : (n : Int).tmod 12 = 8 := by rw [Int.tmod_eq_emod_of_nonneg (by omega)]; exact e1
    rw [← hm]
    clear h hm
    go_enter Tryz.func13, Tryz.ntmps13
    go_wp2
    go_ret
    exact ⟨rfl, (Kp.refl _).alloc _⟩
  · have e1 : (n : Int) % 12 = 9 := by omega
    have e2 : (n : Int).tmod 12 = 9 := by rw [Int.tmod_eq_emod_of_nonneg (by omega)]; exact e1
    rw [← hm]
    clear h hm
    go_enter Tryz.func13, Tryz.ntmps13
    go_wp2
    go_ret
    exact ⟨rfl, (Kp.refl _).alloc _⟩
  · have e1 : (n : Int) % 12 = 10 := by omega
    have e2 : (n : Int).tmod 12 = 10 := by rw [Int.tmod_eq_emod_of_nonneg (by omega)]; exact e1
    rw [← hm]
    clear h hm
    go_enter Tryz.func13, Tryz.ntmps13
    go_wp2
    go_ret
    exact ⟨rfl, (Kp.refl _).alloc _⟩
  · have e1 : (n : Int) % 12 = 11 := by omega
    have e2 : (n : Int).tmod 12 = 11 := by rw [Int.tmod_eq_emod_of_nonneg (by omega)]; exact e1
    rw [← hm]
    clear h hm
    go_enter Tryz.func13, Tryz.ntmps13
    go_wp2
    go_ret
    exact ⟨rfl, (Kp.refl _).alloc _⟩
section
variable {M : Nat → Nat → Nat} {C : Nat → Nat} {pool root page : Nat} {Z : Nat → Bool} {E E' : Nat → Nat → DV} {L : List Nat} {d : DV}
/-- Leaves stand by page. -/
theorem TG.lvs_sorted (h : TG M C pool Z root E) : (lvsA E).Pairwise (fun x y => x.g < y.g) := by
  unfold lvsA
  refine pair_trv h visL_one fun m e m' e' hm hm' hk hk' ho x hx y hy => ?_
  unfold visL at hx hy
  by_cases c : (E m e).k = 1
  · rw [if_pos c] at hx; cases hx
  · by_cases c' : (E m' e').k = 1
    · rw [if_pos c'] at hy; cases hy
    · rw [if_neg c, List.mem_singleton] at hx
      rw [if_neg c', List.mem_singleton] at hy
      subst hx
      subst hy
      show pgE m e < pgE m' e'
      rcases ho with ho | ⟨ho, hlt⟩
      · exact ho
      · exfalso
        have kinds : ∀ m e, m ≤ 3 → (E m e).k ≠ 0 → (E m e).k ≠ 1 → m = 2 ∨ m = 3 := fun m e hm a b => by
          have pr := (h.ok m e hm).parts
          rcases (by omega : (E m e).k = 2 ∨ (E m e).k = 3) with q | q
          · exact .inl (h.blk m e hm q)
          · exact .inr (pr.2.2.2.2.2.2.2.2.2.1 q)
        have k1 := kinds m e hm hk c
        have k2 := kinds m' e' hm' hk' c'
        obtain rfl : m = 2 := by omega
        obtain rfl : m' = 3 := by omega
        have q1 : pgE 2 e = e * 512 := rfl
        have q2 : pgE 3 e' = e' * 1 := rfl
        have := h.above (m := 2) (e := e') (by omega) hk'
        rw [show e' / 512 = e by omega] at this
        exact c this
theorem TG.lvs_mem (h : TG M C pool Z root E) (x : LV) : x ∈ lvsA E ↔ ∃ m e, m ≤ 3 ∧ (lfD E m e).k ≠ 0 ∧ x = tellN (pgE m e) m (lfD E m e) := by
  unfold lvsA
  rw [mem_trv h]
  constructor
  · rintro ⟨m, e, a1, a2, a3⟩
    unfold visL at a3
    by_cases c : (E m e).k = 1
    · rw [if_pos c] at a3; cases a3
    · rw [if_neg c, List.mem_singleton] at a3
      have el : lfD E m e = E m e := by unfold lfD; rw [if_neg c]
      exact ⟨m, e, a1, by rw [el]; exact a2, by rw [el]; exact a3⟩
  · rintro ⟨m, e, a1, a2, a3⟩
    have c : ¬ (E m e).k = 1 := fun c => a2 (by unfold lfD; rw [if_pos c]; rfl)
    have el : lfD E m e = E m e := by unfold lfD; rw [if_neg c]
    rw [el] at a2 a3
    refine ⟨m, e, a1, a2, ?_⟩
    unfold visL
    rw [if_neg c, List.mem_singleton]
    exact a3
/-- The pages of L are mapped, and nothing else is. -/
structure LS (E : Nat → Nat → DV) (L : List Nat) : Prop where
  lf : ∀ l j, l ≤ 3 → ((lfD E l j).k ≠ 0 ↔ l = 3 ∧ j ∈ L)
  ap : L.Pairwise (· ≠ ·)
  lt : ∀ p ∈ L, p < 268435456
theorem LS.none : LS eN [] := ⟨fun l j _ => ⟨fun c => absurd rfl c, fun c => by cases c.2⟩, List.Pairwise.nil, fun p hp => by cases hp⟩
theorem LS.mapped (s : LS E L) (h : TG M C pool Z root E) : (enG E page).k ≠ 0 ↔ page ∈ L := by
  rw [h.pg.1]
  unfold pgD
  by_cases c : (lfD E 3 page).k ≠ 0
  · rw [if_pos c]
    exact ⟨fun _ => ((s.lf 3 page (by omega)).1 c).2, fun _ => c⟩
  · rw [if_neg c]
    constructor
    · intro c2
      have := (s.lf 2 (page / 512) (by omega)).1 c2
      omega
    · intro hp
      exact absurd ((s.lf 3 page (by omega)).2 ⟨rfl, hp⟩) c
theorem LS.map (s : LS E L) (hd : d.k = 3) (hn : page ∉ L) (hp : page < 268435456) (hl : ∀ a b, a ≤ 3 → lfD E' a b = if a = 3 ∧ b = page then d else lfD E a b) : LS E' (L ++ [page]) := by
  refine ⟨fun l j h3 => ?_, ?_, fun p hp' => ?_⟩
  · rw [hl l j h3]
    by_cases c : l = 3 ∧ j = page
    · rw [if_pos c, hd, c.1, c.2]; simp
    · rw [if_neg c, s.lf l j h3, List.mem_append, List.mem_singleton]
      constructor
      · rintro ⟨a, b⟩; exact ⟨a, .inl b⟩
      · rintro ⟨a, b | b⟩
        · exact ⟨a, b⟩
        · exact absurd ⟨a, b⟩ c
  · rw [List.pairwise_append]
    exact ⟨s.ap, List.pairwise_singleton _ _, fun a ha b hb => by rw [List.mem_singleton] at hb; rw [hb]; exact fun c => hn (c ▸ ha)⟩
  · rw [List.mem_append, List.mem_singleton] at hp'
    rcases hp' with c | c
    · exact s.lt p c
    · rw [c]; exact hp
theorem LS.len (s : LS E L) (h : TG M C pool Z root E) : (lvsA E).length = L.length := by
  have ap : ((lvsA E).map (·.g)).Pairwise (· ≠ ·) := by
    rw [List.pairwise_map]
    exact h.lvs_sorted.imp fun hlt c => by omega
  have mm : ∀ p, p ∈ (lvsA E).map (·.g) ↔ p ∈ L := fun p => by
    rw [List.mem_map]
    constructor
    · rintro ⟨x, hx, rfl⟩
      obtain ⟨m, e, a1, a2, rfl⟩ := (h.lvs_mem x).1 hx
      obtain ⟨rfl, he⟩ := (s.lf m e a1).1 a2
      show pgE 3 e ∈ L
      rw [show pgE 3 e = e from by show e * 1 = e; omega]
      exact he
    · intro hp
      refine ⟨tellN (pgE 3 p) 3 (lfD E 3 p), (h.lvs_mem _).2 ⟨3, p, by omega, (s.lf 3 p (by omega)).2 ⟨rfl, hp⟩, rfl⟩, ?_⟩
      show pgE 3 p = p
      show p * 1 = p
      omega
  rw [← List.length_map (f := (·.g)), ← cnt_mem _ 268435456 ap (fun x hx => s.lt x ((mm x).1 hx)), ← cnt_mem L 268435456 s.ap s.lt]
  exact cnt_like _ fun k _ => by rw [decide_eq_decide]; exact mm k
end
end Go.Proofs.YtanlcmdnhhdhaaaGreatDoor

/- TableLacks: the walk. -/
namespace Go.Proofs.YtanlcmdnhhdhaaaGreatDoor
open Go.RowKit
set_option maxRecDepth 10000

section
variable {W w w' : World} {X Y : Nat → Prop} {bt p pm N pool o : Nat} {M : Nat → Nat → Nat} {C : Nat → Nat} {Z : Nat → Bool} {root : Nat} {E : Nat → Nat → DV}
theorem TS.moreF (h : TS W X w bt p pm N pool o M C Z root E) (k : Fr Y w w') (hY : ∀ i, Y i → W.heap.size ≤ i ∧ X i) (hb : ¬ Y bt) (b : Nat) (hb1 : w.heap.size ≤ b) (hb2 : b < w'.heap.size) : TS W (fun i => X i ∨ i = b) w' bt p pm N pool o M C Z root E := by
  have h' := h.frX k hY hb
  obtain ⟨ops, B, h1, h2, S, f⟩ := h.fw
  have t0 := f.t0
  refine ⟨⟨ops, B, h1, h2, S, f.fs.fr k (fun i hi c => (f.out i hi).2 (hY i c).2) (fun c => by have := (hY _ c).1; omega), h'.fw.kp, fun i hi => ⟨(f.out i hi).1, fun c => c.elim (f.out i hi).2 (fun c => by have := f.fs.own i hi; omega)⟩, fun i hi => hi.elim (fun hi => Nat.lt_of_lt_of_le (f.lt i hi) k.size) (fun c => by omega), f.t0⟩, h'.tx, .inl h'.xb, h'.bw, h'.tg⟩
end
/-- A table, and the list of what was mapped. -/
structure LJ (W wr : World) (bt p pm pool root : Nat) (v : Value) (o i : Nat) (M : Nat → Nat → Nat) (C : Nat → Nat) (E : Nat → Nat → DV) (L : List Nat) : Prop where
  ts : TS W (fun b => b = bt ∨ v.ownBlock = some b) wr bt p pm 2100 pool o M C (fun _ => false) root E
  ne : NE root E (fun _ _ => False)
  ls : LS E L
  ol : OL encU8 37 1 wr v L
  le : L.length ≤ i
  lo : ∀ b, v.ownBlock = some b → W.heap.size ≤ b ∧ b ≠ bt
section
variable {W wr u : World} {bt p pm pool root : Nat} {v : Value} {o i : Nat} {M : Nat → Nat → Nat} {C : Nat → Nat} {E : Nat → Nat → DV} {L : List Nat}
theorem LJ.kps (h : LJ W wr bt p pm pool root v o i M C E L) (k : Kp wr u) : LJ W u bt p pm pool root v o i M C E L := ⟨h.ts.kps k, h.ne, h.ls, OL.fr h.ol (k.fr (fun _ => False)) (fun _ _ => id), h.le, h.lo⟩
theorem LJ.same (h : LJ W wr bt p pm pool root v o i M C E L) {o' : Nat} {M' : Nat → Nat → Nat} (t : TS W (fun b => b = bt ∨ v.ownBlock = some b) u bt p pm 2100 pool o' M' C (fun _ => false) root E) (k : Fr (Out W (fun b => b = bt ∨ v.ownBlock = some b)) wr u) : LJ W u bt p pm pool root v o' i M' C E L := ⟨t, h.ne, h.ls, OL.fr h.ol k (fun _ hg c => c.2 (.inr hg)), h.le, h.lo⟩
theorem snoc_raw (hts : TS W (fun b => b = bt ∨ v.ownBlock = some b) wr bt p pm 2100 pool o M C (fun _ => false) root E) (hol : OL encU8 37 1 wr v L) (hlo : ∀ b, v.ownBlock = some b → W.heap.size ≤ b ∧ b ≠ bt) (pg : Nat) (le : L.length ≤ 1000) :
    ∃ na n cap u', (Builtin.append_ #[100, 100] 100 #[v, .slice (some ⟨wr.heap.size, 0, none⟩) 1 1]).run Tryz.prog (wr.alloc (.cells #[.int .u64 (pg : Int)] 37)) = .ok (.slice na n cap) u' ∧ n = (L ++ [pg]).length ∧ OL encU8 37 1 u' (.slice na n cap) (L ++ [pg]) ∧ TS W (fun b => b = bt ∨ (Value.slice na n cap).ownBlock = some b) u' bt p pm 2100 pool o M C (fun _ => false) root E ∧ ∀ b, (Value.slice na n cap).ownBlock = some b → W.heap.size ≤ b ∧ b ≠ bt := by
  obtain ⟨inf, hin, hz, hsz, hby⟩ := info_w64
  have ka : Kp wr (wr.alloc (.cells #[.int .u64 (pg : Int)] 37)) := (Kp.refl wr).alloc _
  have hts' := hts.kps ka
  have hol' : OL encU8 37 1 (wr.alloc (.cells #[.int .u64 (pg : Int)] 37)) v L := OL.fr hol (ka.fr (fun _ => False)) (fun _ _ => id)
  have hrow : (wr.alloc (.cells #[.int .u64 (pg : Int)] 37)).heap[wr.heap.size]? = some (.cells #[.int .u64 (pg : Int)] 37 (0, 0)) := heap_alloc_new wr _
  obtain ⟨v', u', r1, r2, r3, r4⟩ := OL.append encU8_ok (P := Tryz.prog) (t := 100) Tryz.underlying100 hin hz hsz rfl rfl hol' [pg] (some ⟨wr.heap.size, 0, none⟩) 1 1 rfl (.inr ⟨wr.heap.size, 0, rfl, fun j y hy => by
    rw [Nat.zero_add, cell_of_row _ _ j _ _ _ hrow]
    simpa [encU8] using hy⟩) (by simp; omega) hby 100
  have f1 : Fr (fun g => v.ownBlock = some g) (wr.alloc (.cells #[.int .u64 (pg : Int)] 37)) u' := Fr.grown r3 (fun g hg => hg)
  have hY : ∀ b, v.ownBlock = some b → W.heap.size ≤ b ∧ (b = bt ∨ v.ownBlock = some b) := fun b hb => ⟨(hlo b hb).1, .inr hb⟩
  have nb : ¬ v.ownBlock = some bt := fun c => (hlo bt c).2 rfl
  obtain ⟨na, cap, ev, _, hc⟩ := r2.form
  subst ev
  refine ⟨na, _, cap, u', r1, rfl, r2, ?_, ?_⟩
  · rcases r4 with e | e
    · rw [e]; exact hts'.frX f1 hY nb
    · rw [e]
      have hlt : (wr.alloc (.cells #[.int .u64 (pg : Int)] 37)).heap.size < u'.heap.size := by
        rcases hc with ⟨rfl, _⟩ | ⟨g, rfl, hg⟩
        · cases e
        · cases e; exact hg
      refine (hts'.moreF f1 hY nb _ (Nat.le_refl _) hlt).less (fun b hb => ?_) (.inl rfl)
      rcases hb with hb | hb
      · exact .inl (.inl hb)
      · exact .inr (Option.some.inj hb).symm
  · intro b hb
    rcases r4 with e | e
    · rw [e] at hb; exact hlo b hb
    · rw [e] at hb
      cases hb
      have s1 := hts'.fw.kp.size
      have s2 := hts'.tx.lt
      exact ⟨s1, by omega⟩
end
end Go.Proofs.YtanlcmdnhhdhaaaGreatDoor

/- demesnelaw13.right; leaves that are alike. -/
namespace Go.Proofs.YtanlcmdnhhdhaaaGreatDoor
open Go.RowKit
set_option maxRecDepth 10000

theorem Fr.putP {S : Nat → Prop} {w w' : World} {b : Nat} (h : Fr S w w') (hb : S b) (r q x : Bool) : Fr S w (putP w' b r q x) := ((h.set _ _ hb).set _ _ hb).set _ _ hb
set_option maxHeartbeats 4000000 in
theorem right_any (r q x : Bool) (w : World) : Calls Tryz.prog 22 #[.agg #[.bool r, .bool q, .bool x]] w fun e w' => e = .returned (.agg #[.bool r, .bool (q && r), .bool x]) ∧ Kp w w' := by
  cases q
  all_goals
    go_enter Tryz.func22, Tryz.ntmps22
    go_wp2
    first
      | exact bodyPost_ret (res_p (r := r) (q := false) (x := x) rfl rfl (PX.made1 w _ _ _ _)) rfl ⟨rfl, ((Kp.refl _).alloc _).alloc _⟩
      | exact bodyPost_ret (res_p (r := r) (q := r) (x := x) rfl rfl (PX.made1 w _ _ _ _)) rfl ⟨rfl, ((Kp.refl _).alloc _).alloc _⟩

/-- Are two leaves alike? -/
def samL (u v : LV) : Bool := ((u.g : Int) == (v.g : Int)) && ((u.x : Int) == (v.x : Int)) && samP u.r u.q u.e v.r v.q v.e && (u.f == v.f) && ((u.l : Int) == (v.l : Int))
theorem samL_self (u : LV) : samL u u = true := by unfold samL samP; simp
theorem eq_leaf (g x f l g' x' f' l' : Int) (r q e r' q' e' : Bool) (w : World) : (Op.equalIn 10000 58 (.agg #[.int .u64 g, .int .i64 x, .bool r, .bool q, .bool e, .int .i64 f, .int .i64 l]) (.agg #[.int .u64 g', .int .i64 x', .bool r', .bool q', .bool e', .int .i64 f', .int .i64 l'])).run Tryz.prog w =
    .ok ((g == g') && (x == x') && samP r q e r' q' e' && (f == f') && (l == l')) w := by
  rw [show (10000 : Nat) = 9999 + 1 from rfl, run_equalIn_struct w 9999 _ _ _ (by kernel_rfl) (by kernel_rfl)]
  have e0 : (Op.equalIn 9999 37 (.int .u64 g) (.int .u64 g')).run Tryz.prog w = .ok (g == g') w := run_equalIn_int w 9998 37 .u64 .u64 g g' Tryz.underlying37
  have e1 : (Op.equalIn 9999 3 (.int .i64 x) (.int .i64 x')).run Tryz.prog w = .ok (x == x') w := run_equalIn_int w 9998 3 .i64 .i64 x x' Tryz.underlying3
  have e2 : (Op.equalIn 9999 39 (.agg #[.bool r, .bool q, .bool e]) (.agg #[.bool r', .bool q', .bool e'])).run Tryz.prog w = .ok (samP r q e r' q' e') w := eq_perm 9997 r q e r' q' e' w
  have e3 : (Op.equalIn 9999 3 (.int .i64 f) (.int .i64 f')).run Tryz.prog w = .ok (f == f') w := run_equalIn_int w 9998 3 .i64 .i64 f f' Tryz.underlying3
  have e4 : (Op.equalIn 9999 3 (.int .i64 l) (.int .i64 l')).run Tryz.prog w = .ok (l == l') w := run_equalIn_int w 9998 3 .i64 .i64 l l' Tryz.underlying3
  have h0 : ∀ (g x f l : Int) (r q e : Bool), (part 37 #[.int .u64 g, .int .i64 x, .bool r, .bool q, .bool e, .int .i64 f, .int .i64 l] 0).run Tryz.prog w = .ok (.int .u64 g) w := fun g x f l r q e => by simp [part, isAgg, run_underlying Tryz.underlying37]
  have h1 : ∀ (g x f l : Int) (r q e : Bool), (part 3 #[.int .u64 g, .int .i64 x, .bool r, .bool q, .bool e, .int .i64 f, .int .i64 l] 1).run Tryz.prog w = .ok (.int .i64 x) w := fun g x f l r q e => by simp [part, isAgg, run_underlying Tryz.underlying3]
  have h2 : ∀ (g x f l : Int) (r q e : Bool), (part 39 #[.int .u64 g, .int .i64 x, .bool r, .bool q, .bool e, .int .i64 f, .int .i64 l] 2).run Tryz.prog w = .ok (.agg #[.bool r, .bool q, .bool e]) w := fun g x f l r q e => by simp [part, isAgg, run_underlying Tryz.underlying39]
  have h3 : ∀ (g x f l : Int) (r q e : Bool), (part 3 #[.int .u64 g, .int .i64 x, .bool r, .bool q, .bool e, .int .i64 f, .int .i64 l] 5).run Tryz.prog w = .ok (.int .i64 f) w := fun g x f l r q e => by simp [part, isAgg, run_underlying Tryz.underlying3]
  have h4 : ∀ (g x f l : Int) (r q e : Bool), (part 3 #[.int .u64 g, .int .i64 x, .bool r, .bool q, .bool e, .int .i64 f, .int .i64 l] 6).run Tryz.prog w = .ok (.int .i64 l) w := fun g x f l r q e => by simp [part, isAgg, run_underlying Tryz.underlying3]
  generalize (g == g') = c0 at *
  generalize (x == x') = c1 at *
  generalize samP r q e r' q' e' = c2 at *
  generalize (f == f') = c3 at *
  generalize (l == l') = c4 at *
  simp only [Program.fieldsOf, Tryz.underlying58, Op.eqFields]
  cases c0 <;> cases c1 <;> cases c2 <;> cases c3 <;> cases c4 <;> simp [h0, h1, h2, h3, h4, e0, e1, e2, e3, e4]

end Go.Proofs.YtanlcmdnhhdhaaaGreatDoor
