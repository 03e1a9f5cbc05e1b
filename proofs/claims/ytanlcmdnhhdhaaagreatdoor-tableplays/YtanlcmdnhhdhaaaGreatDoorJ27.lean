/- Joined: R33, R64. -/
import Derived.Test.YtanlcmdnhhdhaaaGreatDoorJ26
/- stage2: MapBlock. -/
namespace Go.Proofs.YtanlcmdnhhdhaaaGreatDoor
open Go.RowKit
set_option maxRecDepth 10000

section
variable {W w w' : World} {X Y : Nat → Prop} {bt p pm N pool o : Nat} {M : Nat → Nat → Nat} {C : Nat → Nat} {Z : Nat → Bool} {root : Nat} {E : Nat → Nat → DV}
set_option maxHeartbeats 8000000 in
theorem mapb_go (h : TS W X w bt p pm N pool o M C Z root E) (ne : NE root E (fun _ _ => False)) (page f : Nat) (r q x : Bool) (s : Int) (hp : page < 268435456) (hf : f + 512 ≤ N) (hp5 : page % 512 = 0) (hf5 : f % 512 = 0) (hq : canB r q s = true) (ho : o < 4000000000000000000) :
    Calls Tryz.prog 31 #[.pointer (some ⟨bt, 0, none⟩), .int .u64 (page : Int), .int .i64 (f : Int), .agg #[.bool r, .bool q, .bool x], .int .i64 s] w fun e w' => e = .returned (.int .i64 (plR pool C E page 2)) ∧ ∃ C' E', AC W X w w' bt p pm N pool (o + 12) M C Z root C' E' ∧ (plR pool C E page 2 ≠ 0 → C' = C ∧ E' = E) ∧ (plR pool C E page 2 = 0 → cnt (fT pool C') pool + (2 - lvG E page) = cnt (fT pool C) pool ∧ ∀ a b, a ≤ 3 → lfD E' a b = if a = 2 ∧ b = qn page 2 then ⟨2, f * 4096, r, q, x, s⟩ else lfD E a b) := by
  have hn := h.fw.nums
  have hq' : (q = true → r = true) ∧ 0 ≤ s ∧ s ≤ 15 := by
    unfold canB at hq
    simp at hq
    refine ⟨fun e => ?_, hq.1.2, hq.2⟩
    rcases hq.1.1 with c | c
    · exact c
    · rw [c] at e; cases e
  have ok : okD 2 ⟨2, f * 4096, r, q, x, s⟩ := okD_block (by omega) hf5 hq'.1 hq'.2.1 hq'.2.2
  have KP : Aside (∀ v, Kp w v → Calls Tryz.prog 62 #[.pointer (some ⟨bt, 0, none⟩), .int .u64 (page : Int), .int .i64 2, .agg #[.int .i64 2, .int .u64 ((f * 4096 : Nat) : Int), .bool r, .bool q, .bool x, .int .i64 s]] v fun e w' => e = .returned (.int .i64 (plR pool C E page 2)) ∧ Hid (∃ C' E', AC W X w w' bt p pm N pool (o + 12) M C Z root C' E' ∧ (plR pool C E page 2 ≠ 0 → C' = C ∧ E' = E) ∧ (plR pool C E page 2 = 0 → cnt (fT pool C') pool + (2 - lvG E page) = cnt (fT pool C) pool ∧ ∀ a b, a ≤ 3 → lfD E' a b = if a = 2 ∧ b = qn page 2 then ⟨2, f * 4096, r, q, x, s⟩ else lfD E a b))) := fun v kv => by
    have := tplace_any (h.kps kv) ne page 2 ⟨2, f * 4096, r, q, x, s⟩ hp ho (by omega) (by omega) ok (by show (2 : Int) ≠ 0; decide) (by show (2 : Int) ≠ 1; decide) (fun _ => rfl)
    exact this.mono fun e w' ⟨e1, C', E', e2, e3, e4⟩ => ⟨e1, C', E', ⟨e2.ts, e2.ne, (kv.fr _).trans e2.fr⟩, e3, e4⟩
  have KH : Aside (∀ v, Kp w v → Calls Tryz.prog 60 #[.pointer (some ⟨bt, 0, none⟩), .int .i64 (f : Int), .int .i64 512] v fun e w' => e = .returned (.bool true) ∧ w' = v) := fun v kv => by
    have := hasFrames_any (h.ft.kps kv) (f : Int) 512 (by omega)
    rw [show hasN N (f : Int) 512 = true by unfold hasN; simp; omega] at this
    exact this
  have KC : Aside (∀ v, Calls Tryz.prog 61 #[.agg #[.bool r, .bool q, .bool x], .int .i64 s] v fun e w' => e = .returned (.bool true) ∧ Kp v w') := fun v => by
    have := canBe_any r q x s v
    rw [hq] at this
    exact this
  have KA : Aside (∀ v, Calls Tryz.prog 29 #[.int .i64 (f : Int)] v fun e w' => e = .returned (.int .u64 ((f * 4096 : Nat) : Int)) ∧ w' = v) := fun v => addrOf_any f v (by omega)
  have C0 : Aside (∀ v, Kp w v → v.cell? ⟨bt, 0, none⟩ = some (.pointer (some ⟨p, 0, none⟩))) := fun v k => (h.tx.kp k).c0
  have g1 : decide ((268435456 : Int) ≤ (page : Int)) = false := decide_eq_false (by omega)
  have g2 : decide (268435456 ≤ page) = false := decide_eq_false (by omega)
  have q0 := eql_frames p
  have a1 : (page : Int) % 512 = 0 := by omega
  have a2 : (f : Int).tmod 512 = 0 := by rw [Int.tmod_eq_emod_of_nonneg (by omega)]; omega
  have a3 : page % 512 = 0 := hp5
  clear h ne hn hq' ok hp hf hq ho hp5 hf5
  generalize f * 4096 = fa at *
  generalize plR pool C E page 2 = rr at *
  have c0 := fun ob => C0.out (w.alloc ob) ((Kp.refl w).alloc ob)
  have kh := fun ob => KH.out (w.alloc ob) ((Kp.refl w).alloc ob)
  clear C0 KH
  go_enter Tryz.func31, Tryz.ntmps31
  go_wp2_with (go_at_call 60; with_reducible refine (kh _).mono ?_; rintro _ w' ⟨rfl, rfl⟩)
  with_reducible refine (KC.out _).mono ?_
  rintro _ w1 ⟨rfl, K1⟩
  have P1 : PX w1 w.heap.size r q x := PX.kp (w := w.alloc (.cells #[.bool r, .bool q, .bool x] 39)) (heap_alloc_new w _) K1
  have p0 := P1.c0
  have p1 := P1.c1
  have p2 := P1.c2
  have k1 : Kp w w1 := ((Kp.refl w).alloc _).trans K1
  have kp := fun v (kv : Kp w1 v) => KP.out v (k1.trans kv)
  have ka := fun v => KA.out v
  clear K1 P1 k1 KP KC KA c0 kh q0
  go_wp2_with fail
  go_region_with (first | (go_at_call 29; with_reducible refine (ka _).mono ?_; rintro _ w' ⟨rfl, rfl⟩) | (go_at_call 62; with_reducible refine (kp _ (by first | exact Kp.refl _ | exact (Kp.refl _).drew | exact (Kp.refl _).drewN _)).mono ?_; rintro _ w4 ⟨rfl, H4⟩))
  all_goals
    go_wp2
    go_ret
    exact ⟨rfl, H4.out⟩
set_option maxHeartbeats 4000000 in
theorem mapb_far (h : FT W X w bt p pm N pool o M C root) (page : Nat) (f : Int) (r q x : Bool) (s : Int) (hp : 268435456 ≤ page) :
    Calls Tryz.prog 31 #[.pointer (some ⟨bt, 0, none⟩), .int .u64 (page : Int), .int .i64 f, .agg #[.bool r, .bool q, .bool x], .int .i64 s] w fun e w' => e = .returned (.int .i64 2) ∧ Kp w w' := by
  have c0 := fun ob => (h.tx.kp ((Kp.refl w).alloc ob)).c0
  have g1 : decide ((268435456 : Int) ≤ (page : Int)) = true := decide_eq_true (by omega)
  have g2 : decide (268435456 ≤ page) = true := decide_eq_true (by omega)
  have q0 := eql_frames p
  clear h hp
  go_enter Tryz.func31, Tryz.ntmps31
  go_wp2
  go_ret
  exact ⟨rfl, (Kp.refl _).alloc _⟩
set_option maxHeartbeats 4000000 in
theorem mapb_range (h : FT W X w bt p pm N pool o M C root) (page : Nat) (f : Int) (r q x : Bool) (s : Int) (hp : page < 268435456) (hf : hasN N f 512 = false) :
    Calls Tryz.prog 31 #[.pointer (some ⟨bt, 0, none⟩), .int .u64 (page : Int), .int .i64 f, .agg #[.bool r, .bool q, .bool x], .int .i64 s] w fun e w' => e = .returned (.int .i64 2) ∧ Kp w w' := by
  have c0 := fun ob => (h.tx.kp ((Kp.refl w).alloc ob)).c0
  have g1 : decide ((268435456 : Int) ≤ (page : Int)) = false := decide_eq_false (by omega)
  have g2 : decide (268435456 ≤ page) = false := decide_eq_false (by omega)
  have q0 := eql_frames p
  have kh : ∀ ob, Calls Tryz.prog 60 #[.pointer (some ⟨bt, 0, none⟩), .int .i64 f, .int .i64 512] (w.alloc ob) fun e w' => e = .returned (.bool false) ∧ w' = w.alloc ob := fun ob => by
    have := hasFrames_any (h.kps ((Kp.refl w).alloc ob)) f 512 (by omega)
    rw [hf] at this
    exact this
  clear h hp hf
  go_enter Tryz.func31, Tryz.ntmps31
  go_wp2_with (go_at_call 60; with_reducible refine (kh _).mono ?_; rintro _ w' ⟨rfl, rfl⟩)
  go_ret
  exact ⟨rfl, (Kp.refl _).alloc _⟩
set_option maxHeartbeats 4000000 in
theorem mapb_arg (h : FT W X w bt p pm N pool o M C root) (page : Nat) (f : Int) (r q x : Bool) (s : Int) (hp : page < 268435456) (hf : hasN N f 512 = true) (hc : canB r q s = false) :
    Calls Tryz.prog 31 #[.pointer (some ⟨bt, 0, none⟩), .int .u64 (page : Int), .int .i64 f, .agg #[.bool r, .bool q, .bool x], .int .i64 s] w fun e w' => e = .returned (.int .i64 1) ∧ Kp w w' := by
  have c0 := fun ob => (h.tx.kp ((Kp.refl w).alloc ob)).c0
  have g1 : decide ((268435456 : Int) ≤ (page : Int)) = false := decide_eq_false (by omega)
  have g2 : decide (268435456 ≤ page) = false := decide_eq_false (by omega)
  have q0 := eql_frames p
  have kh : ∀ ob, Calls Tryz.prog 60 #[.pointer (some ⟨bt, 0, none⟩), .int .i64 f, .int .i64 512] (w.alloc ob) fun e w' => e = .returned (.bool true) ∧ w' = w.alloc ob := fun ob => by
    have := hasFrames_any (h.kps ((Kp.refl w).alloc ob)) f 512 (by omega)
    rw [hf] at this
    exact this
  have kc := canBe_any r q x s
  rw [hc] at kc
  clear h hp hf hc
  go_enter Tryz.func31, Tryz.ntmps31
  go_wp2_with (go_at_call 60; with_reducible refine (kh _).mono ?_; rintro _ w' ⟨rfl, rfl⟩)
  with_reducible refine (kc _).mono ?_
  rintro _ w1 ⟨rfl, K1⟩
  clear kc kh c0
  go_wp2
  go_ret
  exact ⟨rfl, ((Kp.refl _).alloc _).trans K1⟩
set_option maxHeartbeats 4000000 in
theorem mapb_align (h : FT W X w bt p pm N pool o M C root) (page : Nat) (f : Int) (r q x : Bool) (s : Int) (hp : page < 268435456) (hf : hasN N f 512 = true) (hc : canB r q s = true) (h5 : page % 512 ≠ 0 ∨ f % 512 ≠ 0) :
    Calls Tryz.prog 31 #[.pointer (some ⟨bt, 0, none⟩), .int .u64 (page : Int), .int .i64 f, .agg #[.bool r, .bool q, .bool x], .int .i64 s] w fun e w' => e = .returned (.int .i64 3) ∧ Kp w w' := by
  have c0 := fun ob => (h.tx.kp ((Kp.refl w).alloc ob)).c0
  have g1 : decide ((268435456 : Int) ≤ (page : Int)) = false := decide_eq_false (by omega)
  have g2 : decide (268435456 ≤ page) = false := decide_eq_false (by omega)
  have q0 := eql_frames p
  have kh : ∀ ob, Calls Tryz.prog 60 #[.pointer (some ⟨bt, 0, none⟩), .int .i64 f, .int .i64 512] (w.alloc ob) fun e w' => e = .returned (.bool true) ∧ w' = w.alloc ob := fun ob => by
    have := hasFrames_any (h.kps ((Kp.refl w).alloc ob)) f 512 (by omega)
    rw [hf] at this
    exact this
  have kc := canBe_any r q x s
  rw [hc] at kc
  have f0 : 0 ≤ f := by unfold hasN at hf; simp at hf; omega
  have HA : (page % 512 ≠ 0) ∨ (page % 512 = 0 ∧ f % 512 ≠ 0) := by omega
  clear h hp hf hc h5
  rcases HA with ha | ⟨ha, hb⟩
  · have a1 : ((page : Int) % 512) ≠ 0 := by omega
    have a1' : (((page : Int) % 512) == 0) = false := by simpa using a1
    have a4 : ((page : Int) % 512 != 0) = true := by simpa using a1
    go_enter Tryz.func31, Tryz.ntmps31
    go_wp2_with (go_at_call 60; with_reducible refine (kh _).mono ?_; rintro _ w' ⟨rfl, rfl⟩)
    with_reducible refine (kc _).mono ?_
    rintro _ w1 ⟨rfl, K1⟩
    clear kc kh c0
    go_wp2
    go_ret
    exact ⟨rfl, ((Kp.refl _).alloc _).trans K1⟩
  · have a1 : ((page : Int) % 512) = 0 := by omega
    have a2 : (f.tmod 512) ≠ 0 := by rw [Int.tmod_eq_emod_of_nonneg f0]; exact hb
    have a2' : (f.tmod 512 == 0) = false := by simpa using a2
    have a4 : (f.tmod 512 != 0) = true := by simpa using a2
    go_enter Tryz.func31, Tryz.ntmps31
    go_wp2_with (go_at_call 60; with_reducible refine (kh _).mono ?_; rintro _ w' ⟨rfl, rfl⟩)
    with_reducible refine (kc _).mono ?_
    rintro _ w1 ⟨rfl, K1⟩
    clear kc kh c0
    go_wp2
    go_ret
    exact ⟨rfl, ((Kp.refl _).alloc _).trans K1⟩
/-- What MapBlock tells. -/
def mapbR (N pool : Nat) (C : Nat → Nat) (E : Nat → Nat → DV) (page : Nat) (f : Int) (r q : Bool) (s : Int) : Int := if 268435456 ≤ page ∨ hasN N f 512 = false then 2 else if canB r q s = false then 1 else if page % 512 ≠ 0 ∨ f % 512 ≠ 0 then 3 else plR pool C E page 2
theorem mapb_any (h : TS W X w bt p pm N pool o M C Z root E) (ne : NE root E (fun _ _ => False)) (page : Nat) (f : Int) (r q x : Bool) (s : Int) (ho : o < 4000000000000000000) :
    Calls Tryz.prog 31 #[.pointer (some ⟨bt, 0, none⟩), .int .u64 (page : Int), .int .i64 f, .agg #[.bool r, .bool q, .bool x], .int .i64 s] w fun e w' => e = .returned (.int .i64 (mapbR N pool C E page f r q s)) ∧ MapO W X w w' bt p pm N pool o M C Z root E 2 page ⟨2, f.toNat * 4096, r, q, x, s⟩ (mapbR N pool C E page f r q s) := by
  unfold mapbR
  by_cases c1 : 268435456 ≤ page
  · rw [if_pos (.inl c1)]
    exact (mapb_far h.ft page f r q x s c1).mono fun e w' ⟨e1, e2⟩ => ⟨e1, MapO.no h ne e2 (by decide)⟩
  · cases c2 : hasN N f 512
    · rw [if_pos (.inr rfl)]
      exact (mapb_range h.ft page f r q x s (by omega) c2).mono fun e w' ⟨e1, e2⟩ => ⟨e1, MapO.no h ne e2 (by decide)⟩
    · rw [if_neg (fun c => c.elim c1 (fun c => by cases c))]
      cases c3 : canB r q s
      · rw [if_pos rfl]
        exact (mapb_arg h.ft page f r q x s (by omega) c2 c3).mono fun e w' ⟨e1, e2⟩ => ⟨e1, MapO.no h ne e2 (by decide)⟩
      · rw [if_neg (by decide)]
        by_cases c4 : page % 512 ≠ 0 ∨ f % 512 ≠ 0
        · rw [if_pos c4]
          exact (mapb_align h.ft page f r q x s (by omega) c2 c3 c4).mono fun e w' ⟨e1, e2⟩ => ⟨e1, MapO.no h ne e2 (by decide)⟩
        · rw [if_neg c4]
          have hf : 0 ≤ f ∧ f ≤ (N : Int) - 512 := by unfold hasN at c2; simpa using c2
          have := mapb_go h ne page f.toNat r q x s (by omega) (by omega) (by omega) (by omega) c3 ho
          rw [Int.toNat_of_nonneg hf.1] at this
          exact this.mono fun e w' ⟨e1, C', E', e2, e3, e4⟩ => ⟨e1, C', E', e2, e3, fun c => ⟨(e4 c).1, (e4 c).2⟩⟩
end
end Go.Proofs.YtanlcmdnhhdhaaaGreatDoor

/- stage2: each of the table's calls, for every page. -/
namespace Go.Proofs.YtanlcmdnhhdhaaaGreatDoor
open Go.RowKit
set_option maxRecDepth 10000

section
variable {W w w' : World} {X Y : Nat → Prop} {bt p pm N pool o o' : Nat} {M : Nat → Nat → Nat} {C C' : Nat → Nat} {Z : Nat → Bool} {root : Nat} {E E' : Nat → Nat → DV}
theorem AC.le (h : AC W X w w' bt p pm N pool o M C Z root C' E') (ho : o ≤ o') : AC W X w w' bt p pm N pool o' M C Z root C' E' := by
  obtain ⟨M', a, b⟩ := h.ts
  exact ⟨⟨M', a.le ho, b⟩, h.ne, h.fr⟩
theorem AC.idle (h : TS W X w bt p pm N pool o M C Z root E) (ne : NE root E (fun _ _ => False)) (k : Kp w w') (ho : o ≤ o') : AC W X w w' bt p pm N pool o' M C Z root C E := AC.same ne (h.kps k) ho (k.fr _)
theorem TS.nw (h : TS W X w bt p pm N pool o M C Z root E) {page : Nat} (hp : ¬ page < 268435456) : NW w bt page := .inr ⟨⟨p, root, h.tx⟩, by omega⟩
/-- What a page is told to be. -/
def isP (E : Nat → Nat → DV) (page : Nat) : Bool := decide (page < 268435456) && decide ((enG E page).k ≠ 0)
def getP (E : Nat → Nat → DV) (page : Nat) : LV := if page < 268435456 then getN E page else lvZ
def needP (E : Nat → Nat → DV) (page : Nat) : Nat := if page < 268435456 then needN E page else 0
theorem pget_any (h : TS W X w bt p pm N pool o M C Z root E) (page : Nat) (ho : o < 2000000000000000000) :
    Calls Tryz.prog 18 #[.pointer (some ⟨bt, 0, none⟩), .int .u64 (page : Int)] w fun e w' => e = .returned (.tuple #[lvV (getP E page), .bool (isP E page)]) ∧ TS W X w' bt p pm N pool (o + 4) M C Z root E ∧ Fr (Out W X) w w' := by
  unfold getP isP
  by_cases c : page < 268435456
  · rw [if_pos c, decide_eq_true c, Bool.true_and]
    exact get_any h page c (by omega)
  · rw [if_neg c, decide_eq_false c, Bool.false_and]
    exact (get_no (h.nw c)).mono fun e w' ⟨e1, e2⟩ => ⟨e1, (h.kps e2).le (by omega), e2.fr _⟩
theorem pneed_any (h : TS W X w bt p pm N pool o M C Z root E) (page : Nat) (ho : o < 2000000000000000000) :
    Calls Tryz.prog 42 #[.pointer (some ⟨bt, 0, none⟩), .int .u64 (page : Int)] w fun e w' => e = .returned (.int .i64 (needP E page : Nat)) ∧ TS W X w' bt p pm N pool (o + 4) M C Z root E ∧ Fr (Out W X) w w' := by
  unfold needP
  by_cases c : page < 268435456
  · rw [if_pos c]
    exact need_any h page c (by omega)
  · rw [if_neg c]
    exact (need_no (h.nw c)).mono fun e w' ⟨e1, e2⟩ => ⟨e1, by rw [e2]; exact h.le (by omega), by rw [e2]; exact Fr.refl _ _⟩
/-- Unmap. -/
def unR (pool : Nat) (C : Nat → Nat) (E : Nat → Nat → DV) (page : Nat) : Int := if isP E page = false then 23 else if (enG E page).k = 2 ∧ spR pool C ≠ 0 then 11 else 0
def UnP (pool : Nat) (C : Nat → Nat) (Z : Nat → Bool) (root : Nat) (E E' : Nat → Nat → DV) (page fx : Nat) : Prop := ∃ M1 C1 E1, TG M1 C1 pool Z root E1 ∧ LR pool C C1 E E1 page ∧ fx = (enG E1 page).a / 4096 ∧ ∀ l j, l ≤ 3 → lfD E' l j = if l = 3 ∧ j = page then dN else lfD E1 l j
theorem punmap_any (h : TS W X w bt p pm N pool o M C Z root E) (ne : NE root E (fun _ _ => False)) (page : Nat) (ho : o < 2000000000000000000) :
    Calls Tryz.prog 23 #[.pointer (some ⟨bt, 0, none⟩), .int .u64 (page : Int)] w fun e w' => ∃ fx : Nat, e = .returned (.tuple #[.int .i64 (fx : Int), .int .i64 (unR pool C E page)]) ∧ ∃ C' E', AC W X w w' bt p pm N pool (o + 600) M C Z root C' E' ∧ (unR pool C E page ≠ 0 → fx = 0 ∧ C' = C ∧ E' = E) ∧ (unR pool C E page = 0 → UnP pool C Z root E E' page fx) := by
  unfold unR isP
  by_cases c : page < 268435456
  · rw [decide_eq_true c, Bool.true_and]
    by_cases c2 : (enG E page).k = 0
    · rw [if_pos (decide_eq_false (fun a => a c2))]
      exact (unmap_no h ne page c ho c2).mono fun e w' ⟨e1, e2⟩ => ⟨0, e1, C, E, e2.le (by omega), fun _ => ⟨rfl, rfl, rfl⟩, fun a => by cases a⟩
    · rw [if_neg (by rw [decide_eq_true c2]; decide)]
      by_cases c3 : (enG E page).k = 2 ∧ spR pool C ≠ 0
      · rw [if_pos c3]
        exact (unmap_full h ne page c ho c3.1 c3.2).mono fun e w' ⟨e1, e2⟩ => ⟨0, e1, C, E, e2.le (by omega), fun _ => ⟨rfl, rfl, rfl⟩, fun a => by cases a⟩
      · rw [if_neg c3]
        refine (unmap_ok h ne page c ho c2 (fun a => Decidable.byContradiction fun b => c3 ⟨a, b⟩)).mono ?_
        rintro e w' ⟨C1, E1, e1, C', E', ac, lr, l2, M1, g1⟩
        exact ⟨_, e1, C', E', ac.le (by omega), fun a => absurd rfl a, fun _ => ⟨M1, C1, E1, g1, lr, rfl, l2⟩⟩
  · rw [decide_eq_false c, Bool.false_and, if_pos rfl]
    exact (unmap_nw (h.nw c)).mono fun e w' ⟨e1, e2⟩ => ⟨0, e1, C, E, AC.idle h ne (by rw [e2]; exact Kp.refl _) (by omega), fun _ => ⟨rfl, rfl, rfl⟩, fun a => by cases a⟩
/-- Split. -/
def spP (pool : Nat) (C : Nat → Nat) (E : Nat → Nat → DV) (page : Nat) : Int := if isP E page = false then 23 else if (enG E page).k = 3 then 20 else spR pool C
theorem psplit_any (h : TS W X w bt p pm N pool o M C Z root E) (ne : NE root E (fun _ _ => False)) (page : Nat) (ho : o < 2000000000000000000) :
    Calls Tryz.prog 36 #[.pointer (some ⟨bt, 0, none⟩), .int .u64 (page : Int)] w fun e w' => e = .returned (.int .i64 (spP pool C E page)) ∧ ∃ C' E', AC W X w w' bt p pm N pool (o + 600) M C Z root C' E' ∧ (spP pool C E page ≠ 0 → C' = C ∧ E' = E) ∧ (spP pool C E page = 0 → cnt (fT pool C') pool + 1 = cnt (fT pool C) pool ∧ SpL E E' (page / 512)) := by
  by_cases c : page < 268435456
  · have e0 : spP pool C E page = splR pool C E page := by
      unfold spP splR isP
      rw [decide_eq_true c, Bool.true_and]
      by_cases c2 : (enG E page).k = 0
      · rw [if_pos (decide_eq_false (fun a => a c2)), if_pos c2]
      · rw [if_neg (by rw [decide_eq_true c2]; decide), if_neg c2]
    rw [e0]
    refine (tsplit_any h ne page c ho).mono ?_
    rintro e w' ⟨e1, C', E', ac, a1, a2⟩
    exact ⟨e1, C', E', ac.le (by omega), a1, a2⟩
  · have e0 : spP pool C E page = 23 := by unfold spP isP; rw [decide_eq_false c, Bool.false_and, if_pos rfl]
    rw [e0]
    exact (split_nw (h.nw c)).mono fun e w' ⟨e1, e2⟩ => ⟨e1, C, E, AC.idle h ne (by rw [e2]; exact Kp.refl _) (by omega), fun _ => ⟨rfl, rfl⟩, fun a => by cases a⟩
/-- Join. -/
theorem pjoin_any (h : TS W X w bt p pm N pool o M C Z root E) (ne : NE root E (fun _ _ => False)) (page : Nat) (ho : o < 2000000000000000000) :
    Calls Tryz.prog 38 #[.pointer (some ⟨bt, 0, none⟩), .int .u64 (page : Int)] w fun e w' => ∃ rr : Int, e = .returned (.int .i64 rr) ∧ ∃ C' E', AC W X w w' bt p pm N pool (o + 600) M C Z root C' E' ∧ ((rr = 23 ∧ isP E page = false ∧ C' = C ∧ E' = E) ∨ (rr = 20 ∧ isP E page = true ∧ ((enG E page).k = 2 ∨ ((enG E page).k = 3 ∧ ¬ joinB E page)) ∧ C' = C ∧ E' = E) ∨ (rr = 0 ∧ isP E page = true ∧ (enG E page).k = 3 ∧ joinB E page ∧ cnt (fT pool C') pool = cnt (fT pool C) pool + 1 ∧ JnL E E' (page / 512) (bkD (E 3 (512 * (page / 512)))))) := by
  by_cases c : page < 268435456
  · by_cases c2 : (enG E page).k = 0
    · exact (join_none h page c ho c2).mono fun e w' ⟨e1, e2, e3⟩ => ⟨23, e1, C, E, AC.same ne e2 (by omega) e3, .inl ⟨rfl, by unfold isP; rw [show decide ((enG E page).k ≠ 0) = false from decide_eq_false (fun a => a c2), Bool.and_false], rfl, rfl⟩⟩
    · have is : isP E page = true := by unfold isP; rw [decide_eq_true c, decide_eq_true c2]; rfl
      rcases h.tg.leafK c2 with ⟨k2, _⟩ | ⟨k3, _⟩
      · exact (join_block h page c ho k2).mono fun e w' ⟨e1, e2, e3⟩ => ⟨20, e1, C, E, AC.same ne e2 (by omega) e3, .inr (.inl ⟨rfl, is, .inl k2, rfl, rfl⟩)⟩
      · refine (join_three h ne page c ho k3).mono ?_
        rintro e w' ⟨t, e1, ht, C', E', ac, hf, hg⟩
        cases t
        · obtain ⟨rfl, rfl⟩ := hf rfl
          exact ⟨20, e1, C', E', ac.le (by omega), .inr (.inl ⟨rfl, is, .inr ⟨k3, fun a => by cases ht.2 a⟩, rfl, rfl⟩)⟩
        · obtain ⟨a1, a2⟩ := hg rfl
          exact ⟨0, e1, C', E', ac.le (by omega), .inr (.inr ⟨rfl, is, k3, ht.1 rfl, a1, a2⟩)⟩
  · exact (join_nw (h.nw c)).mono fun e w' ⟨e1, e2⟩ => ⟨23, e1, C, E, AC.idle h ne (by rw [e2]; exact Kp.refl _) (by omega), .inl ⟨rfl, by unfold isP; rw [decide_eq_false c, Bool.false_and], rfl, rfl⟩⟩
/-- Protect. -/
def prR (pool : Nat) (C : Nat → Nat) (E : Nat → Nat → DV) (page : Nat) (r q x : Bool) (s : Int) : Int := if canB r q s = false then 1 else if isP E page = false then 23 else if same4 (enG E page) r q x s = true then 0 else if (enG E page).k = 2 ∧ spR pool C ≠ 0 then 11 else 0
theorem pprot_any (h : TS W X w bt p pm N pool o M C Z root E) (ne : NE root E (fun _ _ => False)) (page : Nat) (r q x : Bool) (s : Int) (ho : o < 2000000000000000000) :
    Calls Tryz.prog 34 #[.pointer (some ⟨bt, 0, none⟩), .int .u64 (page : Int), .agg #[.bool r, .bool q, .bool x], .int .i64 s] w fun e w' => e = .returned (.int .i64 (prR pool C E page r q x s)) ∧ ∃ C' E', AC W X w w' bt p pm N pool (o + 600) M C Z root C' E' ∧ (prR pool C E page r q x s ≠ 0 → C' = C ∧ E' = E) ∧ (prR pool C E page r q x s = 0 → (same4 (enG E page) r q x s = true ∧ C' = C ∧ E' = E) ∨ ∃ M1 E1, same4 (enG E page) r q x s = false ∧ TG M1 C' pool Z root E1 ∧ LR pool C C' E E1 page ∧ ∀ a b, a ≤ 3 → lfD E' a b = if a = 3 ∧ b = page then ⟨3, (enG E1 page).a, r, q, x, s⟩ else lfD E1 a b) := by
  unfold prR
  by_cases c0 : canB r q s = false
  · rw [if_pos c0]
    exact (protect_arg h.tx page r q x s c0).mono fun e w' ⟨e1, e2⟩ => ⟨e1, C, E, AC.idle h ne e2 (by omega), fun _ => ⟨rfl, rfl⟩, fun a => by cases a⟩
  · rw [if_neg c0]
    have hc : canB r q s = true := by simpa using c0
    unfold isP
    by_cases c : page < 268435456
    · rw [decide_eq_true c, Bool.true_and]
      by_cases c2 : (enG E page).k = 0
      · rw [if_pos (decide_eq_false (fun a => a c2))]
        exact (protect_none h page r q x s c ho hc c2).mono fun e w' ⟨e1, e2, e3⟩ => ⟨e1, C, E, AC.same ne e2 (by omega) e3, fun _ => ⟨rfl, rfl⟩, fun a => by cases a⟩
      · rw [if_neg (by rw [decide_eq_true c2]; decide)]
        by_cases c3 : same4 (enG E page) r q x s = true
        · rw [if_pos c3]
          exact (protect_same h page r q x s c ho hc c2 c3).mono fun e w' ⟨e1, e2, e3⟩ => ⟨e1, C, E, AC.same ne e2 (by omega) e3, fun a => absurd rfl a, fun _ => .inl ⟨c3, rfl, rfl⟩⟩
        · rw [if_neg c3]
          have ns : same4 (enG E page) r q x s = false := by simpa using c3
          by_cases c4 : (enG E page).k = 2 ∧ spR pool C ≠ 0
          · rw [if_pos c4]
            exact (protect_full h ne page r q x s c ho hc c4.1 ns c4.2).mono fun e w' ⟨e1, e2⟩ => ⟨e1, C, E, e2.le (by omega), fun _ => ⟨rfl, rfl⟩, fun a => by cases a⟩
          · rw [if_neg c4]
            refine (protect_ok h ne page r q x s c ho hc c2 ns (fun a => Decidable.byContradiction fun b => c4 ⟨a, b⟩)).mono ?_
            rintro e w' ⟨e1, C', E1, E', ac, lr, l2, M1, g1⟩
            exact ⟨e1, C', E', ac.le (by omega), fun a => absurd rfl a, fun _ => .inr ⟨M1, E1, ns, g1, lr, l2⟩⟩
    · rw [decide_eq_false c, Bool.false_and, if_pos rfl]
      exact (protect_far h.tx page r q x s hc (by omega)).mono fun e w' ⟨e1, e2⟩ => ⟨e1, C, E, AC.idle h ne e2 (by omega), fun _ => ⟨rfl, rfl⟩, fun a => by cases a⟩
end
end Go.Proofs.YtanlcmdnhhdhaaaGreatDoor
