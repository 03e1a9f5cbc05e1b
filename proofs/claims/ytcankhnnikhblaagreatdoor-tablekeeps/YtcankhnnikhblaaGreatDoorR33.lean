/- stage2: MapBlock. -/
import Derived.Test.YtcankhnnikhblaaGreatDoorJRD
namespace Go.Proofs.YtcankhnnikhblaaGreatDoor
open Go.RowKit
set_option maxRecDepth 10000

section
variable {W w w' : World} {X Y : Nat → Prop} {bt p pm N pool o : Nat} {M : Nat → Nat → Nat} {C : Nat → Nat} {Z : Nat → Bool} {root : Nat} {E : Nat → Nat → DV}
set_option maxHeartbeats 8000000 in
theorem mapb_go (h : TS W X w bt p pm N pool o M C Z root E) (ne : NE root E (fun _ _ => False)) (page f : Nat) (r q x : Bool) (s : Int) (hp : page < 268435456) (hf : f + 512 ≤ N) (hp5 : page % 512 = 0) (hf5 : f % 512 = 0) (hq : canB r q s = true) (ho : o < 4000000000000000000) :
    Calls Tryz.prog 24 #[.pointer (some ⟨bt, 0, none⟩), .int .u64 (page : Int), .int .i64 (f : Int), .agg #[.bool r, .bool q, .bool x], .int .i64 s] w fun e w' => e = .returned (.int .i64 (plR pool C E page 2)) ∧ ∃ C' E', AC W X w w' bt p pm N pool (o + 12) M C Z root C' E' ∧ (plR pool C E page 2 ≠ 0 → C' = C ∧ E' = E) ∧ (plR pool C E page 2 = 0 → cnt (fT pool C') pool + (2 - lvG E page) = cnt (fT pool C) pool ∧ ∀ a b, a ≤ 3 → lfD E' a b = if a = 2 ∧ b = qn page 2 then ⟨2, f * 4096, r, q, x, s⟩ else lfD E a b) := by
  have hn := h.fw.nums
  have hq' : (q = true → r = true) ∧ 0 ≤ s ∧ s ≤ 15 := by
    unfold canB at hq
    simp at hq
    refine ⟨fun e => ?_, hq.1.2, hq.2⟩
    rcases hq.1.1 with c | c
    · exact c
    · rw [c] at e; cases e
  have ok : okD 2 ⟨2, f * 4096, r, q, x, s⟩ := okD_block (by omega) hf5 hq'.1 hq'.2.1 hq'.2.2
  have KP : Aside (∀ v, Kp w v → Calls Tryz.prog 63 #[.pointer (some ⟨bt, 0, none⟩), .int .u64 (page : Int), .int .i64 2, .agg #[.int .i64 2, .int .u64 ((f * 4096 : Nat) : Int), .bool r, .bool q, .bool x, .int .i64 s]] v fun e w' => e = .returned (.int .i64 (plR pool C E page 2)) ∧ Hid (∃ C' E', AC W X w w' bt p pm N pool (o + 12) M C Z root C' E' ∧ (plR pool C E page 2 ≠ 0 → C' = C ∧ E' = E) ∧ (plR pool C E page 2 = 0 → cnt (fT pool C') pool + (2 - lvG E page) = cnt (fT pool C) pool ∧ ∀ a b, a ≤ 3 → lfD E' a b = if a = 2 ∧ b = qn page 2 then ⟨2, f * 4096, r, q, x, s⟩ else lfD E a b))) := fun v kv => by
    have := tplace_any (h.kps kv) ne page 2 ⟨2, f * 4096, r, q, x, s⟩ hp ho (by omega) (by omega) ok (by show (2 : Int) ≠ 0; decide) (by show (2 : Int) ≠ 1; decide) (fun _ => rfl)
    exact this.mono fun e w' ⟨e1, C', E', e2, e3, e4⟩ => ⟨e1, C', E', ⟨e2.ts, e2.ne, (kv.fr _).trans e2.fr⟩, e3, e4⟩
  have KH : Aside (∀ v, Kp w v → Calls Tryz.prog 61 #[.pointer (some ⟨bt, 0, none⟩), .int .i64 (f : Int), .int .i64 512] v fun e w' => e = .returned (.bool true) ∧ w' = v) := fun v kv => by
    have := hasFrames_any (h.ft.kps kv) (f : Int) 512 (by omega)
    rw [show hasN N (f : Int) 512 = true by unfold hasN; simp; omega] at this
    exact this
  have KC : Aside (∀ v, Calls Tryz.prog 62 #[.agg #[.bool r, .bool q, .bool x], .int .i64 s] v fun e w' => e = .returned (.bool true) ∧ Kp v w') := fun v => by
    have := canBe_any r q x s v
    rw [hq] at this
    exact this
  have KA : Aside (∀ v, Calls Tryz.prog 37 #[.int .i64 (f : Int)] v fun e w' => e = .returned (.int .u64 ((f * 4096 : Nat) : Int)) ∧ w' = v) := fun v => addrOf_any f v (by omega)
  have C0 : Aside (∀ v, Kp w v → v.cell? ⟨bt, 0, none⟩ = some (.pointer (some ⟨p, 0, none⟩))) := fun v k => (h.tx.kp k).c0
  have g1 : decide ((268435456 : Int) ≤ (page : Int)) = false := decide_eq_false (by omega)
  have g2 : decide (268435456 ≤ page) = false := decide_eq_false (by omega)
  have q0 := eql_frames p
  have a1 : (page : Int) % 512 = 0 := by omega
  have a2 : (f : Int).tmod 512 = 0 := by rw [Int.tmod_eq_emod_of_nonneg (by omega)]; omega
  have a3 : page % 512 = 0 := hp5
  clear h ne hn hq' ok hp hf hq ho hp5 hf5
  generalize f * 4096 = fa at *
  generalize plR pool C E page 2 = rr at *
  have c0 := fun ob => C0.out (w.alloc ob) ((Kp.refl w).alloc ob)
  have kh := fun ob => KH.out (w.alloc ob) ((Kp.refl w).alloc ob)
  clear C0 KH
  go_enter Tryz.func24, Tryz.ntmps24
  go_wp2_with (go_at_call 61; with_reducible refine (kh _).mono ?_; rintro _ w' ⟨rfl, rfl⟩)
  with_reducible refine (KC.out _).mono ?_
  rintro _ w1 ⟨rfl, K1⟩
  have P1 : PX w1 w.heap.size r q x := PX.kp (w := w.alloc (.cells #[.bool r, .bool q, .bool x] 39)) (heap_alloc_new w _) K1
  have p0 := P1.c0
  have p1 := P1.c1
  have p2 := P1.c2
  have k1 : Kp w w1 := ((Kp.refl w).alloc _).trans K1
  have kp := fun v (kv : Kp w1 v) => KP.out v (k1.trans kv)
  have ka := fun v => KA.out v
  clear K1 P1 k1 KP KC KA c0 kh q0
  go_wp2_with fail
  go_region_with (first | (go_at_call 37; with_reducible refine (ka _).mono ?_; rintro _ w' ⟨rfl, rfl⟩) | (go_at_call 63; with_reducible refine (kp _ (by first | exact Kp.refl _ | exact (Kp.refl _).drew | exact (Kp.refl _).drewN _)).mono ?_; rintro _ w4 ⟨rfl, H4⟩))
  all_goals
    go_wp2
    go_ret
    exact ⟨rfl, H4.out⟩
set_option maxHeartbeats 4000000 in
theorem mapb_far (h : FT W X w bt p pm N pool o M C root) (page : Nat) (f : Int) (r q x : Bool) (s : Int) (hp : 268435456 ≤ page) :
    Calls Tryz.prog 24 #[.pointer (some ⟨bt, 0, none⟩), .int .u64 (page : Int), .int .i64 f, .agg #[.bool r, .bool q, .bool x], .int .i64 s] w fun e w' => e = .returned (.int .i64 2) ∧ Kp w w' := by
  have c0 := fun ob => (h.tx.kp ((Kp.refl w).alloc ob)).c0
  have g1 : decide ((268435456 : Int) ≤ (page : Int)) = true := decide_eq_true (by omega)
  have g2 : decide (268435456 ≤ page) = true := decide_eq_true (by omega)
  have q0 := eql_frames p
  clear h hp
  go_enter Tryz.func24, Tryz.ntmps24
  go_wp2
  go_ret
  exact ⟨rfl, (Kp.refl _).alloc _⟩
set_option maxHeartbeats 4000000 in
theorem mapb_range (h : FT W X w bt p pm N pool o M C root) (page : Nat) (f : Int) (r q x : Bool) (s : Int) (hp : page < 268435456) (hf : hasN N f 512 = false) :
    Calls Tryz.prog 24 #[.pointer (some ⟨bt, 0, none⟩), .int .u64 (page : Int), .int .i64 f, .agg #[.bool r, .bool q, .bool x], .int .i64 s] w fun e w' => e = .returned (.int .i64 2) ∧ Kp w w' := by
  have c0 := fun ob => (h.tx.kp ((Kp.refl w).alloc ob)).c0
  have g1 : decide ((268435456 : Int) ≤ (page : Int)) = false := decide_eq_false (by omega)
  have g2 : decide (268435456 ≤ page) = false := decide_eq_false (by omega)
  have q0 := eql_frames p
  have kh : ∀ ob, Calls Tryz.prog 61 #[.pointer (some ⟨bt, 0, none⟩), .int .i64 f, .int .i64 512] (w.alloc ob) fun e w' => e = .returned (.bool false) ∧ w' = w.alloc ob := fun ob => by
    have := hasFrames_any (h.kps ((Kp.refl w).alloc ob)) f 512 (by omega)
    rw [hf] at this
    exact this
  clear h hp hf
  go_enter Tryz.func24, Tryz.ntmps24
  go_wp2_with (go_at_call 61; with_reducible refine (kh _).mono ?_; rintro _ w' ⟨rfl, rfl⟩)
  go_ret
  exact ⟨rfl, (Kp.refl _).alloc _⟩
set_option maxHeartbeats 4000000 in
theorem mapb_arg (h : FT W X w bt p pm N pool o M C root) (page : Nat) (f : Int) (r q x : Bool) (s : Int) (hp : page < 268435456) (hf : hasN N f 512 = true) (hc : canB r q s = false) :
    Calls Tryz.prog 24 #[.pointer (some ⟨bt, 0, none⟩), .int .u64 (page : Int), .int .i64 f, .agg #[.bool r, .bool q, .bool x], .int .i64 s] w fun e w' => e = .returned (.int .i64 1) ∧ Kp w w' := by
  have c0 := fun ob => (h.tx.kp ((Kp.refl w).alloc ob)).c0
  have g1 : decide ((268435456 : Int) ≤ (page : Int)) = false := decide_eq_false (by omega)
  have g2 : decide (268435456 ≤ page) = false := decide_eq_false (by omega)
  have q0 := eql_frames p
  have kh : ∀ ob, Calls Tryz.prog 61 #[.pointer (some ⟨bt, 0, none⟩), .int .i64 f, .int .i64 512] (w.alloc ob) fun e w' => e = .returned (.bool true) ∧ w' = w.alloc ob := fun ob => by
    have := hasFrames_any (h.kps ((Kp.refl w).alloc ob)) f 512 (by omega)
    rw [hf] at this
    exact this
  have kc := canBe_any r q x s
  rw [hc] at kc
  clear h hp hf hc
  go_enter Tryz.func24, Tryz.ntmps24
  go_wp2_with (go_at_call 61; with_reducible refine (kh _).mono ?_; rintro _ w' ⟨rfl, rfl⟩)
  with_reducible refine (kc _).mono ?_
  rintro _ w1 ⟨rfl, K1⟩
  clear kc kh c0
  go_wp2
  go_ret
  exact ⟨rfl, ((Kp.refl _).alloc _).trans K1⟩
set_option maxHeartbeats 4000000 in
theorem mapb_align (h : FT W X w bt p pm N pool o M C root) (page : Nat) (f : Int) (r q x : Bool) (s : Int) (hp : page < 268435456) (hf : hasN N f 512 = true) (hc : canB r q s = true) (h5 : page % 512 ≠ 0 ∨ f % 512 ≠ 0) :
    Calls Tryz.prog 24 #[.pointer (some ⟨bt, 0, none⟩), .int .u64 (page : Int), .int .i64 f, .agg #[.bool r, .bool q, .bool x], .int .i64 s] w fun e w' => e = .returned (.int .i64 3) ∧ Kp w w' := by
  have c0 := fun ob => (h.tx.kp ((Kp.refl w).alloc ob)).c0
  have g1 : decide ((268435456 : Int) ≤ (page : Int)) = false := decide_eq_false (by omega)
  have g2 : decide (268435456 ≤ page) = false := decide_eq_false (by omega)
  have q0 := eql_frames p
  have kh : ∀ ob, Calls Tryz.prog 61 #[.pointer (some ⟨bt, 0, none⟩), .int .i64 f, .int .i64 512] (w.alloc ob) fun e w' => e = .returned (.bool true) ∧ w' = w.alloc ob := fun ob => by
    have := hasFrames_any (h.kps ((Kp.refl w).alloc ob)) f 512 (by omega)
    rw [hf] at this
    exact this
  have kc := canBe_any r q x s
  rw [hc] at kc
  have f0 : 0 ≤ f := by unfold hasN at hf; simp at hf; omega
  have HA : (page % 512 ≠ 0) ∨ (page % 512 = 0 ∧ f % 512 ≠ 0) := by omega
  clear h hp hf hc h5
  rcases HA with ha | ⟨ha, hb⟩
  · have a1 : ((page : Int) % 512) ≠ 0 := by omega
    have a1' : (((page : Int) % 512) == 0) = false := by simpa using a1
    have a4 : ((page : Int) % 512 != 0) = true := by simpa using a1
    go_enter Tryz.func24, Tryz.ntmps24
    go_wp2_with (go_at_call 61; with_reducible refine (kh _).mono ?_; rintro _ w' ⟨rfl, rfl⟩)
    with_reducible refine (kc _).mono ?_
    rintro _ w1 ⟨rfl, K1⟩
    clear kc kh c0
    go_wp2
    go_ret
    exact ⟨rfl, ((Kp.refl _).alloc _).trans K1⟩
  · have a1 : ((page : Int) % 512) = 0 := by omega
    have a2 : (f.tmod 512) ≠ 0 := by rw [Int.tmod_eq_emod_of_nonneg f0]; exact hb
    have a2' : (f.tmod 512 == 0) = false := by simpa using a2
    have a4 : (f.tmod 512 != 0) = true := by simpa using a2
    go_enter Tryz.func24, Tryz.ntmps24
    go_wp2_with (go_at_call 61; with_reducible refine (kh _).mono ?_; rintro _ w' ⟨rfl, rfl⟩)
    with_reducible refine (kc _).mono ?_
    rintro _ w1 ⟨rfl, K1⟩
    clear kc kh c0
    go_wp2
    go_ret
    exact ⟨rfl, ((Kp.refl _).alloc _).trans K1⟩
/-- What MapBlock tells. -/
def mapbR (N pool : Nat) (C : Nat → Nat) (E : Nat → Nat → DV) (page : Nat) (f : Int) (r q : Bool) (s : Int) : Int := if 268435456 ≤ page ∨ hasN N f 512 = false then 2 else if canB r q s = false then 1 else if page % 512 ≠ 0 ∨ f % 512 ≠ 0 then 3 else plR pool C E page 2
theorem mapb_any (h : TS W X w bt p pm N pool o M C Z root E) (ne : NE root E (fun _ _ => False)) (page : Nat) (f : Int) (r q x : Bool) (s : Int) (ho : o < 4000000000000000000) :
    Calls Tryz.prog 24 #[.pointer (some ⟨bt, 0, none⟩), .int .u64 (page : Int), .int .i64 f, .agg #[.bool r, .bool q, .bool x], .int .i64 s] w fun e w' => e = .returned (.int .i64 (mapbR N pool C E page f r q s)) ∧ MapO W X w w' bt p pm N pool o M C Z root E 2 page ⟨2, f.toNat * 4096, r, q, x, s⟩ (mapbR N pool C E page f r q s) := by
  unfold mapbR
  by_cases c1 : 268435456 ≤ page
  · rw [if_pos (.inl c1)]
    exact (mapb_far h.ft page f r q x s c1).mono fun e w' ⟨e1, e2⟩ => ⟨e1, MapO.no h ne e2 (by decide)⟩
  · cases c2 : hasN N f 512
    · rw [if_pos (.inr rfl)]
      exact (mapb_range h.ft page f r q x s (by omega) c2).mono fun e w' ⟨e1, e2⟩ => ⟨e1, MapO.no h ne e2 (by decide)⟩
    · rw [if_neg (fun c => c.elim c1 (fun c => by cases c))]
      cases c3 : canB r q s
      · rw [if_pos rfl]
        exact (mapb_arg h.ft page f r q x s (by omega) c2 c3).mono fun e w' ⟨e1, e2⟩ => ⟨e1, MapO.no h ne e2 (by decide)⟩
      · rw [if_neg (by decide)]
        by_cases c4 : page % 512 ≠ 0 ∨ f % 512 ≠ 0
        · rw [if_pos c4]
          exact (mapb_align h.ft page f r q x s (by omega) c2 c3 c4).mono fun e w' ⟨e1, e2⟩ => ⟨e1, MapO.no h ne e2 (by decide)⟩
        · rw [if_neg c4]
          have hf : 0 ≤ f ∧ f ≤ (N : Int) - 512 := by unfold hasN at c2; simpa using c2
          have := mapb_go h ne page f.toNat r q x s (by omega) (by omega) (by omega) (by omega) c3 ho
          rw [Int.toNat_of_nonneg hf.1] at this
          exact this.mono fun e w' ⟨e1, C', E', e2, e3, e4⟩ => ⟨e1, C', E', e2, e3, fun c => ⟨(e4 c).1, (e4 c).2⟩⟩
end
end Go.Proofs.YtcankhnnikhblaaGreatDoor
