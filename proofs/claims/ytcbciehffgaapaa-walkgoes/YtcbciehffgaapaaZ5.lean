/- WalkLoops: the walk. -/
import Derived.Test.YtcbciehffgaapaaZ3
import Derived.Test.YtcbciehffgaapaaEG
namespace Go.Proofs.Ytcbciehffgaapaa
open Go.RowKit

/-- What was encoded is told to be what it was. -/
theorem dv_back {s : Int} {l : Nat} {k : Int} {a : Nat} {r q x : Bool} {f : Int} (h : dchk s l k a r q x f = 0) :
    dvN s l (wrd k a r q x f) = ⟨k, a, r, q, x, f⟩ ∧ decE s l (wrd k a r q x f) = 0 ∧ wrd k a r q x f < 18446744073709551616 := by
  obtain ⟨u, rfl, h1, h2, _, h4, h5, h6, h7, h8, h9⟩ := dec_back h
  refine ⟨?_, h2, h1⟩
  unfold dvN
  rw [h4, h5, h6, h7, h8, h9]
theorem chk0' {s l k : Int} {a : Nat} {r q x : Bool} {f : Int} (h1 : isPl s l = true ∧ isKd k = true ∧ 0 ≤ f ∧ f ≤ 15) (h2 : fm l k a r q x f = true) (h3 : a < topS s) (h4 : a % unitN l k = 0) : dchk s l k a r q x f = 0 := by
  unfold dchk
  rw [if_neg (by simp [h1]), if_neg (by rw [h2]; decide), if_neg (by omega), if_neg (by omega)]
theorem chk_table {l t : Nat} (hl : l ≤ 2) (ht : t < 1099511627776) (h4 : t % 4096 = 0) : dchk 1 l 1 t false false false 0 = 0 :=
  chk0' ⟨isPl_iff.2 (by omega), rfl, by decide, by decide⟩ (by simp [fm]; omega) ht (by unfold unitN; rw [if_neg (by decide)]; exact h4)
theorem chk_page {t : Nat} (ht : t < 1099511627776) (h4 : t % 4096 = 0) : dchk 1 (3 : Nat) 3 t false false false 0 = 0 :=
  chk0' ⟨by decide, rfl, by decide, by decide⟩ (by simp [fm]) ht (by unfold unitN; rw [if_neg (by decide)]; exact h4)

/-- The reader of tables that point at themselves. -/
def rdL (t : Nat) : Nat → Nat × Bool := fun p => (t + 3, decide (p / 4096 = t / 4096))
theorem at_page (t u l : Nat) (ht : t < 1099511627776) (h4 : t % 4096 = 0) : atN t u l / 4096 = t / 4096 := by
  have := idx_lt u l
  unfold atN
  omega
theorem loop_walk (t u : Nat) (ht : t < 1099511627776) (h4 : t % 4096 = 0) :
    goW 1 u (rdL t) 4 0 t = ([⟨0, atN t u 0, t + 3, ⟨1, t, false, false, false, 0⟩⟩, ⟨1, atN t u 1, t + 3, ⟨1, t, false, false, false, 0⟩⟩, ⟨2, atN t u 2, t + 3, ⟨1, t, false, false, false, 0⟩⟩, ⟨3, atN t u 3, t + 3, ⟨3, t, false, false, false, 0⟩⟩], 0, 4) := by
  have e0 : ∀ l, (rdL t (atN t u l)).1 = t + 3 := fun l => rfl
  have e1 : ∀ l, (rdL t (atN t u l)).2 = true := fun l => decide_eq_true (at_page t u l ht h4)
  have w1 : wrd 1 t false false false 0 = t + 3 := by show 1 + 2 * 1 + 64 * 0 + 128 * 0 + 256 * 0 + t + 0 * 36028797018963968 = _; omega
  have w3 : wrd 3 t false false false 0 = t + 3 := by show 1 + 2 * 1 + 64 * 0 + 128 * 0 + 256 * 0 + t + 0 * 36028797018963968 = _; omega
  have d0 : ∀ l, l ≤ 2 → dvN 1 l (t + 3) = ⟨1, t, false, false, false, 0⟩ := fun l hl => by rw [← w1]; exact (dv_back (chk_table hl ht h4)).1
  have d3 := dv_back (chk_page ht h4)
  rw [w3] at d3
  rw [goW_on (e1 0) (by rw [e0, d0 0 (by decide)]), e0, d0 0 (by decide), goW_on (e1 1) (by rw [e0, d0 1 (by decide)]), e0, d0 1 (by decide), goW_on (e1 2) (by rw [e0, d0 2 (by decide)]), e0, d0 2 (by decide), goW_end (e1 3) (by rw [e0, d3.1]; show ¬ (3 : Int) = 1; decide), e0, d3.1, d3.2.1]
  rfl

/-- What the reader leans on. -/
def IL (bn bt t : Nat) (m : Nat) (w : World) : Prop := w.heap[bn]? = some (.cells #[.int .i64 (m : Int)] 3) ∧ w.heap[bt]? = some (.cells #[.int .u64 (t : Int)] 22)
theorem cell_one {w : World} {b : Nat} {v : Value} {t : TypeId} (h : w.heap[b]? = some (.cells #[v] t)) : w.cell? ⟨b, 0, none⟩ = some v := by rw [cell_of_row _ _ 0 _ _ _ h]; rfl
theorem lt_of_row {w : World} {b : Nat} {o : Obj} (h : w.heap[b]? = some o) : b < w.heap.size := (Array.getElem?_eq_some_iff.1 h).1

theorem cnt_step {w : World} {b n : Nat} (h : w.heap[b]? = some (.cells #[.int .i64 (n : Int)] 3)) :
    (w.setCell ⟨b, 0, none⟩ (.int .i64 ((n : Int) + 1))).heap[b]? = some (.cells #[.int .i64 ((n + 1 : Nat) : Int)] 3) ∧ Fr (· = b) w (w.setCell ⟨b, 0, none⟩ (.int .i64 ((n : Int) + 1))) :=
  ⟨heap_setCell_same w b 0 _ _ (.int .i64 ((n : Int) + 1)) h, (Fr.refl _ w).set _ _ rfl⟩

set_option maxHeartbeats 2000000 in
theorem readL (bt t : Nat) (ht : t < 1099511627776) : RD (bt + 2) 21 #[.pointer (some ⟨bt + 1, 0, none⟩), .pointer (some ⟨bt, 0, none⟩)] (rdL t) (· = bt + 1) (IL (bt + 1) bt t) where
  fn := ⟨_, Try.func21, rfl, by decide⟩
  lt b h := by omega
  word _ := by show t + 3 < _; omega
  keep m w w' h k := ⟨(k.block _ (by omega)).trans h.1, (k.block _ (by omega)).trans h.2⟩
  size m w h := lt_of_row h.1
  call n w p h hn hp := by
    show Calls Try.prog 21 #[.int .u64 (p : Int), .pointer (some ⟨bt + 1, 0, none⟩), .pointer (some ⟨bt, 0, none⟩)] w fun e w' => e = .returned (.tuple #[.int .u64 ((t + 3 : Nat) : Int), .bool (decide (p / 4096 = t / 4096))]) ∧ IL (bt + 1) bt t (n + 1) w' ∧ Fr (· = bt + 1) w w'
    obtain ⟨T3, h3⟩ : ∃ T3, T3 = t + 3 := ⟨_, rfl⟩
    obtain ⟨b, hb⟩ : ∃ b, decide (p / 4096 = t / 4096) = b := ⟨_, rfl⟩
    obtain ⟨P, hP⟩ : ∃ P, p / 4096 = P := ⟨_, rfl⟩
    obtain ⟨T, hT⟩ : ∃ T, t / 4096 = T := ⟨_, rfl⟩
    have e3 : IntKind.u64.wrap ((t : Int) + 3) = (T3 : Int) := by rw [u64_id (by omega) (by omega)]; omega
    have eb : ((P : Int) == (T : Int)) = b := by
      rw [← hb, hP, hT]
      by_cases c : P = T
      · rw [c, decide_eq_true rfl]; exact beq_self_eq_true _
      · rw [decide_eq_false c, beq_eq_false_iff_ne]; omega
    have eP : (p : Int) / 4096 = (P : Int) := by omega
    have eT : (t : Int) / 4096 = (T : Int) := by omega
    have c1 := cell_one h.1
    have c2 := cell_one h.2
    have z1 : w.frozen? ⟨bt + 1, 0, none⟩ = false := frozen_of_row _ _ 0 _ _ h.1
    have yn : (n : Int) ≤ 100 := by omega
    have HI : Hid (IL (bt + 1) bt t n w) := h
    rw [← h3, hb]
    clear h hb hP hT ht hp hn h3
    go_enter Try.func21, Try.ntmps21
    go_wp2_with fail
    go_quiet (fail)
    go_wp2
    go_ret2
    have k := cnt_step HI.out.1
    exact ⟨rfl, ⟨k.1, (heap_setCell_other w ⟨bt + 1, 0, none⟩ bt _ (by simp)).trans HI.out.2⟩, k.2.trans ((Kp.refl _).drewN _ |>.fr _)⟩

set_option maxHeartbeats 8000000 in
set_option maxRecDepth 10000 in
theorem loops_walk (base : Int) (u t m z : Nat) (r : Bool) (w : World) (hu : u < 18446744073709551616) (ht : t < 1099511627776) (h4 : t % 4096 = 0) (p1 : bits .and .u64 base 1099511623680 = (t : Int)) (p2 : bits .and .u64 (u : Int) 4095 = (m : Int)) (p3 : IntKind.u64.wrap ((t : Int) + (m : Int)) = (z : Int)) (p4 : outN u 3 3 t = z) :
    Calls Try.prog 6 #[.int .u64 base, .int .u64 (u : Int), .bool r] w fun e w' => e = .returned (.bool true) ∧ Kp w w' := by
  have st : Aside (∀ w, Calls Try.prog 16 #[] w fun e w' => e = .returned (.bool true) ∧ Kp w w') := fun w => wtold_any w
  obtain ⟨p, hp⟩ : ∃ p, p = atN t u 3 := ⟨_, rfl⟩
  have t1 : Aside (∀ w, Calls Try.prog 18 #[.int .u64 (u : Int), .agg #[.int .i64 3, .int .u64 (p : Int), .int .u64 ((t + 3 : Nat) : Int), .int .i64 3, .int .u64 (t : Int), .bool false, .bool false, .bool false, .int .i64 0]] w fun e w' => e = .returned (.int .u64 (z : Int)) ∧ Kp w w') := fun w => by
    have h := out_any u t 3 (p : Int) ((t + 3 : Nat) : Int) 3 false false false 0 w
    rw [p4] at h
    exact h
  have hmf : ∀ (fn : Fn) (first cap : Array Value) (w : World), (Instr.makeFunc fn first cap).run Try.prog w = .ok (.func fn first cap) w := fun _ _ _ _ => rfl
  obtain ⟨w2, hw2⟩ : ∃ w2, w2 = (w.alloc (.cells #[.int .u64 (t : Int)] 22)).alloc (.cells #[.int .i64 0] 3) := ⟨_, rfl⟩
  have K2 : Kp w w2 := by rw [hw2]; exact ((Kp.refl w).alloc _).alloc _
  have I2 : IL (w.heap.size + 1) w.heap.size t 0 w2 := by
    rw [hw2]
    refine ⟨?_, (((Kp.refl _).alloc _).block w.heap.size (by simp)).trans (heap_alloc_new w _)⟩
    have := heap_alloc_new (w.alloc (.cells #[.int .u64 (t : Int)] 22)) (.cells #[.int .i64 0] 3)
    simpa using this
  have c1 := walk_any (readL w.heap.size t ht) 1 (by decide) t u 0 (by omega) hu (by decide) w2 I2
  rw [loop_walk t u ht h4] at c1
  have c1 : Calls Try.prog 9 #[.int .i64 1, .int .u64 (t : Int), .int .u64 (u : Int), .func (.func 21) #[] #[.pointer (some ⟨w.heap.size + 1, 0, none⟩), .pointer (some ⟨w.heap.size, 0, none⟩)]] w2 fun e w' => e = .returned (.tuple #[.slice (some ⟨w2.heap.size, 0, none⟩) 4 4, .int .i64 0]) ∧ WL w' w2.heap.size [⟨0, atN t u 0, t + 3, ⟨1, t, false, false, false, 0⟩⟩, ⟨1, atN t u 1, t + 3, ⟨1, t, false, false, false, 0⟩⟩, ⟨2, atN t u 2, t + 3, ⟨1, t, false, false, false, 0⟩⟩, ⟨3, atN t u 3, t + 3, ⟨3, t, false, false, false, 0⟩⟩] ∧ IL (w.heap.size + 1) w.heap.size t 4 w' ∧ Fr (· = w.heap.size + 1) w2 w' := c1
  have C1 : Aside (Calls Try.prog 9 #[.int .i64 1, .int .u64 (t : Int), .int .u64 (u : Int), .func (.func 21) #[] #[.pointer (some ⟨w.heap.size + 1, 0, none⟩), .pointer (some ⟨w.heap.size, 0, none⟩)]] w2 fun e w' => e = .returned (.tuple #[.slice (some ⟨w2.heap.size, 0, none⟩) 4 4, .int .i64 0]) ∧ WL w' w2.heap.size [⟨0, atN t u 0, t + 3, ⟨1, t, false, false, false, 0⟩⟩, ⟨1, atN t u 1, t + 3, ⟨1, t, false, false, false, 0⟩⟩, ⟨2, atN t u 2, t + 3, ⟨1, t, false, false, false, 0⟩⟩, ⟨3, atN t u 3, t + 3, ⟨3, t, false, false, false, 0⟩⟩] ∧ IL (w.heap.size + 1) w.heap.size t 4 w' ∧ Fr (· = w.heap.size + 1) w2 w') := c1
  have HK : Hid (Kp w w2) := K2
  clear c1 I2 K2 ht h4 p4
  rw [← hp] at C1
  clear hp
  go_enter Try.func6, Try.ntmps6
  go_wp2_with fail
  rw [← hw2]
  clear hw2
  with_reducible refine C1.out.mono ?_
  rintro e w3 ⟨rfl, L3, I3, F3⟩
  have K3 : Kp w w3 := F3.kp HK.out (fun i e => by omega)
  generalize w2.heap.size = b2 at *
  have HK3 : Hid (Kp w w3) := K3
  clear HK F3 C1 K3
  go_wp2_with fail
  have kb : Nonempty (KeptBy w3) := KeptBy.some
  have x0 : ∀ P : KeptBy w3, P.v.cell? ⟨w.heap.size + 1, 0, none⟩ = some (.int .i64 4) := fun P => cell_one ((P.k.block _ (lt_of_row I3.1)).trans I3.1)
  have x1 : ∀ P : KeptBy w3, P.v.cell? ⟨w.heap.size, 0, none⟩ = some (.int .u64 (t : Int)) := fun P => cell_one ((P.k.block _ (lt_of_row I3.2)).trans I3.2)
  have y0 : ∀ P : KeptBy w3, P.v.cell? ⟨b2, 27, none⟩ = some (.int .i64 3) := fun P => (L3.kp P.k).cell (i := 3) (j := 0) rfl rfl
  have y1 : ∀ P : KeptBy w3, P.v.cell? ⟨b2, 28, none⟩ = some (.int .u64 (p : Int)) := fun P => (L3.kp P.k).cell (i := 3) (j := 1) rfl rfl
  have y2 : ∀ P : KeptBy w3, P.v.cell? ⟨b2, 29, none⟩ = some (.int .u64 ((t + 3 : Nat) : Int)) := fun P => (L3.kp P.k).cell (i := 3) (j := 2) rfl rfl
  have y3 : ∀ P : KeptBy w3, P.v.cell? ⟨b2, 30, none⟩ = some (.int .i64 3) := fun P => (L3.kp P.k).cell (i := 3) (j := 3) rfl rfl
  have y4 : ∀ P : KeptBy w3, P.v.cell? ⟨b2, 31, none⟩ = some (.int .u64 (t : Int)) := fun P => (L3.kp P.k).cell (i := 3) (j := 4) rfl rfl
  have y5 : ∀ P : KeptBy w3, P.v.cell? ⟨b2, 32, none⟩ = some (.bool false) := fun P => (L3.kp P.k).cell (i := 3) (j := 5) rfl rfl
  have y6 : ∀ P : KeptBy w3, P.v.cell? ⟨b2, 33, none⟩ = some (.bool false) := fun P => (L3.kp P.k).cell (i := 3) (j := 6) rfl rfl
  have y7 : ∀ P : KeptBy w3, P.v.cell? ⟨b2, 34, none⟩ = some (.bool false) := fun P => (L3.kp P.k).cell (i := 3) (j := 7) rfl rfl
  have y8 : ∀ P : KeptBy w3, P.v.cell? ⟨b2, 35, none⟩ = some (.int .i64 0) := fun P => (L3.kp P.k).cell (i := 3) (j := 8) rfl rfl
  clear L3 I3
  generalize t + 3 = T3 at *
  refine wp_region_kept mixed (by kernel_rfl) ?_
  repeat (go_big_quiet_step (first | exact rfl | (go_at_call 16; with_reducible refine Calls.kept_of (st.out _)) | (go_at_call 18; go_must (with_reducible refine Calls.kept_of (t1.out _)))))
  refine wpQuiet_nil ?_
  intro _ hw'
  obtain ⟨⟨wq, kq⟩, hw''⟩ := hw'
  subst hw''
  have kq' := HK3.out.trans kq
  clear kq
  go_wp2
  go_ret
  exact ⟨rfl, kq'⟩

theorem loops_law (base u : Int) (r : Bool) (hb : (Lit.int .u64 base).wf = true) (hu : (Lit.int .u64 u).wf = true) (w : World) :
    Calls Try.prog 6 #[.int .u64 base, .int .u64 u, .bool r] w fun e w' => e = .returned (.bool true) ∧ Kp w w' := by
  have b1 := wf_word hb
  have b2 := wf_word hu
  obtain ⟨base, rfl⟩ : ∃ n : Nat, base = n := ⟨base.toNat, by omega⟩
  obtain ⟨u, rfl⟩ : ∃ n : Nat, u = n := ⟨u.toNat, by omega⟩
  have ht : base &&& 1099511623680 < 1099511627776 := Nat.lt_of_le_of_lt Nat.and_le_right (by decide)
  have h4 : (base &&& 1099511623680) % 4096 = 0 := by
    have h := Nat.and_mod_two_pow (a := base) (b := 1099511623680) (n := 12)
    rw [show (1099511623680 : Nat) % 2 ^ 12 = 0 from rfl, Nat.and_zero] at h
    exact h
  have p2 : bits .and .u64 (u : Int) 4095 = ((u % 4096 : Nat) : Int) := by
    have h := u64_and_nat u 4095 (by omega) (by decide)
    rw [show (4095 : Nat) = 2 ^ 12 - 1 from rfl, Nat.and_two_pow_sub_one_eq_mod] at h
    exact h
  refine loops_walk base u (base &&& 1099511623680) (u % 4096) _ r w (by omega) ht h4 (u64_and_nat base 1099511623680 (by omega) (by decide)) p2 (add_word _ _) ?_
  unfold outN inN
  rw [if_pos (.inr rfl), show spn 3 = 4096 from rfl, if_neg (by decide)]

end Go.Proofs.Ytcbciehffgaapaa
