/- ledger: New, Get, mayRelease, mayMove, May. -/
import Derived.Test.YtjeahpekcbogeaaG4
namespace Go.Proofs.Ytjeahpekcbogeaa
open Go.RowKit Go.Maps

/-- The ledger at p, its map at bm: N frames, entries E. -/
structure LG (w : World) (p bm N : Nat) (E : Int → Int × Int) : Prop where
  row : w.heap[p]? = some (.cells #[.int .i64 (N : Int), .map (some bm)] 47)
  me : ME w bm N E
  n1 : 1 ≤ N
  n2 : N ≤ 1048576
variable {w w' : World} {p bm N : Nat} {E : Int → Int × Int}
theorem LG.lt (h : LG w p bm N E) : p < w.heap.size := (Array.getElem?_eq_some_iff.1 h.row).1
theorem LG.ne (h : LG w p bm N E) : p ≠ bm := fun e => by
  obtain ⟨D, ⟨es, clock, hb, _⟩, _⟩ := h.me.ex
  have := h.row
  rw [e, hb] at this
  cases this
theorem LG.fr (h : LG w p bm N E) {S : Nat → Prop} (k : Fr S w w') (h1 : ¬ S p) (h2 : ¬ S bm) : LG w' p bm N E := ⟨(k.block p h.lt h1).trans h.row, h.me.fr k h2, h.n1, h.n2⟩
theorem LG.kp (h : LG w p bm N E) (k : Kp w w') : LG w' p bm N E := h.fr (k.fr (fun _ => False)) id id
theorem LG.put (h : LG w p bm N E) {E' : Int → Int × Int} (k : Fr (· = bm) w w') (m : ME w' bm N E') : LG w' p bm N E' := ⟨(k.block p h.lt h.ne).trans h.row, m, h.n1, h.n2⟩
theorem LG.c0 (h : LG w p bm N E) : w.cell? ⟨p, 0, none⟩ = some (.int .i64 (N : Int)) := by rw [cell_of_row _ _ 0 _ _ _ h.row]; rfl
theorem LG.c1 (h : LG w p bm N E) : w.cell? ⟨p, 1, none⟩ = some (.map (some bm)) := by rw [cell_of_row _ _ 1 _ _ _ h.row]; rfl

theorem lnew_ok (n : Nat) (w : World) (h1 : 1 ≤ n) (h2 : n ≤ 1048576) :
    Calls Try.prog 8 #[.int .i64 (n : Int)] w fun e w' => ∃ p bm, e = .returned (.tuple #[.pointer (some ⟨p, 0, none⟩), .int .i64 0]) ∧ LG w' p bm n noE ∧ Kp w w' ∧ w.heap.size ≤ p ∧ w.heap.size ≤ bm := by
  have z1 : (1 : Int) ≤ n := by omega
  have z2 : (n : Int) ≤ 1048576 := by omega
  have hmm := @run_makeMap Try.prog
  go_enter Try.func8, Try.ntmps8
  go_wp2
  go_ret2
  have k1 : Kp w (w.alloc (.map #[] 0)) := (Kp.refl w).alloc _
  have e1 : (w.alloc (.map #[] 0)).heap.size = w.heap.size + 1 := by simp
  have k2 : Kp (w.alloc (.map #[] 0)) ((w.alloc (.map #[] 0)).alloc (.cells #[.int .i64 (n : Int), .map (some w.heap.size)] 47)) := (Kp.refl _).alloc _
  have e2 := heap_alloc_new (w.alloc (.map #[] 0)) (.cells #[.int .i64 (n : Int), .map (some w.heap.size)] 47)
  rw [e1] at e2
  exact ⟨w.heap.size + 1, w.heap.size, rfl, ⟨e2, (ME.made w n).kp k2, h1, h2⟩, k1.trans k2, by omega, by omega⟩

theorem lnew_no (n : Int) (w : World) (h : n < 1 ∨ 1048576 < n) :
    Calls Try.prog 8 #[.int .i64 n] w fun e w' => e = .returned (.tuple #[.pointer none, .int .i64 1]) ∧ w' = w := by
  rcases h with h | h
  · go_enter Try.func8, Try.ntmps8
    go_wp2
    go_ret2
    exact ⟨rfl, rfl⟩
  · have h' : ¬ n < 1 := by omega
    go_enter Try.func8, Try.ntmps8
    go_wp2
    go_ret2
    exact ⟨rfl, rfl⟩

set_option maxHeartbeats 1000000 in
theorem lget_any (h : LG w p bm N E) (x : Int) (hx : (Lit.int .i64 x).wf = true) :
    Calls Try.prog 14 #[.pointer (some ⟨p, 0, none⟩), .int .i64 x] w fun e w' => e = .returned (entV (E x)) ∧ Kp w w' := by
  have k1 : Kp w (w.alloc (.cells #[.int .i64 0, .int .i64 0] 36)) := (Kp.refl w).alloc _
  have l := (h.me.kp k1).look x hx
  have c1 := (h.kp k1).c1
  clear h hx k1
  unfold entV at *
  generalize E x = e at *
  obtain ⟨s, q⟩ := e
  simp only at l ⊢
  go_enter Try.func14, Try.ntmps14
  go_wp2_with fail
  exact bodyPost_ret (res_n rfl rfl (NX.made w _ _)) rfl ⟨rfl, (Kp.refl _).alloc _⟩

set_option maxHeartbeats 4000000 in
theorem mrel_walk (s q p : Int) (b4 b5 bf bq : Bool) (z0 : (s == 0) = false) (z3 : (s == 3) = false) (z4 : (s == 4) = b4) (z5 : (s == 5) = b5) (hf : fitB p (b4 || b5) = bf) (hq : (q == p) = bq) (w : World) :
    Calls Try.prog 20 #[.agg #[.int .i64 s, .int .i64 q], .int .i64 p] w fun e w' => e = .returned (.int .i64 (if bf = false then 1 else if bq = false then 21 else 0)) ∧ Kp w w' := by
  have c1 := fun w => fits_any p (b4 || b5) w
  rw [hf] at c1
  clear hf
  cases b4 <;> cases b5 <;> simp only [Bool.or_true, Bool.or_false] at c1 <;> cases bf <;> cases bq
  all_goals
    go_enter Try.func20, Try.ntmps20
    go_wp2_with (go_at_call 30; with_reducible refine (c1 _).mono ?_; rintro e w' ⟨rfl, rfl⟩)
    all_goals (go_ret; exact ⟨rfl, (Kp.refl _).alloc _⟩)
set_option maxHeartbeats 4000000 in
theorem mrel_any (s q p : Int) (w : World) :
    Calls Try.prog 20 #[.agg #[.int .i64 s, .int .i64 q], .int .i64 p] w fun e w' => e = .returned (.int .i64 (relN s q p)) ∧ Kp w w' := by
  unfold relN
  by_cases h0 : s = 0
  · subst h0
    rw [if_pos (.inl rfl)]
    go_enter Try.func20, Try.ntmps20
    go_wp2_with fail
    go_ret
    exact ⟨rfl, (Kp.refl _).alloc _⟩
  by_cases h3 : s = 3
  · subst h3
    rw [if_pos (.inr rfl)]
    go_enter Try.func20, Try.ntmps20
    go_wp2_with fail
    go_ret
    exact ⟨rfl, (Kp.refl _).alloc _⟩
  rw [if_neg (by omega)]
  have := mrel_walk s q p (decide (s = 4)) (decide (s = 5)) (fitB p (decide (s = 4) || decide (s = 5))) (q == p) (by simpa using h0) (by simpa using h3) (by rw [Bool.eq_iff_iff]; simp) (by rw [Bool.eq_iff_iff]; simp) rfl rfl w
  refine this.mono ?_
  rintro e w' ⟨rfl, K⟩
  refine ⟨?_, K⟩
  by_cases e : q = p <;> simp [e]

set_option maxHeartbeats 4000000 in
theorem mmov_any (s q f t p : Int) (o g : Bool) (w : World) :
    Calls Try.prog 21 #[.agg #[.int .i64 s, .int .i64 q], .agg #[.int .i64 f, .int .i64 t, .bool o, .bool g], .int .i64 p] w fun e w' => e = .returned (.int .i64 (movN s q f o g p)) ∧ Kp w w' := by
  have c1 := fun w => fits_any p (o || g) w
  unfold movN
  cases hb : fitB p (o || g)
  · rw [hb] at c1
    rw [if_pos rfl]
    clear hb
    cases o <;> cases g <;> simp only [Bool.or_true, Bool.or_false] at c1
    all_goals
      go_enter Try.func21, Try.ntmps21
      go_wp2_with (go_at_call 30; with_reducible refine (c1 _).mono ?_; rintro e w' ⟨rfl, rfl⟩)
      go_ret
      exact ⟨rfl, ((Kp.refl _).alloc _).alloc _⟩
  · rw [hb] at c1
    rw [if_neg (by decide)]
    clear hb
    by_cases hs : s = f
    · subst hs
      rw [if_neg (by simp)]
      cases o
      · rw [if_neg (by simp)]
        cases g <;> simp only [Bool.or_true, Bool.or_false] at c1
        all_goals
          go_enter Try.func21, Try.ntmps21
          go_wp2_with (go_at_call 30; with_reducible refine (c1 _).mono ?_; rintro e w' ⟨rfl, rfl⟩)
          go_ret
          exact ⟨rfl, ((Kp.refl _).alloc _).alloc _⟩
      · by_cases hq : q = p
        · subst hq
          rw [if_neg (by simp)]
          cases g <;> simp only [Bool.or_true, Bool.or_false] at c1
          all_goals
            go_enter Try.func21, Try.ntmps21
            go_wp2_with (go_at_call 30; with_reducible refine (c1 _).mono ?_; rintro e w' ⟨rfl, rfl⟩)
            go_ret
            exact ⟨rfl, ((Kp.refl _).alloc _).alloc _⟩
        · rw [if_pos ⟨rfl, hq⟩]
          have y : (q == p) = false := by simpa using hq
          cases g <;> simp only [Bool.or_true, Bool.or_false] at c1
          all_goals
            go_enter Try.func21, Try.ntmps21
            go_wp2_with (go_at_call 30; with_reducible refine (c1 _).mono ?_; rintro e w' ⟨rfl, rfl⟩)
            go_ret
            exact ⟨rfl, ((Kp.refl _).alloc _).alloc _⟩
    · rw [if_pos hs]
      have y : (s == f) = false := by simpa using hs
      cases o <;> cases g <;> simp only [Bool.or_true, Bool.or_false] at c1
      all_goals
        go_enter Try.func21, Try.ntmps21
        go_wp2_with (go_at_call 30; with_reducible refine (c1 _).mono ?_; rintro e w' ⟨rfl, rfl⟩)
        go_ret
        exact ⟨rfl, ((Kp.refl _).alloc _).alloc _⟩

end Go.Proofs.Ytjeahpekcbogeaa
