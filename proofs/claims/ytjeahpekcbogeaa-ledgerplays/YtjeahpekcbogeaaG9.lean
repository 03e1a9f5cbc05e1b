/- demesneref11.Ints; the ledger beside other things; told. -/
import Derived.Test.YtjeahpekcbogeaaG8
namespace Go.Proofs.Ytjeahpekcbogeaa
open Go.RowKit Go.Maps

variable {W w w' : World} {p bm N : Nat} {E : Int → Int × Int}

set_option maxHeartbeats 2000000 in
set_option maxRecDepth 100000 in
theorem ints_any {va vb : Value} {L M : List Int} (hA : IL w va L) (hB : IL w vb M) (hl : L.length ≤ 2000000) :
    Calls Try.prog 18 #[va, vb] w fun e w' => e = .returned (.bool (decide (L = M))) ∧ Kp w w' := by
  obtain ⟨na, ca, rfl, fA⟩ := hA
  obtain ⟨nb, cb, rfl, fB⟩ := hB
  by_cases he : L.length = M.length
  · obtain ⟨n, hn⟩ : ∃ n, M.length = n := ⟨_, rfl⟩
    have HN : Hid (M.length = n ∧ L.length = n) := ⟨hn, by omega⟩
    rw [he, hn]
    have FA : Aside (∀ i x, L[i]? = some x → ∃ g, na = some ⟨g, 0, none⟩ ∧ g < w.heap.size ∧ w.cell? ⟨g, i, none⟩ = some (.int .i64 x)) := fA
    have FB : Aside (∀ i x, M[i]? = some x → ∃ g, nb = some ⟨g, 0, none⟩ ∧ g < w.heap.size ∧ w.cell? ⟨g, i, none⟩ = some (.int .i64 x)) := fB
    have y1 : (n : Int) ≤ 2000000 := by omega
    clear fA fB he hn hl
    obtain ⟨r, hr⟩ : ∃ r, decide (L = M) = r := ⟨_, rfl⟩
    have HR : Hid (decide (L = M) = r) := hr
    rw [hr]
    clear hr
    go_enter Try.func18, Try.ntmps18
    go_wp2_with fail
    go_loopg [5] (n + 1) (fun g v5 wr => ∃ (i : Nat), v5 = .int .i64 (i : Int) ∧ i ≤ n ∧ n + 1 - i ≤ g ∧ Hid (Kp w wr ∧ ∀ j, j < i → L[j]? = M[j]?))
    case atStart => exact ⟨0, rfl, by omega, by omega, Kp.refl w, fun j hj => by omega⟩
    case round =>
      obtain ⟨i, rfl, hi, hg, HL⟩ := hrel
      have y2 : (i : Int) ≤ n := by omega
      by_cases e : i < n
      · have z1 : (i : Int) < n := by omega
        have lx : i < L.length := by have := HN.out.2; omega
        have ly : i < M.length := by have := HN.out.1; omega
        obtain ⟨x, hx⟩ : ∃ x, L[i]? = some x := ⟨_, List.getElem?_eq_getElem lx⟩
        obtain ⟨y, hy⟩ : ∃ y, M[i]? = some y := ⟨_, List.getElem?_eq_getElem ly⟩
        obtain ⟨ga, rfl, a1, a2⟩ := FA.out i x hx
        obtain ⟨gb, rfl, b1, b2⟩ := FB.out i y hy
        have cA : wr.cell? ⟨ga, i, none⟩ = some (.int .i64 x) := by rw [HL.out.1.cell (p := ⟨ga, i, none⟩) a1]; exact a2
        have cB : wr.cell? ⟨gb, i, none⟩ = some (.int .i64 y) := by rw [HL.out.1.cell (p := ⟨gb, i, none⟩) b1]; exact b2
        clear FA FB a1 a2 b1 b2 lx ly
        by_cases exy : x = y
        · subst exy
          have HL2 : Hid (Kp w wr ∧ ∀ j, j < i + 1 → L[j]? = M[j]?) := ⟨HL.out.1, fun j hj => by
            by_cases ej : j = i
            · subst ej; rw [hx, hy]
            · exact HL.out.2 j (by omega)⟩
          clear HL hx hy
          go_wp2_with fail
          go_quiet (fail)
          go_wp2_with fail
          go_roundg (n + 1 - (i + 1))
          case measure => omega
          case rel => exact ⟨i + 1, by go_num, by omega, by omega, HL2.out.1.drewN _, HL2.out.2⟩
        · have er : r = false := by
            rw [← HR.out]
            exact decide_eq_false (fun h => exy (by rw [h, hy] at hx; exact (Option.some.inj hx).symm))
          subst er
          have yy : (x == y) = false := by simpa using exy
          have HK : Hid (Kp w wr) := HL.out.1
          clear HL hx hy
          go_wp2_with fail
          go_quiet (fail)
          go_wp2_with fail
          go_ret
          exact ⟨rfl, HK.out.drewN _⟩
      · have ei : i = n := by omega
        subst ei
        have er : r = true := by
          rw [← HR.out]
          refine decide_eq_true (List.ext_getElem? fun j => ?_)
          by_cases hj : j < i
          · exact HL.out.2 j hj
          · rw [List.getElem?_eq_none (by have := HN.out.2; omega), List.getElem?_eq_none (by have := HN.out.1; omega)]
        subst er
        go_wp2_with fail
        go_ret
        exact ⟨rfl, HL.out.1⟩
  · rw [decide_eq_false (fun h => he (by rw [h]))]
    have y : ((L.length : Int) == (M.length : Int)) = false := beq_eq_false_iff_ne.2 (by omega)
    have z : ¬ (L.length : Int) = (M.length : Int) := by omega
    clear fA fB
    generalize L.length = n1 at *
    generalize M.length = n2 at *
    go_enter Try.func18, Try.ntmps18
    go_wp2_with fail
    go_ret
    exact ⟨rfl, Kp.refl _⟩

/-- The ledger behind the world W. -/
structure LK (W w : World) (p bm N : Nat) (E : Int → Int × Int) : Prop where
  lg : LG w p bm N E
  k : Kp W w
  hp : W.heap.size ≤ p
  hb : W.heap.size ≤ bm
theorem LK.kp (h : LK W w p bm N E) (k : Kp w w') : LK W w' p bm N E := ⟨h.lg.kp k, h.k.trans k, h.hp, h.hb⟩
theorem LK.do (h : LK W w p bm N E) (x a q : Int) (hx : (Lit.int .i64 x).wf = true) :
    Calls Try.prog 12 #[.pointer (some ⟨p, 0, none⟩), .int .i64 x, .int .i64 a, .int .i64 q] w fun e w' => e = .returned (.int .i64 (mayN N (E x) x a q)) ∧ LK W w' p bm N (doE N E x a q) ∧ Fr (· = bm) w w' :=
  (ldo_any h.lg x a q hx).mono (fun _ _ ⟨h1, h2, h3⟩ => ⟨h1, ⟨h2, h3.kp h.k (fun _ hi => by rw [hi]; exact h.hb), h.hp, h.hb⟩, h3⟩)
/-- .. of a move that there is. -/
theorem LK.does (h : LK W w p bm N E) (x a q : Int) (hx : (Lit.int .i64 x).wf = true) (hm : mayN N (E x) x a q = 0) :
    Calls Try.prog 12 #[.pointer (some ⟨p, 0, none⟩), .int .i64 x, .int .i64 a, .int .i64 q] w fun e w' => e = .returned (.int .i64 0) ∧ LK W w' p bm N (putE E x (aftN a q)) ∧ Fr (· = bm) w w' := by
  have := h.do x a q hx
  unfold doE at this
  rw [if_pos hm, hm] at this
  exact this
/-- .. of one that there is not. -/
theorem LK.dont (h : LK W w p bm N E) (x a q r : Int) (hx : (Lit.int .i64 x).wf = true) (hm : mayN N (E x) x a q = r) (hr : r ≠ 0) :
    Calls Try.prog 12 #[.pointer (some ⟨p, 0, none⟩), .int .i64 x, .int .i64 a, .int .i64 q] w fun e w' => e = .returned (.int .i64 r) ∧ LK W w' p bm N E ∧ Fr (· = bm) w w' := by
  have := h.do x a q hx
  unfold doE at this
  rw [if_neg (by rw [hm]; exact hr), hm] at this
  exact this
theorem LK.may (h : LK W w p bm N E) (x a q r : Int) (hx : (Lit.int .i64 x).wf = true) (hm : mayN N (E x) x a q = r) :
    Calls Try.prog 10 #[.pointer (some ⟨p, 0, none⟩), .int .i64 x, .int .i64 a, .int .i64 q] w fun e w' => e = .returned (.int .i64 r) ∧ LK W w' p bm N E ∧ Kp w w' := by
  have := lmay_any h.lg x a q hx
  rw [hm] at this
  exact this.mono (fun _ _ ⟨h1, h2⟩ => ⟨h1, h.kp h2, h2⟩)
theorem LK.get (h : LK W w p bm N E) (x s q : Int) (hx : (Lit.int .i64 x).wf = true) (he : E x = (s, q)) :
    Calls Try.prog 14 #[.pointer (some ⟨p, 0, none⟩), .int .i64 x] w fun e w' => e = .returned (.agg #[.int .i64 s, .int .i64 q]) ∧ LK W w' p bm N E ∧ Kp w w' := by
  have := lget_any h.lg x hx
  rw [he] at this
  exact this.mono (fun _ _ ⟨h1, h2⟩ => ⟨h1, h.kp h2, h2⟩)
theorem LK.count (h : LK W w p bm N E) (st pt : Int) (n : Nat) (he : (lsE E N st pt).length = n) :
    Calls Try.prog 17 #[.pointer (some ⟨p, 0, none⟩), .int .i64 st, .int .i64 pt] w fun e w' => e = .returned (.int .i64 (n : Int)) ∧ LK W w' p bm N E ∧ Kp w w' := by
  have := lcount_any h.lg st pt
  rw [he] at this
  exact this.mono (fun _ _ ⟨h1, h2⟩ => ⟨h1, h.kp h2, h2⟩)
theorem LK.list (h : LK W w p bm N E) (st pt : Int) (L : List Int) (he : lsE E N st pt = L) :
    Calls Try.prog 19 #[.pointer (some ⟨p, 0, none⟩), .int .i64 st, .int .i64 pt] w fun e w' => (∃ v, e = .returned v ∧ IL w' v L) ∧ LK W w' p bm N E ∧ Kp w w' := by
  have := llist_any h.lg st pt
  rw [he] at this
  exact this.mono (fun _ _ ⟨h1, h2⟩ => ⟨h1, h.kp h2, h2⟩)
theorem lk_new (W : World) (n : Nat) (w : World) (k : Kp W w) (h1 : 1 ≤ n) (h2 : n ≤ 1048576) :
    Calls Try.prog 8 #[.int .i64 (n : Int)] w fun e w' => ∃ p bm, e = .returned (.tuple #[.pointer (some ⟨p, 0, none⟩), .int .i64 0]) ∧ LK W w' p bm n noE ∧ Kp w w' ∧ w.heap.size ≤ p ∧ w.heap.size ≤ bm :=
  (lnew_ok n w h1 h2).mono (fun _ _ ⟨p, bm, e1, e2, e3, e4, e5⟩ => ⟨p, bm, e1, ⟨e2, k.trans e3, Nat.le_trans k.size e4, Nat.le_trans k.size e5⟩, e3, e4, e5⟩)
theorem wf_small {x : Int} (h0 : 0 ≤ x) (h1 : x ≤ 2000000) : (Lit.int .i64 x).wf = true := WalkArith.wf_i64 (by omega)

def toE : Int → Int × Int := putE (putE noE 5 (4, 3)) 5 (5, 3)
set_option maxHeartbeats 2000000 in
theorem ltold_any (w : World) : Calls Try.prog 7 #[] w fun e w' => e = .returned (.bool true) ∧ Kp w w' := by
  have cN := lk_new w 9 w (Kp.refl w) (by omega) (by omega)
  rw [show ((9 : Nat) : Int) = 9 from rfl] at cN
  have cO := fun w => lnew_no 0 w (.inl (by omega))
  have qe := eq_ent 5 3 5 3
  rw [show samN 5 3 5 3 = true from by decide] at qe
  go_enter Try.func7, Try.ntmps7
  go_wp2_with fail
  with_reducible refine cN.mono ?_
  rintro e w1 ⟨p, bm, rfl, L1, _⟩
  go_wp2_with fail
  with_reducible refine (cO _).mono ?_
  rintro e w' ⟨rfl, rfl⟩
  go_wp2_with fail
  with_reducible refine (L1.does 5 3 3 (wf_small (by omega) (by omega)) (by decide)).mono ?_
  rintro e w2 ⟨rfl, L2, _⟩
  clear L1
  go_wp2_with fail
  with_reducible refine (L2.does 5 6 3 (wf_small (by omega) (by omega)) (by decide)).mono ?_
  rintro e w3 ⟨rfl, L3, _⟩
  clear L2
  have L4 : Hid (LK w w3 p bm 9 toE) := L3
  clear L3
  go_wp2_with fail
  with_reducible refine (L4.out.may 5 7 2 21 (wf_small (by omega) (by omega)) (by decide)).mono ?_
  rintro e w4 ⟨rfl, L5, _⟩
  clear L4
  go_wp2_with fail
  with_reducible refine (L5.dont 5 4 3 20 (wf_small (by omega) (by omega)) (by decide) (by decide)).mono ?_
  rintro e w5 ⟨rfl, L6, _⟩
  clear L5
  go_wp2_with fail
  with_reducible refine (L6.get 5 5 3 (wf_small (by omega) (by omega)) (by decide)).mono ?_
  rintro e w6 ⟨rfl, L7, _⟩
  clear L6
  go_wp2_with fail
  with_reducible refine (L7.count 5 (-1) 1 (by decide)).mono ?_
  rintro e w7 ⟨rfl, L8, _⟩
  clear L7
  go_wp2_with fail
  with_reducible refine (L8.list 5 3 [5] (by decide)).mono ?_
  rintro e w8 ⟨⟨v, rfl, I1⟩, L9, _⟩
  clear L8
  go_wp2_with fail
  with_reducible refine (ints_any (I1.kp ((Kp.refl w8).alloc _)) (IL.one w8 5) (by decide)).mono ?_
  rintro e w9 ⟨rfl, K9⟩
  have LA := (L9.kp ((Kp.refl w8).alloc (.cells #[.int .i64 5] 3))).kp K9
  clear L9
  go_wp2_with fail
  with_reducible refine (LA.dont 9 2 0 2 (wf_small (by omega) (by omega)) (by decide) (by decide)).mono ?_
  rintro e w10 ⟨rfl, LB, _⟩
  go_wp2_with fail
  go_ret
  exact ⟨rfl, LB.k⟩

end Go.Proofs.Ytjeahpekcbogeaa
