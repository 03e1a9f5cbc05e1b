/- buddy.Buddy: Has, Free, owns, anyFree. -/
import Derived.Test.YtjnkmmfppkpgbaaDoorU4
namespace Go.Proofs.YtjnkmmfppkpgbaaDoor
open Go.RowKit

/-- The buddy at p has the frames lo to hi - 1, of which those of F are free. -/
structure BF (w : World) (U : Nat → Prop) (p lo hi : Nat) (F : Nat → Bool) : Prop where
  bd : BD w U p lo hi (rn F) (cnt F hi)
  dom : ∀ k, F k = true → lo ≤ k ∧ k < hi
  le : lo ≤ hi
theorem BD.like {w : World} {U : Nat → Prop} {p lo hi fr fr' : Nat} {S S' : Nat → Nat → Bool} (h : BD w U p lo hi S fr) (hS : ∀ o i, o < 10 → S' o i = S o i) (hf : fr' = fr) : BD w U p lo hi S' fr' := by
  subst hf
  obtain ⟨wb, sz, lw, W, h, k⟩ := h
  exact ⟨wb, sz, lw, W, h, ⟨fun o q b ho hb => by rw [k.bit o q b ho hb, hS _ _ ho], fun o i ho hi => k.dom o i ho (by rw [← hS _ _ ho]; exact hi), fun o ho => by rw [k.cnt o ho]; exact (cnt_like _ (fun i _ => hS o i ho)).symm, fun o i ho hi => k.low o i ho (by rw [← hS _ _ ho]; exact hi)⟩⟩
theorem BD.fr {w w' : World} {U X : Nat → Prop} {p lo hi fr : Nat} {S : Nat → Nat → Bool} (h : BD w U p lo hi S fr) (k : Fr X w w') (hX : ∀ i, U i → ¬ X i) (hX0 : ¬ X 1) : BD w' U p lo hi S fr := by
  obtain ⟨wb, sz, lw, W, h, s⟩ := h
  exact ⟨wb, sz, lw, W, h.fr' k hX hX0, s⟩
section
variable {w : World} {U : Nat → Prop} {p lo hi : Nat} {F : Nat → Bool}
theorem BF.fr {w' : World} (h : BF w U p lo hi F) {X : Nat → Prop} (k : Fr X w w') (hX : ∀ i, U i → ¬ X i) (hX0 : ¬ X 1) : BF w' U p lo hi F := ⟨h.bd.fr k hX hX0, h.dom, h.le⟩
theorem BF.kp {w' : World} (h : BF w U p lo hi F) (k : Kp w w') : BF w' U p lo hi F := h.fr (k.fr (fun _ => False)) (fun _ _ => id) id
theorem BF.own (h : BF w U p lo hi F) : ∀ k, U k → k < w.heap.size := by
  obtain ⟨wb, sz, lw, W, h, s⟩ := h.bd
  exact h.own
theorem BF.hh (h : BF w U p lo hi F) : hi ≤ 1048576 := by
  obtain ⟨wb, sz, lw, W, h, s⟩ := h.bd
  exact h.hh
theorem BF.tab (h : BF w U p lo hi F) : TAB w := by
  obtain ⟨wb, sz, lw, W, h, s⟩ := h.bd
  exact h.tab
theorem BF.u0 (h : BF w U p lo hi F) : ¬ U 1 := by
  obtain ⟨wb, sz, lw, W, h, s⟩ := h.bd
  exact h.u0
theorem BF.up (h : BF w U p lo hi F) : U p := by
  obtain ⟨wb, sz, lw, W, h, s⟩ := h.bd
  exact h.up
theorem BF.c (h : BF w U p lo hi F) : w.cell? ⟨p, 0, none⟩ = some (.int .i64 (lo : Int)) ∧ w.cell? ⟨p, 1, none⟩ = some (.int .i64 (hi : Int)) ∧ w.cell? ⟨p, 2, none⟩ = some (.int .i64 (cnt F hi : Int)) := by
  obtain ⟨wb, sz, lw, W, h, s⟩ := h.bd
  exact ⟨h.c0, h.c1, h.c2⟩
theorem BF.shas (h : BF w U p lo hi F) (f : Nat) (hf : f ≤ 2000000) : ∀ k w', k < 10 → Dr w w' → Calls Tryd.prog 70 #[.pointer (some ⟨p, 3 + k * 3, none⟩), .int .i64 ((f / 2 ^ k : Nat) : Int)] w' fun e w'' => e = .returned (.bool (rn F k (f / 2 ^ k))) ∧ w'' = w' := fun k w' hk hd => by
  obtain ⟨wb, sz, lw, W, h, s⟩ := h.bd
  obtain ⟨m, rfl⟩ := hd
  exact shas_any (h.drewN m) s k _ hk (Nat.le_trans (Nat.div_le_self _ _) hf)
theorem around_in (h : BF w U p lo hi F) (f o : Nat) (hf : f ≤ 2000000) (ho : o ≤ 9) (hr : Rn F o (f / 2 ^ o)) :
    Calls Tryd.prog 79 #[.pointer (some ⟨p, 0, none⟩), .int .i64 (f : Int)] w fun e w' => e = .returned (.int .i64 (o : Int)) ∧ Dr w w' :=
  around_walk p f o (fun k => rn F k (f / 2 ^ k)) w (h.shas f hf) (by omega) (fun k hk => (rn_false ..).2 (fun c => by have := run_one (by omega) ho c hr; omega)) (fun _ => (rn_iff ..).2 hr)
theorem around_out (h : BF w U p lo hi F) (f : Nat) (hf : f ≤ 2000000) (hF : F f = false) :
    Calls Tryd.prog 79 #[.pointer (some ⟨p, 0, none⟩), .int .i64 (f : Int)] w fun e w' => e = .returned (.int .i64 10) ∧ Dr w w' :=
  around_walk p f 10 (fun k => rn F k (f / 2 ^ k)) w (h.shas f hf) (by omega) (fun k hk => (rn_false ..).2 (fun c => by have := c.1 f rfl; rw [hF] at this; cases this)) (fun h => by omega)
theorem around_any (h : BF w U p lo hi F) (f : Nat) (hf : f ≤ 2000000) : ∃ r : Nat, (Calls Tryd.prog 79 #[.pointer (some ⟨p, 0, none⟩), .int .i64 (f : Int)] w fun e w' => e = .returned (.int .i64 (r : Int)) ∧ Dr w w') ∧ ((r ≤ 9 ∧ F f = true ∧ Rn F r (f / 2 ^ r)) ∨ (r = 10 ∧ F f = false)) := by
  cases hF : F f
  · exact ⟨10, around_out h f hf hF, .inr ⟨rfl, rfl⟩⟩
  · obtain ⟨o, ho, hr⟩ := run_of hF
    exact ⟨o, around_in h f o hf ho hr, .inl ⟨ho, rfl, hr⟩⟩

def hasB (F : Nat → Bool) (x : Int) : Bool := decide (0 ≤ x) && F x.toNat
theorem hasB_nat (F : Nat → Bool) (x : Nat) : hasB F (x : Int) = F x := by unfold hasB; simp
set_option maxHeartbeats 1000000 in
theorem has_any (h : BF w U p lo hi F) (x : Int) :
    Calls Tryd.prog 78 #[.pointer (some ⟨p, 0, none⟩), .int .i64 x] w fun e w' => e = .returned (.bool (hasB F x)) ∧ Dr w w' := by
  obtain ⟨c0, c1, _⟩ := h.c
  by_cases d1 : x < lo
  · have e : hasB F x = false := by
      unfold hasB
      by_cases c : 0 ≤ x
      · rw [decide_eq_true c, Bool.true_and]
        cases hv : F x.toNat
        · rfl
        · have := (h.dom _ hv).1; omega
      · rw [decide_eq_false c]; rfl
    rw [e]
    clear h e
    go_enter Tryd.func78, Tryd.ntmps78
    go_wp2
    go_ret
    exact ⟨rfl, Dr.refl _⟩
  · by_cases d2 : x < hi
    · have y1 : (0 : Int) ≤ x := by omega
      have hh := h.hh
      obtain ⟨r, c3, hr⟩ := around_any h x.toNat (by omega)
      rw [show ((x.toNat : Nat) : Int) = x by omega] at c3
      have e : hasB F x = (decide ((0 : Int) ≤ r) && decide ((r : Int) ≤ 9)) := by
        unfold hasB
        rw [decide_eq_true y1, decide_eq_true (by omega), Bool.true_and, Bool.true_and]
        rcases hr with ⟨h1, h2, _⟩ | ⟨h1, h2⟩
        · rw [h2, decide_eq_true (by omega)]
        · rw [h2, decide_eq_false (by omega)]
      rw [e]
      have c4 := fun w => isOrder_any (r : Int) w
      clear h hr e
      generalize (decide ((0 : Int) ≤ r) && decide ((r : Int) ≤ 9)) = b at *
      go_enter Tryd.func78, Tryd.ntmps78
      go_wp2_with (first | (go_at_call 79; go_must (with_reducible refine c3.mono ?_); rintro e w1 ⟨rfl, D1⟩) | (go_at_call 63; go_must (with_reducible refine (c4 _).mono ?_); rintro e w' ⟨rfl, rfl⟩))
      go_ret
      exact ⟨rfl, D1⟩
    · have e : hasB F x = false := by
        unfold hasB
        cases hv : F x.toNat
        · rw [Bool.and_false]
        · have := (h.dom _ hv).2; omega
      rw [e]
      clear h e
      go_enter Tryd.func78, Tryd.ntmps78
      go_wp2
      go_ret
      exact ⟨rfl, Dr.refl _⟩
theorem free_any (h : BF w U p lo hi F) :
    Calls Tryd.prog 45 #[.pointer (some ⟨p, 0, none⟩)] w fun e w' => e = .returned (.int .i64 (cnt F hi : Int)) ∧ w' = w := by
  obtain ⟨_, _, c2⟩ := h.c
  clear h
  generalize cnt F hi = n at *
  go_enter Tryd.func45, Tryd.ntmps45
  go_wp2
  go_ret
  exact ⟨rfl, rfl⟩

/-- Is there such a run, and are its frames all the buddy's? -/
def owns (lo hi : Nat) (x o : Int) : Bool := decide (0 ≤ o ∧ o ≤ 9 ∧ x.tmod (2 ^ o.toNat) = 0 ∧ (lo : Int) ≤ x ∧ x ≤ (hi : Int) - 2 ^ o.toNat)
set_option maxHeartbeats 1000000 in
theorem owns_walk (lo hi s o : Nat) (x m : Int) (p : Nat) (w : World) (c0 : w.cell? ⟨p, 0, none⟩ = some (.int .i64 (lo : Int))) (c1 : w.cell? ⟨p, 1, none⟩ = some (.int .i64 (hi : Int)))
    (hs : wrap64 (2 ^ o) = (s : Int)) (s0 : (0 : Int) < s) (s1 : (s : Int) ≤ 1000) (ho : (o : Int) < 10) (hi' : (hi : Int) ≤ 1048576) (hm : x.tmod s = m) (b : Bool) (hb : (decide (m = 0) && decide ((lo : Int) ≤ x) && decide (x ≤ (hi : Int) - s)) = b) :
    Calls Tryd.prog 68 #[.pointer (some ⟨p, 0, none⟩), .int .i64 x, .int .i64 (o : Int)] w fun e w' => e = .returned (.bool b) ∧ w' = w := by
  have c4 := fun w => isOrder_any (o : Int) w
  rw [decide_eq_true (by omega), decide_eq_true (by omega), Bool.true_and] at c4
  have z : ¬ (s : Int) = 0 := by omega
  by_cases d1 : m = 0
  · by_cases d2 : (lo : Int) ≤ x
    · by_cases d3 : x ≤ (hi : Int) - s
      · rw [decide_eq_true d1, decide_eq_true d2, decide_eq_true d3] at hb
        have hb' : true = b := hb
        subst hb'
        clear hb
        go_enter Tryd.func68, Tryd.ntmps68
        go_wp2_with (first | (go_at_call 63; go_must (with_reducible refine (c4 _).mono ?_); rintro e w' ⟨rfl, rfl⟩))
        go_ret
        exact ⟨rfl, rfl⟩
      · rw [decide_eq_true d1, decide_eq_true d2, decide_eq_false d3] at hb
        have hb' : false = b := hb
        subst hb'
        have D3 : Hid (¬ x ≤ (hi : Int) - s) := d3
        clear hb
        go_enter Tryd.func68, Tryd.ntmps68
        go_wp2_with (first | (go_at_call 63; go_must (with_reducible refine (c4 _).mono ?_); rintro e w' ⟨rfl, rfl⟩))
        go_ret
        exact ⟨by rw [decide_eq_false (show ¬ x ≤ (hi : Int) - s by have := D3.out; omega)]; rfl, rfl⟩
    · rw [decide_eq_true d1, decide_eq_false d2] at hb
      have hb' : false = b := hb
      subst hb'
      clear hb
      go_enter Tryd.func68, Tryd.ntmps68
      go_wp2_with (first | (go_at_call 63; go_must (with_reducible refine (c4 _).mono ?_); rintro e w' ⟨rfl, rfl⟩))
      go_ret
      exact ⟨rfl, rfl⟩
  · rw [decide_eq_false d1] at hb
    have hb' : false = b := hb
    subst hb'
    have d2 : (m == 0) = false := by simpa using d1
    clear hb d1
    go_enter Tryd.func68, Tryd.ntmps68
    go_wp2_with (first | (go_at_call 63; go_must (with_reducible refine (c4 _).mono ?_); rintro e w' ⟨rfl, rfl⟩))
    go_ret
    exact ⟨rfl, rfl⟩
theorem owns_no (x o : Int) (p : Nat) (w : World) (h : ¬ (0 ≤ o ∧ o ≤ 9)) :
    Calls Tryd.prog 68 #[.pointer (some ⟨p, 0, none⟩), .int .i64 x, .int .i64 o] w fun e w' => e = .returned (.bool false) ∧ w' = w := by
  have c4 := fun w => isOrder_any o w
  rw [show (decide (0 ≤ o) && decide (o ≤ 9)) = false by
    by_cases c : 0 ≤ o
    · rw [decide_eq_false (by omega : ¬ o ≤ 9), Bool.and_false]
    · rw [decide_eq_false c]; rfl] at c4
  clear h
  go_enter Tryd.func68, Tryd.ntmps68
  go_wp2_with (first | (go_at_call 63; go_must (with_reducible refine (c4 _).mono ?_); rintro e w' ⟨rfl, rfl⟩))
  go_ret
  exact ⟨rfl, rfl⟩
theorem owns_any (h : BF w U p lo hi F) (x o : Int) :
    Calls Tryd.prog 68 #[.pointer (some ⟨p, 0, none⟩), .int .i64 x, .int .i64 o] w fun e w' => e = .returned (.bool (owns lo hi x o)) ∧ w' = w := by
  by_cases c : 0 ≤ o ∧ o ≤ 9
  · obtain ⟨k, rfl⟩ : ∃ k : Nat, o = (k : Int) := ⟨o.toNat, by omega⟩
    obtain ⟨e1, e2⟩ := pow_wrap (show k < 10 by omega)
    have hp := Nat.two_pow_pos k
    have es : ((2 ^ k : Nat) : Int) = (2 : Int) ^ k := by push_cast; rfl
    obtain ⟨c0, c1, _⟩ := h.c
    have hh := h.hh
    refine owns_walk lo hi (2 ^ k) k x (x.tmod ((2 ^ k : Nat) : Int)) p w c0 c1 e1 (by omega) e2 (by omega) (by omega) rfl _ ?_
    unfold owns
    rw [Int.toNat_natCast, ← es, ← Bool.decide_and, ← Bool.decide_and]
    apply decide_eq_decide.2
    constructor
    · rintro ⟨⟨h1, h2⟩, h3⟩; exact ⟨by omega, by omega, h1, h2, h3⟩
    · rintro ⟨_, _, h1, h2, h3⟩; exact ⟨⟨h1, h2⟩, h3⟩
  · rw [show owns lo hi x o = false by unfold owns; exact decide_eq_false (fun z => c ⟨z.1, z.2.1⟩)]
    exact owns_no x o p w c
set_option maxHeartbeats 1000000 in
theorem anyFree_walk (h : BF w U p lo hi F) (f o m : Nat) (ho : o < 10) (hf : f ≤ 1048576) (hm : m ≤ 2 ^ o) (h1 : ∀ i, i < m → F (f + i) = false) (h2 : m < 2 ^ o → F (f + m) = true) :
    Calls Tryd.prog 69 #[.pointer (some ⟨p, 0, none⟩), .int .i64 (f : Int), .int .i64 (o : Int)] w fun e w' => e = .returned (.bool (decide (m < 2 ^ o))) ∧ Dr w w' := by
  obtain ⟨e1, e2⟩ := pow_wrap ho
  have HH : Hid (BF w U p lo hi F) := h
  have H1 : Aside (∀ i, i < m → F (f + i) = false) := h1
  clear h h1
  have y0 : (o : Int) < 10 := by omega
  have y1 : (f : Int) ≤ 1048576 := by omega
  generalize 2 ^ o = s at *
  have y2 : (m : Int) ≤ s := by omega
  have H2 : Hid (m < s → F (f + m) = true) := h2
  clear h2
  go_enter Tryd.func69, Tryd.ntmps69
  go_wp2_with fail
  simp only [e1]
  clear e1
  go_loopg [10] (m + 1) (fun g v10 wr => ∃ k : Nat, v10 = .int .i64 (k : Int) ∧ k ≤ m ∧ m + 1 - k ≤ g ∧ Hid (Dr w wr))
  case atStart => exact ⟨0, rfl, by omega, by omega, Dr.refl w⟩
  case round =>
    obtain ⟨k, rfl, k2, hg, HD⟩ := hrel
    by_cases e : k < s
    · have y3 : (k : Int) < s := by omega
      have c1 := has_any (HH.out.kp HD.out.kp) ((f : Int) + k)
      rw [show (f : Int) + k = ((f + k : Nat) : Int) by omega, hasB_nat] at c1
      rw [show ((f + k : Nat) : Int) = (f : Int) + k by omega] at c1
      by_cases d : k < m
      · rw [H1.out k d] at c1
        go_wp2_with (first | (go_at_call 78; go_must (with_reducible refine c1.mono ?_); rintro e w1 ⟨rfl, D1⟩))
        have HD1 : Hid (Dr w w1) := HD.out.trans D1
        clear D1
        go_roundg (m + 1 - (k + 1))
        case measure => omega
        case rel => exact ⟨k + 1, by go_num, by omega, by omega, HD1⟩
      · have ek : k = m := by omega
        subst ek
        rw [H2.out e] at c1
        have HE : Hid (k < s) := e
        clear e
        go_wp2_with (first | (go_at_call 78; go_must (with_reducible refine c1.mono ?_); rintro e w1 ⟨rfl, D1⟩))
        go_ret
        exact ⟨by rw [decide_eq_true HE.out]; rfl, HD.out.trans D1⟩
    · have ek : k = m := by omega
      have es : k = s := by omega
      subst ek; subst es
      go_wp2
      go_ret
      exact ⟨by rw [decide_eq_false (Nat.lt_irrefl _)]; rfl, HD.out⟩
/-- Is one of n frames free? The first one, or n. -/
def fst (F : Nat → Bool) (f : Nat) : Nat → Nat
  | 0 => 0
  | n + 1 => if fst F f n < n then fst F f n else if F (f + n) then n else n + 1
theorem fst_spec (F : Nat → Bool) (f : Nat) : ∀ n, fst F f n ≤ n ∧ (∀ i, i < fst F f n → F (f + i) = false) ∧ (fst F f n < n → F (f + fst F f n) = true)
  | 0 => ⟨Nat.le_refl _, fun i hi => by simp [fst] at hi, fun h => by simp [fst] at h⟩
  | n + 1 => by
    obtain ⟨h1, h2, h3⟩ := fst_spec F f n
    unfold fst
    by_cases c : fst F f n < n
    · rw [if_pos c]; exact ⟨by omega, h2, fun _ => h3 c⟩
    · rw [if_neg c]
      have e : fst F f n = n := by omega
      rw [e] at h2
      cases hv : F (f + n)
      · rw [if_neg (by decide)]
        refine ⟨Nat.le_refl _, fun i hi => ?_, fun h => by omega⟩
        by_cases d : i = n
        · rw [d]; exact hv
        · exact h2 i (by omega)
      · rw [if_pos rfl]
        exact ⟨by omega, h2, fun _ => hv⟩
def anyF (F : Nat → Bool) (f o : Nat) : Bool := decide (fst F f (2 ^ o) < 2 ^ o)
theorem anyF_false {F : Nat → Bool} {f o : Nat} (h : anyF F f o = false) : ∀ i, i < 2 ^ o → F (f + i) = false := fun i hi => by
  have := of_decide_eq_false h
  obtain ⟨h1, h2, h3⟩ := fst_spec F f (2 ^ o)
  exact h2 i (by omega)
theorem anyF_true {F : Nat → Bool} {f o : Nat} (h : anyF F f o = true) : ∃ i, i < 2 ^ o ∧ F (f + i) = true := by
  have := of_decide_eq_true h
  exact ⟨_, this, (fst_spec F f (2 ^ o)).2.2 this⟩
theorem anyFree_any (h : BF w U p lo hi F) (f o : Nat) (ho : o < 10) (hf : f ≤ 1048576) :
    Calls Tryd.prog 69 #[.pointer (some ⟨p, 0, none⟩), .int .i64 (f : Int), .int .i64 (o : Int)] w fun e w' => e = .returned (.bool (anyF F f o)) ∧ Dr w w' :=
  anyFree_walk h f o (fst F f (2 ^ o)) ho hf (fst_spec F f (2 ^ o)).1 (fst_spec F f (2 ^ o)).2.1 (fst_spec F f (2 ^ o)).2.2
end
end Go.Proofs.YtjnkmmfppkpgbaaDoor
