/- Joined: U5, U6, U7, U8, U9. -/
import Derived.Test.YtcankhnnikhblaaGreatDoorU4
import Derived.Test.YtcankhnnikhblaaGreatDoorSA
/- buddy.Buddy: Has, Free, owns, anyFree. -/
namespace Go.Proofs.YtcankhnnikhblaaGreatDoor
open Go.RowKit

/-- The buddy at p has the frames lo to hi - 1, of which those of F are free. -/
structure BF (w : World) (U : Nat → Prop) (p lo hi : Nat) (F : Nat → Bool) : Prop where
  bd : BD w U p lo hi (rn F) (cnt F hi)
  dom : ∀ k, F k = true → lo ≤ k ∧ k < hi
  le : lo ≤ hi
theorem BD.like {w : World} {U : Nat → Prop} {p lo hi fr fr' : Nat} {S S' : Nat → Nat → Bool} (h : BD w U p lo hi S fr) (hS : ∀ o i, o < 10 → S' o i = S o i) (hf : fr' = fr) : BD w U p lo hi S' fr' := by
  subst hf
  obtain ⟨wb, sz, lw, W, h, k⟩ := h
  exact ⟨wb, sz, lw, W, h, ⟨fun o q b ho hb => by rw [k.bit o q b ho hb, hS _ _ ho], fun o i ho hi => k.dom o i ho (by rw [← hS _ _ ho]; exact hi), fun o ho => by rw [k.cnt o ho]; exact (cnt_like _ (fun i _ => hS o i ho)).symm, fun o i ho hi => k.low o i ho (by rw [← hS _ _ ho]; exact hi)⟩⟩
theorem BD.fr {w w' : World} {U X : Nat → Prop} {p lo hi fr : Nat} {S : Nat → Nat → Bool} (h : BD w U p lo hi S fr) (k : Fr X w w') (hX : ∀ i, U i → ¬ X i) (hX0 : ¬ X 1) : BD w' U p lo hi S fr := by
  obtain ⟨wb, sz, lw, W, h, s⟩ := h
  exact ⟨wb, sz, lw, W, h.fr' k hX hX0, s⟩
section
variable {w : World} {U : Nat → Prop} {p lo hi : Nat} {F : Nat → Bool}
theorem BF.fr {w' : World} (h : BF w U p lo hi F) {X : Nat → Prop} (k : Fr X w w') (hX : ∀ i, U i → ¬ X i) (hX0 : ¬ X 1) : BF w' U p lo hi F := ⟨h.bd.fr k hX hX0, h.dom, h.le⟩
theorem BF.kp {w' : World} (h : BF w U p lo hi F) (k : Kp w w') : BF w' U p lo hi F := h.fr (k.fr (fun _ => False)) (fun _ _ => id) id
theorem BF.own (h : BF w U p lo hi F) : ∀ k, U k → k < w.heap.size := by
  obtain ⟨wb, sz, lw, W, h, s⟩ := h.bd
  exact h.own
theorem BF.hh (h : BF w U p lo hi F) : hi ≤ 1048576 := by
  obtain ⟨wb, sz, lw, W, h, s⟩ := h.bd
  exact h.hh
theorem BF.tab (h : BF w U p lo hi F) : TAB w := by
  obtain ⟨wb, sz, lw, W, h, s⟩ := h.bd
  exact h.tab
theorem BF.u0 (h : BF w U p lo hi F) : ¬ U 1 := by
  obtain ⟨wb, sz, lw, W, h, s⟩ := h.bd
  exact h.u0
theorem BF.up (h : BF w U p lo hi F) : U p := by
  obtain ⟨wb, sz, lw, W, h, s⟩ := h.bd
  exact h.up
theorem BF.c (h : BF w U p lo hi F) : w.cell? ⟨p, 0, none⟩ = some (.int .i64 (lo : Int)) ∧ w.cell? ⟨p, 1, none⟩ = some (.int .i64 (hi : Int)) ∧ w.cell? ⟨p, 2, none⟩ = some (.int .i64 (cnt F hi : Int)) := by
  obtain ⟨wb, sz, lw, W, h, s⟩ := h.bd
  exact ⟨h.c0, h.c1, h.c2⟩
theorem BF.shas (h : BF w U p lo hi F) (f : Nat) (hf : f ≤ 2000000) : ∀ k w', k < 10 → Dr w w' → Calls Tryz.prog 143 #[.pointer (some ⟨p, 3 + k * 3, none⟩), .int .i64 ((f / 2 ^ k : Nat) : Int)] w' fun e w'' => e = .returned (.bool (rn F k (f / 2 ^ k))) ∧ w'' = w' := fun k w' hk hd => by
  obtain ⟨wb, sz, lw, W, h, s⟩ := h.bd
  obtain ⟨m, rfl⟩ := hd
  exact shas_any (h.drewN m) s k _ hk (Nat.le_trans (Nat.div_le_self _ _) hf)
theorem around_in (h : BF w U p lo hi F) (f o : Nat) (hf : f ≤ 2000000) (ho : o ≤ 9) (hr : Rn F o (f / 2 ^ o)) :
    Calls Tryz.prog 151 #[.pointer (some ⟨p, 0, none⟩), .int .i64 (f : Int)] w fun e w' => e = .returned (.int .i64 (o : Int)) ∧ Dr w w' :=
  around_walk p f o (fun k => rn F k (f / 2 ^ k)) w (h.shas f hf) (by omega) (fun k hk => (rn_false ..).2 (fun c => by have := run_one (by omega) ho c hr; omega)) (fun _ => (rn_iff ..).2 hr)
theorem around_out (h : BF w U p lo hi F) (f : Nat) (hf : f ≤ 2000000) (hF : F f = false) :
    Calls Tryz.prog 151 #[.pointer (some ⟨p, 0, none⟩), .int .i64 (f : Int)] w fun e w' => e = .returned (.int .i64 10) ∧ Dr w w' :=
  around_walk p f 10 (fun k => rn F k (f / 2 ^ k)) w (h.shas f hf) (by omega) (fun k hk => (rn_false ..).2 (fun c => by have := c.1 f rfl; rw [hF] at this; cases this)) (fun h => by omega)
theorem around_any (h : BF w U p lo hi F) (f : Nat) (hf : f ≤ 2000000) : ∃ r : Nat, (Calls Tryz.prog 151 #[.pointer (some ⟨p, 0, none⟩), .int .i64 (f : Int)] w fun e w' => e = .returned (.int .i64 (r : Int)) ∧ Dr w w') ∧ ((r ≤ 9 ∧ F f = true ∧ Rn F r (f / 2 ^ r)) ∨ (r = 10 ∧ F f = false)) := by
  cases hF : F f
  · exact ⟨10, around_out h f hf hF, .inr ⟨rfl, rfl⟩⟩
  · obtain ⟨o, ho, hr⟩ := run_of hF
    exact ⟨o, around_in h f o hf ho hr, .inl ⟨ho, rfl, hr⟩⟩

def hasB (F : Nat → Bool) (x : Int) : Bool := decide (0 ≤ x) && F x.toNat
theorem hasB_nat (F : Nat → Bool) (x : Nat) : hasB F (x : Int) = F x := by unfold hasB; simp
set_option maxHeartbeats 1000000 in
theorem has_any (h : BF w U p lo hi F) (x : Int) :
    Calls Tryz.prog 150 #[.pointer (some ⟨p, 0, none⟩), .int .i64 x] w fun e w' => e = .returned (.bool (hasB F x)) ∧ Dr w w' := by
  obtain ⟨c0, c1, _⟩ := h.c
  by_cases d1 : x < lo
  · have e : hasB F x = false := by
      unfold hasB
      by_cases c : 0 ≤ x
      · rw [decide_eq_true c, Bool.true_and]
        cases hv : F x.toNat
        · rfl
        · have := (h.dom _ hv).1; omega
      · rw [decide_eq_false c]; rfl
    rw [e]
    clear h e
    go_enter Tryz.func150, Tryz.ntmps150
    go_wp2
    go_ret
    exact ⟨rfl, Dr.refl _⟩
  · by_cases d2 : x < hi
    · have y1 : (0 : Int) ≤ x := by omega
      have hh := h.hh
      obtain ⟨r, c3, hr⟩ := around_any h x.toNat (by omega)
      rw [show ((x.toNat : Nat) : Int) = x by omega] at c3
      have e : hasB F x = (decide ((0 : Int) ≤ r) && decide ((r : Int) ≤ 9)) := by
        unfold hasB
        rw [decide_eq_true y1, decide_eq_true (by omega), Bool.true_and, Bool.true_and]
        rcases hr with ⟨h1, h2, _⟩ | ⟨h1, h2⟩
        · rw [h2, decide_eq_true (by omega)]
        · rw [h2, decide_eq_false (by omega)]
      rw [e]
      have c4 := fun w => isOrder_any (r : Int) w
      clear h hr e
      generalize (decide ((0 : Int) ≤ r) && decide ((r : Int) ≤ 9)) = b at *
      go_enter Tryz.func150, Tryz.ntmps150
      go_wp2_with (first | (go_at_call 151; go_must (with_reducible refine c3.mono ?_); rintro e w1 ⟨rfl, D1⟩) | (go_at_call 132; go_must (with_reducible refine (c4 _).mono ?_); rintro e w' ⟨rfl, rfl⟩))
      go_ret
      exact ⟨rfl, D1⟩
    · have e : hasB F x = false := by
        unfold hasB
        cases hv : F x.toNat
        · rw [Bool.and_false]
        · have := (h.dom _ hv).2; omega
      rw [e]
      clear h e
      go_enter Tryz.func150, Tryz.ntmps150
      go_wp2
      go_ret
      exact ⟨rfl, Dr.refl _⟩
theorem free_any (h : BF w U p lo hi F) :
    Calls Tryz.prog 47 #[.pointer (some ⟨p, 0, none⟩)] w fun e w' => e = .returned (.int .i64 (cnt F hi : Int)) ∧ w' = w := by
  obtain ⟨_, _, c2⟩ := h.c
  clear h
  generalize cnt F hi = n at *
  go_enter Tryz.func47, Tryz.ntmps47
  go_wp2
  go_ret
  exact ⟨rfl, rfl⟩

/-- Is there such a run, and are its frames all the buddy's? -/
def owns (lo hi : Nat) (x o : Int) : Bool := decide (0 ≤ o ∧ o ≤ 9 ∧ x.tmod (2 ^ o.toNat) = 0 ∧ (lo : Int) ≤ x ∧ x ≤ (hi : Int) - 2 ^ o.toNat)
set_option maxHeartbeats 1000000 in
theorem owns_walk (lo hi s o : Nat) (x m : Int) (p : Nat) (w : World) (c0 : w.cell? ⟨p, 0, none⟩ = some (.int .i64 (lo : Int))) (c1 : w.cell? ⟨p, 1, none⟩ = some (.int .i64 (hi : Int)))
    (hs : wrap64 (2 ^ o) = (s : Int)) (s0 : (0 : Int) < s) (s1 : (s : Int) ≤ 1000) (ho : (o : Int) < 10) (hi' : (hi : Int) ≤ 1048576) (hm : x.tmod s = m) (b : Bool) (hb : (decide (m = 0) && decide ((lo : Int) ≤ x) && decide (x ≤ (hi : Int) - s)) = b) :
    Calls Tryz.prog 141 #[.pointer (some ⟨p, 0, none⟩), .int .i64 x, .int .i64 (o : Int)] w fun e w' => e = .returned (.bool b) ∧ w' = w := by
  have c4 := fun w => isOrder_any (o : Int) w
  rw [decide_eq_true (by omega), decide_eq_true (by omega), Bool.true_and] at c4
  have z : ¬ (s : Int) = 0 := by omega
  by_cases d1 : m = 0
  · by_cases d2 : (lo : Int) ≤ x
    · by_cases d3 : x ≤ (hi : Int) - s
      · rw [decide_eq_true d1, decide_eq_true d2, decide_eq_true d3] at hb
        have hb' : true = b := hb
        subst hb'
        clear hb
        go_enter Tryz.func141, Tryz.ntmps141
        go_wp2_with (first | (go_at_call 132; go_must (with_reducible refine (c4 _).mono ?_); rintro e w' ⟨rfl, rfl⟩))
        go_ret
        exact ⟨rfl, rfl⟩
      · rw [decide_eq_true d1, decide_eq_true d2, decide_eq_false d3] at hb
        have hb' : false = b := hb
        subst hb'
        have D3 : Hid (¬ x ≤ (hi : Int) - s) := d3
        clear hb
        go_enter Tryz.func141, Tryz.ntmps141
        go_wp2_with (first | (go_at_call 132; go_must (with_reducible refine (c4 _).mono ?_); rintro e w' ⟨rfl, rfl⟩))
        go_ret
        exact ⟨by rw [decide_eq_false (show ¬ x ≤ (hi : Int) - s by have := D3.out; omega)]; rfl, rfl⟩
    · rw [decide_eq_true d1, decide_eq_false d2] at hb
      have hb' : false = b := hb
      subst hb'
      clear hb
      go_enter Tryz.func141, Tryz.ntmps141
      go_wp2_with (first | (go_at_call 132; go_must (with_reducible refine (c4 _).mono ?_); rintro e w' ⟨rfl, rfl⟩))
      go_ret
      exact ⟨rfl, rfl⟩
  · rw [decide_eq_false d1] at hb
    have hb' : false = b := hb
    subst hb'
    have d2 : (m == 0) = false := by simpa using d1
    clear hb d1
    go_enter Tryz.func141, Tryz.ntmps141
    go_wp2_with (first | (go_at_call 132; go_must (with_reducible refine (c4 _).mono ?_); rintro e w' ⟨rfl, rfl⟩))
    go_ret
    exact ⟨rfl, rfl⟩
theorem owns_no (x o : Int) (p : Nat) (w : World) (h : ¬ (0 ≤ o ∧ o ≤ 9)) :
    Calls Tryz.prog 141 #[.pointer (some ⟨p, 0, none⟩), .int .i64 x, .int .i64 o] w fun e w' => e = .returned (.bool false) ∧ w' = w := by
  have c4 := fun w => isOrder_any o w
  rw [show (decide (0 ≤ o) && decide (o ≤ 9)) = false by
    by_cases c : 0 ≤ o
    · rw [decide_eq_false (by omega : ¬ o ≤ 9), Bool.and_false]
    · rw [decide_eq_false c]; rfl] at c4
  clear h
  go_enter Tryz.func141, Tryz.ntmps141
  go_wp2_with (first | (go_at_call 132; go_must (with_reducible refine (c4 _).mono ?_); rintro e w' ⟨rfl, rfl⟩))
  go_ret
  exact ⟨rfl, rfl⟩
theorem owns_any (h : BF w U p lo hi F) (x o : Int) :
    Calls Tryz.prog 141 #[.pointer (some ⟨p, 0, none⟩), .int .i64 x, .int .i64 o] w fun e w' => e = .returned (.bool (owns lo hi x o)) ∧ w' = w := by
  by_cases c : 0 ≤ o ∧ o ≤ 9
  · obtain ⟨k, rfl⟩ : ∃ k : Nat, o = (k : Int) := ⟨o.toNat, by omega⟩
    obtain ⟨e1, e2⟩ := pow_wrap (show k < 10 by omega)
    have hp := Nat.two_pow_pos k
    have es : ((2 ^ k : Nat) : Int) = (2 : Int) ^ k := by push_cast; rfl
    obtain ⟨c0, c1, _⟩ := h.c
    have hh := h.hh
    refine owns_walk lo hi (2 ^ k) k x (x.tmod ((2 ^ k : Nat) : Int)) p w c0 c1 e1 (by omega) e2 (by omega) (by omega) rfl _ ?_
    unfold owns
    rw [Int.toNat_natCast, ← es, ← Bool.decide_and, ← Bool.decide_and]
    apply decide_eq_decide.2
    constructor
    · rintro ⟨⟨h1, h2⟩, h3⟩; exact ⟨by omega, by omega, h1, h2, h3⟩
    · rintro ⟨_, _, h1, h2, h3⟩; exact ⟨⟨h1, h2⟩, h3⟩
  · rw [show owns lo hi x o = false by unfold owns; exact decide_eq_false (fun z => c ⟨z.1, z.2.1⟩)]
    exact owns_no x o p w c
set_option maxHeartbeats 1000000 in
theorem anyFree_walk (h : BF w U p lo hi F) (f o m : Nat) (ho : o < 10) (hf : f ≤ 1048576) (hm : m ≤ 2 ^ o) (h1 : ∀ i, i < m → F (f + i) = false) (h2 : m < 2 ^ o → F (f + m) = true) :
    Calls Tryz.prog 142 #[.pointer (some ⟨p, 0, none⟩), .int .i64 (f : Int), .int .i64 (o : Int)] w fun e w' => e = .returned (.bool (decide (m < 2 ^ o))) ∧ Dr w w' := by
  obtain ⟨e1, e2⟩ := pow_wrap ho
  have HH : Hid (BF w U p lo hi F) := h
  have H1 : Aside (∀ i, i < m → F (f + i) = false) := h1
  clear h h1
  have y0 : (o : Int) < 10 := by omega
  have y1 : (f : Int) ≤ 1048576 := by omega
  generalize 2 ^ o = s at *
  have y2 : (m : Int) ≤ s := by omega
  have H2 : Hid (m < s → F (f + m) = true) := h2
  clear h2
  go_enter Tryz.func142, Tryz.ntmps142
  go_wp2_with fail
  simp only [e1]
  clear e1
  go_loopg [10] (m + 1) (fun g v10 wr => ∃ k : Nat, v10 = .int .i64 (k : Int) ∧ k ≤ m ∧ m + 1 - k ≤ g ∧ Hid (Dr w wr))
  case atStart => exact ⟨0, rfl, by omega, by omega, Dr.refl w⟩
  case round =>
    obtain ⟨k, rfl, k2, hg, HD⟩ := hrel
    by_cases e : k < s
    · have y3 : (k : Int) < s := by omega
      have c1 := has_any (HH.out.kp HD.out.kp) ((f : Int) + k)
      rw [show (f : Int) + k = ((f + k : Nat) : Int) by omega, hasB_nat] at c1
      rw [show ((f + k : Nat) : Int) = (f : Int) + k by omega] at c1
      by_cases d : k < m
      · rw [H1.out k d] at c1
        go_wp2_with (first | (go_at_call 150; go_must (with_reducible refine c1.mono ?_); rintro e w1 ⟨rfl, D1⟩))
        have HD1 : Hid (Dr w w1) := HD.out.trans D1
        clear D1
        go_roundg (m + 1 - (k + 1))
        case measure => omega
        case rel => exact ⟨k + 1, by go_num, by omega, by omega, HD1⟩
      · have ek : k = m := by omega
        subst ek
        rw [H2.out e] at c1
        have HE : Hid (k < s) := e
        clear e
        go_wp2_with (first | (go_at_call 150; go_must (with_reducible refine c1.mono ?_); rintro e w1 ⟨rfl, D1⟩))
        go_ret
        exact ⟨by rw [decide_eq_true HE.out]; rfl, HD.out.trans D1⟩
    · have ek : k = m := by omega
      have es : k = s := by omega
      subst ek; subst es
      go_wp2
      go_ret
      exact ⟨by rw [decide_eq_false (Nat.lt_irrefl _)]; rfl, HD.out⟩
/-- Is one of n frames free? The first one, or n. -/
def fst (F : Nat → Bool) (f : Nat) : Nat → Nat
  | 0 => 0
  | n + 1 => if fst F f n < n then fst F f n else if F (f + n) then n else n + 1
theorem fst_spec (F : Nat → Bool) (f : Nat) : ∀ n, fst F f n ≤ n ∧ (∀ i, i < fst F f n → F (f + i) = false) ∧ (fst F f n < n → F (f + fst F f n) = true)
  | 0 => ⟨Nat.le_refl _, fun i hi => by simp [fst] at hi, fun h => by simp [fst] at h⟩
  | n + 1 => by
    obtain ⟨h1, h2, h3⟩ := fst_spec F f n
    unfold fst
    by_cases c : fst F f n < n
    · rw [if_pos c]; exact ⟨by omega, h2, fun _ => h3 c⟩
    · rw [if_neg c]
      have e : fst F f n = n := by omega
      rw [e] at h2
      cases hv : F (f + n)
      · rw [if_neg (by decide)]
        refine ⟨Nat.le_refl _, fun i hi => ?_, fun h => by omega⟩
        by_cases d : i = n
        · rw [d]; exact hv
        · exact h2 i (by omega)
      · rw [if_pos rfl]
        exact ⟨by omega, h2, fun _ => hv⟩
def anyF (F : Nat → Bool) (f o : Nat) : Bool := decide (fst F f (2 ^ o) < 2 ^ o)
theorem anyF_false {F : Nat → Bool} {f o : Nat} (h : anyF F f o = false) : ∀ i, i < 2 ^ o → F (f + i) = false := fun i hi => by
  have := of_decide_eq_false h
  obtain ⟨h1, h2, h3⟩ := fst_spec F f (2 ^ o)
  exact h2 i (by omega)
theorem anyF_true {F : Nat → Bool} {f o : Nat} (h : anyF F f o = true) : ∃ i, i < 2 ^ o ∧ F (f + i) = true := by
  have := of_decide_eq_true h
  exact ⟨_, this, (fst_spec F f (2 ^ o)).2.2 this⟩
theorem anyFree_any (h : BF w U p lo hi F) (f o : Nat) (ho : o < 10) (hf : f ≤ 1048576) :
    Calls Tryz.prog 142 #[.pointer (some ⟨p, 0, none⟩), .int .i64 (f : Int), .int .i64 (o : Int)] w fun e w' => e = .returned (.bool (anyF F f o)) ∧ Dr w w' :=
  anyFree_walk h f o (fst F f (2 ^ o)) ho hf (fst_spec F f (2 ^ o)).1 (fst_spec F f (2 ^ o)).2.1 (fst_spec F f (2 ^ o)).2.2
end
end Go.Proofs.YtcankhnnikhblaaGreatDoor

/- buddy.Buddy: Take. -/
namespace Go.Proofs.YtcankhnnikhblaaGreatDoor
open Go.RowKit

def takeInv (p o a0 f : Nat) (Inv : Nat → World → Prop) : Act → World → Prop := fun a' w' => ∃ (a : Nat) (u2 u3 u4 u5 u8 u9 u10 u11 u12 u13 u14 u15 u16 u17 u18 u19 u20 u21 u22 u23 u24 u25 u26 u27 u28 u29 u30 u31 u32 u33 u34 u35 u36 u37 u38 u39 u40 u41 : Value), a' = { tmps := #[.pointer (some ⟨p, 0, none⟩), .int .i64 (o : Int), u2, u3, u4, u5, .int .i64 (a : Int), .int .i64 (f : Int), u8, u9, u10, u11, u12, u13, u14, u15, u16, u17, u18, u19, u20, u21, u22, u23, u24, u25, u26, u27, u28, u29, u30, u31, u32, u33, u34, u35, u36, u37, u38, u39, u40, u41], defers := [] } ∧ o ≤ a ∧ a ≤ a0 ∧ Inv a w'
set_option maxHeartbeats 4000000 in
set_option maxRecDepth 1000000 in
theorem take_walk (p o a0 f i : Nat) (w : World) (P1 : World → Prop) (Inv : Nat → World → Prop) (h1 : o ≤ a0) (h2 : a0 ≤ 9) (hf : (f : Int) ≤ 1048576) (hi : wrap64 ((i : Int) * 2 ^ a0) = (f : Int))
    (cF : Calls Tryz.prog 133 #[.pointer (some ⟨p, 0, none⟩), .int .i64 (o : Int)] w fun e w' => e = .returned (.int .i64 (a0 : Int)) ∧ w' = w)
    (cL : Calls Tryz.prog 134 #[.pointer (some ⟨p, 3 + a0 * 3, none⟩)] w fun e w' => e = .returned (.int .i64 (i : Int)) ∧ P1 w')
    (cR : ∀ w', P1 w' → Calls Tryz.prog 135 #[.pointer (some ⟨p, 0, none⟩), .int .i64 (f : Int), .int .i64 (a0 : Int)] w' fun e w'' => e = .returned (.tuple #[]) ∧ Inv a0 w'')
    (cA : ∀ (a s : Nat) w', o ≤ a → a < a0 → s = 2 ^ a → Inv (a + 1) w' → Calls Tryz.prog 112 #[.pointer (some ⟨p, 0, none⟩), .int .i64 ((f : Int) + s), .int .i64 (a : Int)] w' fun e w'' => e = .returned (.tuple #[]) ∧ Inv a w'') :
    Calls Tryz.prog 113 #[.pointer (some ⟨p, 0, none⟩), .int .i64 (o : Int)] w fun e w' => e = .returned (.tuple #[.int .i64 (f : Int), .int .i64 0]) ∧ Inv o w' := by
  have c1 := fun w => isOrder_any (o : Int) w
  rw [decide_eq_true (by omega), decide_eq_true (by omega), Bool.true_and] at c1
  have c2 := fun w => isOrder_any (a0 : Int) w
  rw [decide_eq_true (by omega), decide_eq_true (by omega), Bool.true_and] at c2
  have CR : Aside (∀ w', P1 w' → Calls Tryz.prog 135 #[.pointer (some ⟨p, 0, none⟩), .int .i64 (f : Int), .int .i64 (a0 : Int)] w' fun e w'' => e = .returned (.tuple #[]) ∧ Inv a0 w'') := cR
  have CA : Aside (∀ (a s : Nat) w', o ≤ a → a < a0 → s = 2 ^ a → Inv (a + 1) w' → Calls Tryz.prog 112 #[.pointer (some ⟨p, 0, none⟩), .int .i64 ((f : Int) + s), .int .i64 (a : Int)] w' fun e w'' => e = .returned (.tuple #[]) ∧ Inv a w'') := cA
  clear cR cA
  have y1 : (a0 : Int) < 10 := by omega
  go_enter Tryz.func113, Tryz.ntmps113
  go_wp2_with fail
  refine scope_again 0 (takeInv p o a0 f Inv) (fun a' _ => (intOf (a'.tmps.getD 6 undef)).toNat) rfl (fun pass => ?_) ?_
  · have PASS : Aside (∀ a w, takeInv p o a0 f Inv a w → _) := pass
    clear pass
    go_wp2_with (first | (go_at_call 132; go_must (with_reducible first | refine (c1 _).mono ?_ | refine (c2 _).mono ?_); rintro e w' ⟨rfl, rfl⟩) | (go_at_call 133; go_must (with_reducible refine cF.mono ?_); rintro e w' ⟨rfl, rfl⟩) | (go_at_call 134; go_must (with_reducible refine cL.mono ?_); rintro e w1 ⟨rfl, H1⟩; have cR := CR.out w1 H1; clear H1) | (go_at_call 135; go_must (with_reducible refine cR.mono ?_); rintro e w2 ⟨rfl, H2⟩))
    go_step3
    rename_i hK
    exact hK _ _ (PASS.out _ _ ⟨a0, _, _, _, _, _, _, _, _, _, _, _, _, _, _, _, _, _, _, _, _, _, _, _, _, _, _, _, _, _, _, _, _, _, _, _, _, _, _, rfl, h1, Nat.le_refl _, H2⟩)
  · rintro a' w' ⟨a, u2, u3, u4, u5, u8, u9, u10, u11, u12, u13, u14, u15, u16, u17, u18, u19, u20, u21, u22, u23, u24, u25, u26, u27, u28, u29, u30, u31, u32, u33, u34, u35, u36, u37, u38, u39, u40, u41, rfl, ha1, ha2, HI⟩
    by_cases e : a = o
    · subst e
      go_wp2_with fail
      simp only [Exit.jump]
      go_ret2
      exact ⟨rfl, HI⟩
    · obtain ⟨b, rfl⟩ : ∃ b, a = b + 1 := ⟨a - 1, by omega⟩
      have y2 : (o : Int) < (b : Int) + 1 := by omega
      have y3 : (b : Int) < 9 := by omega
      obtain ⟨e1, e2⟩ := pow_wrap (show b < 10 by omega)
      have c3 := CA.out b (2 ^ b) w' (by omega) (by omega) rfl HI
      rw [show ((b + 1 : Nat) : Int) = (b : Int) + 1 by omega]
      generalize 2 ^ b = s at *
      go_wp2_with (first | (go_at_call 112; go_must (with_reducible refine c3.mono ?_); rintro e w2 ⟨rfl, H2⟩))
      go_step3
      refine ⟨rfl, ⟨b, _, _, _, _, _, _, _, _, _, _, _, _, _, _, _, _, _, _, _, _, _, _, _, _, _, _, _, _, _, _, _, _, _, _, _, _, _, _, rfl, by omega, by omega, H2⟩, ?_⟩
      simp [intOf]
end Go.Proofs.YtcankhnnikhblaaGreatDoor

/- buddy.Buddy: Take's refusals; Give. -/
namespace Go.Proofs.YtcankhnnikhblaaGreatDoor
open Go.RowKit

set_option maxHeartbeats 4000000 in
set_option maxRecDepth 1000000 in
theorem take_no_walk (p o : Nat) (w : World) (h1 : o ≤ 9)
    (cF : Calls Tryz.prog 133 #[.pointer (some ⟨p, 0, none⟩), .int .i64 (o : Int)] w fun e w' => e = .returned (.int .i64 10) ∧ w' = w) :
    Calls Tryz.prog 113 #[.pointer (some ⟨p, 0, none⟩), .int .i64 (o : Int)] w fun e w' => e = .returned (.tuple #[.int .i64 0, .int .i64 10]) ∧ w' = w := by
  have c1 := fun w => isOrder_any (o : Int) w
  rw [decide_eq_true (by omega), decide_eq_true (by omega), Bool.true_and] at c1
  have c2 : ∀ w, Calls Tryz.prog 132 #[.int .i64 10] w fun e w' => e = .returned (.bool false) ∧ w' = w := fun w => isOrder_any 10 w
  go_enter Tryz.func113, Tryz.ntmps113
  go_wp2_with fail
  refine scope_again 0 (fun _ _ => False) (fun _ _ => 0) rfl (fun pass => ?_) (fun _ _ h => h.elim)
  clear pass
  go_wp2_with (first | (go_at_call 132; go_must (with_reducible first | refine (c1 _).mono ?_ | refine (c2 _).mono ?_); rintro e w' ⟨rfl, rfl⟩) | (go_at_call 133; go_must (with_reducible refine cF.mono ?_); rintro e w' ⟨rfl, rfl⟩))
  simp only [Exit.jump]
  go_ret2
  exact ⟨rfl, rfl⟩
set_option maxHeartbeats 4000000 in
set_option maxRecDepth 1000000 in
theorem take_arg (p : Nat) (o : Int) (w : World) (h : ¬ (0 ≤ o ∧ o ≤ 9)) :
    Calls Tryz.prog 113 #[.pointer (some ⟨p, 0, none⟩), .int .i64 o] w fun e w' => e = .returned (.tuple #[.int .i64 0, .int .i64 1]) ∧ w' = w := by
  have c1 := fun w => isOrder_any o w
  rw [show (decide (0 ≤ o) && decide (o ≤ 9)) = false by
    by_cases c : 0 ≤ o
    · rw [decide_eq_false (by omega : ¬ o ≤ 9), Bool.and_false]
    · rw [decide_eq_false c]; rfl] at c1
  clear h
  go_enter Tryz.func113, Tryz.ntmps113
  go_wp2_with fail
  refine scope_again 0 (fun _ _ => False) (fun _ _ => 0) rfl (fun pass => ?_) (fun _ _ h => h.elim)
  clear pass
  go_wp2_with (first | (go_at_call 132; go_must (with_reducible refine (c1 _).mono ?_); rintro e w' ⟨rfl, rfl⟩))
  simp only [Exit.jump]
  go_ret2
  exact ⟨rfl, rfl⟩

theorem xor_i64 (a b : Nat) (ha : a < 4611686018427387904) (hb : b < 4611686018427387904) : bits .xor .i64 (a : Int) (b : Int) = ((a ^^^ b : Nat) : Int) := by
  have h : a ^^^ b < 2 ^ 62 := Nat.xor_lt_two_pow (n := 62) ha hb
  have key : (BitVec.ofInt 64 (a : Int) ^^^ BitVec.ofInt 64 (b : Int)).toNat = a ^^^ b := by
    rw [BitVec.toNat_xor, BitVec.toNat_ofInt, BitVec.toNat_ofInt]
    congr 1 <;> omega
  show IntKind.i64.wrap ((BitVec.ofInt 64 (a : Int) ^^^ BitVec.ofInt 64 (b : Int)).toNat : Nat) = _
  rw [key, IntKind.wrap_i64]
  omega
def giveInv (p : Nat) (Inv : Nat → Nat → World → Prop) : Act → World → Prop := fun a' w' => ∃ (f o : Nat) (u3 u4 u5 u6 u7 u8 u9 u10 u11 u12 u13 u14 u15 u16 u17 u18 u19 u20 u21 u22 u23 u24 u25 u26 u27 u28 u29 u30 u31 u32 u33 u34 u35 u36 u37 u38 u39 u40 u41 u42 u43 u44 u45 u46 : Value), a' = { tmps := #[.pointer (some ⟨p, 0, none⟩), .int .i64 (f : Int), .int .i64 (o : Int), u3, u4, u5, u6, u7, u8, u9, u10, u11, u12, u13, u14, u15, u16, u17, u18, u19, u20, u21, u22, u23, u24, u25, u26, u27, u28, u29, u30, u31, u32, u33, u34, u35, u36, u37, u38, u39, u40, u41, u42, u43, u44, u45, u46], defers := [] } ∧ f ≤ 2097152 ∧ o ≤ 9 ∧ Inv f o w'
set_option maxHeartbeats 4000000 in
set_option maxRecDepth 1000000 in
theorem give_walk (p f0 o0 : Nat) (w : World) (Inv : Nat → Nat → World → Prop) (B : Nat → Nat → Bool) (Q : World → Prop) (hf0 : f0 ≤ 2097152) (ho0 : o0 ≤ 9)
    (cO : Calls Tryz.prog 141 #[.pointer (some ⟨p, 0, none⟩), .int .i64 (f0 : Int), .int .i64 (o0 : Int)] w fun e w' => e = .returned (.bool true) ∧ w' = w)
    (cN : Calls Tryz.prog 142 #[.pointer (some ⟨p, 0, none⟩), .int .i64 (f0 : Int), .int .i64 (o0 : Int)] w fun e w' => e = .returned (.bool false) ∧ Inv f0 o0 w')
    (hD : ∀ f o w' n, Inv f o w' → Inv f o (w'.drewN n))
    (cH : ∀ f o w', f ≤ 2097152 → o < 9 → Inv f o w' → Calls Tryz.prog 143 #[.pointer (some ⟨p, 3 + o * 3, none⟩), .int .i64 (((f ^^^ 2 ^ o) / 2 ^ o : Nat) : Int)] w' fun e w'' => e = .returned (.bool (B f o)) ∧ w'' = w')
    (cR : ∀ f o w', o < 9 → B f o = true → Inv f o w' → Calls Tryz.prog 135 #[.pointer (some ⟨p, 0, none⟩), .int .i64 ((f ^^^ 2 ^ o : Nat) : Int), .int .i64 (o : Int)] w' fun e w'' => e = .returned (.tuple #[]) ∧ Inv (min f (f ^^^ 2 ^ o)) (o + 1) w'')
    (cA : ∀ f o w', o = 9 ∨ B f o = false → o ≤ 9 → Inv f o w' → Calls Tryz.prog 112 #[.pointer (some ⟨p, 0, none⟩), .int .i64 (f : Int), .int .i64 (o : Int)] w' fun e w'' => e = .returned (.tuple #[]) ∧ Q w'') :
    Calls Tryz.prog 128 #[.pointer (some ⟨p, 0, none⟩), .int .i64 (f0 : Int), .int .i64 (o0 : Int)] w fun e w' => e = .returned (.int .i64 0) ∧ Q w' := by
  have HD : Aside (∀ f o w' n, Inv f o w' → Inv f o (w'.drewN n)) := hD
  have CH : Aside (∀ f o w', f ≤ 2097152 → o < 9 → Inv f o w' → Calls Tryz.prog 143 #[.pointer (some ⟨p, 3 + o * 3, none⟩), .int .i64 (((f ^^^ 2 ^ o) / 2 ^ o : Nat) : Int)] w' fun e w'' => e = .returned (.bool (B f o)) ∧ w'' = w') := cH
  have CR : Aside (∀ f o w', o < 9 → B f o = true → Inv f o w' → Calls Tryz.prog 135 #[.pointer (some ⟨p, 0, none⟩), .int .i64 ((f ^^^ 2 ^ o : Nat) : Int), .int .i64 (o : Int)] w' fun e w'' => e = .returned (.tuple #[]) ∧ Inv (min f (f ^^^ 2 ^ o)) (o + 1) w'') := cR
  have CA : Aside (∀ f o w', o = 9 ∨ B f o = false → o ≤ 9 → Inv f o w' → Calls Tryz.prog 112 #[.pointer (some ⟨p, 0, none⟩), .int .i64 (f : Int), .int .i64 (o : Int)] w' fun e w'' => e = .returned (.tuple #[]) ∧ Q w'') := cA
  clear hD cH cR cA
  go_enter Tryz.func128, Tryz.ntmps128
  go_wp2_with fail
  refine scope_again 0 (giveInv p Inv) (fun a' _ => 10 - (intOf (a'.tmps.getD 2 undef)).toNat) rfl (fun pass => ?_) ?_
  · have PASS : Aside (∀ a w, giveInv p Inv a w → _) := pass
    clear pass
    go_wp2_with (first | (go_at_call 141; go_must (with_reducible refine cO.mono ?_); rintro e w' ⟨rfl, rfl⟩) | (go_at_call 142; go_must (with_reducible refine cN.mono ?_); rintro e w1 ⟨rfl, H1⟩))
    go_step3
    rename_i hK
    exact hK _ _ (PASS.out _ _ ⟨f0, o0, _, _, _, _, _, _, _, _, _, _, _, _, _, _, _, _, _, _, _, _, _, _, _, _, _, _, _, _, _, _, _, _, _, _, _, _, _, _, _, _, _, _, _, _, rfl, hf0, ho0, H1⟩)
  · clear cO cN
    rintro a' w' ⟨f, o, u3, u4, u5, u6, u7, u8, u9, u10, u11, u12, u13, u14, u15, u16, u17, u18, u19, u20, u21, u22, u23, u24, u25, u26, u27, u28, u29, u30, u31, u32, u33, u34, u35, u36, u37, u38, u39, u40, u41, u42, u43, u44, u45, u46, rfl, hf, ho, HI⟩
    obtain ⟨e1, e2⟩ := pow_wrap (show o < 10 by omega)
    have hx := xor_i64 f (2 ^ o) (by omega) (by omega)
    have hxl : f ^^^ 2 ^ o < 2 ^ 22 := Nat.xor_lt_two_pow (n := 22) (by omega) (by omega)
    have hsh := shr_nat (f ^^^ 2 ^ o) o
    have y1 : (o : Int) < 10 := by omega
    have y3 : (f : Int) ≤ 2097152 := by omega
    by_cases e9 : o = 9
    · subst e9
      have c3 : ∀ n, Calls Tryz.prog 112 #[.pointer (some ⟨p, 0, none⟩), .int .i64 (f : Int), .int .i64 9] (w'.drewN n) fun e w'' => e = .returned (.tuple #[]) ∧ Q w'' := fun n => CA.out f 9 (w'.drewN n) (.inl rfl) (by omega) (HD.out _ _ _ n HI)
      rw [show ((2 ^ 9 : Nat) : Int) = 512 from rfl] at hx e1
      have hx2 : bits .xor .i64 (f : Int) 512 = ((f ^^^ 512 : Nat) : Int) := hx
      generalize f ^^^ 512 = g at *
      clear hx hsh e1 e2 hxl
      go_wp2_with fail
      go_quiet (fail)
      go_wp2_with (first | (go_at_call 112; go_must (with_reducible refine (c3 _).mono ?_); rintro e w2 ⟨rfl, H2⟩))
      simp only [Exit.jump]
      go_ret
      exact ⟨rfl, H2⟩
    · have y2 : (o : Int) < 9 := by omega
      have c1 := fun n => CH.out f o (w'.drewN n) hf (by omega) (HD.out _ _ _ n HI)
      cases hB : B f o
      · rw [hB] at c1
        have c3 := fun n => CA.out f o (w'.drewN n) (.inr hB) (by omega) (HD.out _ _ _ n HI)
        clear hB
        generalize (f ^^^ 2 ^ o) / 2 ^ o = j at *
        generalize f ^^^ 2 ^ o = g at *
        generalize 2 ^ o = s at *
        go_wp2_with fail
        have yb : decide ((o : Int) < 9) = true := decide_eq_true (by omega)
        have yc : decide (o < 9) = true := decide_eq_true (by omega)
        go_quiet (first | (go_at_call 143; go_must (exact (c1 _).mono fun e w' h => ⟨h.1, _, h.2⟩)))
        go_wp2_with (first | (go_at_call 112; go_must (with_reducible refine (c3 _).mono ?_); rintro e w2 ⟨rfl, H2⟩))
        simp only [Exit.jump]
        go_ret
        exact ⟨rfl, H2⟩
      · rw [hB] at c1
        have c3 := fun n => CR.out f o (w'.drewN n) (by omega) hB (HD.out _ _ _ n HI)
        clear hB
        have hml : min f (f ^^^ 2 ^ o) ≤ 2097152 := by omega
        obtain ⟨m, hm⟩ : ∃ m, m = min f (f ^^^ 2 ^ o) := ⟨_, rfl⟩
        rw [← hm] at hml
        simp only [← hm] at c3
        have HM : Hid (m = min f (f ^^^ 2 ^ o)) := hm
        clear hm
        generalize (f ^^^ 2 ^ o) / 2 ^ o = j at *
        generalize f ^^^ 2 ^ o = g at *
        generalize 2 ^ o = s at *
        go_wp2_with fail
        have yb : decide ((o : Int) < 9) = true := decide_eq_true (by omega)
        have yc : decide (o < 9) = true := decide_eq_true (by omega)
        go_quiet (first | (go_at_call 143; go_must (exact (c1 _).mono fun e w' h => ⟨h.1, _, h.2⟩)))
        go_wp2_with (first | (go_at_call 135; go_must (with_reducible refine (c3 _).mono ?_); rintro e w2 ⟨rfl, H2⟩))
        · have em : m = g := by have := HM.out; omega
          subst em
          go_step3
          refine ⟨rfl, ⟨m, o + 1, _, _, _, _, _, _, _, _, _, _, _, _, _, _, _, _, _, _, _, _, _, _, _, _, _, _, _, _, _, _, _, _, _, _, _, _, _, _, _, _, _, _, _, _, rfl, hml, by omega, H2⟩, ?_⟩
          simp [intOf]
          omega
        · have em : m = f := by have := HM.out; omega
          subst em
          go_step3
          refine ⟨rfl, ⟨m, o + 1, _, _, _, _, _, _, _, _, _, _, _, _, _, _, _, _, _, _, _, _, _, _, _, _, _, _, _, _, _, _, _, _, _, _, _, _, _, _, _, _, _, _, _, _, rfl, hml, by omega, H2⟩, ?_⟩
          simp [intOf]
          omega
end Go.Proofs.YtcankhnnikhblaaGreatDoor

/- buddy.Buddy: what Take and Give do to the free frames. -/
namespace Go.Proofs.YtcankhnnikhblaaGreatDoor
open Go.RowKit

theorem Al.range {F : Nat → Bool} {lo hi o i : Nat} (h : Al F o i) (dom : ∀ k, F k = true → lo ≤ k ∧ k < hi) : lo ≤ i * 2 ^ o ∧ i * 2 ^ o + 2 ^ o ≤ hi := by
  have hp := Nat.two_pow_pos o
  have h1 := dom _ (h (i * 2 ^ o) (rep i o))
  have h2 := dom _ (h (i * 2 ^ o + (2 ^ o - 1)) ((blk_iff ..).2 ⟨Nat.le_add_right _ _, by omega⟩))
  generalize i * 2 ^ o = q at *
  generalize 2 ^ o = r at *
  omega
theorem run_lt {hi o i : Nat} (h : i * 2 ^ o + 2 ^ o ≤ hi) : i < hi / 2 ^ o := by
  have := (Nat.le_div_iff_mul_le (Nat.two_pow_pos o) (x := i + 1) (y := hi)).2 (by rw [Nat.add_mul, Nat.one_mul]; exact h)
  omega
theorem rn_subB {F : Nat → Bool} {o j : Nat} (h : Rn F o j) (ho : o ≤ 9) (o' i : Nat) (ho' : o' < 10) : rn (subF F o j) o' i = delS (rn F) o j o' i := by
  apply Bool.eq_iff_iff.2
  rw [rn_iff, rn_subF h ho (by omega)]
  unfold delS
  by_cases c : o' = o ∧ i = j
  · rw [if_pos c]; simp [c]
  · rw [if_neg c, rn_iff]; simp [c]
theorem rn_addB {F : Nat → Bool} {o j : Nat} (h : ∀ k, k / 2 ^ o = j → F k = false) (hb : o = 9 ∨ ∃ k, k / 2 ^ (o + 1) = j / 2 ∧ k / 2 ^ o ≠ j ∧ F k = false) (ho : o ≤ 9) (o' i : Nat) (ho' : o' < 10) : rn (addF F o j) o' i = insS (rn F) o j o' i := by
  apply Bool.eq_iff_iff.2
  rw [rn_iff, rn_addF h hb ho (by omega)]
  unfold insS
  by_cases c : o' = o ∧ i = j
  · rw [if_pos c]; simp [c]
  · rw [if_neg c, rn_iff]; simp [c]
section
variable {w : World} {U : Nat → Prop} {p lo hi fr : Nat} {F : Nat → Bool}
theorem brem_bf (h : BF w U p lo hi F) (o j f : Nat) (ho : o ≤ 9) (hr : Rn F o j) (hf : f / 2 ^ o = j) :
    Calls Tryz.prog 135 #[.pointer (some ⟨p, 0, none⟩), .int .i64 (f : Int), .int .i64 (o : Int)] w fun e w' => e = .returned (.tuple #[]) ∧ BF w' U p lo hi (subF F o j) ∧ Fr U w w' := by
  have hc := cnt_subF hr.1 (hr.1.range h.dom).2
  refine (brem_ok h.bd o j f (by omega) ((rn_iff ..).2 hr) hf (Nat.le_trans (cnt_le _ _) h.hh) (by omega)).mono fun e w' ⟨e1, e2, e3⟩ => ⟨e1, ⟨e2.like (fun o' i ho' => rn_subB hr ho o' i ho') (by omega), fun k hk => h.dom k ((subF_iff ..).1 hk).1, h.le⟩, e3⟩
theorem badd_bf (h : BF w U p lo hi F) (o j f : Nat) (ho : o ≤ 9) (hn : ∀ k, k / 2 ^ o = j → F k = false) (hb : o = 9 ∨ ∃ k, k / 2 ^ (o + 1) = j / 2 ∧ k / 2 ^ o ≠ j ∧ F k = false) (hf : f / 2 ^ o = j) (h1 : lo ≤ j * 2 ^ o) (h2 : j * 2 ^ o + 2 ^ o ≤ hi) :
    Calls Tryz.prog 112 #[.pointer (some ⟨p, 0, none⟩), .int .i64 (f : Int), .int .i64 (o : Int)] w fun e w' => e = .returned (.tuple #[]) ∧ BF w' U p lo hi (addF F o j) ∧ Fr U w w' := by
  have hc := cnt_addF hn h2
  refine (badd_ok h.bd o j f (by omega) (run_lt h2) ((rn_false ..).2 (fun c => by have := c.1 _ (rep j o); rw [hn _ (rep j o)] at this; cases this)) hf (Nat.le_trans (cnt_le _ _) h.hh)).mono fun e w' ⟨e1, e2, e3⟩ => ⟨e1, ⟨e2.like (fun o' i ho' => rn_addB hn hb ho o' i ho') hc, fun k hk => ?_, h.le⟩, e3⟩
  rcases (addF_iff ..).1 hk with c | c
  · exact h.dom k c
  · have := (blk_iff ..).1 c
    generalize j * 2 ^ o = q at *
    generalize 2 ^ o = r at *
    omega

theorem odd_at {x t : Nat} (h1 : ∀ b, b < t → x.testBit b = false) (h2 : x.testBit t = true) : ∃ r, x = 2 ^ t * (2 * r + 1) := by
  have e0 : x % 2 ^ t = 0 := by
    apply Nat.eq_of_testBit_eq
    intro b
    rw [Nat.testBit_mod_two_pow, Nat.zero_testBit]
    by_cases c : b < t
    · rw [h1 b c, Bool.and_false]
    · rw [decide_eq_false c, Bool.false_and]
  rw [Nat.testBit_eq_decide_div_mod_eq] at h2
  have h3 := of_decide_eq_true h2
  refine ⟨x / 2 ^ t / 2, ?_⟩
  have := Nat.div_add_mod x (2 ^ t)
  rw [e0, Nat.add_zero] at this
  rw [show 2 * (x / 2 ^ t / 2) + 1 = x / 2 ^ t by omega]
  exact this.symm
theorem word_zero {x : Nat} (hx : x < 18446744073709551616) (h : ∀ b, b < 64 → x.testBit b = false) : x = 0 := by
  apply Nat.eq_of_testBit_eq
  intro b
  rw [Nat.zero_testBit]
  by_cases c : b < 64
  · exact h b c
  · exact Nat.testBit_lt_two_pow (Nat.lt_of_lt_of_le hx (Nat.pow_le_pow_right (n := 2) (by omega) (show 64 ≤ b by omega)))
theorem sleast_any {S : Nat → Nat → Bool} (h : BD w U p lo hi S fr) (o i : Nat) (ho : o < 10) (hS : S o i = true) (hl : ∀ j, j < i → S o j = false) :
    Calls Tryz.prog 134 #[.pointer (some ⟨p, 3 + o * 3, none⟩)] w fun e w' => e = .returned (.int .i64 (i : Int)) ∧ BD w' U p lo hi S fr ∧ Fr U w w' := by
  obtain ⟨wb, sz, lw, W, h, k⟩ := h
  have hi' := k.dom o i ho hS
  have hq := in_words hi'
  have hll := ln_le h.hh o
  have hw := h.hw o (i / 64)
  have bt : ∀ b, b < i % 64 → (W o (i / 64)).testBit b = false := fun b hb => by rw [k.bit o _ b ho (by omega)]; exact hl _ (by omega)
  have bs : (W o (i / 64)).testBit (i % 64) = true := by rw [k.bit o _ _ ho (by omega), show 64 * (i / 64) + i % 64 = i by omega]; exact hS
  obtain ⟨r, hr⟩ := odd_at bt bs
  have hne : W o (i / 64) ≠ 0 := fun e => by rw [e, Nat.zero_testBit] at bs; cases bs
  refine (sleast_walk p (3 + o * 3) (wb o) (ln hi o) (lw o) (i / 64) i (i % 64) (W o) w (· = p) rfl (h.cs o ho) (h.cl o ho) (h.fz _) (h.nb o ho) (h.cw o ho) (k.low o i ho hS) hq (fun q q1 q2 => word_zero (h.hw o q) (fun b hb => by rw [k.bit o q b ho hb]; exact hl _ (by omega))) (by simpa using hne) (by omega) (by omega) (fun w' hw' => tz_ok (h.tab.fr hw' (fun e => h.p0 e.symm)) _ (i % 64) r hw (by omega) hr) (by omega)).mono fun e w' ⟨e1, e2, e3⟩ => ⟨e1, ⟨wb, sz, _, W, h.chL o (i / 64) ho e2 e3, k.bit, k.dom, k.cnt, fun o' j ho' hj => ?_⟩, e2.fr.mono (fun x _ hx => by rw [hx]; exact h.up)⟩
  show (if o' = o then _ else _ : Nat) ≤ _
  by_cases c : o' = o
  · subst c
    rw [if_pos rfl]
    by_cases d : j < i
    · rw [hl j d] at hj; cases hj
    · omega
  · rw [if_neg c]; exact k.low o' j ho' hj

/-! ### Take -/
structure Tk (F : Nat → Bool) (o o' i : Nat) : Prop where
  le : o ≤ o'
  h9 : o' ≤ 9
  run : Rn F o' i
  no : ∀ a, o ≤ a → a < o' → ∀ j, ¬ Rn F a j
  least : ∀ j, j < i → ¬ Rn F o' j
theorem least_ex {P : Nat → Prop} (h : ∃ n, P n) : ∃ n, P n ∧ ∀ m, m < n → ¬ P m := by
  obtain ⟨n, hn⟩ := h
  induction n using Nat.strongRecOn with
  | ind n ih =>
    by_cases c : ∃ m, m < n ∧ P m
    · obtain ⟨m, h1, h2⟩ := c
      exact ih m h1 h2
    · exact ⟨n, hn, fun m hm hP => c ⟨m, hm, hP⟩⟩
theorem tk_or (F : Nat → Bool) (o : Nat) : (∃ o' i, Tk F o o' i) ∨ ∀ a, o ≤ a → a ≤ 9 → ∀ j, ¬ Rn F a j := by
  by_cases c : ∃ a, o ≤ a ∧ a ≤ 9 ∧ ∃ j, Rn F a j
  · obtain ⟨a, ⟨h1, h2, h3⟩, h4⟩ := least_ex c
    obtain ⟨i, h5, h6⟩ := least_ex h3
    exact .inl ⟨a, i, h1, h2, h5, fun b hb1 hb2 j hj => h4 b hb2 ⟨hb1, by omega, j, hj⟩, h6⟩
  · exact .inr fun a h1 h2 j h3 => c ⟨a, h1, h2, j, h3⟩
theorem fit_ok (h : BF w U p lo hi F) (o r : Nat) (h1 : o ≤ r) (h2 : r ≤ 10) (h3 : ∀ a, o ≤ a → a < r → ∀ j, ¬ Rn F a j) (h4 : r < 10 → ∃ j, Rn F r j) :
    Calls Tryz.prog 133 #[.pointer (some ⟨p, 0, none⟩), .int .i64 (o : Int)] w fun e w' => e = .returned (.int .i64 (r : Int)) ∧ w' = w := by
  obtain ⟨wb, sz, lw, W, h, k⟩ := h.bd
  refine fitting_walk p o r (fun a => decide (sz a = 0)) w (fun a ha => sempty_walk p (3 + a * 3) (sz a) w (h.cz a ha)) h1 h2 (fun a ha hr => decide_eq_true ?_) (fun hr => decide_eq_false ?_)
  · rw [k.cnt a (by omega), cnt_zero]
    intro j _
    exact (rn_false ..).2 (h3 a ha hr j)
  · rw [k.cnt r hr, cnt_zero]
    intro hz
    obtain ⟨j, hj⟩ := h4 hr
    have hj' := (rn_iff ..).2 hj
    rw [hz j (k.dom r j hr hj')] at hj'
    cases hj'
theorem half_eq {F : Nat → Bool} {a c : Nat} (h : Al F (a + 1) c) : addF (subF F (a + 1) c) a (2 * c + 1) = subF F a (2 * c) := by
  funext k
  apply Bool.eq_iff_iff.2
  rw [addF_iff, subF_iff, subF_iff]
  have e := div_par k a
  constructor
  · rintro (⟨h1, h2⟩ | h1)
    · exact ⟨h1, fun h3 => h2 (by omega)⟩
    · exact ⟨h k (by omega), by omega⟩
  · rintro ⟨h1, h2⟩
    by_cases c1 : k / 2 ^ a = 2 * c + 1
    · exact .inr c1
    · exact .inl ⟨h1, by omega⟩
theorem take_ok (h : BF w U p lo hi F) (o o' i : Nat) (t : Tk F o o' i) :
    Calls Tryz.prog 113 #[.pointer (some ⟨p, 0, none⟩), .int .i64 (o : Int)] w fun e w' => e = .returned (.tuple #[.int .i64 ((i * 2 ^ o' : Nat) : Int), .int .i64 0]) ∧ BF w' U p lo hi (subF F o (i * 2 ^ o' / 2 ^ o)) ∧ Fr U w w' := by
  have hr := t.run.1.range h.dom
  have hh := h.hh
  have hp := Nat.two_pow_pos o'
  have hfl : i * 2 ^ o' ≤ 1048576 := by
    generalize i * 2 ^ o' = q at *
    generalize 2 ^ o' = r at *
    omega
  have hpc : (i : Int) * 2 ^ o' = ((i * 2 ^ o' : Nat) : Int) := by push_cast; rfl
  refine take_walk p o o' (i * 2 ^ o') i w (fun w' => BF w' U p lo hi F ∧ Fr U w w') (fun a w' => BF w' U p lo hi (subF F a (i * 2 ^ o' / 2 ^ a)) ∧ Fr U w w') t.le t.h9 (by omega) (by rw [hpc]; unfold wrap64; omega)
    (fit_ok h o o' t.le (by have := t.h9; omega) t.no (fun _ => ⟨i, t.run⟩))
    ((sleast_any h.bd o' i (by have := t.h9; omega) ((rn_iff ..).2 t.run) (fun j hj => (rn_false ..).2 (t.least j hj))).mono fun e w' ⟨e1, e2, e3⟩ => ⟨e1, ⟨e2, h.dom, h.le⟩, e3⟩)
    (fun w' hw' => ?_) (fun a s w' h1 h2 hs hw' => ?_)
  · have := brem_bf hw'.1 o' i (i * 2 ^ o') t.h9 t.run (rep i o')
    refine this.mono fun e w'' ⟨e1, e2, e3⟩ => ⟨e1, ?_, hw'.2.trans e3⟩
    rw [rep]; exact e2
  · subst hs
    obtain ⟨c, hc⟩ : ∃ c, i * 2 ^ o' = c * 2 ^ (a + 1) := ⟨i * 2 ^ (o' - (a + 1)), by rw [Nat.mul_assoc, ← Nat.pow_add]; congr 2; omega⟩
    rw [hc] at hw' ⊢
    have hA : Al F (a + 1) c := by
      refine t.run.1.sub (k := c * 2 ^ (a + 1)) (by omega) (rep c (a + 1)) ?_
      rw [← hc, rep]
    have hrg := hA.range h.dom
    rw [rep] at hw'
    have e2c : c * 2 ^ (a + 1) = 2 * c * 2 ^ a := by rw [Nat.pow_succ, Nat.mul_comm (2 ^ a) 2, ← Nat.mul_assoc, Nat.mul_comm c 2]
    have hpa := Nat.two_pow_pos a
    have e3 : c * 2 ^ (a + 1) / 2 ^ a = 2 * c := by rw [e2c, rep]
    have := badd_bf hw'.1 a (2 * c + 1) (c * 2 ^ (a + 1) + 2 ^ a) (by have := t.h9; omega) (fun k hk => by
        cases hv : subF F (a + 1) c k
        · rfl
        · have := ((subF_iff ..).1 hv).2
          rw [div_par, hk] at this; omega) (.inr ⟨c * 2 ^ (a + 1), by rw [rep]; omega, by rw [e3]; omega, by
        cases hv : subF F (a + 1) c (c * 2 ^ (a + 1))
        · rfl
        · exact absurd (rep c (a + 1)) ((subF_iff ..).1 hv).2⟩) (by rw [Nat.add_div_right _ hpa, e3]) (by
        rw [Nat.add_mul, ← e2c]; have := hrg.1; generalize c * 2 ^ (a + 1) = q at *; generalize 2 ^ a = r at *; omega) (by
        rw [Nat.add_mul, ← e2c, Nat.one_mul]
        have := hrg.2
        rw [show 2 ^ (a + 1) = 2 ^ a + 2 ^ a by rw [Nat.pow_succ]; omega] at this ⊢
        generalize c * (2 ^ a + 2 ^ a) = q at *; generalize 2 ^ a = r at *; omega)
    rw [half_eq hA] at this
    rw [show ((c * 2 ^ (a + 1) : Nat) : Int) + ((2 ^ a : Nat) : Int) = ((c * 2 ^ (a + 1) + 2 ^ a : Nat) : Int) by generalize c * 2 ^ (a + 1) = q; generalize 2 ^ a = r; omega]
    refine this.mono fun e w'' ⟨e1, e4, e5⟩ => ⟨e1, ?_, hw'.2.trans e5⟩
    rw [e3]; exact e4
theorem take_no (h : BF w U p lo hi F) (o : Nat) (ho : o ≤ 9) (t : ∀ a, o ≤ a → a ≤ 9 → ∀ j, ¬ Rn F a j) :
    Calls Tryz.prog 113 #[.pointer (some ⟨p, 0, none⟩), .int .i64 (o : Int)] w fun e w' => e = .returned (.tuple #[.int .i64 0, .int .i64 10]) ∧ w' = w :=
  take_no_walk p o w ho (fit_ok h o 10 (by omega) (by omega) (fun a h1 h2 => t a h1 (by omega)) (fun h => by omega))
end
end Go.Proofs.YtcankhnnikhblaaGreatDoor

/- buddy.Buddy: Give. -/
namespace Go.Proofs.YtcankhnnikhblaaGreatDoor
open Go.RowKit

theorem xor_one (j : Nat) : j ^^^ 1 = if j % 2 = 0 then j + 1 else j - 1 := by
  have h1 : (j ^^^ 1) / 2 = j / 2 := by
    apply Nat.eq_of_testBit_eq
    intro b
    rw [← Nat.testBit_succ, ← Nat.testBit_succ, Nat.testBit_xor, Nat.testBit_succ 1]
    simp
  have h2 : ((j ^^^ 1) % 2 = 1) ↔ ¬ (j % 2 = 1) := by
    have a : decide ((j ^^^ 1) % 2 = 1) = !decide (j % 2 = 1) := by
      rw [← Nat.testBit_zero, Nat.testBit_xor, Nat.testBit_zero, Nat.testBit_zero]; simp
    by_cases c : j % 2 = 1
    · rw [decide_eq_true c] at a
      have := of_decide_eq_false (show decide ((j ^^^ 1) % 2 = 1) = false from a)
      exact ⟨fun h => absurd h this, fun h => absurd c h⟩
    · rw [decide_eq_false c] at a
      have := of_decide_eq_true (show decide ((j ^^^ 1) % 2 = 1) = true from a)
      exact ⟨fun _ => c, fun _ => this⟩
  split <;> omega
theorem xor_blk (j o : Nat) : (j * 2 ^ o) ^^^ 2 ^ o = (j ^^^ 1) * 2 ^ o := by
  have := Nat.shiftLeft_xor_distrib (a := j) (b := 1) (i := o)
  rw [Nat.shiftLeft_eq, Nat.shiftLeft_eq, Nat.shiftLeft_eq, Nat.one_mul] at this
  exact this.symm

set_option maxHeartbeats 4000000 in
set_option maxRecDepth 1000000 in
theorem give_arg_walk (p : Nat) (x o : Int) (w : World)
    (cO : Calls Tryz.prog 141 #[.pointer (some ⟨p, 0, none⟩), .int .i64 x, .int .i64 o] w fun e w' => e = .returned (.bool false) ∧ w' = w) :
    Calls Tryz.prog 128 #[.pointer (some ⟨p, 0, none⟩), .int .i64 x, .int .i64 o] w fun e w' => e = .returned (.int .i64 1) ∧ w' = w := by
  go_enter Tryz.func128, Tryz.ntmps128
  go_wp2_with fail
  refine scope_again 0 (fun _ _ => False) (fun _ _ => 0) rfl (fun pass => ?_) (fun _ _ h => h.elim)
  clear pass
  go_wp2_with (first | (go_at_call 141; go_must (with_reducible refine cO.mono ?_); rintro e w' ⟨rfl, rfl⟩))
  simp only [Exit.jump]
  go_ret
  exact ⟨rfl, rfl⟩
set_option maxHeartbeats 4000000 in
set_option maxRecDepth 1000000 in
theorem give_state_walk (p f o : Nat) (w : World)
    (cO : Calls Tryz.prog 141 #[.pointer (some ⟨p, 0, none⟩), .int .i64 (f : Int), .int .i64 (o : Int)] w fun e w' => e = .returned (.bool true) ∧ w' = w)
    (cN : Calls Tryz.prog 142 #[.pointer (some ⟨p, 0, none⟩), .int .i64 (f : Int), .int .i64 (o : Int)] w fun e w' => e = .returned (.bool true) ∧ Dr w w') :
    Calls Tryz.prog 128 #[.pointer (some ⟨p, 0, none⟩), .int .i64 (f : Int), .int .i64 (o : Int)] w fun e w' => e = .returned (.int .i64 20) ∧ Dr w w' := by
  go_enter Tryz.func128, Tryz.ntmps128
  go_wp2_with fail
  refine scope_again 0 (fun _ _ => False) (fun _ _ => 0) rfl (fun pass => ?_) (fun _ _ h => h.elim)
  clear pass
  go_wp2_with (first | (go_at_call 141; go_must (with_reducible refine cO.mono ?_); rintro e w' ⟨rfl, rfl⟩) | (go_at_call 142; go_must (with_reducible refine cN.mono ?_); rintro e w1 ⟨rfl, H1⟩))
  simp only [Exit.jump]
  go_ret
  exact ⟨rfl, H1⟩
theorem sub_self {F : Nat → Bool} {o j : Nat} (h : ∀ k, k / 2 ^ o = j → F k = false) : subF (addF F o j) o j = F := by
  funext k
  apply Bool.eq_iff_iff.2
  rw [subF_iff, addF_iff]
  constructor
  · rintro ⟨h1 | h1, h2⟩
    · exact h1
    · exact absurd h1 h2
  · intro h1
    exact ⟨.inl h1, fun e => by rw [h k e] at h1; cases h1⟩
theorem add_self {F : Nat → Bool} {o j : Nat} (h : Al F o j) : addF (subF F o j) o j = F := by
  funext k
  apply Bool.eq_iff_iff.2
  rw [addF_iff, subF_iff]
  constructor
  · rintro (h1 | h1)
    · exact h1.1
    · exact h k h1
  · intro h1
    by_cases c : k / 2 ^ o = j
    · exact .inr c
    · exact .inl ⟨h1, c⟩
/-- The buddy of (o, j). -/
theorem sib_iff (k o j : Nat) : k / 2 ^ (o + 1) = j / 2 ↔ k / 2 ^ o = j ∨ k / 2 ^ o = j ^^^ 1 := by
  rw [div_par, xor_one]
  split <;> omega
theorem join_eq {T : Nat → Bool} {o j : Nat} : subF (subF T o j) o (j ^^^ 1) = subF T (o + 1) (j / 2) := by
  funext k
  apply Bool.eq_iff_iff.2
  rw [subF_iff, subF_iff, subF_iff, Ne, Ne, Ne, sib_iff]
  constructor
  · rintro ⟨⟨h1, h2⟩, h3⟩; exact ⟨h1, fun h => h.elim h2 h3⟩
  · rintro ⟨h1, h2⟩; exact ⟨⟨h1, fun h => h2 (.inl h)⟩, fun h => h2 (.inr h)⟩
section
variable {w : World} {U : Nat → Prop} {p lo hi : Nat} {F : Nat → Bool}
theorem give_ok (h : BF w U p lo hi F) (j o : Nat) (ho : o ≤ 9) (h1 : lo ≤ j * 2 ^ o) (h2 : j * 2 ^ o + 2 ^ o ≤ hi) (hn : ∀ k, k / 2 ^ o = j → F k = false) 
    (cO : Calls Tryz.prog 141 #[.pointer (some ⟨p, 0, none⟩), .int .i64 ((j * 2 ^ o : Nat) : Int), .int .i64 (o : Int)] w fun e w' => e = .returned (.bool true) ∧ w' = w)
    (cN : Calls Tryz.prog 142 #[.pointer (some ⟨p, 0, none⟩), .int .i64 ((j * 2 ^ o : Nat) : Int), .int .i64 (o : Int)] w fun e w' => e = .returned (.bool false) ∧ Dr w w') :
    Calls Tryz.prog 128 #[.pointer (some ⟨p, 0, none⟩), .int .i64 ((j * 2 ^ o : Nat) : Int), .int .i64 (o : Int)] w fun e w' => e = .returned (.int .i64 0) ∧ BF w' U p lo hi (addF F o j) ∧ Fr U w w' := by
  have hh := h.hh
  obtain ⟨T, hT⟩ : ∃ T, T = addF F o j := ⟨_, rfl⟩
  have dT : ∀ k, T k = true → lo ≤ k ∧ k < hi := fun k hk => by
    rw [hT] at hk
    rcases (addF_iff ..).1 hk with c | c
    · exact h.dom k c
    · have := (blk_iff ..).1 c
      generalize j * 2 ^ o = q at *
      generalize 2 ^ o = r at *
      omega
  have aT : Al T o j := fun k hk => by rw [hT]; exact (addF_iff ..).2 (.inr hk)
  have eF : subF T o j = F := by rw [hT]; exact sub_self hn
  have hfl : j * 2 ^ o ≤ 2097152 := by
    have := Nat.two_pow_pos o
    generalize j * 2 ^ o = q at *
    generalize 2 ^ o = r at *
    omega
  rw [← hT]
  clear hT
  refine give_walk p (j * 2 ^ o) o w (fun f o w' => ∃ j, f = j * 2 ^ o ∧ o ≤ 9 ∧ Al T o j ∧ BF w' U p lo hi (subF T o j) ∧ Fr U w w') (fun f o => rn (subF T o (f / 2 ^ o)) o ((f ^^^ 2 ^ o) / 2 ^ o)) (fun w' => BF w' U p lo hi T ∧ Fr U w w') hfl ho cO
    (cN.mono fun e w' ⟨e1, e2⟩ => ⟨e1, j, rfl, ho, aT, by rw [eF]; exact h.kp e2.kp, e2.kp.fr U⟩) ?_ ?_ ?_ ?_
  · rintro f a w' n ⟨i, h1, h2, h3, h4, h5⟩
    have k : Kp w' (w'.drewN n) := (Kp.refl w').drewN n
    exact ⟨i, h1, h2, h3, h4.kp k, h5.trans (k.fr U)⟩
  · rintro f a w' hf ha ⟨i, h1, h2, h3, h4, h5⟩
    subst h1
    rw [xor_blk, rep, rep]
    have hx : (i ^^^ 1) ≤ 2000000 * 2 := by
      have hi1 : i ≤ 2097152 := Nat.le_trans (Nat.le_mul_of_pos_right _ (Nat.two_pow_pos a)) hf
      rw [xor_one]; split <;> omega
    obtain ⟨wb, sz, lw, W, hm, hs⟩ := h4.bd
    have r3 := h3.range dT
    refine shas_any hm hs a _ (by omega) ?_
    have hi1 : i ≤ 1048576 := by
      have := Nat.le_mul_of_pos_right i (Nat.two_pow_pos a)
      generalize i * 2 ^ a = q at *
      generalize 2 ^ a = r at *
      omega
    rw [xor_one]; split <;> omega
  · rintro f a w' ha hB ⟨i, h1, h2, h3, h4, h5⟩
    subst h1
    rw [xor_blk, rep, rep] at hB
    have hR := (rn_iff ..).1 hB
    rw [xor_blk]
    refine (brem_bf h4 a (i ^^^ 1) _ (by omega) hR (rep _ _)).mono fun e w'' ⟨e1, e2, e3⟩ => ⟨e1, i / 2, ?_, by omega, ?_, ?_, h5.trans e3⟩
    · rw [Nat.pow_succ, Nat.mul_comm (2 ^ a) 2, ← Nat.mul_assoc]
      rw [xor_one]
      split
      · rw [Nat.min_eq_left (Nat.mul_le_mul_right _ (by omega)), show i / 2 * 2 = i by omega]
      · rw [Nat.min_eq_right (Nat.mul_le_mul_right _ (by omega)), show i / 2 * 2 = i - 1 by omega]
    · intro k hk
      rcases (sib_iff k a i).1 hk with c | c
      · exact h3 k c
      · exact ((subF_iff ..).1 (hR.1 k c)).1
    · rw [← join_eq]; exact e2
  · rintro f a w' hB ha ⟨i, h1, h2, h3, h4, h5⟩
    subst h1
    rw [xor_blk, rep, rep] at hB
    have r3 := h3.range dT
    have nG : ∀ k, k / 2 ^ a = i → subF T a i k = false := fun k hk => by
      cases hv : subF T a i k
      · rfl
      · exact absurd hk ((subF_iff ..).1 hv).2
    have := badd_bf h4 a i (i * 2 ^ a) ha nG (by
      rcases hB with e | e
      · exact .inl e
      · by_cases e9 : a = 9
        · exact .inl e9
        · right
          have nR := (rn_false ..).1 e
          have nA : ¬ Al (subF T a i) a (i ^^^ 1) := fun hA => nR ⟨hA, .inr (fun hP => by
            have := hP (i * 2 ^ a) (by rw [div_par, rep, xor_one]; split <;> omega)
            rw [nG _ (rep i a)] at this; cases this)⟩
          refine Classical.byContradiction fun hno => nA fun k hk => ?_
          cases hv : subF T a i k
          · exact absurd ⟨k, (sib_iff k a i).2 (.inr hk), by rw [hk, xor_one]; split <;> omega, hv⟩ hno
          · rfl) (rep i a) r3.1 r3.2
    rw [add_self h3] at this
    exact this.mono fun e w'' ⟨e1, e2, e3⟩ => ⟨e1, e2, h5.trans e3⟩
/-- What Give answers, and leaves. -/
def gvR (lo hi : Nat) (F : Nat → Bool) (x o : Int) : Int := if owns lo hi x o then (if anyF F x.toNat o.toNat then 20 else 0) else 1
def gvF (lo hi : Nat) (F : Nat → Bool) (x o : Int) : Nat → Bool := if owns lo hi x o && !anyF F x.toNat o.toNat then addF F o.toNat (x.toNat / 2 ^ o.toNat) else F
theorem owns_iff {lo hi : Nat} {x o : Int} (h : owns lo hi x o = true) : ∃ j a : Nat, o = (a : Int) ∧ a ≤ 9 ∧ x = ((j * 2 ^ a : Nat) : Int) ∧ lo ≤ j * 2 ^ a ∧ j * 2 ^ a + 2 ^ a ≤ hi := by
  obtain ⟨h1, h2, h3, h4, h5⟩ := of_decide_eq_true h
  obtain ⟨a, rfl⟩ : ∃ a : Nat, o = (a : Int) := ⟨o.toNat, by omega⟩
  obtain ⟨f, rfl⟩ : ∃ f : Nat, x = (f : Int) := ⟨x.toNat, by omega⟩
  rw [Int.toNat_natCast] at h3 h5
  have es : ((2 ^ a : Nat) : Int) = (2 : Int) ^ a := by push_cast; rfl
  rw [← es] at h3 h5
  rw [Int.tmod_eq_emod_of_nonneg (by omega)] at h3
  have h6 : f % 2 ^ a = 0 := by
    have : ((f % 2 ^ a : Nat) : Int) = 0 := by rw [Int.natCast_emod]; exact h3
    omega
  have h7 : f / 2 ^ a * 2 ^ a = f := Nat.div_mul_cancel (Nat.dvd_of_mod_eq_zero h6)
  refine ⟨f / 2 ^ a, a, rfl, by omega, by rw [h7], by rw [h7]; omega, ?_⟩
  rw [h7]
  generalize 2 ^ a = r at *
  omega
theorem give_any (h : BF w U p lo hi F) (x o : Int) :
    Calls Tryz.prog 128 #[.pointer (some ⟨p, 0, none⟩), .int .i64 x, .int .i64 o] w fun e w' => e = .returned (.int .i64 (gvR lo hi F x o)) ∧ BF w' U p lo hi (gvF lo hi F x o) ∧ Fr U w w' := by
  have cO := owns_any h x o
  unfold gvR gvF
  cases hO : owns lo hi x o
  · rw [hO] at cO
    rw [if_neg (by decide), Bool.false_and, if_neg (by decide)]
    exact (give_arg_walk p x o w cO).mono fun e w' ⟨e1, e2⟩ => ⟨e1, by rw [e2]; exact h, by rw [e2]; exact Fr.refl _ _⟩
  · rw [hO] at cO
    obtain ⟨j, a, rfl, ha, rfl, h1, h2⟩ := owns_iff hO
    have hh := h.hh
    have hp := Nat.two_pow_pos a
    have cN := anyFree_any h (j * 2 ^ a) a (by omega) (by generalize j * 2 ^ a = q at *; generalize 2 ^ a = r at *; omega)
    rw [if_pos rfl, Bool.true_and, Int.toNat_natCast, Int.toNat_natCast]
    cases hN : anyF F (j * 2 ^ a) a
    · rw [hN] at cN
      rw [if_neg (by decide), if_pos (by decide), rep]
      refine give_ok h j a ha h1 h2 (fun k hk => ?_) cO cN
      have hb := (blk_iff ..).1 hk
      have := anyF_false hN (k - j * 2 ^ a) (by omega)
      rwa [show j * 2 ^ a + (k - j * 2 ^ a) = k by omega] at this
    · rw [hN] at cN
      rw [if_pos rfl, if_neg (by decide)]
      exact (give_state_walk p (j * 2 ^ a) a w cO cN).mono fun e w' ⟨e1, e2⟩ => ⟨e1, h.kp e2.kp, e2.kp.fr U⟩
end
end Go.Proofs.YtcankhnnikhblaaGreatDoor
