/- The document's buddy: Take. -/
import Derived.Test.YtjnkmmfppkpgbaaDoorUO
import Derived.Deep.RegionHeld3
import Derived.Deep.DeepCutAuto
import Derived.Deep.CutBlock
namespace Go.Proofs.YtjnkmmfppkpgbaaDoor
open Go.RowKit

section
variable {w w' : World} {q ob lo n hi : Nat} {F F' : Nat → Bool}
theorem mem_dom (dom : ∀ k, F k = true → lo ≤ k ∧ k < hi) (x o : Nat) : (x, o) ∈ rl F hi lo ↔ (o ≤ 9 ∧ x % 2 ^ o = 0 ∧ Rn F o (x / 2 ^ o)) := by
  rw [rl_mem (fun k hk => (dom k hk).2) (hi - lo) lo (Nat.le_refl _) (cut_lo dom)]
  constructor
  · rintro ⟨_, h2⟩; exact h2
  · rintro ⟨h1, h2, h3⟩
    exact ⟨(dom x (h3.1 x rfl)).1, h1, h2, h3⟩
theorem len_dom (F : Nat → Bool) (lo hi : Nat) : (rl F hi lo).length ≤ hi - lo := by
  have key : ∀ n f, hi - f ≤ n → (rl F hi f).length ≤ hi - f := by
    intro n
    induction n with
    | zero => intro f hf; rw [rl_end (by omega)]; simp
    | succ n ih =>
      intro f hf
      by_cases c : f < hi
      · cases hF : F f
        · rw [rl_off c hF]; have := ih (f + 1) (by omega); omega
        · rw [rl_on c hF]
          have hp := Nat.two_pow_pos (ordF F f)
          have := ih (f + 2 ^ ordF F f) (by omega)
          simp; omega
      · rw [rl_end (by omega)]; simp
  exact key _ lo (Nat.le_refl _)
/-- What the document's search has behind the first i runs. -/
def Bk (L : List (Nat × Nat)) (o i : Nat) (kv : Int) : Prop :=
  (kv = -1 ∧ ∀ j x, j < i → L[j]? = some x → x.2 < o) ∨ (∃ j x, kv = ((j : Nat) : Int) ∧ j < i ∧ L[j]? = some x ∧ o ≤ x.2 ∧ ∀ j' x', j' < i → L[j']? = some x' → o ≤ x'.2 → x.2 ≤ x'.2 ∧ (x'.2 = x.2 → j ≤ j'))
theorem Bk.zero (L : List (Nat × Nat)) (o : Nat) : Bk L o 0 (-1) := .inl ⟨rfl, fun j x hj => by omega⟩
theorem Bk.low {L : List (Nat × Nat)} {o i : Nat} {kv : Int} {y : Nat × Nat} (h : Bk L o i kv) (hy : L[i]? = some y) (hl : y.2 < o) : Bk L o (i + 1) kv := by
  rcases h with ⟨e, hn⟩ | ⟨j, x, e, hj, hx, ho, hm⟩
  · refine .inl ⟨e, fun j x hj hx => ?_⟩
    by_cases c : j = i
    · subst c; rw [hy] at hx; cases hx; exact hl
    · exact hn j x (by omega) hx
  · refine .inr ⟨j, x, e, by omega, hx, ho, fun j' x' hj' hx' ho' => ?_⟩
    by_cases c : j' = i
    · subst c; rw [hy] at hx'; cases hx'; omega
    · exact hm j' x' (by omega) hx' ho'
theorem Bk.fresh {L : List (Nat × Nat)} {o i : Nat} {y : Nat × Nat} (h : Bk L o i (-1)) (hy : L[i]? = some y) (hl : o ≤ y.2) : Bk L o (i + 1) (i : Int) := by
  rcases h with ⟨_, hn⟩ | ⟨j, x, e, _⟩
  · refine .inr ⟨i, y, rfl, by omega, hy, hl, fun j' x' hj' hx' ho' => ?_⟩
    by_cases c : j' = i
    · subst c; rw [hy] at hx'; cases hx'; exact ⟨Nat.le_refl _, fun _ => Nat.le_refl _⟩
    · have := hn j' x' (by omega) hx'; omega
  · omega
theorem Bk.less {L : List (Nat × Nat)} {o i j : Nat} {x y : Nat × Nat} (h : Bk L o i (j : Int)) (hx : L[j]? = some x) (hy : L[i]? = some y) (ho : o ≤ y.2) (hl : y.2 < x.2) : Bk L o (i + 1) (i : Int) := by
  rcases h with ⟨e, _⟩ | ⟨j1, x1, e, hj, hx1, ho1, hm⟩
  · omega
  · have ej : j1 = j := by omega
    subst ej
    obtain rfl : x = x1 := by rw [hx1] at hx; exact (Option.some.inj hx).symm
    refine .inr ⟨i, y, rfl, by omega, hy, ho, fun j' x' hj' hx' ho' => ?_⟩
    by_cases c : j' = i
    · subst c; rw [hy] at hx'; cases hx'; exact ⟨Nat.le_refl _, fun _ => Nat.le_refl _⟩
    · have := hm j' x' (by omega) hx' ho'
      exact ⟨by omega, fun z => by omega⟩
theorem Bk.keep {L : List (Nat × Nat)} {o i j : Nat} {x y : Nat × Nat} (h : Bk L o i (j : Int)) (hx : L[j]? = some x) (hy : L[i]? = some y) (hl : ¬ y.2 < x.2) : Bk L o (i + 1) (j : Int) := by
  rcases h with ⟨e, _⟩ | ⟨j1, x1, e, hj, hx1, ho1, hm⟩
  · omega
  · have ej : j1 = j := by omega
    subst ej
    obtain rfl : x = x1 := by rw [hx1] at hx; exact (Option.some.inj hx).symm
    refine .inr ⟨j1, x, rfl, by omega, hx1, ho1, fun j' x' hj' hx' ho' => ?_⟩
    by_cases c : j' = i
    · subst c; rw [hy] at hx'; cases hx'; exact ⟨by omega, fun _ => by omega⟩
    · exact hm j' x' (by omega) hx' ho'
theorem Bk.idx {L : List (Nat × Nat)} {o i j : Nat} (h : Bk L o i (j : Int)) : j < i ∧ ∃ x, L[j]? = some x := by
  rcases h with ⟨e, _⟩ | ⟨j1, x1, e, hj, hx1, _⟩
  · omega
  · have ej : j1 = j := by omega
    subst ej
    exact ⟨hj, x1, hx1⟩
theorem Bk.cases {L : List (Nat × Nat)} {o i : Nat} {kv : Int} (h : Bk L o i kv) : kv = -1 ∨ ∃ j : Nat, kv = (j : Int) ∧ j < i := by
  rcases h with ⟨e, _⟩ | ⟨j1, x1, e, hj, _⟩
  · exact .inl e
  · exact .inr ⟨j1, e, hj⟩
/-- What is found is what is taken. -/
theorem Bk.take (dom : ∀ k, F k = true → lo ≤ k ∧ k < hi) {o o' i : Nat} (t : Tk F o o' i) {kv : Int} (h : Bk (rl F hi lo) o (rl F hi lo).length kv) : ∃ j : Nat, kv = (j : Int) ∧ (rl F hi lo)[j]? = some (i * 2 ^ o', o') := by
  have hm : (i * 2 ^ o', o') ∈ rl F hi lo := (mem_dom dom _ _).2 ⟨t.h9, Nat.mul_mod_left _ _, by rw [rep]; exact t.run⟩
  obtain ⟨j0, hj0, e0⟩ := List.getElem_of_mem hm
  have x0 : (rl F hi lo)[j0]? = some (i * 2 ^ o', o') := by rw [List.getElem?_eq_getElem hj0, e0]
  rcases h with ⟨_, hn⟩ | ⟨j, x, e, hj, hx, ho, hl⟩
  · have h2 : o' < o := hn j0 _ hj0 x0
    have := t.le
    omega
  · refine ⟨j, e, ?_⟩
    obtain ⟨l1, l2⟩ := hl j0 _ hj0 x0 t.le
    have l1' : x.2 ≤ o' := l1
    obtain ⟨m1, m2, m3⟩ := (mem_dom dom x.1 x.2).1 (List.mem_of_getElem? hx)
    have e2 : x.2 = o' := by
      by_cases c : x.2 < o'
      · exact absurd m3 (t.no x.2 ho c _)
      · omega
    have hle : i * 2 ^ o' ≤ x.1 := by
      rw [e2] at m3 m2
      have := Nat.div_mul_cancel (Nat.dvd_of_mod_eq_zero m2)
      rw [← this]
      refine Nat.mul_le_mul_right _ ?_
      by_cases c : x.1 / 2 ^ o' < i
      · exact absurd m3 (t.least _ c)
      · omega
    have hjj := l2 e2.symm
    by_cases c : j = j0
    · subst c; exact x0
    · have hp := (rl_rise (F := F) (hi := hi) (hi - lo) lo (Nat.le_refl _)).2
      have := List.pairwise_iff_getElem.1 hp j j0 hj hj0 (by omega)
      rw [e0, (List.getElem?_eq_some_iff.1 hx).2] at this
      have h3 : x.1 + 2 ^ x.2 ≤ i * 2 ^ o' := this
      have := Nat.two_pow_pos x.2
      generalize i * 2 ^ o' = q at *
      generalize 2 ^ x.2 = r at *
      omega
theorem Bk.no (dom : ∀ k, F k = true → lo ≤ k ∧ k < hi) {o : Nat} (t : ∀ a, o ≤ a → a ≤ 9 → ∀ j, ¬ Rn F a j) {kv : Int} (h : Bk (rl F hi lo) o (rl F hi lo).length kv) : kv = -1 := by
  rcases h with ⟨e, _⟩ | ⟨j, x, e, hj, hx, ho, _⟩
  · exact e
  · obtain ⟨m1, _, m3⟩ := (mem_dom dom x.1 x.2).1 (List.mem_of_getElem? hx)
    exact absurd m3 (t x.2 ho m1 _)
theorem RL.look {na : Option Addr} {b m cap i : Nat} {L : List (Nat × Nat)} {x : Nat × Nat} (h : RL w b (.slice na m cap) L) (hx : L[i]? = some x) : ∃ g, na = some ⟨g, 0, none⟩ ∧ g < w.heap.size ∧ b ≤ g ∧ w.cell? ⟨g, i * 2, none⟩ = some (.int .i64 (x.1 : Int)) ∧ w.cell? ⟨g, i * 2 + 1, none⟩ = some (.int .i64 (x.2 : Int)) := by
  obtain ⟨na', cap', e, _, hv⟩ := h.form
  simp only [Value.slice.injEq] at e
  obtain ⟨rfl, _, _⟩ := e
  exact hv i x hx
set_option maxHeartbeats 4000000 in
set_option maxRecDepth 100000 in
/-- Take up to its search. -/
theorem rtake_walk (h : RBU w q ob lo n F) (o : Nat) (ho : o ≤ 9) (A : Int) (E : Int) (F1 : Nat → Bool)
    (fin : (A = 0 ∧ E = 10 ∧ F1 = F ∧ ∀ kv, Bk (rl F (lo + n) lo) o (rl F (lo + n) lo).length kv → kv = -1) ∨ (∃ f : Nat, A = (f : Int) ∧ E = 0 ∧ lo ≤ f ∧ f + 2 ^ o ≤ lo + n ∧ (∀ k, F1 k = (F k && !decide (f ≤ k ∧ k < f + 2 ^ o))) ∧ ∀ kv, Bk (rl F (lo + n) lo) o (rl F (lo + n) lo).length kv → ∃ (j : Nat) (r : Nat), kv = (j : Int) ∧ (rl F (lo + n) lo)[j]? = some (f, r))) :
    Calls Tryd.prog 54 #[.pointer (some ⟨q, 0, none⟩), .int .i64 (o : Int)] w fun e w' => e = .returned (.tuple #[.int .i64 A, .int .i64 E]) ∧ RBU w' q ob lo n F1 ∧ Fr (fun k => k = ob) w w' := by
  have k1 := rruns_any h
  have hh := h.hh
  obtain ⟨L, hL⟩ : ∃ L, L = rl F (lo + n) lo := ⟨_, rfl⟩
  have hln := len_dom F lo (lo + n)
  have hor : ∀ x ∈ L, x.2 ≤ 9 := fun x hx => by rw [hL] at hx; exact ((mem_dom h.dom x.1 x.2).1 hx).1
  rw [← hL] at fin k1 hln
  have HH : Hid (RBU w q ob lo n F) := h
  have FIN : Hid ((A = 0 ∧ E = 10 ∧ F1 = F ∧ ∀ kv, Bk L o L.length kv → kv = -1) ∨ (∃ f : Nat, A = (f : Int) ∧ E = 0 ∧ lo ≤ f ∧ f + 2 ^ o ≤ lo + n ∧ (∀ k, F1 k = (F k && !decide (f ≤ k ∧ k < f + 2 ^ o))) ∧ ∀ kv, Bk L o L.length kv → ∃ (j : Nat) (r : Nat), kv = (j : Int) ∧ L[j]? = some (f, r))) := fin
  have HO : Aside (∀ x ∈ L, x.2 ≤ 9) := hor
  have y0 : (o : Int) ≤ 9 := by omega
  have y1 : (lo : Int) + n ≤ 1048576 := by omega
  clear h fin hor hL
  go_enter Tryd.func54, Tryd.ntmps54
  go_wp2_with fail
  with_reducible refine k1.mono ?_
  rintro e w1 ⟨⟨v, rfl, R1⟩, K1⟩
  obtain ⟨na, cap, rfl, l1, _⟩ := R1.form
  have HR : Hid (RL w1 w.heap.size (.slice na L.length cap) L) := R1
  have HK : Hid (Kp w w1) := K1
  have x1 : ((L.length : Nat) : Int) ≤ 1048576 := by omega
  have x2 : ((L.length : Nat) : Int) ≤ cap := by omega
  clear k1 R1 K1
  generalize hLn : L.length = ln at *
  have HLN : Hid (L.length = ln) := hLn
  clear hLn
  go_wp2_with fail
  go_loopg [7, 8] (ln + 1) (fun g v7 v8 wq => ∃ (i : Nat) (kv : Int), v7 = .int .i64 kv ∧ v8 = .int .i64 (i : Int) ∧ i ≤ ln ∧ ln + 1 - i ≤ g ∧ Hid (Bk L o i kv ∧ Kp w1 wq))
  case atStart => exact ⟨0, -1, rfl, rfl, by omega, by omega, Bk.zero _ _, Kp.refl _⟩
  case round =>
    obtain ⟨i, kv, rfl, rfl, hi, hg, HI⟩ := hrel
    have KD : Aside (∀ m, Kp w1 (wr.drewN m)) := fun m => HI.out.2.trans ((Kp.refl wr).drewN m)
    by_cases hlt : i < ln
    · have y2 : (i : Int) < ln := by omega
      obtain ⟨y, hy⟩ : ∃ y, L[i]? = some y := ⟨L[i]'(by have := HLN.out; omega), List.getElem?_eq_getElem (by have := HLN.out; omega)⟩
      have RR := HR.out.kp HI.out.2
      obtain ⟨gb, rfl, _, _, _, cy⟩ := RR.look hy
      have hy9 := HO.out y (List.mem_of_getElem? hy)
      obtain ⟨yf, yo⟩ := y
      have y3 : (yo : Int) ≤ 9 := by have : yo ≤ 9 := hy9; omega
      have cy' : wr.cell? ⟨gb, i * 2 + 1, none⟩ = some (.int .i64 (yo : Int)) := cy
      clear cy hy9
      by_cases hlow : yo < o
      · have HI2 : Aside (∀ m, Bk L o (i + 1) kv ∧ Kp w1 (wr.drewN m)) := fun m => ⟨HI.out.1.low hy hlow, KD.out m⟩
        clear HI KD RR hy
        go_wp2_with fail
        have b1 : decide ((o : Int) ≤ yo) = false := decide_eq_false (by omega)
        have b2 : decide (o ≤ yo) = false := decide_eq_false (by omega)
        go_quiet (fail)
        go_wp2
        go_roundg (ln + 1 - (i + 1))
        case measure => omega
        case rel => exact ⟨i + 1, kv, rfl, by go_num, by omega, by omega, HI2.out _⟩
      · rcases HI.out.1.cases with hkv | ⟨j, hkv, hj⟩
        · subst hkv
          have HI2 : Aside (∀ m, Bk L o (i + 1) (i : Int) ∧ Kp w1 (wr.drewN m)) := fun m => ⟨HI.out.1.fresh hy (by show o ≤ yo; omega), KD.out m⟩
          clear HI KD RR hy
          go_wp2_with fail
          have b1 : decide ((o : Int) ≤ yo) = true := decide_eq_true (by omega)
          have b2 : decide (o ≤ yo) = true := decide_eq_true (by omega)
          go_quiet (fail)
          go_wp2
          go_roundg (ln + 1 - (i + 1))
          case measure => omega
          case rel => exact ⟨i + 1, (i : Int), rfl, by go_num, by omega, by omega, HI2.out _⟩
        · subst hkv
          obtain ⟨_, x, hx⟩ := HI.out.1.idx
          obtain ⟨gb2, eg, _, _, _, cx⟩ := RR.look hx
          cases eg
          have hx9 := HO.out x (List.mem_of_getElem? hx)
          obtain ⟨xf, xo⟩ := x
          have y4 : (xo : Int) ≤ 9 := by have : xo ≤ 9 := hx9; omega
          have cx' : wr.cell? ⟨gb, j * 2 + 1, none⟩ = some (.int .i64 (xo : Int)) := cx
          have y5 : (j : Int) < ln := by omega
          clear cx hx9
          by_cases hll : yo < xo
          · have HI2 : Aside (∀ m, Bk L o (i + 1) (i : Int) ∧ Kp w1 (wr.drewN m)) := fun m => ⟨HI.out.1.less hx hy (by show o ≤ yo; omega) hll, KD.out m⟩
            clear HI KD RR hy hx
            go_wp2_with fail
            have b1 : decide ((o : Int) ≤ yo) = true := decide_eq_true (by omega)
            have b2 : decide (o ≤ yo) = true := decide_eq_true (by omega)
            have b3 : decide ((j : Int) < 0) = false := decide_eq_false (by omega)
            have b4 : decide ((yo : Int) < xo) = true := decide_eq_true (by omega)
            have b5 : decide (yo < xo) = true := decide_eq_true (by omega)
            go_quiet (fail)
            go_wp2
            go_roundg (ln + 1 - (i + 1))
            case measure => omega
            case rel => exact ⟨i + 1, (i : Int), rfl, by go_num, by omega, by omega, HI2.out _⟩
          · have HI2 : Aside (∀ m, Bk L o (i + 1) (j : Int) ∧ Kp w1 (wr.drewN m)) := fun m => ⟨HI.out.1.keep hx hy hll, KD.out m⟩
            clear HI KD RR hy hx
            go_wp2_with fail
            have b1 : decide ((o : Int) ≤ yo) = true := decide_eq_true (by omega)
            have b2 : decide (o ≤ yo) = true := decide_eq_true (by omega)
            have b3 : decide ((j : Int) < 0) = false := decide_eq_false (by omega)
            have b4 : decide ((yo : Int) < xo) = false := decide_eq_false (by omega)
            have b5 : decide (yo < xo) = false := decide_eq_false (by omega)
            go_quiet (fail)
            go_wp2
            go_roundg (ln + 1 - (i + 1))
            case measure => omega
            case rel => exact ⟨i + 1, (j : Int), rfl, by go_num, by omega, by omega, HI2.out _⟩
    · have ei : i = ln := by omega
      subst ei
      have HB0 : Hid (RBU wr q ob lo n F ∧ Fr (fun k => k = ob) w wr) := ⟨(HH.out.kp HK.out).kp HI.out.2, (HK.out.trans HI.out.2).fr _⟩
      rcases FIN.out with ⟨rfl, rfl, rfl, hno⟩ | ⟨f, rfl, rfl, f1, f2, hF1, hyes⟩
      · have hkv := hno kv HI.out.1
        subst hkv
        clear FIN HI KD hno
        go_wp2
        go_ret2
        exact ⟨rfl, HB0.out⟩
      · obtain ⟨j, r, hkv, hx⟩ := hyes kv HI.out.1
        subst hkv
        have hj := (HI.out.1.idx).1
        obtain ⟨gb, rfl, _, _, cx, _⟩ := (HR.out.kp HI.out.2).look hx
        have cx' : wr.cell? ⟨gb, j * 2, none⟩ = some (.int .i64 (f : Int)) := cx
        have y5 : (j : Int) < i := by omega
        have e1 : (2 : Int) ^ o = ((2 ^ o : Nat) : Int) := by push_cast; rfl
        have e2 := (pow_wrap (show o < 10 by omega)).2
        have HF : Hid (∀ k, F1 k = (F k && !decide (f ≤ k ∧ k < f + 2 ^ o))) := hF1
        clear FIN HI KD hyes hx cx hF1
        generalize 2 ^ o = s at *
        have y6 : (lo : Int) ≤ f := by omega
        have y7 : (f : Int) + s ≤ lo + n := by omega
        go_wp2_with fail
        clear cx'
        go_loopg [10] (s + 1) (fun g v10 wq => ∃ k : Nat, v10 = .int .i64 (k : Int) ∧ k ≤ s ∧ s + 1 - k ≤ g ∧ Hid (RBU wq q ob lo n (fun x => F x && !decide (f ≤ x ∧ x < f + k)) ∧ Fr (fun k => k = ob) w wq))
        case atStart => exact ⟨0, rfl, by omega, by omega, by
          have e : (fun x => F x && !decide (f ≤ x ∧ x < f + 0)) = F := funext fun x => by rw [decide_eq_false (by omega)]; simp
          show RBU wr q ob lo n (fun x => F x && !decide (f ≤ x ∧ x < f + 0)) ∧ _
          rw [e]; exact HB0.out⟩
        case round =>
          clear HB0
          obtain ⟨k, rfl, hk, hgk, HJ⟩ := hrel
          by_cases hks : k < s
          · have v1 : (k : Int) < s := by omega
            obtain ⟨x, hx⟩ : ∃ x : Nat, x = f - lo + k := ⟨_, rfl⟩
            have v2 : (f : Int) - lo + k = (x : Int) := by omega
            have v3 : (x : Int) < n := by omega
            have c0 := HJ.out.1.c0
            have c1 := HJ.out.1.c1
            have ci := HJ.out.1.cell x (by omega)
            have fi := HJ.out.1.on.frz x
            have hne := HJ.out.1.ne
            generalize (fun x => F x && !decide (f ≤ x ∧ x < f + k)) (lo + x) = bv at ci
            have HJ2 : Hid (RBU (wr.setCell ⟨ob, x, none⟩ (.bool false)).drew q ob lo n (fun x => F x && !decide (f ≤ x ∧ x < f + (k + 1))) ∧ Fr (fun k => k = ob) w (wr.setCell ⟨ob, x, none⟩ (.bool false)).drew) := ⟨(HJ.out.1.set x false (by omega) (fun y => by
              by_cases e : y = lo + x
              · rw [if_pos e, decide_eq_true (by omega)]; simp
              · rw [if_neg e]
                congr 2
                apply decide_eq_decide.2
                omega)).kp ((Kp.refl _).drew), (HJ.out.2.set ⟨ob, x, none⟩ _ rfl).drew⟩
            clear HJ hx
            go_wp2_with fail
            go_region
            go_wp2
            go_roundg (s + 1 - (k + 1))
            case measure => omega
            case rel => exact ⟨k + 1, by go_num, by omega, by omega, HJ2⟩
          · have ek : k = s := by omega
            subst ek
            have HJ3 : Hid (RBU wr q ob lo n F1 ∧ Fr (fun k => k = ob) w wr) := by
              have e : (fun x => F x && !decide (f ≤ x ∧ x < f + k)) = F1 := funext fun x => (HF.out x).symm
              have := HJ.out
              rw [e] at this
              exact this
            clear HJ HF
            go_wp2
            go_ret2
            exact ⟨rfl, HJ3.out⟩
theorem rtake_ok (h : RBU w q ob lo n F) (o o' i : Nat) (t : Tk F o o' i) :
    Calls Tryd.prog 54 #[.pointer (some ⟨q, 0, none⟩), .int .i64 (o : Int)] w fun e w' => e = .returned (.tuple #[.int .i64 ((i * 2 ^ o' : Nat) : Int), .int .i64 0]) ∧ RBU w' q ob lo n (subF F o (i * 2 ^ o' / 2 ^ o)) ∧ Fr (fun k => k = ob) w w' := by
  have e : i * 2 ^ o' = i * 2 ^ (o' - o) * 2 ^ o := by rw [Nat.mul_assoc, ← Nat.pow_add]; congr 2; have := t.le; omega
  have hA : Al F o (i * 2 ^ (o' - o)) := t.run.1.sub (k := i * 2 ^ o') t.le (by rw [e, rep]) (rep i o')
  have hr := hA.range h.dom
  rw [← e] at hr
  refine rtake_walk h o (by have := t.le; have := t.h9; omega) _ _ _ (.inr ⟨i * 2 ^ o', rfl, rfl, hr.1, hr.2, fun k => ?_, fun _ hk => ?_⟩)
  · unfold subF
    congr 2
    apply decide_eq_decide.2
    rw [blk_iff, e, rep, ← e]
  · obtain ⟨j, h1, h2⟩ := hk.take h.dom t
    exact ⟨j, o', h1, h2⟩
theorem rtake_no (h : RBU w q ob lo n F) (o : Nat) (ho : o ≤ 9) (t : ∀ a, o ≤ a → a ≤ 9 → ∀ j, ¬ Rn F a j) :
    Calls Tryd.prog 54 #[.pointer (some ⟨q, 0, none⟩), .int .i64 (o : Int)] w fun e w' => e = .returned (.tuple #[.int .i64 0, .int .i64 10]) ∧ RBU w' q ob lo n F ∧ Fr (fun k => k = ob) w w' :=
  rtake_walk h o ho _ _ _ (.inl ⟨rfl, rfl, rfl, fun _ hk => hk.no h.dom t⟩)
set_option maxHeartbeats 1000000 in
theorem rtake_arg (q : Nat) (o : Int) (w : World) (h : ¬ (0 ≤ o ∧ o ≤ 9)) :
    Calls Tryd.prog 54 #[.pointer (some ⟨q, 0, none⟩), .int .i64 o] w fun e w' => e = .returned (.tuple #[.int .i64 0, .int .i64 1]) ∧ w' = w := by
  by_cases d1 : o < 0
  · clear h
    go_enter Tryd.func54, Tryd.ntmps54
    go_wp2
    go_ret2
    exact ⟨rfl, rfl⟩
  · have d2 : 9 < o := by omega
    clear h
    go_enter Tryd.func54, Tryd.ntmps54
    go_wp2
    go_ret2
    exact ⟨rfl, rfl⟩
end
end Go.Proofs.YtjnkmmfppkpgbaaDoor
