/- buddy.Buddy, as it lies: ten sets of runs. -/
import Derived.Test.YtcankhnnikhblaaGreatDoorJU
import Derived.Test.YtcankhnnikhblaaGreatDoorUP
namespace Go.Proofs.YtcankhnnikhblaaGreatDoor
open Go.RowKit

/-- How many words the set of an order has. -/
def ln (hi o : Nat) : Nat := (hi / 2 ^ o + 63) / 64
theorem ln_le {hi : Nat} (h : hi ≤ 1048576) (o : Nat) : ln hi o ≤ 16384 := by
  have := Nat.div_le_self hi (2 ^ o)
  unfold ln; omega
structure BM (w : World) (U : Nat → Prop) (p lo hi fr : Nat) (wb sz lw : Nat → Nat) (W : Nat → Nat → Nat) : Prop where
  own : ∀ k, U k → k < w.heap.size
  up : U p
  ub : ∀ o, o < 10 → U (wb o)
  u0 : ¬ U 1
  tab : TAB w
  c0 : w.cell? ⟨p, 0, none⟩ = some (.int .i64 (lo : Int))
  c1 : w.cell? ⟨p, 1, none⟩ = some (.int .i64 (hi : Int))
  c2 : w.cell? ⟨p, 2, none⟩ = some (.int .i64 (fr : Int))
  cs : ∀ o, o < 10 → w.cell? ⟨p, 3 + o * 3, none⟩ = some (.slice (some ⟨wb o, 0, none⟩) (ln hi o) (ln hi o))
  cz : ∀ o, o < 10 → w.cell? ⟨p, 3 + o * 3 + 1, none⟩ = some (.int .i64 (sz o : Int))
  cl : ∀ o, o < 10 → w.cell? ⟨p, 3 + o * 3 + 2, none⟩ = some (.int .i64 (lw o : Int))
  fz : ∀ j, w.frozen? ⟨p, j, none⟩ = false
  cw : ∀ o, o < 10 → ∀ q, q < ln hi o → w.cell? ⟨wb o, q, none⟩ = some (.int .u64 (W o q : Int))
  fw : ∀ o, o < 10 → ∀ q, w.frozen? ⟨wb o, q, none⟩ = false
  nb : ∀ o, o < 10 → wb o ≠ p
  inj : ∀ o o', o < 10 → o' < 10 → wb o = wb o' → o = o'
  hw : ∀ o q, W o q < 18446744073709551616
  hh : hi ≤ 1048576
section
variable {w : World} {U : Nat → Prop} {p lo hi fr : Nat} {wb sz lw : Nat → Nat} {W : Nat → Nat → Nat}
theorem BM.fr' {w' : World} (h : BM w U p lo hi fr wb sz lw W) {X : Nat → Prop} (k : Fr X w w') (hX : ∀ i, U i → ¬ X i) (hX0 : ¬ X 1) : BM w' U p lo hi fr wb sz lw W :=
  have hp : ∀ j, w'.cell? ⟨p, j, none⟩ = w.cell? ⟨p, j, none⟩ := fun j => k.cell (a := ⟨p, j, none⟩) (h.own p h.up) (hX p h.up)
  have hb : ∀ o, o < 10 → ∀ j, w'.cell? ⟨wb o, j, none⟩ = w.cell? ⟨wb o, j, none⟩ := fun o ho j => k.cell (a := ⟨wb o, j, none⟩) (h.own _ (h.ub o ho)) (hX _ (h.ub o ho))
  ⟨fun i hi => Nat.lt_of_lt_of_le (h.own i hi) k.size, h.up, h.ub, h.u0, h.tab.fr k hX0, (hp _).trans h.c0, (hp _).trans h.c1, (hp _).trans h.c2, fun o ho => (hp _).trans (h.cs o ho), fun o ho => (hp _).trans (h.cz o ho), fun o ho => (hp _).trans (h.cl o ho),
   fun j => (World.frozen?_of_block (a := ⟨p, j, none⟩) (k.block p (h.own p h.up) (hX p h.up))).trans (h.fz j), fun o ho q hq => (hb o ho q).trans (h.cw o ho q hq), fun o ho q => (World.frozen?_of_block (a := ⟨wb o, q, none⟩) (k.block _ (h.own _ (h.ub o ho)) (hX _ (h.ub o ho)))).trans (h.fw o ho q), h.nb, h.inj, h.hw, h.hh⟩
theorem BM.drewN (h : BM w U p lo hi fr wb sz lw W) (n : Nat) : BM (w.drewN n) U p lo hi fr wb sz lw W := h.fr' (((Kp.refl w).drewN n).fr (fun _ => False)) (fun _ _ => id) id
theorem BM.drew (h : BM w U p lo hi fr wb sz lw W) : BM w.drew U p lo hi fr wb sz lw W := h.fr' (((Kp.refl w).drew).fr (fun _ => False)) (fun _ _ => id) id
theorem ne_addr {b b' o o' : Nat} (h : b ≠ b' ∨ o ≠ o') : (⟨b, o, none⟩ : Addr) ≠ ⟨b', o', none⟩ := by
  intro z
  simp only [Addr.mk.injEq] at z
  omega
theorem tab_set {w : World} (t : TAB w) (b j : Nat) (v : Value) (hb : b ≠ 1) : TAB (w.setCell ⟨b, j, none⟩ v) := t.fr (S := (· = b)) ((Fr.refl _ w).set _ _ rfl) (fun e => hb e.symm)
theorem BM.p0 (h : BM w U p lo hi fr wb sz lw W) : p ≠ 1 := fun e => h.u0 (e ▸ h.up)
theorem BM.w0 (h : BM w U p lo hi fr wb sz lw W) (o : Nat) (ho : o < 10) : wb o ≠ 1 := fun e => h.u0 (e ▸ h.ub o ho)
theorem BM.setW (h : BM w U p lo hi fr wb sz lw W) (o q u : Nat) (ho : o < 10) (hq : q < ln hi o) (hu : u < 18446744073709551616) :
    BM (w.setCell ⟨wb o, q, none⟩ (.int .u64 (u : Int))) U p lo hi fr wb sz lw (fun o' q' => if o' = o ∧ q' = q then u else W o' q') :=
  have hp : ∀ j, (w.setCell ⟨wb o, q, none⟩ (.int .u64 (u : Int))).cell? ⟨p, j, none⟩ = w.cell? ⟨p, j, none⟩ := fun j => World.cell?_setCell_other _ _ _ _ (ne_addr (.inl (h.nb o ho)))
  ⟨fun i hi => by rw [World.size_setCell]; exact h.own i hi, h.up, h.ub, h.u0, tab_set h.tab _ _ _ (h.w0 o ho), (hp _).trans h.c0, (hp _).trans h.c1, (hp _).trans h.c2, fun o ho => (hp _).trans (h.cs o ho), fun o ho => (hp _).trans (h.cz o ho), fun o ho => (hp _).trans (h.cl o ho),
   fun j => by rw [World.frozen?_setCell]; exact h.fz j, fun o' ho' q' hq' => by
    by_cases e : o' = o ∧ q' = q
    · obtain ⟨rfl, rfl⟩ := e
      rw [if_pos ⟨rfl, rfl⟩, World.cell?_setCell_same _ _ _ (h.cw o' ho' q' hq')]
    · rw [if_neg e, World.cell?_setCell_other _ _ _ _ (ne_addr (by
        by_cases e1 : o' = o
        · right; exact fun z => e ⟨e1, z.symm⟩
        · left; exact fun z => e1 (h.inj o o' ho ho' z).symm))]
      exact h.cw o' ho' q' hq', fun o' ho' q' => by rw [World.frozen?_setCell]; exact h.fw o' ho' q', h.nb, h.inj, fun o' q' => by
    show (if o' = o ∧ q' = q then u else W o' q') < _
    split
    · exact hu
    · exact h.hw o' q', h.hh⟩
theorem BM.setZ (h : BM w U p lo hi fr wb sz lw W) (o z : Nat) (ho : o < 10) :
    BM (w.setCell ⟨p, 3 + o * 3 + 1, none⟩ (.int .i64 (z : Int))) U p lo hi fr wb (fun o' => if o' = o then z else sz o') lw W :=
  have hp : ∀ j, 3 + o * 3 + 1 ≠ j → (w.setCell ⟨p, 3 + o * 3 + 1, none⟩ (.int .i64 (z : Int))).cell? ⟨p, j, none⟩ = w.cell? ⟨p, j, none⟩ := fun j hj => World.cell?_setCell_other _ _ _ _ (ne_addr (.inr hj))
  ⟨fun i hi => by rw [World.size_setCell]; exact h.own i hi, h.up, h.ub, h.u0, tab_set h.tab _ _ _ h.p0, (hp _ (by omega)).trans h.c0, (hp _ (by omega)).trans h.c1, (hp _ (by omega)).trans h.c2, fun o ho => (hp _ (by omega)).trans (h.cs o ho), fun o' ho' => by
    by_cases e : o' = o
    · subst e; rw [if_pos rfl, World.cell?_setCell_same _ _ _ (h.cz o' ho')]
    · rw [if_neg e]; exact (hp _ (by omega)).trans (h.cz o' ho'), fun o ho => (hp _ (by omega)).trans (h.cl o ho),
   fun j => by rw [World.frozen?_setCell]; exact h.fz j, fun o' ho' q' hq' => by rw [World.cell?_setCell_other _ _ _ _ (ne_addr (.inl (fun z => h.nb o' ho' z.symm)))]; exact h.cw o' ho' q' hq', fun o' ho' q' => by rw [World.frozen?_setCell]; exact h.fw o' ho' q', h.nb, h.inj, h.hw, h.hh⟩
theorem BM.setL (h : BM w U p lo hi fr wb sz lw W) (o z : Nat) (ho : o < 10) :
    BM (w.setCell ⟨p, 3 + o * 3 + 2, none⟩ (.int .i64 (z : Int))) U p lo hi fr wb sz (fun o' => if o' = o then z else lw o') W :=
  have hp : ∀ j, 3 + o * 3 + 2 ≠ j → (w.setCell ⟨p, 3 + o * 3 + 2, none⟩ (.int .i64 (z : Int))).cell? ⟨p, j, none⟩ = w.cell? ⟨p, j, none⟩ := fun j hj => World.cell?_setCell_other _ _ _ _ (ne_addr (.inr hj))
  ⟨fun i hi => by rw [World.size_setCell]; exact h.own i hi, h.up, h.ub, h.u0, tab_set h.tab _ _ _ h.p0, (hp _ (by omega)).trans h.c0, (hp _ (by omega)).trans h.c1, (hp _ (by omega)).trans h.c2, fun o ho => (hp _ (by omega)).trans (h.cs o ho), fun o ho => (hp _ (by omega)).trans (h.cz o ho), fun o' ho' => by
    by_cases e : o' = o
    · subst e; rw [if_pos rfl, World.cell?_setCell_same _ _ _ (h.cl o' ho')]
    · rw [if_neg e]; exact (hp _ (by omega)).trans (h.cl o' ho'),
   fun j => by rw [World.frozen?_setCell]; exact h.fz j, fun o' ho' q' hq' => by rw [World.cell?_setCell_other _ _ _ _ (ne_addr (.inl (fun z => h.nb o' ho' z.symm)))]; exact h.cw o' ho' q' hq', fun o' ho' q' => by rw [World.frozen?_setCell]; exact h.fw o' ho' q', h.nb, h.inj, h.hw, h.hh⟩
theorem BM.setF (h : BM w U p lo hi fr wb sz lw W) (z : Nat) :
    BM (w.setCell ⟨p, 2, none⟩ (.int .i64 (z : Int))) U p lo hi z wb sz lw W :=
  have hp : ∀ j, 2 ≠ j → (w.setCell ⟨p, 2, none⟩ (.int .i64 (z : Int))).cell? ⟨p, j, none⟩ = w.cell? ⟨p, j, none⟩ := fun j hj => World.cell?_setCell_other _ _ _ _ (ne_addr (.inr hj))
  ⟨fun i hi => by rw [World.size_setCell]; exact h.own i hi, h.up, h.ub, h.u0, tab_set h.tab _ _ _ h.p0, (hp _ (by omega)).trans h.c0, (hp _ (by omega)).trans h.c1, World.cell?_setCell_same _ _ _ h.c2, fun o ho => (hp _ (by omega)).trans (h.cs o ho), fun o ho => (hp _ (by omega)).trans (h.cz o ho), fun o ho => (hp _ (by omega)).trans (h.cl o ho),
   fun j => by rw [World.frozen?_setCell]; exact h.fz j, fun o' ho' q' hq' => by rw [World.cell?_setCell_other _ _ _ _ (ne_addr (.inl (fun z => h.nb o' ho' z.symm)))]; exact h.cw o' ho' q' hq', fun o' ho' q' => by rw [World.frozen?_setCell]; exact h.fw o' ho' q', h.nb, h.inj, h.hw, h.hh⟩
/-- A change of the cell 'low' of a set alone. -/
theorem BM.chL {w' : World} (h : BM w U p lo hi fr wb sz lw W) (o z : Nat) (ho : o < 10) (c : Ch (· = ⟨p, 3 + o * 3 + 2, none⟩) (· = p) w w') (hz : w'.cell? ⟨p, 3 + o * 3 + 2, none⟩ = some (.int .i64 (z : Int))) :
    BM w' U p lo hi fr wb sz (fun o' => if o' = o then z else lw o') W :=
  have hp : ∀ j, j ≠ 3 + o * 3 + 2 → w'.cell? ⟨p, j, none⟩ = w.cell? ⟨p, j, none⟩ := fun j hj => c.cell _ (ne_addr (.inr hj))
  ⟨fun i hi => by rw [c.size]; exact h.own i hi, h.up, h.ub, h.u0, h.tab.fr c.fr (fun e => h.p0 e.symm), (hp _ (by omega)).trans h.c0, (hp _ (by omega)).trans h.c1, (hp _ (by omega)).trans h.c2, fun o ho => (hp _ (by omega)).trans (h.cs o ho), fun o ho => (hp _ (by omega)).trans (h.cz o ho), fun o' ho' => by
    by_cases e : o' = o
    · subst e; rw [if_pos rfl]; exact hz
    · rw [if_neg e]; exact (hp _ (by omega)).trans (h.cl o' ho'),
   fun j => (c.frz _).trans (h.fz j), fun o' ho' q' hq' => (c.cell _ (ne_addr (.inl (h.nb o' ho')))).trans (h.cw o' ho' q' hq'), fun o' ho' q' => (c.frz _).trans (h.fw o' ho' q'), h.nb, h.inj, h.hw, h.hh⟩
end

/-- What the words tell. -/
structure SB (hi : Nat) (S : Nat → Nat → Bool) (sz lw : Nat → Nat) (W : Nat → Nat → Nat) : Prop where
  bit : ∀ o q b, o < 10 → b < 64 → (W o q).testBit b = S o (64 * q + b)
  dom : ∀ o i, o < 10 → S o i = true → i < hi / 2 ^ o
  cnt : ∀ o, o < 10 → sz o = cnt (S o) (hi / 2 ^ o)
  low : ∀ o i, o < 10 → S o i = true → lw o ≤ i / 64
/-- The buddy whose struct is block p: the frames lo to hi - 1; S o i: (o, i) is a free run; fr frames are free; all that is its own lies in U. -/
def BD (w : World) (U : Nat → Prop) (p lo hi : Nat) (S : Nat → Nat → Bool) (fr : Nat) : Prop := ∃ wb sz lw W, BM w U p lo hi fr wb sz lw W ∧ SB hi S sz lw W
def insS (S : Nat → Nat → Bool) (o i : Nat) : Nat → Nat → Bool := fun o' i' => if o' = o ∧ i' = i then true else S o' i'
def delS (S : Nat → Nat → Bool) (o i : Nat) : Nat → Nat → Bool := fun o' i' => if o' = o ∧ i' = i then false else S o' i'

theorem in_words {hi o i : Nat} (h : i < hi / 2 ^ o) : i / 64 < ln hi o := by unfold ln; omega
theorem pow_wrap {o : Nat} (h : o < 10) : wrap64 (2 ^ o) = ((2 ^ o : Nat) : Int) ∧ ((2 ^ o : Nat) : Int) ≤ 1000 := by
  have h1 : (2 ^ o : Nat) ≤ 2 ^ 9 := Nat.pow_le_pow_right (by omega) (by omega)
  have e : ((2 ^ o : Nat) : Int) = (2 : Int) ^ o := by push_cast; rfl
  rw [← e]
  clear e
  have h0 := Nat.two_pow_pos o
  generalize (2 ^ o : Nat) = s at *
  exact ⟨by unfold wrap64; omega, by omega⟩
theorem pow_word {r : Nat} (h : r < 64) : IntKind.u64.wrap (2 ^ r) = ((2 ^ r : Nat) : Int) ∧ 2 ^ r < 18446744073709551616 := by
  have h1 : (2 ^ r : Nat) < 2 ^ 64 := Nat.pow_lt_pow_right (by omega) h
  have e : ((2 ^ r : Nat) : Int) = (2 : Int) ^ r := by push_cast; rfl
  rw [← e, IntKind.wrap_u64]
  clear e
  have h0 := Nat.two_pow_pos r
  generalize (2 ^ r : Nat) = s at *
  exact ⟨by omega, h1⟩
theorem tdiv64 (x : Nat) : (x : Int).tdiv 64 = ((x / 64 : Nat) : Int) := by rw [Int.tdiv_eq_ediv_of_nonneg (by omega)]; omega
theorem tmod64 (x : Nat) : (x : Int).tmod 64 = ((x % 64 : Nat) : Int) := by rw [Int.tmod_eq_emod_of_nonneg (by omega)]; omega
theorem shr_nat (f o : Nat) : (f : Int) / 2 ^ o = ((f / 2 ^ o : Nat) : Int) := by push_cast; rfl
section
variable {w : World} {U : Nat → Prop} {p lo hi fr : Nat} {wb sz lw : Nat → Nat} {W : Nat → Nat → Nat} {S : Nat → Nat → Bool}
theorem shas_any (h : BM w U p lo hi fr wb sz lw W) (k : SB hi S sz lw W) (o i : Nat) (ho : o < 10) (hi' : i ≤ 2000000) :
    Calls Tryz.prog 143 #[.pointer (some ⟨p, 3 + o * 3, none⟩), .int .i64 (i : Int)] w fun e w' => e = .returned (.bool (S o i)) ∧ w' = w := by
  have hl := ln_le h.hh o
  by_cases c : i / 64 < ln hi o
  · refine shas_walk p (3 + o * 3) (wb o) (i / 64) (i % 64) (ln hi o) (W o (i / 64)) i (S o i) w (h.cs o ho) (tdiv64 i) (tmod64 i) (by omega) (by omega) (h.cw o ho _ c) ?_ (by omega)
    rw [shr_bit _ _ (h.hw _ _), k.bit o (i / 64) (i % 64) ho (by omega), show 64 * (i / 64) + i % 64 = i by omega]
  · have e : S o i = false := by
      cases hv : S o i
      · rfl
      · exact absurd (in_words (k.dom o i ho hv)) c
    rw [e]
    exact shas_out p (3 + o * 3) (wb o) (i / 64) (ln hi o) i w (h.cs o ho) (tdiv64 i) (by omega) (by omega)
theorem BM.fr_step {w' : World} (c : Fr (fun k => k = p ∨ ∃ o, o < 10 ∧ k = wb o) w w') (h : BM w U p lo hi fr wb sz lw W) : Fr U w w' := c.mono (fun k _ hk => by
  rcases hk with rfl | ⟨o, ho, rfl⟩
  · exact h.up
  · exact h.ub o ho)
theorem badd_ok (h : BD w U p lo hi S fr) (o i f : Nat) (ho : o < 10) (hi' : i < hi / 2 ^ o) (hS : S o i = false) (hf : f / 2 ^ o = i) (hfr : fr ≤ 1048576) :
    Calls Tryz.prog 112 #[.pointer (some ⟨p, 0, none⟩), .int .i64 (f : Int), .int .i64 (o : Int)] w fun e w' => e = .returned (.tuple #[]) ∧ BD w' U p lo hi (insS S o i) (fr + 2 ^ o) ∧ Fr U w w' := by
  obtain ⟨wb, sz, lw, W, h, k⟩ := h
  have hl := ln_le h.hh o
  have hq := in_words hi'
  obtain ⟨e1, e2⟩ := pow_wrap ho
  obtain ⟨e3, e4⟩ := pow_word (show i % 64 < 64 by omega)
  have hd := h.drew
  have hz : sz o ≤ 1048576 := by
    rw [k.cnt o ho]
    exact Nat.le_trans (cnt_le _ _) (Nat.le_trans (Nat.div_le_self _ _) h.hh)
  have hor := u64_or_nat (W o (i / 64)) (2 ^ (i % 64)) (h.hw _ _) e4
  have hol : W o (i / 64) ||| 2 ^ (i % 64) < 18446744073709551616 := Nat.or_lt_two_pow (n := 64) (h.hw _ _) e4
  have cA := sadd_walk p (3 + o * 3) (wb o) (i / 64) (i % 64) (ln hi o) (W o (i / 64)) (W o (i / 64) ||| 2 ^ (i % 64)) (2 ^ (i % 64)) (sz o) (lw o) i w.drew (hd.cs o ho) (hd.cz o ho) (hd.cl o ho) (hd.fz _) (hd.fz _) (hd.fw o ho _) (hd.nb o ho) (tdiv64 i) (tmod64 i) (by omega) (by omega) (hd.cw o ho _ hq) e3 hor (by omega) (by omega)
  have b1 := ((hd.setW o (i / 64) _ ho hq hol).setZ o (sz o + 1) ho).setL o (min (lw o) (i / 64)) ho
  refine (badd_walk p o f i fr (2 ^ o) w _ (by omega) (by rw [shr_nat, hf]) e1 (by omega) e2 cA (fun w' hw' => ?_)).mono fun e w' ⟨r1, w1, r2, r3⟩ => ⟨r1, ?_, ?_⟩
  · subst hw'
    exact ⟨b1.drew.c2, b1.drew.fz _⟩
  · subst r2; subst r3
    have b2 := (b1.drew.setF (fr + 2 ^ o)).drew
    refine ⟨wb, _, _, _, b2, ⟨fun o' q' b' ho' hb' => ?_, fun o' i' ho' hi'' => ?_, fun o' ho' => ?_, fun o' i' ho' hi'' => ?_⟩⟩
    · show (if o' = o ∧ q' = i / 64 then _ else _ : Nat).testBit b' = (if o' = o ∧ 64 * q' + b' = i then true else S o' (64 * q' + b'))
      by_cases c : o' = o ∧ q' = i / 64
      · rw [if_pos c, Nat.testBit_or, Nat.testBit_two_pow]
        obtain ⟨rfl, rfl⟩ := c
        rw [k.bit _ _ _ ho' hb']
        by_cases d : i % 64 = b'
        · rw [decide_eq_true d, if_pos ⟨rfl, by omega⟩, Bool.or_true]
        · rw [decide_eq_false d, if_neg (fun z => d (by omega)), Bool.or_false]
      · rw [if_neg c, k.bit _ _ _ ho' hb', if_neg (fun z => c ⟨z.1, by omega⟩)]
    · by_cases c : o' = o ∧ i' = i
      · rw [c.1, c.2]; exact hi'
      · refine k.dom o' i' ho' ?_
        have : (if o' = o ∧ i' = i then true else S o' i') = true := hi''
        rwa [if_neg c] at this
    · show (if o' = o then _ else _ : Nat) = cnt (fun i' => if o' = o ∧ i' = i then true else S o' i') _
      by_cases c : o' = o
      · subst c
        rw [if_pos rfl, k.cnt o' ho']
        exact (cnt_on (F := S o') (G := fun i' => if o' = o' ∧ i' = i then true else S o' i') (x := i) hS (fun k' => by simp) _ hi').symm
      · rw [if_neg c, k.cnt o' ho']
        exact (cnt_like _ (fun k' _ => by simp [c])).symm
    · show (if o' = o then _ else _ : Nat) ≤ _
      have hv : (if o' = o ∧ i' = i then true else S o' i') = true := hi''
      by_cases c : o' = o
      · subst c
        rw [if_pos rfl]
        by_cases d : i' = i
        · subst d; omega
        · rw [if_neg (fun z => d z.2)] at hv
          have := k.low o' i' ho' hv
          omega
      · rw [if_neg c]
        rw [if_neg (fun z => c z.1)] at hv
        exact k.low o' i' ho' hv
  · subst r2; subst r3
    refine ((((((Fr.refl U w).drew.set _ _ (h.ub o ho)).set _ _ h.up).set _ _ h.up).drew).set _ _ h.up).drew
theorem brem_ok (h : BD w U p lo hi S fr) (o i f : Nat) (ho : o < 10) (hS : S o i = true) (hf : f / 2 ^ o = i) (hfr : fr ≤ 1048576) (hfr2 : 2 ^ o ≤ fr) :
    Calls Tryz.prog 135 #[.pointer (some ⟨p, 0, none⟩), .int .i64 (f : Int), .int .i64 (o : Int)] w fun e w' => e = .returned (.tuple #[]) ∧ BD w' U p lo hi (delS S o i) (fr - 2 ^ o) ∧ Fr U w w' := by
  obtain ⟨wb, sz, lw, W, h, k⟩ := h
  have hl := ln_le h.hh o
  have hi' := k.dom o i ho hS
  have hq := in_words hi'
  obtain ⟨e1, e2⟩ := pow_wrap ho
  obtain ⟨e3, e4⟩ := pow_word (show i % 64 < 64 by omega)
  have hd := h.drew
  have hcd : cnt (delS S o i o) (hi / 2 ^ o) + 1 = cnt (S o) (hi / 2 ^ o) := (cnt_on (F := delS S o i o) (G := S o) (x := i) (by simp [delS]) (fun k' => by
    by_cases e : k' = i
    · subst e; simp [hS]
    · simp [delS, e]) _ hi').symm
  have hz : sz o ≤ 1048576 ∧ 1 ≤ sz o := by
    rw [k.cnt o ho]
    exact ⟨Nat.le_trans (cnt_le _ _) (Nat.le_trans (Nat.div_le_self _ _) h.hh), by omega⟩
  have han := u64_andNot_nat (W o (i / 64)) (2 ^ (i % 64)) (h.hw _ _) e4
  have hal : W o (i / 64) &&& (18446744073709551615 - 2 ^ (i % 64)) < 18446744073709551616 := Nat.lt_of_le_of_lt Nat.and_le_left (h.hw _ _)
  have cA := srem_walk p (3 + o * 3) (wb o) (i / 64) (i % 64) (ln hi o) (W o (i / 64)) (W o (i / 64) &&& (18446744073709551615 - 2 ^ (i % 64))) (2 ^ (i % 64)) (sz o) i w.drew (hd.cs o ho) (hd.cz o ho) (hd.fz _) (hd.fw o ho _) (hd.nb o ho) (tdiv64 i) (tmod64 i) (by omega) (by omega) (hd.cw o ho _ hq) e3 han (by omega) (by omega)
  have ez : ((sz o : Nat) : Int) - 1 = ((sz o - 1 : Nat) : Int) := by omega
  rw [ez] at cA
  have b1 := (hd.setW o (i / 64) _ ho hq hal).setZ o (sz o - 1) ho
  refine (brem_walk p o f i fr (2 ^ o) w _ (by omega) (by rw [shr_nat, hf]) e1 (by omega) e2 cA (fun w' hw' => ?_)).mono fun e w' ⟨r1, w1, r2, r3⟩ => ⟨r1, ?_, ?_⟩
  · subst hw'
    exact ⟨b1.drew.c2, b1.drew.fz _⟩
  · subst r2
    rw [show ((fr : Nat) : Int) - ((2 ^ o : Nat) : Int) = ((fr - 2 ^ o : Nat) : Int) by omega] at r3
    subst r3
    have b2 := (b1.drew.setF (fr - 2 ^ o)).drew
    refine ⟨wb, _, _, _, b2, ⟨fun o' q' b' ho' hb' => ?_, fun o' i' ho' hi'' => ?_, fun o' ho' => ?_, fun o' i' ho' hi'' => ?_⟩⟩
    · show (if o' = o ∧ q' = i / 64 then _ else _ : Nat).testBit b' = (if o' = o ∧ 64 * q' + b' = i then false else S o' (64 * q' + b'))
      by_cases c : o' = o ∧ q' = i / 64
      · rw [if_pos c, Nat.testBit_and, show 18446744073709551615 - 2 ^ (i % 64) = 2 ^ 64 - (2 ^ (i % 64) + 1) by omega, Nat.testBit_two_pow_sub_succ e4, Nat.testBit_two_pow]
        obtain ⟨rfl, rfl⟩ := c
        rw [k.bit _ _ _ ho' hb', decide_eq_true hb', Bool.true_and]
        by_cases d : i % 64 = b'
        · rw [decide_eq_true d, if_pos ⟨rfl, by omega⟩]; simp
        · rw [decide_eq_false d, if_neg (fun z => d (by omega))]; simp
      · rw [if_neg c, k.bit _ _ _ ho' hb', if_neg (fun z => c ⟨z.1, by omega⟩)]
    · have hv : (if o' = o ∧ i' = i then false else S o' i') = true := hi''
      by_cases c : o' = o ∧ i' = i
      · rw [if_pos c] at hv; cases hv
      · rw [if_neg c] at hv; exact k.dom o' i' ho' hv
    · show (if o' = o then _ else _ : Nat) = cnt (delS S o i o') _
      by_cases c : o' = o
      · subst c
        rw [if_pos rfl, k.cnt o' ho']; omega
      · rw [if_neg c, k.cnt o' ho']
        exact (cnt_like _ (fun k' _ => by simp [delS, c])).symm
    · have hv : (if o' = o ∧ i' = i then false else S o' i') = true := hi''
      by_cases c : o' = o ∧ i' = i
      · rw [if_pos c] at hv; cases hv
      · rw [if_neg c] at hv; exact k.low o' i' ho' hv
  · subst r2; subst r3
    refine (((((Fr.refl U w).drew.set _ _ (h.ub o ho)).set _ _ h.up).drew).set _ _ h.up).drew
end
end Go.Proofs.YtcankhnnikhblaaGreatDoor
